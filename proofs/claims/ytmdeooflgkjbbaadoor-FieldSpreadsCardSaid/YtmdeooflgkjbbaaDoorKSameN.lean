/- Numbers of a list in memory. -/
import Derived.Test.YtmdeooflgkjbbaaDoorKEnds
namespace Go.Proofs.YtmdeooflgkjbbaaDoor
set_option linter.unusedSimpArgs false
set_option linter.unusedVariables false
open Go.ChangeShapes Go.WideShapes Go.ChangeAt Go.RowKit Go.Joins Go.Deep
set_option maxRecDepth 100000

/-- Numbers of a list lie there. -/
def NumsAt (w : World) (b off n : Nat) (K : Nat → Int) : Prop := ∀ i, i < n → w.cell? ⟨b, off + i, none⟩ = some (.int .i64 (K i))
def NumsIn (w : World) (ao : Option Addr) (n : Nat) (K : Nat → Int) : Prop := n = 0 ∨ ∃ b off, ao = some ⟨b, off, none⟩ ∧ b < w.heap.size ∧ NumsAt w b off n K
theorem NumsAt.below {w w' : World} {m b off n : Nat} {K : Nat → Int} (h : NumsAt w b off n K) (hb : Below m w w') (hlt : b < m) : NumsAt w' b off n K := fun i hi => (hb.cell (p := ⟨b, off + i, none⟩) hlt).trans (h i hi)
theorem NumsIn.below {w w' : World} {ao : Option Addr} {n : Nat} {K : Nat → Int} (h : NumsIn w ao n K) (hb : Below w.heap.size w w') : NumsIn w' ao n K := by
  rcases h with h | ⟨b, off, rfl, hlt, hK⟩
  · exact .inl h
  · exact .inr ⟨b, off, rfl, Nat.lt_of_lt_of_le hlt hb.size, hK.below hb hlt⟩

theorem NumsAt.get {w wr : World} {b off n : Nat} {K : Nat → Int} (h : NumsAt w b off n K) (hb : Below w.heap.size w wr) (hlt : b < w.heap.size) {k : Nat} (hk : k < n) : wr.cell? ⟨b, off + k, none⟩ = some (.int .i64 (K k)) := (hb.cell (p := ⟨b, off + k, none⟩) hlt).trans (h k hk)
theorem numsAt_of {w : World} {ao : Option Addr} {n : Nat} {K : Nat → Int} (h : NumsIn w ao n K) (hn : 1 ≤ n) : ∃ b off, ao = some ⟨b, off, none⟩ ∧ b < w.heap.size ∧ NumsAt w b off n K := by
  rcases h with h | h
  · omega
  · exact h

section
variable {H : Type} {enc : TypeId × Value → H} {w : World}
theorem open_nums {fuel : Nat} {v : Value} {x : DataW H × List MemPlace} (hf : DataW.trod enc Tryd.prog w 0 (fun _ => true) true fuel 40 [v] = some x) :
    ∃ (ao : Option Addr) (n cap : Nat) (K : Nat → Int), v = .slice ao n cap ∧ n ≤ cap ∧ cap ≤ maxLen ∧ NumsIn w ao n K ∧ ∀ i, i < n → Wf (K i) := by
  rcases open_slice Tryd.underlying40 hf with ⟨hcs, _⟩ | ⟨a, len, cap, m, n, D, Pl, hcs, _, hl, hm, hmm, _, hi⟩
  · simp at hcs
    subst hcs
    exact ⟨none, 0, 0, fun _ => 0, rfl, Nat.le_refl _, Nat.zero_le _, .inl rfl, fun i hi => absurd hi (by omega)⟩
  · simp at hcs
    subst hcs
    have hlm : len ≤ m := by simp at hmm; omega
    rw [cells_int] at hi
    have each : ∀ i, i < len → ∃ x : Int, w.cell? (a.add i) = some (.int .i64 x) ∧ Wf x := by
      intro i hil
      obtain ⟨cs, h1, h2⟩ := hi i (by omega)
      obtain ⟨_, hlen, hat⟩ := World.cells?_some h1
      match cs, hlen with
      | [c0], _ =>
        obtain ⟨x0, f0, _, wf0⟩ := DataW.trod_int Tryd.underlying3 h2
        have a0 := hat 0 (by omega)
        simp at f0 a0
        subst f0
        exact ⟨x0, by simpa [Addr.add] using a0, wf0⟩
    obtain ⟨K, hK⟩ := choose_lt (α := Int) each
    refine ⟨some a, len, cap, K, rfl, hl, hm, ?_, fun i hi => (hK i hi).2⟩
    rcases Nat.eq_zero_or_pos len with h0 | hp
    · exact .inl h0
    · obtain ⟨b, off, spot⟩ := a
      have hspot : spot = none := by simpa [Addr.add] using World.cell?_spot (hK 0 hp).1
      subst hspot
      refine .inr ⟨b, off, rfl, ?_, fun i hil => ?_⟩
      · have := (hK 0 hp).1
        rw [add_plain] at this
        exact block_lt this
      · have := (hK i hil).1
        rw [add_plain] at this
        exact this
end
end Go.Proofs.YtmdeooflgkjbbaaDoor

/- Lists of equal numbers are the same: by the reference. -/

namespace Go.Proofs.YtmdeooflgkjbbaaDoor
set_option linter.unusedSimpArgs false
set_option linter.unusedVariables false
open Go.RowKit

set_option maxHeartbeats 2000000 in
theorem sameNums_yes (ao ao' : Option Addr) (n c c' : Nat) (K : Nat → Int) (w : World) (hl : n ≤ 1000000) (h : NumsIn w ao n K) (h' : NumsIn w ao' n K) :
    Calls Tryd.prog 49 #[.slice ao n c, .slice ao' n c'] w fun e w' => e = .returned (.bool true) ∧ Below w.heap.size w w' := by
  by_cases hL : n = 0
  · subst hL
    clear h h'
    go_enter Tryd.func49, Tryd.ntmps49
    go_wp2
    refine wp_loop_rounds 1 ?_
    rw [rounds_succ]
    go_wp2
    go_ret
    refine ⟨rfl, ?_⟩
    (repeat' (first | (with_reducible exact Below.refl _ _) | (with_reducible refine Below.setCell ?_ (by first | omega | (simp; done) | (simp; omega)) _) | (with_reducible refine Below.alloc ?_ (by first | omega | (simp; done) | (simp; omega)) _) | (with_reducible refine Below.drew ?_) | (with_reducible refine below_drewN ?_ _) | (with_reducible refine Below.trans ?_ (Below.mono (by assumption) (by first | omega | (simp; done) | (simp; omega))))))
  · obtain ⟨g, o, rfl, hg, hc⟩ := numsAt_of h (by omega)
    obtain ⟨g', o', rfl, hg', hc'⟩ := numsAt_of h' (by omega)
    have HC := Lib.hid hc
    have HC' := Lib.hid hc'
    clear h h' hc hc' hL
    go_enter Tryd.func49, Tryd.ntmps49
    go_wp2
    go_loopw [5] (fun i wr => ∃ k : Nat, k ≤ n ∧ i = .int .i64 k ∧ Below w.heap.size w wr) (fun i _ => n - (intOf i).toNat)
    case atStart => exact ⟨0, Nat.zero_le _, rfl, Below.refl _ _⟩
    case round =>
      obtain ⟨k, hk, rfl, hB⟩ := hrel
      by_cases hlk : k < n
      · have c0 := HC.out.get hB hg hlk
        have c1 := HC'.out.get hB hg' hlk
        have p0 : (0 : Int) ≤ (k : Int) := by omega
        have p1 : (k : Int) < (n : Int) := by omega
        go_wp2
        go_quiet (fail)
        go_wp2
        go_roundw
        case rel => exact ⟨k + 1, by omega, by go_num, below_drewN hB _⟩
        case measure => simp [intOf]; omega
      · obtain rfl : n = k := by omega
        go_wp2
        go_ret
        exact ⟨rfl, hB⟩
end Go.Proofs.YtmdeooflgkjbbaaDoor
