/- Whether two rows of cells are equal: by the reference and by the library. -/
import Derived.Test.YtmkhbkkhoemkoaaMach
import Derived.Test.YtmkhbkkhoemkoaaEq
namespace Go.Proofs.Ytmkhbkkhoemkoaa
set_option linter.unusedSimpArgs false
set_option linter.unusedVariables false
open Go.RowKit

/-- Whether two grids are the same, as a bool. -/
def SameB (n : Nat) (G K : Nat → Nat → Int) (bb : Bool) : Prop := bb = true ↔ EqG n G K
def Told (n : Nat) (G K : Nat → Nat → Int) (w : World) (e : Ending) (w' : World) : Prop := ∃ bb : Bool, e = .returned (.bool bb) ∧ SameB n G K bb ∧ Below w.heap.size w w'

set_option maxRecDepth 100000 in
set_option maxHeartbeats 2000000 in
theorem sameCells_in (b off b' off' n c c' : Nat) (G K : Nat → Nat → Int) (w : World) (hn : n ≤ 1000000) (hlt : b < w.heap.size) (hG : Grd w b off n G) (hlt' : b' < w.heap.size) (hK : Grd w b' off' n K) :
    Calls Try.prog 32 #[.slice (some ⟨b, off, none⟩) n c, .slice (some ⟨b', off', none⟩) n c'] w (Told n G K w) := by
  have HG := Lib.hid hG; clear hG
  have HK := Lib.hid hK; clear hK
  go_enter Try.func32, Try.ntmps32
  go_wp2
  go_loopw [5] (fun i wr => ∃ k : Nat, k ≤ n ∧ i = .int .i64 k ∧ Hid (Below w.heap.size w wr ∧ EqG k G K)) (fun i _ => n - (intOf i).toNat)
  case atStart => exact ⟨0, Nat.zero_le _, rfl, Lib.hid ⟨by (repeat' (first | (with_reducible exact Below.refl _ _) | (with_reducible refine Below.setCell ?_ (by first | omega | (simp; done) | (simp; omega)) _) | (with_reducible refine Below.alloc ?_ (by first | omega | (simp; done) | (simp; omega)) _) | (with_reducible refine Below.drew ?_) | (with_reducible refine below_drewN ?_ _) | (with_reducible refine Below.trans ?_ (Below.mono (by assumption) (by first | omega | (simp; done) | (simp; omega)))))), fun i hi => by omega⟩⟩
  case round =>
    obtain ⟨k, hk, rfl, HH⟩ := hrel
    by_cases hlk : k < n
    · obtain ⟨a0, a1, a2, a3⟩ := HG.out.get HH.out.1 hlt hlk
      obtain ⟨d0, d1, d2, d3⟩ := HK.out.get HH.out.1 hlt' hlk
      have p0 : (0 : Int) ≤ (k : Int) := by omega
      have p1 : (k : Int) < (n : Int) := by omega
      by_cases hx : G k 0 = K k 0 ∧ G k 1 = K k 1 ∧ G k 2 = K k 2 ∧ G k 3 = K k 3
      · rw [← hx.1] at d0
        rw [← hx.2.1] at d1
        rw [← hx.2.2.1] at d2
        rw [← hx.2.2.2] at d3
        have HX := Lib.hid hx; clear hx
        go_wp2
        go_quiet (fail)
        go_wp2
        go_roundw
        case rel => exact ⟨k + 1, by omega, by go_num, Lib.hid ⟨below_drewN HH.out.1 _, fun i hi d hd => by
          by_cases e : i = k
          · subst e
            obtain ⟨x0, x1, x2, x3⟩ := HX.out
            match d, hd with
            | 0, _ => exact x0
            | 1, _ => exact x1
            | 2, _ => exact x2
            | 3, _ => exact x3
          · exact HH.out.2 i (by omega) d hd⟩⟩
        case measure => simp [intOf]; omega
      · have hne : (G k 0 == K k 0 && (G k 1 == K k 1 && (G k 2 == K k 2 && G k 3 == K k 3))) = false := by
          rw [Bool.eq_false_iff]
          intro h
          simp only [Bool.and_eq_true, beq_iff_eq] at h
          exact hx h
        have HX := Lib.hid hx; clear hx
        go_wp2
        go_quiet (fail)
        go_wp2
        go_ret
        exact ⟨false, rfl, ⟨(fun h => by cases h), fun h => absurd ⟨h k hlk 0 (by omega), h k hlk 1 (by omega), h k hlk 2 (by omega), h k hlk 3 (by omega)⟩ HX.out⟩, below_drewN HH.out.1 _⟩
    · obtain rfl : n = k := by omega
      go_wp2
      go_ret
      exact ⟨true, rfl, ⟨fun _ => HH.out.2, fun _ => rfl⟩, HH.out.1⟩

set_option maxHeartbeats 1000000 in
theorem sameCells_nil (ao ao' : Option Addr) (c c' : Nat) (G K : Nat → Nat → Int) (w : World) :
    Calls Try.prog 32 #[.slice ao 0 c, .slice ao' 0 c'] w (Told 0 G K w) := by
  go_enter Try.func32, Try.ntmps32
  go_wp2
  refine wp_loop_rounds 1 ?_
  rw [rounds_succ]
  go_wp2
  go_ret
  exact ⟨true, rfl, ⟨(fun _ i hi => by omega), fun _ => rfl⟩, Below.refl _ _⟩

theorem sameCells_any (ao ao' : Option Addr) (n c c' : Nat) (G K : Nat → Nat → Int) (w : World) (hn : n ≤ 1000000) (h : CellsIn w ao n G) (h' : CellsIn w ao' n K) :
    Calls Try.prog 32 #[.slice ao n c, .slice ao' n c'] w (Told n G K w) := by
  rcases Nat.eq_zero_or_pos n with h0 | h0
  · subst h0
    exact sameCells_nil ao ao' c c' G K w
  · rcases h with h | ⟨b, off, rfl, hlt, hG⟩
    · omega
    · rcases h' with h' | ⟨b', off', rfl, hlt', hK⟩
      · omega
      · exact sameCells_in b off b' off' n c c' G K w hn hlt hG hlt' hK

end Go.Proofs.Ytmkhbkkhoemkoaa
