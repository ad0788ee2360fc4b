/- Levels: what both sides answer, as one form; the reference's own answers. -/
import Derived.Test.YtpnfppcmklcinaaKLevRC
import Derived.Test.YtpnfppcmklcinaaKRunU
import Derived.Test.YtpnfppcmklcinaaKNumsV
import Derived.Test.YtpnfppcmklcinaaKDiff
import Derived.Test.YtpnfppcmklcinaaKRefG4
namespace Go.Proofs.Ytpnfppcmklcinaa
set_option linter.unusedSimpArgs false
set_option linter.unusedVariables false
open Go.RowKit

/-- A grid and an error, whatever they are. -/
def GZ (W H : Int) (n : Nat) (K : Nat → Nat → Int) (z : Int) (w : World) (e : Ending) (w' : World) : Prop :=
  ∃ ao c, e = .returned (.tuple #[.agg #[.int .i64 W, .int .i64 H, .slice (ao) n c], .int .i64 z]) ∧ Hid (CellsIn w' ao n K) ∧ (∀ p, ao = some p → w.heap.size ≤ p.block) ∧ Below w.heap.size w w'
theorem gz_made {W H : Int} {n : Nat} {K : Nat → Nat → Int} {w : World} {e : Ending} {w' : World} (h : Made W H n K w e w') : GZ W H n K 0 w e w' := by
  obtain ⟨b, c, h1, h2, h3, h4⟩ := h
  exact ⟨_, c, h1, Lib.hid h2, fun p hp => (by cases hp; exact h3), h4⟩
theorem cellsIn_ex {S : Nat → Prop} {w w' : World} {ao : Option Addr} {n : Nat} {K : Nat → Nat → Int} (h : CellsIn w ao n K) (hx : Ex S w w') (hs : ∀ p, ao = some p → ¬ S p.block) : CellsIn w' ao n K := by
  rcases h with h | ⟨b, off, rfl, hlt, hG⟩
  · exact .inl h
  · have hb : ¬ S b := hs _ rfl
    exact .inr ⟨b, off, rfl, Nat.lt_of_lt_of_le hlt hx.size, fun i hi => ⟨(hx.cell hlt hb).trans (hG i hi).1, (hx.cell hlt hb).trans (hG i hi).2.1, (hx.cell hlt hb).trans (hG i hi).2.2.1, (hx.cell hlt hb).trans (hG i hi).2.2.2⟩⟩
theorem gz_err {z : Int} {K : Nat → Nat → Int} {w : World} {e : Ending} {w' : World} (h : e = .returned (.tuple #[.agg #[.int .i64 0, .int .i64 0, .slice (none) 0 0], .int .i64 z]) ∧ Below w.heap.size w w') : GZ 0 0 0 K z w e w' :=
  ⟨none, 0, h.1, Lib.hid (.inl rfl), fun p hp => (by cases hp), h.2⟩
theorem cells_of1 {W H n : Nat} {w : World} {ao : Option Addr} {G : Nat → Nat → Int} (s : Sides W H n) (h : CellsIn w ao n G) : ∃ b off, ao = some ⟨b, off, none⟩ ∧ b < w.heap.size ∧ Grd w b off n G := by
  rcases h with h | h
  · have h1 := s.w0
    have h2 := s.h0
    have := s.n0
    have : 1 * 1 ≤ W * H := Nat.mul_le_mul h1 h2
    omega
  · exact h
theorem cellsIn_eqG {w : World} {ao : Option Addr} {n : Nat} {G K : Nat → Nat → Int} (h : CellsIn w ao n G) (e : EqG n G K) : CellsIn w ao n K := by
  rcases h with h | ⟨b, off, rfl, hlt, hG⟩
  · exact .inl h
  · refine .inr ⟨b, off, rfl, hlt, fun i hi => ?_⟩
    rw [← e i hi 0 (by omega), ← e i hi 1 (by omega), ← e i hi 2 (by omega), ← e i hi 3 (by omega)]
    exact hG i hi

set_option maxHeartbeats 1000000 in
theorem within6_yes (n lo hi : Int) (w : World) (h1 : lo ≤ n) (h2 : n ≤ hi) : Calls Try.prog 121 #[.int .i64 n, .int .i64 lo, .int .i64 hi] w fun e w' => e = .returned (.bool true) ∧ w = w' := by
  go_enter Try.func121, Try.ntmps121
  go_wp2
  go_ret
  exact ⟨rfl, rfl⟩
set_option maxHeartbeats 1000000 in
theorem within6_no (n lo hi : Int) (w : World) (h : n < lo ∨ hi < n) : Calls Try.prog 121 #[.int .i64 n, .int .i64 lo, .int .i64 hi] w fun e w' => e = .returned (.bool false) ∧ w = w' := by
  by_cases h1 : lo ≤ n
  · have h2 : ¬ n ≤ hi := by omega
    clear h
    go_enter Try.func121, Try.ntmps121
    go_wp2
    go_ret
    exact ⟨rfl, rfl⟩
  · clear h
    go_enter Try.func121, Try.ntmps121
    go_wp2
    go_ret
    exact ⟨rfl, rfl⟩
set_option maxHeartbeats 1000000 in
theorem small6_yes (W H p : Int) (w : World) (h1 : 1 ≤ W) (h2 : W ≤ 64) (h3 : 1 ≤ H) (h4 : H ≤ 64) (hp : W * H = p) (h5 : p ≤ 1024) (h6 : 0 ≤ p) : Calls Try.prog 111 #[.int .i64 W, .int .i64 H] w fun e w' => e = .returned (.bool true) ∧ w = w' := by
  go_enter Try.func111, Try.ntmps111
  go_wp2_with (go_at_call 121; (with_reducible refine (within6_yes _ _ _ _ (by omega) (by omega)).mono ?_); rintro e w1 ⟨rfl, rfl⟩)
  go_ret
  exact ⟨rfl, rfl⟩
set_option maxHeartbeats 1000000 in
theorem small6_no (W H p : Int) (w : World) (hp : W * H = p) (h0 : 0 ≤ p) (hw : p ≤ 100000) (h : ((W < 1 ∨ 64 < W) ∨ (H < 1 ∨ 64 < H)) ∨ (((1 ≤ W ∧ W ≤ 64) ∧ (1 ≤ H ∧ H ≤ 64)) ∧ 1024 < p)) : Calls Try.prog 111 #[.int .i64 W, .int .i64 H] w fun e w' => e = .returned (.bool false) ∧ w = w' := by
  by_cases a : W < 1 ∨ 64 < W
  · clear h
    go_enter Try.func111, Try.ntmps111
    go_wp2_with (go_at_call 121; (with_reducible refine (within6_no _ _ _ _ a).mono ?_); rintro e w1 ⟨rfl, rfl⟩)
    go_ret
    exact ⟨rfl, rfl⟩
  · by_cases c : H < 1 ∨ 64 < H
    · have a1 : 1 ≤ W := by omega
      have a2 : W ≤ 64 := by omega
      clear h a
      go_enter Try.func111, Try.ntmps111
      go_wp2_with (first | (go_at_call 121; (with_reducible refine (within6_yes _ _ _ _ a1 a2).mono ?_); rintro e w1 ⟨rfl, rfl⟩) | (go_at_call 121; (with_reducible refine (within6_no _ _ _ _ c).mono ?_); rintro e w1 ⟨rfl, rfl⟩))
      go_ret
      exact ⟨rfl, rfl⟩
    · have a1 : 1 ≤ W := by omega
      have a2 : W ≤ 64 := by omega
      have a3 : 1 ≤ H := by omega
      have a4 : H ≤ 64 := by omega
      have a5 : 1024 < p := by omega
      clear h a c
      go_enter Try.func111, Try.ntmps111
      go_wp2_with (first | (go_at_call 121; (with_reducible refine (within6_yes _ _ _ _ a1 a2).mono ?_); rintro e w1 ⟨rfl, rfl⟩) | (go_at_call 121; (with_reducible refine (within6_yes _ _ _ _ a3 a4).mono ?_); rintro e w1 ⟨rfl, rfl⟩))
      go_ret
      refine ⟨?_, rfl⟩
      simp
      omega

/-- Two grids of equal sides are held against each other. -/
theorem sameGrid6_in (W H : Int) (b off b' off' n c c' : Nat) (G K : Nat → Nat → Int) (w : World) (hn : n ≤ 1000000) (hlt : b < w.heap.size) (hG : Grd w b off n G) (hlt' : b' < w.heap.size) (hK : Grd w b' off' n K) :
    Calls Try.prog 46 #[.agg #[.int .i64 W, .int .i64 H, .slice (some ⟨b, off, none⟩) n c], .agg #[.int .i64 W, .int .i64 H, .slice (some ⟨b', off', none⟩) n c']] w (Told n G K w) := by
  have HG := Lib.hid hG; clear hG
  have HK := Lib.hid hK; clear hK
  go_enter Try.func46, Try.ntmps46
  go_wp2
  obtain ⟨wl, hwl⟩ : ∃ wl, wl = (w.alloc (.cells #[.int .i64 W, .int .i64 H, .slice (some ⟨b, off, none⟩) n c] 34)).alloc (.cells #[.int .i64 W, .int .i64 H, .slice (some ⟨b', off', none⟩) n c'] 34) := ⟨_, rfl⟩
  have k2 : wl.cell? ⟨w.heap.size, 2, none⟩ = some (.slice (some ⟨b, off, none⟩) n c) := by rw [hwl]; simp [go_sem, ↓IntWalk.iteOmega, *]
  have k3 : wl.cell? ⟨w.heap.size + 1, 2, none⟩ = some (.slice (some ⟨b', off', none⟩) n c') := by rw [hwl]; simp [go_sem, ↓IntWalk.iteOmega, *]
  have BB := Lib.hid (show Below w.heap.size w wl from by rw [hwl]; (repeat' (first | (with_reducible exact Below.refl _ _) | (with_reducible refine Below.setCell ?_ (by first | omega | (simp; done) | (simp; omega)) _) | (with_reducible refine Below.alloc ?_ (by first | omega | (simp; done) | (simp; omega)) _) | (with_reducible refine Below.drew ?_) | (with_reducible refine below_drewN ?_ _) | (with_reducible refine Below.trans ?_ (Below.mono (by assumption) (by first | omega | (simp; done) | (simp; omega)))))))
  have l2 : wl.heap.size = w.heap.size + 2 := by rw [hwl]; simp
  rw [← hwl]
  clear hwl
  go_loopw [5] (fun i wr => ∃ k : Nat, k ≤ n ∧ i = .int .i64 k ∧ Hid (Below wl.heap.size wl wr ∧ EqG k G K)) (fun i _ => n - (intOf i).toNat)
  case atStart => exact ⟨0, Nat.zero_le _, rfl, Lib.hid ⟨Below.refl _ _, fun i hi => by omega⟩⟩
  case round =>
    obtain ⟨k, hk, rfl, HH⟩ := hrel
    have B2 := Lib.hid (BB.out.trans (HH.out.1.mono (by omega)))
    have e2 : wr.cell? ⟨w.heap.size, 2, none⟩ = some (.slice (some ⟨b, off, none⟩) n c) := (HH.out.1.cell (p := ⟨w.heap.size, 2, none⟩) (by show w.heap.size < _; omega)).trans k2
    have e3 : wr.cell? ⟨w.heap.size + 1, 2, none⟩ = some (.slice (some ⟨b', off', none⟩) n c') := (HH.out.1.cell (p := ⟨w.heap.size + 1, 2, none⟩) (by show w.heap.size + 1 < _; omega)).trans k3
    by_cases hlk : k < n
    · obtain ⟨a0, a1, a2, a3⟩ := HG.out.get B2.out hlt hlk
      obtain ⟨d0, d1, d2, d3⟩ := HK.out.get B2.out hlt' hlk
      have p0 : (0 : Int) ≤ (k : Int) := by omega
      have p1 : (k : Int) < (n : Int) := by omega
      by_cases hx : G k 0 = K k 0 ∧ G k 1 = K k 1 ∧ G k 2 = K k 2 ∧ G k 3 = K k 3
      · rw [← hx.1] at d0
        rw [← hx.2.1] at d1
        rw [← hx.2.2.1] at d2
        rw [← hx.2.2.2] at d3
        have HX := Lib.hid hx; clear hx
        go_wp2
        go_quiet (fail)
        go_wp2
        go_roundw
        case rel => exact ⟨k + 1, by omega, by go_num, Lib.hid ⟨below_drewN HH.out.1 _, fun i hi d hd => by
          by_cases e : i = k
          · subst e
            obtain ⟨x0, x1, x2, x3⟩ := HX.out
            match d, hd with
            | 0, _ => exact x0
            | 1, _ => exact x1
            | 2, _ => exact x2
            | 3, _ => exact x3
          · exact HH.out.2 i (by omega) d hd⟩⟩
        case measure => simp [intOf]; omega
      · have hne : (G k 0 == K k 0 && (G k 1 == K k 1 && (G k 2 == K k 2 && G k 3 == K k 3))) = false := by
          rw [Bool.eq_false_iff]
          intro h
          simp only [Bool.and_eq_true, beq_iff_eq] at h
          exact hx h
        have HX := Lib.hid hx; clear hx
        go_wp2
        go_quiet (fail)
        go_wp2
        go_ret
        exact ⟨false, rfl, ⟨(fun h => by cases h), fun h => absurd ⟨h k hlk 0 (by omega), h k hlk 1 (by omega), h k hlk 2 (by omega), h k hlk 3 (by omega)⟩ HX.out⟩, below_drewN B2.out _⟩
    · obtain rfl : n = k := by omega
      go_wp2
      go_ret
      exact ⟨true, rfl, ⟨fun _ => HH.out.2, fun _ => rfl⟩, B2.out⟩
set_option maxHeartbeats 2000000 in
theorem sameGrid6_nil (W H : Int) (ao ao' : Option Addr) (c c' : Nat) (G K : Nat → Nat → Int) (w : World) :
    Calls Try.prog 46 #[.agg #[.int .i64 W, .int .i64 H, .slice (ao) 0 c], .agg #[.int .i64 W, .int .i64 H, .slice (ao') 0 c']] w (Told 0 G K w) := by
  go_enter Try.func46, Try.ntmps46
  go_wp2
  refine wp_loop_rounds 1 ?_
  rw [rounds_succ]
  go_wp2
  go_ret
  refine ⟨true, rfl, ⟨(fun _ i hi => by omega), fun _ => rfl⟩, ?_⟩
  (repeat' (first | (with_reducible exact Below.refl _ _) | (with_reducible refine Below.setCell ?_ (by first | omega | (simp; done) | (simp; omega)) _) | (with_reducible refine Below.alloc ?_ (by first | omega | (simp; done) | (simp; omega)) _) | (with_reducible refine Below.drew ?_) | (with_reducible refine below_drewN ?_ _) | (with_reducible refine Below.trans ?_ (Below.mono (by assumption) (by first | omega | (simp; done) | (simp; omega))))))
theorem sameGrid6_any (W H : Int) (ao ao' : Option Addr) (n c c' : Nat) (G K : Nat → Nat → Int) (w : World) (hn : n ≤ 1000000) (h : CellsIn w ao n G) (h' : CellsIn w ao' n K) :
    Calls Try.prog 46 #[.agg #[.int .i64 W, .int .i64 H, .slice (ao) n c], .agg #[.int .i64 W, .int .i64 H, .slice (ao') n c']] w (Told n G K w) := by
  rcases Nat.eq_zero_or_pos n with h0 | h0
  · subst h0
    exact sameGrid6_nil W H ao ao' c c' G K w
  · rcases h with h | ⟨b, off, rfl, hlt, hG⟩
    · omega
    · rcases h' with h' | ⟨b', off', rfl, hlt', hK⟩
      · omega
      · exact sameGrid6_in W H b off b' off' n c c' G K w hn hlt hG hlt' hK
theorem sameGrid6_yes (W H : Int) (ao ao' : Option Addr) (n c c' : Nat) (K : Nat → Nat → Int) (w : World) (hn : n ≤ 1000000) (h : CellsIn w ao n K) (h' : CellsIn w ao' n K) :
    Calls Try.prog 46 #[.agg #[.int .i64 W, .int .i64 H, .slice (ao) n c], .agg #[.int .i64 W, .int .i64 H, .slice (ao') n c']] w fun e w' => e = .returned (.bool true) ∧ Below w.heap.size w w' :=
  (sameGrid6_any W H ao ao' n c c' K K w hn h h').mono fun e w' ⟨bb, h1, h2, h3⟩ => ⟨by rw [h1, h2.2 (fun _ _ _ _ => rfl)], h3⟩

set_option maxHeartbeats 2000000 in
theorem sameInts6_yes (ao ao' : Option Addr) (n c c' : Nat) (K : Nat → Int) (w : World) (hl : n ≤ 1000000) (h : NumsIn w ao n K) (h' : NumsIn w ao' n K) :
    Calls Try.prog 53 #[.slice ao n c, .slice ao' n c'] w fun e w' => e = .returned (.bool true) ∧ Below w.heap.size w w' := by
  by_cases hL : n = 0
  · subst hL
    clear h h'
    go_enter Try.func53, Try.ntmps53
    go_wp2
    refine wp_loop_rounds 1 ?_
    rw [rounds_succ]
    go_wp2
    go_ret
    refine ⟨rfl, ?_⟩
    (repeat' (first | (with_reducible exact Below.refl _ _) | (with_reducible refine Below.setCell ?_ (by first | omega | (simp; done) | (simp; omega)) _) | (with_reducible refine Below.alloc ?_ (by first | omega | (simp; done) | (simp; omega)) _) | (with_reducible refine Below.drew ?_) | (with_reducible refine below_drewN ?_ _) | (with_reducible refine Below.trans ?_ (Below.mono (by assumption) (by first | omega | (simp; done) | (simp; omega))))))
  · obtain ⟨g, o, rfl, hg, hc⟩ := numsAt_of h (by omega)
    obtain ⟨g', o', rfl, hg', hc'⟩ := numsAt_of h' (by omega)
    have HC := Lib.hid hc
    have HC' := Lib.hid hc'
    clear h h' hc hc' hL
    go_enter Try.func53, Try.ntmps53
    go_wp2
    go_loopw [5] (fun i wr => ∃ k : Nat, k ≤ n ∧ i = .int .i64 k ∧ Below w.heap.size w wr) (fun i _ => n - (intOf i).toNat)
    case atStart => exact ⟨0, Nat.zero_le _, rfl, Below.refl _ _⟩
    case round =>
      obtain ⟨k, hk, rfl, hB⟩ := hrel
      by_cases hlk : k < n
      · have c0 := HC.out.get hB hg hlk
        have c1 := HC'.out.get hB hg' hlk
        have p0 : (0 : Int) ≤ (k : Int) := by omega
        have p1 : (k : Int) < (n : Int) := by omega
        go_wp2
        go_quiet (fail)
        go_wp2
        go_roundw
        case rel => exact ⟨k + 1, by omega, by go_num, below_drewN hB _⟩
        case measure => simp [intOf]; omega
      · obtain rfl : n = k := by omega
        go_wp2
        go_ret
        exact ⟨rfl, hB⟩

set_option maxHeartbeats 1000000 in
theorem cellMass6 (a b c d : Int) (w : World) (h : Ok4 a b c d) : Calls Try.prog 117 #[.agg #[.int .i64 a, .int .i64 b, .int .i64 c, .int .i64 d]] w fun e w' => e = .returned (.int .i64 (a + b + c + d)) ∧ Below w.heap.size w w' := by
  obtain ⟨_, _, _, _, _⟩ := h
  go_enter Try.func117, Try.ntmps117
  go_wp2
  go_ret
  refine ⟨rfl, ?_⟩
  (repeat' (first | (with_reducible exact Below.refl _ _) | (with_reducible refine Below.setCell ?_ (by first | omega | (simp; done) | (simp; omega)) _) | (with_reducible refine Below.alloc ?_ (by first | omega | (simp; done) | (simp; omega)) _) | (with_reducible refine Below.drew ?_) | (with_reducible refine below_drewN ?_ _) | (with_reducible refine Below.trans ?_ (Below.mono (by assumption) (by first | omega | (simp; done) | (simp; omega))))))
end Go.Proofs.Ytpnfppcmklcinaa
