/- Walls, by the reference: whether they are valid; whether two are the same. -/
import Derived.Test.YtmdeooflgkjbbaaDoorKWall
import Derived.Test.YtmdeooflgkjbbaaDoorKSameN
import Derived.StillTactics
namespace Go.Proofs.YtmdeooflgkjbbaaDoor
set_option linter.unusedSimpArgs false
set_option linter.unusedVariables false
open Go.RowKit
attribute [local go_sem] Oper.semAt_some
attribute [local irreducible] wpStill

set_option maxRecDepth 100000 in
set_option maxHeartbeats 4000000 in
theorem rwValid_in (W H : Int) (ao : Option Addr) (n cap : Nat) (G : Nat → Nat → Int) (bk ok ck : Nat) (K : Nat → Int) (bb ob cb : Nat) (B : Nat → Int) (w : World) (hv : VG W H n G) (hG : CellsIn w ao n G) (h1 : bk < w.heap.size) (h2 : bb < w.heap.size) (hK : NumsAt w bk ok n K) (hB : NumsAt w bb ob n B) :
    Calls Tryd.prog 105 #[.agg #[.int .i64 W, .int .i64 H, .slice (ao) n cap], .agg #[.slice (some ⟨bk, ok, none⟩) n ck, .slice (some ⟨bb, ob, none⟩) n cb]] w fun e w' => ∃ t : Bool, e = .returned (.bool t) ∧ Hid (t = true ↔ ∀ i, i < n → OkP (K i) (B i)) ∧ Below w.heap.size w w' := by
  have hn2 : (n : Int) ≤ 1024 := by have := hv.1.bd; have := hv.2.1; omega
  have HV := Lib.hid hv; clear hv
  have HG := Lib.hid hG; clear hG
  have HK := Lib.hid hK; clear hK
  have HB := Lib.hid hB; clear hB
  go_enter Tryd.func105, Tryd.ntmps105
  go_wp2_with (go_at_call 87; (with_reducible refine (rValid_ok W H ao n cap G _ HV.out (HG.out.below (by (repeat' (first | (with_reducible exact Below.refl _ _) | (with_reducible refine Below.setCell ?_ (by first | omega | (simp; done) | (simp; omega)) _) | (with_reducible refine Below.alloc ?_ (by first | omega | (simp; done) | (simp; omega)) _) | (with_reducible refine Below.drew ?_) | (with_reducible refine below_drewN ?_ _) | (with_reducible refine Below.trans ?_ (Below.mono (by assumption) (by first | omega | (simp; done) | (simp; omega))))))))).mono ?_); rintro e w1 ⟨rfl, hb⟩; obtain ⟨hc, hf, hz⟩ := bcall hb; (try simp at hc hf hz))
  have hB0 : Below w.heap.size w w1 := by (repeat' (first | (with_reducible exact Below.refl _ _) | (with_reducible refine Below.setCell ?_ (by first | omega | (simp; done) | (simp; omega)) _) | (with_reducible refine Below.alloc ?_ (by first | omega | (simp; done) | (simp; omega)) _) | (with_reducible refine Below.drew ?_) | (with_reducible refine below_drewN ?_ _) | (with_reducible refine Below.trans ?_ (Below.mono (by assumption) (by first | omega | (simp; done) | (simp; omega))))))
  have hz0 := hB0.size
  have hs0 : w1.cell? ⟨w.heap.size + 1, 1, none⟩ = some (.slice (some ⟨bb, ob, none⟩) n cb) := by first | (with_reducible assumption) | (simp [*]; done) | (simp [hc, go_sem, ↓IntWalk.iteOmega]; done)
  have hs2 : w1.cell? ⟨w.heap.size + 1, 0, none⟩ = some (.slice (some ⟨bk, ok, none⟩) n ck) := by first | (with_reducible assumption) | (simp [*]; done) | (simp [hc, go_sem, ↓IntWalk.iteOmega]; done)
  have hs1 : w.heap.size + 1 < w1.heap.size := by omega
  clear hc hf hz
  go_loopw [5] (fun i wr => ∃ k : Nat, k ≤ n ∧ i = .int .i64 k ∧ Below w1.heap.size w1 wr ∧ Hid (∀ j, j < k → OkP (K j) (B j))) (fun i _ => n - (intOf i).toNat)
  case atStart => exact ⟨0, Nat.zero_le _, rfl, Below.refl _ _, Lib.hid (by omega)⟩
  case round =>
    obtain ⟨k, hk, rfl, hBr, HO⟩ := hrel
    have hBw : Below w.heap.size w wr := hB0.trans (hBr.mono hz0)
    have sB := (hBr.cell (p := ⟨w.heap.size + 1, 1, none⟩) hs1).trans hs0
    have sK := (hBr.cell (p := ⟨w.heap.size + 1, 0, none⟩) hs1).trans hs2
    by_cases hlk : k < n
    · have c0 := HK.out.get hBw h1 hlk
      have c1 := HB.out.get hBw h2 hlk
      have p0 : (0 : Int) ≤ (k : Int) := by omega
      have p1 : (k : Int) < (n : Int) := by omega
      obtain ⟨x, ex⟩ : ∃ x, x = K k := ⟨_, rfl⟩
      obtain ⟨y, ey⟩ : ∃ y, y = B k := ⟨_, rfl⟩
      rw [← ex] at c0
      rw [← ey] at c1
      have six : (x = 0 ∧ y = 0) ∨ ((1 ≤ x ∧ x ≤ 3) ∧ 1 ≤ y ∧ y ≤ 9) ∨ (x < 0 ∨ 3 < x) ∨ (x = 0 ∧ y ≠ 0) ∨ ((1 ≤ x ∧ x ≤ 3) ∧ y = 0) ∨ ((1 ≤ x ∧ x ≤ 3) ∧ y ≠ 0 ∧ (y < 0 ∨ 9 < y)) := by omega
      rcases six with ⟨rfl, rfl⟩ | ⟨⟨x1, x2⟩, y1, y2⟩ | hx | ⟨rfl, hy⟩ | ⟨⟨x1, x2⟩, rfl⟩ | ⟨⟨x1, x2⟩, hy, hy'⟩
      · have HX := Lib.hid (show OkP (K k) (B k) from by rw [← ex, ← ey]; exact .inl ⟨rfl, rfl⟩)
        clear ex ey
        go_wp2
        refine still_tail 30 (by kernel_rfl) (by kernel_rfl) ?_
        simp only [List.take_succ_cons, List.take_zero, List.drop_succ_cons, List.drop_zero]
        (iterate 5 still_step)
        still_call ((within3_yes 0 0 3 _ (by omega) (by omega)).mono fun _ _ h => ⟨h.1, h.2.symm⟩)
        (iterate 22 still_step)
        still_call ((within3_yes 0 0 9 _ (by omega) (by omega)).mono fun _ _ h => ⟨h.1, h.2.symm⟩)
        (iterate 1 still_step)
        refine wpStill_nil ?_
        go_wp2
        go_roundw
        case rel => exact ⟨k + 1, by omega, by go_num, hBr.drew, Lib.hid (fun j hj => by
          by_cases e : j = k
          · subst e; exact HX.out
          · exact HO.out j (by omega))⟩
        case measure => simp [intOf]; omega
      · have HX := Lib.hid (show OkP (K k) (B k) from by rw [← ex, ← ey]; exact .inr ⟨⟨x1, x2⟩, y1, y2⟩)
        clear ex ey
        have e0 : (x == 0) = false := beq_eq_false_iff_ne.2 (by omega)
        have e1 : (y == 0) = false := beq_eq_false_iff_ne.2 (by omega)
        go_wp2
        refine still_tail 30 (by kernel_rfl) (by kernel_rfl) ?_
        simp only [List.take_succ_cons, List.take_zero, List.drop_succ_cons, List.drop_zero]
        (iterate 5 still_step)
        still_call ((within3_yes x 0 3 _ (by omega) (by omega)).mono fun _ _ h => ⟨h.1, h.2.symm⟩)
        (iterate 22 still_step)
        still_call ((within3_yes y 0 9 _ (by omega) (by omega)).mono fun _ _ h => ⟨h.1, h.2.symm⟩)
        (iterate 1 still_step)
        refine wpStill_nil ?_
        go_wp2
        go_roundw
        case rel => exact ⟨k + 1, by omega, by go_num, hBr.drew, Lib.hid (fun j hj => by
          by_cases e : j = k
          · subst e; exact HX.out
          · exact HO.out j (by omega))⟩
        case measure => simp [intOf]; omega
      · have HX := Lib.hid (show ¬ OkP (K k) (B k) from by rw [← ex, ← ey]; unfold OkP; omega)
        clear ex ey
        go_wp2
        refine still_tail 30 (by kernel_rfl) (by kernel_rfl) ?_
        simp only [List.take_succ_cons, List.take_zero, List.drop_succ_cons, List.drop_zero]
        (iterate 5 still_step)
        still_call ((within3_no x 0 3 _ hx).mono fun _ _ h => ⟨h.1, h.2.symm⟩)
        (iterate 24 still_step)
        refine wpStill_nil ?_
        go_wp2
        go_ret
        exact ⟨false, rfl, Lib.hid ⟨(fun h => by cases h), fun h => absurd (h k hlk) HX.out⟩, hBw.drew⟩
      · have HX := Lib.hid (show ¬ OkP (K k) (B k) from by rw [← ex, ← ey]; unfold OkP; omega)
        clear ex ey
        have e1 : (y == 0) = false := beq_eq_false_iff_ne.2 hy
        go_wp2
        refine still_tail 30 (by kernel_rfl) (by kernel_rfl) ?_
        simp only [List.take_succ_cons, List.take_zero, List.drop_succ_cons, List.drop_zero]
        (iterate 5 still_step)
        still_call ((within3_yes 0 0 3 _ (by omega) (by omega)).mono fun _ _ h => ⟨h.1, h.2.symm⟩)
        (iterate 24 still_step)
        refine wpStill_nil ?_
        go_wp2
        go_ret
        exact ⟨false, rfl, Lib.hid ⟨(fun h => by cases h), fun h => absurd (h k hlk) HX.out⟩, hBw.drew⟩
      · have HX := Lib.hid (show ¬ OkP (K k) (B k) from by rw [← ex, ← ey]; unfold OkP; omega)
        clear ex ey
        have e0 : (x == 0) = false := beq_eq_false_iff_ne.2 (by omega)
        go_wp2
        refine still_tail 30 (by kernel_rfl) (by kernel_rfl) ?_
        simp only [List.take_succ_cons, List.take_zero, List.drop_succ_cons, List.drop_zero]
        (iterate 5 still_step)
        still_call ((within3_yes x 0 3 _ (by omega) (by omega)).mono fun _ _ h => ⟨h.1, h.2.symm⟩)
        (iterate 24 still_step)
        refine wpStill_nil ?_
        go_wp2
        go_ret
        exact ⟨false, rfl, Lib.hid ⟨(fun h => by cases h), fun h => absurd (h k hlk) HX.out⟩, hBw.drew⟩
      · have HX := Lib.hid (show ¬ OkP (K k) (B k) from by rw [← ex, ← ey]; unfold OkP; omega)
        clear ex ey
        have e0 : (x == 0) = false := beq_eq_false_iff_ne.2 (by omega)
        have e1 : (y == 0) = false := beq_eq_false_iff_ne.2 hy
        go_wp2
        refine still_tail 30 (by kernel_rfl) (by kernel_rfl) ?_
        simp only [List.take_succ_cons, List.take_zero, List.drop_succ_cons, List.drop_zero]
        (iterate 5 still_step)
        still_call ((within3_yes x 0 3 _ (by omega) (by omega)).mono fun _ _ h => ⟨h.1, h.2.symm⟩)
        (iterate 22 still_step)
        still_call ((within3_no y 0 9 _ hy').mono fun _ _ h => ⟨h.1, h.2.symm⟩)
        (iterate 1 still_step)
        refine wpStill_nil ?_
        go_wp2
        go_ret
        exact ⟨false, rfl, Lib.hid ⟨(fun h => by cases h), fun h => absurd (h k hlk) HX.out⟩, hBw.drew⟩
    · obtain rfl : n = k := by omega
      go_wp2
      go_ret
      exact ⟨true, rfl, Lib.hid ⟨fun _ => HO.out, fun _ => rfl⟩, hBw⟩

theorem rwValid_yes (W H : Int) (ao : Option Addr) (n cap : Nat) (G : Nat → Nat → Int) (ak : Option Addr) (nk ck : Nat) (K : Nat → Int) (ab : Option Addr) (nb cb : Nat) (B : Nat → Int) (w : World) (hv : WV W H n G nk K nb B) (hG : CellsIn w ao n G) (hK : NumsIn w ak nk K) (hB : NumsIn w ab nb B) :
    Calls Tryd.prog 105 #[.agg #[.int .i64 W, .int .i64 H, .slice (ao) n cap], .agg #[.slice (ak) nk ck, .slice (ab) nb cb]] w fun e w' => e = .returned (.bool true) ∧ Below w.heap.size w w' := by
  obtain ⟨h1, rfl, rfl, h2⟩ := hv
  have hp := vg_pos h1
  obtain ⟨bk, ok, rfl, lk, hk⟩ := numsAt_of hK hp.1
  obtain ⟨bb, ob, rfl, lb, hb⟩ := numsAt_of hB hp.1
  exact (rwValid_in W H ao _ cap G bk ok ck K bb ob cb B w h1 hG lk lb hk hb).mono fun e w' ⟨t, he, ht, hB⟩ => ⟨by rw [he, ht.out.2 h2], hB⟩
theorem rwValid_no (W H : Int) (ao : Option Addr) (n cap : Nat) (G : Nat → Nat → Int) (ak : Option Addr) (nk ck : Nat) (K : Nat → Int) (ab : Option Addr) (nb cb : Nat) (B : Nat → Int) (w : World) (hv : ¬ WV W H n G nk K nb B) (hG : CellsIn w ao n G) (hK : NumsIn w ak nk K) (hB : NumsIn w ab nb B) :
    Calls Tryd.prog 105 #[.agg #[.int .i64 W, .int .i64 H, .slice (ao) n cap], .agg #[.slice (ak) nk ck, .slice (ab) nb cb]] w fun e w' => e = .returned (.bool false) ∧ Below w.heap.size w w' := by
  rcases not_wv hv with h | ⟨h, h'⟩ | ⟨h1, rfl, rfl, h2⟩
  · exact rwValid_vg W H ao n cap G ak nk ck ab nb cb w h hG
  · exact rwValid_len W H ao n cap G ak nk ck ab nb cb w h hG h'
  · have hp := vg_pos h1
    obtain ⟨bk, ok, rfl, lk, hk⟩ := numsAt_of hK hp.1
    obtain ⟨bb, ob, rfl, lb, hb⟩ := numsAt_of hB hp.1
    refine (rwValid_in W H ao _ cap G bk ok ck K bb ob cb B w h1 hG lk lb hk hb).mono fun e w' ⟨t, he, ht, hB⟩ => ⟨?_, hB⟩
    cases t
    · exact he
    · exact absurd (ht.out.1 rfl) h2

set_option maxHeartbeats 1000000 in
theorem rSame_yes (ak ak' ab ab' : Option Addr) (n ck ck' cb cb' : Nat) (K B : Nat → Int) (w : World) (hl : n ≤ 1000000) (h0 : NumsIn w ak n K) (h1 : NumsIn w ak' n K) (h2 : NumsIn w ab n B) (h3 : NumsIn w ab' n B) :
    Calls Tryd.prog 44 #[.agg #[.slice (ak) n ck, .slice (ab) n cb], .agg #[.slice (ak') n ck', .slice (ab') n cb']] w fun e w' => e = .returned (.bool true) ∧ Below w.heap.size w w' := by
  have H0 := Lib.hid h0; clear h0
  have H1 := Lib.hid h1; clear h1
  have H2 := Lib.hid h2; clear h2
  have H3 := Lib.hid h3; clear h3
  go_enter Tryd.func44, Tryd.ntmps44
  go_wp2_with (first | (go_at_call 49; (with_reducible refine (sameNums_yes ak ak' n ck ck' K _ hl (H0.out.below (by (repeat' (first | (with_reducible exact Below.refl _ _) | (with_reducible refine Below.setCell ?_ (by first | omega | (simp; done) | (simp; omega)) _) | (with_reducible refine Below.alloc ?_ (by first | omega | (simp; done) | (simp; omega)) _) | (with_reducible refine Below.drew ?_) | (with_reducible refine below_drewN ?_ _) | (with_reducible refine Below.trans ?_ (Below.mono (by assumption) (by first | omega | (simp; done) | (simp; omega)))))))) (H1.out.below (by (repeat' (first | (with_reducible exact Below.refl _ _) | (with_reducible refine Below.setCell ?_ (by first | omega | (simp; done) | (simp; omega)) _) | (with_reducible refine Below.alloc ?_ (by first | omega | (simp; done) | (simp; omega)) _) | (with_reducible refine Below.drew ?_) | (with_reducible refine below_drewN ?_ _) | (with_reducible refine Below.trans ?_ (Below.mono (by assumption) (by first | omega | (simp; done) | (simp; omega))))))))).mono ?_); rintro e w1 ⟨rfl, hb⟩; obtain ⟨hc, hf, hz⟩ := bcall hb; (try simp at hc hf hz)) | (go_at_call 49; (with_reducible refine (sameNums_yes ab ab' n cb cb' B _ hl (H2.out.below (by (repeat' (first | (with_reducible exact Below.refl _ _) | (with_reducible refine Below.setCell ?_ (by first | omega | (simp; done) | (simp; omega)) _) | (with_reducible refine Below.alloc ?_ (by first | omega | (simp; done) | (simp; omega)) _) | (with_reducible refine Below.drew ?_) | (with_reducible refine below_drewN ?_ _) | (with_reducible refine Below.trans ?_ (Below.mono (by assumption) (by first | omega | (simp; done) | (simp; omega)))))))) (H3.out.below (by (repeat' (first | (with_reducible exact Below.refl _ _) | (with_reducible refine Below.setCell ?_ (by first | omega | (simp; done) | (simp; omega)) _) | (with_reducible refine Below.alloc ?_ (by first | omega | (simp; done) | (simp; omega)) _) | (with_reducible refine Below.drew ?_) | (with_reducible refine below_drewN ?_ _) | (with_reducible refine Below.trans ?_ (Below.mono (by assumption) (by first | omega | (simp; done) | (simp; omega))))))))).mono ?_); rintro e w1 ⟨rfl, hb⟩; obtain ⟨hc, hf, hz⟩ := bcall hb; (try simp at hc hf hz)))
  go_ret
  refine ⟨rfl, ?_⟩
  (repeat' (first | (with_reducible exact Below.refl _ _) | (with_reducible refine Below.setCell ?_ (by first | omega | (simp; done) | (simp; omega)) _) | (with_reducible refine Below.alloc ?_ (by first | omega | (simp; done) | (simp; omega)) _) | (with_reducible refine Below.drew ?_) | (with_reducible refine below_drewN ?_ _) | (with_reducible refine Below.trans ?_ (Below.mono (by assumption) (by first | omega | (simp; done) | (simp; omega))))))
end Go.Proofs.YtmdeooflgkjbbaaDoor
