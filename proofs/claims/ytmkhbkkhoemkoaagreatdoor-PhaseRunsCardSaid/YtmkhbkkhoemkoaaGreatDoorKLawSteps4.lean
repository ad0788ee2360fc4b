/- The law PhaseSteps: the walk. -/
import Derived.Test.YtmkhbkkhoemkoaaGreatDoorKLaw4
import Derived.Test.YtmkhbkkhoemkoaaGreatDoorKRefRR
import Derived.Test.YtmkhbkkhoemkoaaGreatDoorKRefRU
namespace Go.Proofs.YtmkhbkkhoemkoaaGreatDoor
set_option linter.unusedSimpArgs false
set_option linter.unusedVariables false
open Go.RowKit

theorem cellsIn_none (w : World) (G : Nat → Nat → Int) : CellsIn w none 0 G := .inl rfl
theorem cells_4 {w5 : World} {r b n : Nat} {K : Nat → Nat → Int} {v0 v1 v2 v3 : Value} (h : CellsIn w5 (some ⟨b, 0, none⟩) n K) (hne : b ≠ r) : CellsIn ((((w5.setCell ⟨r, 0, none⟩ v0).setCell ⟨r, 1, none⟩ v1).setCell ⟨r, 2, none⟩ v2).setCell ⟨r, 3, none⟩ v3) (some ⟨b, 0, none⟩) n K := cellsIn_ex h four_ex hne

section
variable (W H : Int) (ao : Option Addr) (n c : Nat) (P : MG) (bo : Option Addr) (d : Nat) (ro : Option Addr) (len rc : Nat) (R : Nat → Int × Int) (so : Option Addr) (len2 sc : Nat) (S : Nat → Int × Int) (t k : Int) (w : World)
theorem sidesM (h : VM W H n P.1 n P.2) : ∃ W' H' : Nat, W = W' ∧ H = H' ∧ Sides W' H' n := by
  obtain ⟨W', H', e1, e2, s, _⟩ := Sides.vg h.1.1
  exact ⟨W', H', e1, e2, s⟩
theorem rRunM_any (h : MOk W H n P n len R len2 S) (hA : CellsIn w ao n P.1) (hB : CellsIn w bo n P.2) (hR : RulesIn w ro len R) (hS : RulesIn w so len2 S) (hr : RunOk t k) :
    Calls Tryz.prog 14 #[.agg #[.int .i64 W, .int .i64 H, .slice (ao) n c, .slice (bo) n d], .slice ro len rc, .slice so len2 sc, .int .i64 t, .int .i64 k] w (MadeM W H n (runM (mfwd W.toNat H.toNat len len2 R S) t.toNat k.toNat P).1 (runM (mfwd W.toNat H.toNat len len2 R S) t.toNat k.toNat P).2 w) := by
  obtain ⟨W', H', rfl, rfl, s⟩ := sidesM W H n P h.1.1
  obtain ⟨a, oa, rfl, LA, hA⟩ := vg_cells h.1.1.1.1 hA
  obtain ⟨b, ob, rfl, LB, hB⟩ := vg_cells h.1.1.1.2 hB
  obtain ⟨t', rfl⟩ := Int.eq_ofNat_of_zero_le hr.1
  obtain ⟨k', rfl⟩ := Int.eq_ofNat_of_zero_le hr.2.2.1
  exact rRunM_ok W' H' n a oa c b ob d P ro len rc R so len2 sc S t' k' w s h LA LB hA hB hR hS hr
theorem rUndoM_any (h : MOk W H n P n len R len2 S) (hA : CellsIn w ao n P.1) (hB : CellsIn w bo n P.2) (hR : RulesIn w ro len R) (hS : RulesIn w so len2 S) (hr : RunOk t k) :
    Calls Tryz.prog 16 #[.agg #[.int .i64 W, .int .i64 H, .slice (ao) n c, .slice (bo) n d], .slice ro len rc, .slice so len2 sc, .int .i64 t, .int .i64 k] w (MadeM W H n (undoM (mbwd W.toNat H.toNat len len2 R S) t.toNat k.toNat P).1 (undoM (mbwd W.toNat H.toNat len len2 R S) t.toNat k.toNat P).2 w) := by
  obtain ⟨W', H', rfl, rfl, s⟩ := sidesM W H n P h.1.1
  obtain ⟨a, oa, rfl, LA, hA⟩ := vg_cells h.1.1.1.1 hA
  obtain ⟨b, ob, rfl, LB, hB⟩ := vg_cells h.1.1.1.2 hB
  obtain ⟨t', rfl⟩ := Int.eq_ofNat_of_zero_le hr.1
  obtain ⟨k', rfl⟩ := Int.eq_ofNat_of_zero_le hr.2.2.1
  exact rUndoM_ok W' H' n a oa c b ob d P ro len rc R so len2 sc S t' k' w s h LA LB hA hB hR hS hr
end
section
variable (W H : Int) (ao : Option Addr) (n c : Nat) (P : MG) (bo : Option Addr) (d : Nat) (ro : Option Addr) (len rc : Nat) (R : Nat → Int × Int) (so : Option Addr) (len2 sc : Nat) (S : Nat → Int × Int) (t : Int) (w : World)
set_option maxHeartbeats 1000000 in
theorem rStepM_any (h : MOk W H n P n len R len2 S) (hA : CellsIn w ao n P.1) (hB : CellsIn w bo n P.2) (hR : RulesIn w ro len R) (hS : RulesIn w so len2 S) (ht : 0 ≤ t ∧ t ≤ 1000000) :
    Calls Tryz.prog 9 #[.agg #[.int .i64 W, .int .i64 H, .slice (ao) n c, .slice (bo) n d], .slice ro len rc, .slice so len2 sc, .int .i64 t] w (MadeM W H n (mfwd W.toNat H.toNat len len2 R S t.toNat P).1 (mfwd W.toNat H.toNat len len2 R S t.toNat P).2 w) := by
  have C := Lib.hid (fun wx (hb : Below w.heap.size w wx) => rRunM_any W H ao n c P bo d ro len rc R so len2 sc S t 1 wx h (hA.below hb) (hB.below hb) (hR.below hb) (hS.below hb) ⟨ht.1, ht.2, by omega, by omega, .inr (by omega)⟩)
  clear h hA hB hR hS ht
  go_enter Tryz.func9, Tryz.ntmps9
  go_wp2_with fail
  (go_at_call 14; (with_reducible refine (C.out _ (by (repeat' (first | (with_reducible exact Below.refl _ _) | (with_reducible refine Below.setCell ?_ (by first | omega | (simp; done) | (simp; omega)) _) | (with_reducible refine Below.alloc ?_ (by first | omega | (simp; done) | (simp; omega)) _) | (with_reducible refine Below.drew ?_) | (with_reducible refine below_drewN ?_ _) | (with_reducible refine Below.trans ?_ (Below.mono (by assumption) (by first | omega | (simp; done) | (simp; omega)))))))).mono ?_); rintro e wp ⟨ap, bp, cp, dp, rfl, Rp, lap, lbp, hb⟩; obtain ⟨hc, hf, hz⟩ := bcall hb; (try simp at hc hf hz lap lbp))
  have HB := Lib.hid (show Below w.heap.size w wp from by (repeat' (first | (with_reducible exact Below.refl _ _) | (with_reducible refine Below.setCell ?_ (by first | omega | (simp; done) | (simp; omega)) _) | (with_reducible refine Below.alloc ?_ (by first | omega | (simp; done) | (simp; omega)) _) | (with_reducible refine Below.drew ?_) | (with_reducible refine below_drewN ?_ _) | (with_reducible refine Below.trans ?_ (Below.mono (by assumption) (by first | omega | (simp; done) | (simp; omega)))))))
  go_wp2
  refine bodyPost_ret (v := .tuple #[.agg #[.int .i64 W, .int .i64 H, .slice (some ⟨ap, 0, none⟩) n cp, .slice (some ⟨bp, 0, none⟩) n dp], .int .i64 0]) (by simp [results, Tryz.results9, go_sem, ↓IntWalk.iteOmega, *]) rfl ?_
  exact madeM_pass Rp.out HB.out (by omega) (by omega) (by omega)
set_option maxHeartbeats 1000000 in
theorem rBackM_any (h : MOk W H n P n len R len2 S) (hA : CellsIn w ao n P.1) (hB : CellsIn w bo n P.2) (hR : RulesIn w ro len R) (hS : RulesIn w so len2 S) (ht : 0 ≤ t ∧ t ≤ 1000000) :
    Calls Tryz.prog 12 #[.agg #[.int .i64 W, .int .i64 H, .slice (ao) n c, .slice (bo) n d], .slice ro len rc, .slice so len2 sc, .int .i64 t] w (MadeM W H n (mbwd W.toNat H.toNat len len2 R S t.toNat P).1 (mbwd W.toNat H.toNat len len2 R S t.toNat P).2 w) := by
  have C := Lib.hid (fun wx (hb : Below w.heap.size w wx) => rUndoM_any W H ao n c P bo d ro len rc R so len2 sc S t 1 wx h (hA.below hb) (hB.below hb) (hR.below hb) (hS.below hb) ⟨ht.1, ht.2, by omega, by omega, .inr (by omega)⟩)
  clear h hA hB hR hS ht
  go_enter Tryz.func12, Tryz.ntmps12
  go_wp2_with fail
  (go_at_call 16; (with_reducible refine (C.out _ (by (repeat' (first | (with_reducible exact Below.refl _ _) | (with_reducible refine Below.setCell ?_ (by first | omega | (simp; done) | (simp; omega)) _) | (with_reducible refine Below.alloc ?_ (by first | omega | (simp; done) | (simp; omega)) _) | (with_reducible refine Below.drew ?_) | (with_reducible refine below_drewN ?_ _) | (with_reducible refine Below.trans ?_ (Below.mono (by assumption) (by first | omega | (simp; done) | (simp; omega)))))))).mono ?_); rintro e wp ⟨ap, bp, cp, dp, rfl, Rp, lap, lbp, hb⟩; obtain ⟨hc, hf, hz⟩ := bcall hb; (try simp at hc hf hz lap lbp))
  have HB := Lib.hid (show Below w.heap.size w wp from by (repeat' (first | (with_reducible exact Below.refl _ _) | (with_reducible refine Below.setCell ?_ (by first | omega | (simp; done) | (simp; omega)) _) | (with_reducible refine Below.alloc ?_ (by first | omega | (simp; done) | (simp; omega)) _) | (with_reducible refine Below.drew ?_) | (with_reducible refine below_drewN ?_ _) | (with_reducible refine Below.trans ?_ (Below.mono (by assumption) (by first | omega | (simp; done) | (simp; omega)))))))
  go_wp2
  refine bodyPost_ret (v := .tuple #[.agg #[.int .i64 W, .int .i64 H, .slice (some ⟨ap, 0, none⟩) n cp, .slice (some ⟨bp, 0, none⟩) n dp], .int .i64 0]) (by simp [results, Tryz.results12, go_sem, ↓IntWalk.iteOmega, *]) rfl ?_
  exact madeM_pass Rp.out HB.out (by omega) (by omega) (by omega)
end

set_option maxRecDepth 100000 in
set_option maxHeartbeats 8000000 in
theorem phaseSteps_ok (W H : Int) (ao : Option Addr) (n c : Nat) (P : MG) (bo : Option Addr) (d : Nat) (ro : Option Addr) (len rc : Nat) (R : Nat → Int × Int) (so : Option Addr) (len2 sc : Nat) (S : Nat → Int × Int) (t : Int) (w : World) (hT : Ends w) (hn : n ≤ 1200) (hl : len ≤ 20) (hl2 : len2 ≤ 20) (h : MOk W H n P n len R len2 S) (hA : CellsIn w ao n P.1) (hB : CellsIn w bo n P.2) (hR : RulesIn w ro len R) (hS : RulesIn w so len2 S) (ht : 0 ≤ t ∧ t ≤ 1000000) :
    Calls Tryz.prog 3 #[.agg #[.int .i64 W, .int .i64 H, .slice (ao) n c, .slice (bo) n d], .agg #[.slice (ro) len rc, .slice (so) len2 sc], .int .i64 t] w fun e w' => e = .returned (.bool true) ∧ Below w.heap.size w w' := by
  obtain ⟨F, hF⟩ : ∃ F, F = mfwd W.toNat H.toNat len len2 R S t.toNat P := ⟨_, rfl⟩
  obtain ⟨G, hG⟩ : ∃ G, G = mbwd W.toNat H.toNat len len2 R S t.toNat P := ⟨_, rfl⟩
  have ST := Lib.hid (fun wx (hb : Below w.heap.size w wx) => mStep_any W H ao n c P bo n d ro len rc R so len2 sc S t wx h (hA.below hb) (hB.below hb) (hR.below hb) (hS.below hb) (hT.below hb) ht)
  have BK := Lib.hid (fun wx (hb : Below w.heap.size w wx) => mBack_any W H ao n c P bo n d ro len rc R so len2 sc S t wx h (hA.below hb) (hB.below hb) (hR.below hb) (hS.below hb) (hT.below hb) ht)
  have RS := Lib.hid (fun wx (hb : Below w.heap.size w wx) => rStepM_any W H ao n c P bo d ro len rc R so len2 sc S t wx h (hA.below hb) (hB.below hb) (hR.below hb) (hS.below hb) ht)
  have RB := Lib.hid (fun wx (hb : Below w.heap.size w wx) => rBackM_any W H ao n c P bo d ro len rc R so len2 sc S t wx h (hA.below hb) (hB.below hb) (hR.below hb) (hS.below hb) ht)
  rw [← hF] at ST RS
  rw [← hG] at BK RB
  have HT := Lib.hid hT
  clear hF hG hA hB hR hS h hT
  go_enter Tryz.func3, Tryz.ntmps3
  go_wp2_with (first | (go_at_call 5; (with_reducible refine (small4_yes W H ao n c bo n d 1200 _ (by omega) (by omega) (by omega) (by omega)).mono ?_); rintro e w1 ⟨rfl, hb⟩; obtain ⟨hc, hf, hz⟩ := bcall hb; (try simp at hc hf hz)) | (go_at_call 6; (with_reducible refine (few_yes ro len rc so len2 sc _ hl hl2).mono ?_); rintro e w1 ⟨rfl, hb⟩; obtain ⟨hc, hf, hz⟩ := bcall hb; (try simp at hc hf hz)))
  (go_at_call 8; (with_reducible refine (ST.out _ (by (repeat' (first | (with_reducible exact Below.refl _ _) | (with_reducible refine Below.setCell ?_ (by first | omega | (simp; done) | (simp; omega)) _) | (with_reducible refine Below.alloc ?_ (by first | omega | (simp; done) | (simp; omega)) _) | (with_reducible refine Below.drew ?_) | (with_reducible refine below_drewN ?_ _) | (with_reducible refine Below.trans ?_ (Below.mono (by assumption) (by first | omega | (simp; done) | (simp; omega)))))))).mono ?_); rintro e wp ⟨ap, bp, cp, dp, rfl, Rp, lap, lbp, hb⟩; obtain ⟨hc, hf, hz⟩ := bcall hb; (try simp at hc hf hz lap lbp))
  have CF := Lib.hid (show CellsIn wp (some ⟨ap, 0, none⟩) n F.1 ∧ CellsIn wp (some ⟨bp, 0, none⟩) n F.2 from ⟨Rp.out.1.cellsIn, Rp.out.2.1.cellsIn⟩)
  go_wp2_with fail
  (go_at_call 9; (with_reducible refine (RS.out _ (by (repeat' (first | (with_reducible exact Below.refl _ _) | (with_reducible refine Below.setCell ?_ (by first | omega | (simp; done) | (simp; omega)) _) | (with_reducible refine Below.alloc ?_ (by first | omega | (simp; done) | (simp; omega)) _) | (with_reducible refine Below.drew ?_) | (with_reducible refine below_drewN ?_ _) | (with_reducible refine Below.trans ?_ (Below.mono (by assumption) (by first | omega | (simp; done) | (simp; omega)))))))).mono ?_); rintro e wq ⟨aq, bq, cq, dq, rfl, Rq, laq, lbq, hb⟩; obtain ⟨hc, hf, hz⟩ := bcall hb; (try simp at hc hf hz laq lbq))
  have CQ := Lib.hid (show CellsIn wq (some ⟨aq, 0, none⟩) n F.1 ∧ CellsIn wq (some ⟨bq, 0, none⟩) n F.2 from ⟨Rq.out.1.cellsIn, Rq.out.2.1.cellsIn⟩)
  go_wp2_with fail
  (go_at_call 10; (with_reducible refine (mEqual_yes W H n (some ⟨ap, 0, none⟩) (some ⟨bp, 0, none⟩) (some ⟨aq, 0, none⟩) (some ⟨bq, 0, none⟩) cp dp cq dq F F _ (by omega) (CF.out.1.below (by (repeat' (first | (with_reducible exact Below.refl _ _) | (with_reducible refine Below.setCell ?_ (by first | omega | (simp; done) | (simp; omega)) _) | (with_reducible refine Below.alloc ?_ (by first | omega | (simp; done) | (simp; omega)) _) | (with_reducible refine Below.drew ?_) | (with_reducible refine below_drewN ?_ _) | (with_reducible refine Below.trans ?_ (Below.mono (by assumption) (by first | omega | (simp; done) | (simp; omega)))))))) (CF.out.2.below (by (repeat' (first | (with_reducible exact Below.refl _ _) | (with_reducible refine Below.setCell ?_ (by first | omega | (simp; done) | (simp; omega)) _) | (with_reducible refine Below.alloc ?_ (by first | omega | (simp; done) | (simp; omega)) _) | (with_reducible refine Below.drew ?_) | (with_reducible refine below_drewN ?_ _) | (with_reducible refine Below.trans ?_ (Below.mono (by assumption) (by first | omega | (simp; done) | (simp; omega)))))))) (CQ.out.1.below (by (repeat' (first | (with_reducible exact Below.refl _ _) | (with_reducible refine Below.setCell ?_ (by first | omega | (simp; done) | (simp; omega)) _) | (with_reducible refine Below.alloc ?_ (by first | omega | (simp; done) | (simp; omega)) _) | (with_reducible refine Below.drew ?_) | (with_reducible refine below_drewN ?_ _) | (with_reducible refine Below.trans ?_ (Below.mono (by assumption) (by first | omega | (simp; done) | (simp; omega)))))))) (CQ.out.2.below (by (repeat' (first | (with_reducible exact Below.refl _ _) | (with_reducible refine Below.setCell ?_ (by first | omega | (simp; done) | (simp; omega)) _) | (with_reducible refine Below.alloc ?_ (by first | omega | (simp; done) | (simp; omega)) _) | (with_reducible refine Below.drew ?_) | (with_reducible refine below_drewN ?_ _) | (with_reducible refine Below.trans ?_ (Below.mono (by assumption) (by first | omega | (simp; done) | (simp; omega)))))))) (EqM.refl _ _)).mono ?_); rintro e w1 ⟨rfl, hb⟩; obtain ⟨hc, hf, hz⟩ := bcall hb; (try simp at hc hf hz))
  go_wp2_with fail
  (go_at_call 11; (with_reducible refine (BK.out _ (by (repeat' (first | (with_reducible exact Below.refl _ _) | (with_reducible refine Below.setCell ?_ (by first | omega | (simp; done) | (simp; omega)) _) | (with_reducible refine Below.alloc ?_ (by first | omega | (simp; done) | (simp; omega)) _) | (with_reducible refine Below.drew ?_) | (with_reducible refine below_drewN ?_ _) | (with_reducible refine Below.trans ?_ (Below.mono (by assumption) (by first | omega | (simp; done) | (simp; omega)))))))).mono ?_); rintro e wz ⟨az, bz, cz, dz, rfl, Rz, laz, lbz, hb⟩; obtain ⟨hc, hf, hz⟩ := bcall hb; (try simp at hc hf hz laz lbz))
  have CZ := Lib.hid (show CellsIn wz (some ⟨az, 0, none⟩) n G.1 ∧ CellsIn wz (some ⟨bz, 0, none⟩) n G.2 from ⟨Rz.out.1.cellsIn, Rz.out.2.1.cellsIn⟩)
  go_wp2_with fail
  (go_at_call 12; (with_reducible refine (RB.out _ (by (repeat' (first | (with_reducible exact Below.refl _ _) | (with_reducible refine Below.setCell ?_ (by first | omega | (simp; done) | (simp; omega)) _) | (with_reducible refine Below.alloc ?_ (by first | omega | (simp; done) | (simp; omega)) _) | (with_reducible refine Below.drew ?_) | (with_reducible refine below_drewN ?_ _) | (with_reducible refine Below.trans ?_ (Below.mono (by assumption) (by first | omega | (simp; done) | (simp; omega)))))))).mono ?_); rintro e wv ⟨av, bv, cv, dv, rfl, Rv, lav, lbv, hb⟩; obtain ⟨hc, hf, hz⟩ := bcall hb; (try simp at hc hf hz lav lbv))
  have CV := Lib.hid (show CellsIn wv (some ⟨av, 0, none⟩) n G.1 ∧ CellsIn wv (some ⟨bv, 0, none⟩) n G.2 from ⟨Rv.out.1.cellsIn, Rv.out.2.1.cellsIn⟩)
  have CZ1 := Lib.hid (show CellsIn wv (some ⟨az, 0, none⟩) n G.1 from (cells_4 CZ.out.1 (by omega)).below hb)
  have CZ2 := Lib.hid (show CellsIn wv (some ⟨bz, 0, none⟩) n G.2 from (cells_4 CZ.out.2 (by omega)).below hb)
  go_wp2_with fail
  (go_at_call 10; (with_reducible refine (mEqual_yes W H n (some ⟨az, 0, none⟩) (some ⟨bz, 0, none⟩) (some ⟨av, 0, none⟩) (some ⟨bv, 0, none⟩) cz dz cv dv G G _ (by omega) (cells_4 CZ1.out (by omega)) (cells_4 CZ2.out (by omega)) (cells_4 CV.out.1 (by omega)) (cells_4 CV.out.2 (by omega)) (EqM.refl _ _)).mono ?_); rintro e w1 ⟨rfl, hb⟩; obtain ⟨hc, hf, hz⟩ := bcall hb; (try simp at hc hf hz))
  go_wp2_with (go_at_call 7; (with_reducible refine (awake4_any _ (HT.out.below (by (repeat' (first | (with_reducible exact Below.refl _ _) | (with_reducible refine Below.setCell ?_ (by first | omega | (simp; done) | (simp; omega)) _) | (with_reducible refine Below.alloc ?_ (by first | omega | (simp; done) | (simp; omega)) _) | (with_reducible refine Below.drew ?_) | (with_reducible refine below_drewN ?_ _) | (with_reducible refine Below.trans ?_ (Below.mono (by assumption) (by first | omega | (simp; done) | (simp; omega))))))))).mono ?_); rintro e w1 ⟨rfl, hb⟩; obtain ⟨hc, hf, hz⟩ := bcall hb; (try simp at hc hf hz))
  go_ret
  refine ⟨by simp, ?_⟩
  (repeat' (first | (with_reducible exact Below.refl _ _) | (with_reducible refine Below.setCell ?_ (by first | omega | (simp; done) | (simp; omega)) _) | (with_reducible refine Below.alloc ?_ (by first | omega | (simp; done) | (simp; omega)) _) | (with_reducible refine Below.drew ?_) | (with_reducible refine below_drewN ?_ _) | (with_reducible refine Below.trans ?_ (Below.mono (by assumption) (by first | omega | (simp; done) | (simp; omega))))))

set_option maxRecDepth 100000 in
set_option maxHeartbeats 4000000 in
theorem phaseSteps_err (W H : Int) (ao : Option Addr) (n c : Nat) (bo : Option Addr) (m d : Nat) (ro : Option Addr) (len rc : Nat) (so : Option Addr) (len2 sc : Nat) (t : Int) (z : Int) (w : World) (hT : Ends w) (hn : n ≤ 1200) (hm : m ≤ 1200) (hl : len ≤ 20) (hl2 : len2 ≤ 20) (hz : z ≠ 0) (C : ∀ wx, Below w.heap.size w wx → Calls Tryz.prog 19 #[.agg #[.int .i64 W, .int .i64 H, .slice (ao) n c, .slice (bo) m d], .slice ro len rc, .slice so len2 sc, .int .i64 t, .int .i64 1] wx fun e w' => e = .returned (.int .i64 z) ∧ Below wx.heap.size wx w')
    (D : ∀ wx, Below w.heap.size w wx → Calls Tryz.prog 24 #[.agg #[.int .i64 W, .int .i64 H, .slice (ao) n c, .slice (bo) m d], .slice ro len rc, .slice so len2 sc, .int .i64 t, .int .i64 1] wx fun e w' => e = .returned (.int .i64 z) ∧ Below wx.heap.size wx w') :
    Calls Tryz.prog 3 #[.agg #[.int .i64 W, .int .i64 H, .slice (ao) n c, .slice (bo) m d], .agg #[.slice (ro) len rc, .slice (so) len2 sc], .int .i64 t] w fun e w' => e = .returned (.bool true) ∧ Below w.heap.size w w' := by
  have HC := Lib.hid (fun wx (hb : Below w.heap.size w wx) => mStep_err W H ao n c bo m d ro len rc so len2 sc t z wx hz (fun wy hy => C wy (hb.trans (hy.mono hb.size))))
  have HD := Lib.hid (fun wx (hb : Below w.heap.size w wx) => rStepM_err W H ao n c bo m d ro len rc so len2 sc t z wx hz (fun wy hy => D wy (hb.trans (hy.mono hb.size))))
  have HE := Lib.hid (fun wx (hb : Below w.heap.size w wx) => mBack_err W H ao n c bo m d ro len rc so len2 sc t z wx hz (fun wy hy => C wy (hb.trans (hy.mono hb.size))))
  have HF := Lib.hid (fun wx (hb : Below w.heap.size w wx) => rBackM_err W H ao n c bo m d ro len rc so len2 sc t z wx hz (fun wy hy => D wy (hb.trans (hy.mono hb.size))))
  have HT := Lib.hid hT
  have ez : (z != z) = false := by simp
  have ez2 : (z == z) = true := by simp
  clear hz C D hT
  go_enter Tryz.func3, Tryz.ntmps3
  go_wp2_with (first | (go_at_call 5; (with_reducible refine (small4_yes W H ao n c bo m d 1200 _ (by omega) (by omega) (by omega) (by omega)).mono ?_); rintro e w1 ⟨rfl, hb⟩; obtain ⟨hc, hf, hz⟩ := bcall hb; (try simp at hc hf hz)) | (go_at_call 6; (with_reducible refine (few_yes ro len rc so len2 sc _ hl hl2).mono ?_); rintro e w1 ⟨rfl, hb⟩; obtain ⟨hc, hf, hz⟩ := bcall hb; (try simp at hc hf hz)))
  (go_at_call 8; (with_reducible refine (HC.out _ (by (repeat' (first | (with_reducible exact Below.refl _ _) | (with_reducible refine Below.setCell ?_ (by first | omega | (simp; done) | (simp; omega)) _) | (with_reducible refine Below.alloc ?_ (by first | omega | (simp; done) | (simp; omega)) _) | (with_reducible refine Below.drew ?_) | (with_reducible refine below_drewN ?_ _) | (with_reducible refine Below.trans ?_ (Below.mono (by assumption) (by first | omega | (simp; done) | (simp; omega)))))))).mono ?_); rintro e w1 ⟨rfl, hb⟩; obtain ⟨hc, hf, hz⟩ := bcall hb; (try simp at hc hf hz))
  go_wp2_with fail
  (go_at_call 9; (with_reducible refine (HD.out _ (by (repeat' (first | (with_reducible exact Below.refl _ _) | (with_reducible refine Below.setCell ?_ (by first | omega | (simp; done) | (simp; omega)) _) | (with_reducible refine Below.alloc ?_ (by first | omega | (simp; done) | (simp; omega)) _) | (with_reducible refine Below.drew ?_) | (with_reducible refine below_drewN ?_ _) | (with_reducible refine Below.trans ?_ (Below.mono (by assumption) (by first | omega | (simp; done) | (simp; omega)))))))).mono ?_); rintro e w1 ⟨rfl, hb⟩; obtain ⟨hc, hf, hz⟩ := bcall hb; (try simp at hc hf hz))
  go_wp2_with fail
  (go_at_call 10; (with_reducible refine (mEqual_yes 0 0 0 none none none none 0 0 0 0 ((fun _ _ => 0), (fun _ _ => 0)) ((fun _ _ => 0), (fun _ _ => 0)) _ (by omega) (cellsIn_none _ _) (cellsIn_none _ _) (cellsIn_none _ _) (cellsIn_none _ _) (EqM.refl _ _)).mono ?_); rintro e w1 ⟨rfl, hb⟩; obtain ⟨hc, hf, hz⟩ := bcall hb; (try simp at hc hf hz))
  go_wp2_with fail
  (go_at_call 11; (with_reducible refine (HE.out _ (by (repeat' (first | (with_reducible exact Below.refl _ _) | (with_reducible refine Below.setCell ?_ (by first | omega | (simp; done) | (simp; omega)) _) | (with_reducible refine Below.alloc ?_ (by first | omega | (simp; done) | (simp; omega)) _) | (with_reducible refine Below.drew ?_) | (with_reducible refine below_drewN ?_ _) | (with_reducible refine Below.trans ?_ (Below.mono (by assumption) (by first | omega | (simp; done) | (simp; omega)))))))).mono ?_); rintro e w1 ⟨rfl, hb⟩; obtain ⟨hc, hf, hz⟩ := bcall hb; (try simp at hc hf hz))
  go_wp2_with fail
  (go_at_call 12; (with_reducible refine (HF.out _ (by (repeat' (first | (with_reducible exact Below.refl _ _) | (with_reducible refine Below.setCell ?_ (by first | omega | (simp; done) | (simp; omega)) _) | (with_reducible refine Below.alloc ?_ (by first | omega | (simp; done) | (simp; omega)) _) | (with_reducible refine Below.drew ?_) | (with_reducible refine below_drewN ?_ _) | (with_reducible refine Below.trans ?_ (Below.mono (by assumption) (by first | omega | (simp; done) | (simp; omega)))))))).mono ?_); rintro e w1 ⟨rfl, hb⟩; obtain ⟨hc, hf, hz⟩ := bcall hb; (try simp at hc hf hz))
  go_wp2_with fail
  (go_at_call 10; (with_reducible refine (mEqual_yes 0 0 0 none none none none 0 0 0 0 ((fun _ _ => 0), (fun _ _ => 0)) ((fun _ _ => 0), (fun _ _ => 0)) _ (by omega) (cellsIn_none _ _) (cellsIn_none _ _) (cellsIn_none _ _) (cellsIn_none _ _) (EqM.refl _ _)).mono ?_); rintro e w1 ⟨rfl, hb⟩; obtain ⟨hc, hf, hz⟩ := bcall hb; (try simp at hc hf hz))
  go_wp2_with (go_at_call 7; (with_reducible refine (awake4_any _ (HT.out.below (by (repeat' (first | (with_reducible exact Below.refl _ _) | (with_reducible refine Below.setCell ?_ (by first | omega | (simp; done) | (simp; omega)) _) | (with_reducible refine Below.alloc ?_ (by first | omega | (simp; done) | (simp; omega)) _) | (with_reducible refine Below.drew ?_) | (with_reducible refine below_drewN ?_ _) | (with_reducible refine Below.trans ?_ (Below.mono (by assumption) (by first | omega | (simp; done) | (simp; omega))))))))).mono ?_); rintro e w1 ⟨rfl, hb⟩; obtain ⟨hc, hf, hz⟩ := bcall hb; (try simp at hc hf hz))
  go_ret
  refine ⟨by simp, ?_⟩
  (repeat' (first | (with_reducible exact Below.refl _ _) | (with_reducible refine Below.setCell ?_ (by first | omega | (simp; done) | (simp; omega)) _) | (with_reducible refine Below.alloc ?_ (by first | omega | (simp; done) | (simp; omega)) _) | (with_reducible refine Below.drew ?_) | (with_reducible refine below_drewN ?_ _) | (with_reducible refine Below.trans ?_ (Below.mono (by assumption) (by first | omega | (simp; done) | (simp; omega))))))

set_option maxRecDepth 100000 in
set_option maxHeartbeats 4000000 in
theorem phaseSteps_out (W H : Int) (ao : Option Addr) (n c : Nat) (bo : Option Addr) (m d : Nat) (ro : Option Addr) (len rc : Nat) (so : Option Addr) (len2 sc : Nat) (t : Int) (w : World) (hT : Ends w) (hn : n ≤ 9223372036854775807) (hm : m ≤ 9223372036854775807) (hl : len ≤ 9223372036854775807) (hl2 : len2 ≤ 9223372036854775807) (h : ¬ ((n ≤ 1200 ∧ m ≤ 1200) ∧ len ≤ 20 ∧ len2 ≤ 20)) :
    Calls Tryz.prog 3 #[.agg #[.int .i64 W, .int .i64 H, .slice (ao) n c, .slice (bo) m d], .agg #[.slice (ro) len rc, .slice (so) len2 sc], .int .i64 t] w fun e w' => e = .returned (.bool true) ∧ Below w.heap.size w w' := by
  have HT := Lib.hid hT
  clear hT
  by_cases h1 : n ≤ 1200 ∧ m ≤ 1200
  · have h2 : ¬ (len ≤ 20 ∧ len2 ≤ 20) := fun x => h ⟨h1, x⟩
    have H2 := Lib.hid h2
    obtain ⟨h3, h4⟩ := h1
    clear h h2
    go_enter Tryz.func3, Tryz.ntmps3
    go_wp2_with (first | (go_at_call 5; (with_reducible refine (small4_yes W H ao n c bo m d 1200 _ (by omega) (by omega) (by omega) (by omega)).mono ?_); rintro e w1 ⟨rfl, hb⟩; obtain ⟨hc, hf, hz⟩ := bcall hb; (try simp at hc hf hz)) | (go_at_call 6; (with_reducible refine (few_no ro len rc so len2 sc _ hl hl2 H2.out).mono ?_); rintro e w1 ⟨rfl, hb⟩; obtain ⟨hc, hf, hz⟩ := bcall hb; (try simp at hc hf hz)) | (go_at_call 7; (with_reducible refine (awake4_any _ (HT.out.below (by (repeat' (first | (with_reducible exact Below.refl _ _) | (with_reducible refine Below.setCell ?_ (by first | omega | (simp; done) | (simp; omega)) _) | (with_reducible refine Below.alloc ?_ (by first | omega | (simp; done) | (simp; omega)) _) | (with_reducible refine Below.drew ?_) | (with_reducible refine below_drewN ?_ _) | (with_reducible refine Below.trans ?_ (Below.mono (by assumption) (by first | omega | (simp; done) | (simp; omega))))))))).mono ?_); rintro e w1 ⟨rfl, hb⟩; obtain ⟨hc, hf, hz⟩ := bcall hb; (try simp at hc hf hz)))
    go_ret
    refine ⟨rfl, ?_⟩
    (repeat' (first | (with_reducible exact Below.refl _ _) | (with_reducible refine Below.setCell ?_ (by first | omega | (simp; done) | (simp; omega)) _) | (with_reducible refine Below.alloc ?_ (by first | omega | (simp; done) | (simp; omega)) _) | (with_reducible refine Below.drew ?_) | (with_reducible refine below_drewN ?_ _) | (with_reducible refine Below.trans ?_ (Below.mono (by assumption) (by first | omega | (simp; done) | (simp; omega))))))
  · have H1 := Lib.hid (show ¬ ((n : Int) ≤ 1200 ∧ (m : Int) ≤ 1200) by omega)
    clear h h1
    go_enter Tryz.func3, Tryz.ntmps3
    go_wp2_with (first | (go_at_call 5; (with_reducible refine (small4_no W H ao n c bo m d 1200 _ hn hm H1.out).mono ?_); rintro e w1 ⟨rfl, hb⟩; obtain ⟨hc, hf, hz⟩ := bcall hb; (try simp at hc hf hz)) | (go_at_call 7; (with_reducible refine (awake4_any _ (HT.out.below (by (repeat' (first | (with_reducible exact Below.refl _ _) | (with_reducible refine Below.setCell ?_ (by first | omega | (simp; done) | (simp; omega)) _) | (with_reducible refine Below.alloc ?_ (by first | omega | (simp; done) | (simp; omega)) _) | (with_reducible refine Below.drew ?_) | (with_reducible refine below_drewN ?_ _) | (with_reducible refine Below.trans ?_ (Below.mono (by assumption) (by first | omega | (simp; done) | (simp; omega))))))))).mono ?_); rintro e w1 ⟨rfl, hb⟩; obtain ⟨hc, hf, hz⟩ := bcall hb; (try simp at hc hf hz)))
    go_ret
    refine ⟨rfl, ?_⟩
    (repeat' (first | (with_reducible exact Below.refl _ _) | (with_reducible refine Below.setCell ?_ (by first | omega | (simp; done) | (simp; omega)) _) | (with_reducible refine Below.alloc ?_ (by first | omega | (simp; done) | (simp; omega)) _) | (with_reducible refine Below.drew ?_) | (with_reducible refine below_drewN ?_ _) | (with_reducible refine Below.trans ?_ (Below.mono (by assumption) (by first | omega | (simp; done) | (simp; omega))))))

theorem phaseSteps_row (W H : Int) (ao : Option Addr) (n c : Nat) (A : Nat → Nat → Int) (bo : Option Addr) (m d : Nat) (B : Nat → Nat → Int) (ro : Option Addr) (len rc : Nat) (R : Nat → Int × Int) (so : Option Addr) (len2 sc : Nat) (S : Nat → Int × Int) (t : Int) (w : World) (hT : Ends w) (_ : Wf W) (_ : Wf H) (hn : n ≤ c) (hc : c ≤ maxLen) (hA : CellsIn w ao n A) (hm : m ≤ d) (hd : d ≤ maxLen) (hB : CellsIn w bo m B) (hl : len ≤ rc) (hrc : rc ≤ maxLen) (hR : RulesIn w ro len R) (hl2 : len2 ≤ sc) (hsc : sc ≤ maxLen) (hS : RulesIn w so len2 S) (_ : Wf t) :
    Calls Tryz.prog 3 #[.agg #[.int .i64 W, .int .i64 H, .slice (ao) n c, .slice (bo) m d], .agg #[.slice (ro) len rc, .slice (so) len2 sc], .int .i64 t] w fun e w' => e = .returned (.bool true) ∧ Below w.heap.size w w' := by
  unfold maxLen at hc hd hrc hsc
  by_cases hs : (n ≤ 1200 ∧ m ≤ 1200) ∧ len ≤ 20 ∧ len2 ≤ 20
  · obtain ⟨⟨h1, h2⟩, h3, h4⟩ := hs
    by_cases hk : MOk W H n (A, B) m len R len2 S
    · by_cases hr : 0 ≤ t ∧ t ≤ 1000000
      · obtain rfl := hk.1.1.len
        exact phaseSteps_ok W H ao m c (A, B) bo d ro len rc R so len2 sc S t w hT h1 h3 h4 hk hA hB hR hS hr
      · have hno : ¬ RunOk t 1 := by unfold RunOk; omega
        exact phaseSteps_err W H ao n c bo m d ro len rc so len2 sc t 7 w hT h1 h2 h3 h4 (by decide) (fun wx hb => checkM_range W H ao n c (A, B) bo m d ro len rc R so len2 sc S t 1 wx hk (hA.below hb) (hB.below hb) (hR.below hb) (hS.below hb) hno) (fun wx hb => runErrM W H ao n c (A, B) bo m d ro len rc R so len2 sc S t 1 7 wx (by omega) (by omega) (.inr (.inr ⟨rfl, hk, hno⟩)) (hA.below hb) (hB.below hb) (hR.below hb) (hS.below hb))
    · exact phaseSteps_err W H ao n c bo m d ro len rc so len2 sc t 1 w hT h1 h2 h3 h4 (by decide) (fun wx hb => checkM_inv W H ao n c (A, B) bo m d ro len rc R so len2 sc S t 1 wx (by omega) (by omega) (by omega) hk (hA.below hb) (hB.below hb) (hR.below hb) (hS.below hb)) (fun wx hb => runErrM W H ao n c (A, B) bo m d ro len rc R so len2 sc S t 1 1 wx (by omega) (by omega) (.inr (.inl ⟨rfl, hk⟩)) (hA.below hb) (hB.below hb) (hR.below hb) (hS.below hb))
  · exact phaseSteps_out W H ao n c bo m d ro len rc so len2 sc t w hT (by omega) (by omega) (by omega) (by omega) hs
end Go.Proofs.YtmkhbkkhoemkoaaGreatDoor
