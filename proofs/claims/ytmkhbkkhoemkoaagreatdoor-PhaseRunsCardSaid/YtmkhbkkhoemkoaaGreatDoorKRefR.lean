/- Runs of mixes and their undoing: by the reference. -/
import Derived.Test.YtmkhbkkhoemkoaaGreatDoorKRefB
import Derived.Test.YtmkhbkkhoemkoaaGreatDoorKRefG6
import Derived.Test.YtmkhbkkhoemkoaaGreatDoorKMixRun
import Derived.Test.YtmkhbkkhoemkoaaGreatDoorKLaw4
namespace Go.Proofs.YtmkhbkkhoemkoaaGreatDoor
set_option linter.unusedSimpArgs false
set_option linter.unusedVariables false
open Go.RowKit

theorem Four.set4 {w : World} {B : Nat} {t : TypeId} {x y z v v0 v1 v2 v3 : Value} (h : Four w B t x y z v) : Four ((((w.setCell ⟨B, 0, none⟩ v0).setCell ⟨B, 1, none⟩ v1).setCell ⟨B, 2, none⟩ v2).setCell ⟨B, 3, none⟩ v3) B t v0 v1 v2 v3 := by
  unfold Four at *
  simp only [World.setCell, Array.getElem?_modify, ↓reduceIte, h, Option.map_some]
  rfl
theorem rstepM (W H n a oa ca b ob cb : Nat) (P : MG) (k y k' y' : Int) (w : World) (s : Sides W H n) (hP : OkM n P) (hr : OkR k y) (hs : OkR k' y') (LA : a < w.heap.size) (LB : b < w.heap.size) (hA : Grd w a oa n P.1) (hB : Grd w b ob n P.2) :
    Calls Tryz.prog 26 #[.agg #[.int .i64 W, .int .i64 H, .slice (some ⟨a, oa, none⟩) n ca, .slice (some ⟨b, ob, none⟩) n cb], .agg #[.int .i64 k, .int .i64 y], .agg #[.int .i64 k', .int .i64 y']] w (OwnM W H n (fwdM W H k y k' y' P).1 (fwdM W H k y k' y' P).2 w) :=
  rstep4 W H n a oa ca b ob cb P (colM k y P) (xM 0 k' y' (colM k y P)) (xM 1 k' y' (xM 0 k' y' (colM k y P))) k y k' y' w s hP hr hs rfl rfl rfl LA LB hA hB
theorem rbackM (W H n a oa ca b ob cb : Nat) (P : MG) (k y k' y' : Int) (w : World) (s : Sides W H n) (hP : OkM n P) (hr : OkR k y) (hs : OkR k' y') (LA : a < w.heap.size) (LB : b < w.heap.size) (hA : Grd w a oa n P.1) (hB : Grd w b ob n P.2) :
    Calls Tryz.prog 29 #[.agg #[.int .i64 W, .int .i64 H, .slice (some ⟨a, oa, none⟩) n ca, .slice (some ⟨b, ob, none⟩) n cb], .agg #[.int .i64 k, .int .i64 y], .agg #[.int .i64 k', .int .i64 y']] w (OwnM W H n (bwdM W H k y k' y' P).1 (bwdM W H k y k' y' P).2 w) :=
  rback4 W H n a oa ca b ob cb P (pullM W H (-1) P) (xM 1 k' (-y') (pullM W H (-1) P)) (xM 0 k' (-y') (xM 1 k' (-y') (pullM W H (-1) P))) (colM k (-y) (xM 0 k' (-y') (xM 1 k' (-y') (pullM W H (-1) P)))) k y k' y' (-y) (-y') w s hP hr hs rfl rfl rfl rfl rfl rfl LA LB hA hB

section
variable (W H : Int) (ao : Option Addr) (n c : Nat) (P : MG) (bo : Option Addr) (m d : Nat) (ro : Option Addr) (len rc : Nat) (R : Nat → Int × Int) (so : Option Addr) (len2 sc : Nat) (S : Nat → Int × Int) (t k z : Int) (w : World)
/-- The code of a run. -/
def RCode : Prop := (z = 0 ∧ MOk W H n P m len R len2 S ∧ RunOk t k) ∨ (z = 1 ∧ ¬ MOk W H n P m len R len2 S) ∨ (z = 7 ∧ MOk W H n P m len R len2 S ∧ ¬ RunOk t k)
set_option maxHeartbeats 4000000 in
theorem runErrM (hm1 : len ≤ 1000000000000) (hm2 : len2 ≤ 1000000000000) (h : RCode W H n P m len R len2 S t k z) (hA : CellsIn w ao n P.1) (hB : CellsIn w bo m P.2) (hR : RulesIn w ro len R) (hS : RulesIn w so len2 S) :
    Calls Tryz.prog 24 #[.agg #[.int .i64 W, .int .i64 H, .slice (ao) n c, .slice (bo) m d], .slice ro len rc, .slice so len2 sc, .int .i64 t, .int .i64 k] w fun e w' => e = .returned (.int .i64 z) ∧ Below w.heap.size w w' := by
  have HA := Lib.hid hA; clear hA
  have HB := Lib.hid hB; clear hB
  have HR := Lib.hid hR; clear hR
  have HS := Lib.hid hS; clear hS
  by_cases hv : VM W H n P.1 m P.2
  · by_cases hk : OkRs len R
    · by_cases hk2 : OkRs len2 S
      · have HV := Lib.hid hv
        have HK := Lib.hid hk
        have HL := Lib.hid hk2
        by_cases hr : RunOk t k
        · obtain rfl : z = 0 := by
            rcases h with h | h | h
            · exact h.1
            · exact absurd ⟨⟨hv, hk⟩, hk2⟩ h.2
            · exact absurd hr h.2.2
          have HN := Lib.hid hr
          clear h hv hk hk2 hr
          go_enter Tryz.func24, Tryz.ntmps24
          go_wp2_with (first | (go_at_call 44; (with_reducible refine (rmValid_ok W H ao n c P.1 bo m d P.2 _ HV.out (HA.out.below (by (repeat' (first | (with_reducible exact Below.refl _ _) | (with_reducible refine Below.setCell ?_ (by first | omega | (simp; done) | (simp; omega)) _) | (with_reducible refine Below.alloc ?_ (by first | omega | (simp; done) | (simp; omega)) _) | (with_reducible refine Below.drew ?_) | (with_reducible refine below_drewN ?_ _) | (with_reducible refine Below.trans ?_ (Below.mono (by assumption) (by first | omega | (simp; done) | (simp; omega)))))))) (HB.out.below (by (repeat' (first | (with_reducible exact Below.refl _ _) | (with_reducible refine Below.setCell ?_ (by first | omega | (simp; done) | (simp; omega)) _) | (with_reducible refine Below.alloc ?_ (by first | omega | (simp; done) | (simp; omega)) _) | (with_reducible refine Below.drew ?_) | (with_reducible refine below_drewN ?_ _) | (with_reducible refine Below.trans ?_ (Below.mono (by assumption) (by first | omega | (simp; done) | (simp; omega))))))))).mono ?_); rintro e w1 ⟨rfl, hb⟩; obtain ⟨hc, hf, hz⟩ := bcall hb; (try simp at hc hf hz)) | (go_at_call 45; (with_reducible refine (refValidRulesI_ok ro len rc R _ (HR.out.below (by (repeat' (first | (with_reducible exact Below.refl _ _) | (with_reducible refine Below.setCell ?_ (by first | omega | (simp; done) | (simp; omega)) _) | (with_reducible refine Below.alloc ?_ (by first | omega | (simp; done) | (simp; omega)) _) | (with_reducible refine Below.drew ?_) | (with_reducible refine below_drewN ?_ _) | (with_reducible refine Below.trans ?_ (Below.mono (by assumption) (by first | omega | (simp; done) | (simp; omega)))))))) HK.out).mono ?_); rintro e w1 ⟨rfl, hb⟩; obtain ⟨hc, hf, hz⟩ := bcall hb; (try simp at hc hf hz)) | (go_at_call 45; (with_reducible refine (refValidRulesI_ok so len2 sc S _ (HS.out.below (by (repeat' (first | (with_reducible exact Below.refl _ _) | (with_reducible refine Below.setCell ?_ (by first | omega | (simp; done) | (simp; omega)) _) | (with_reducible refine Below.alloc ?_ (by first | omega | (simp; done) | (simp; omega)) _) | (with_reducible refine Below.drew ?_) | (with_reducible refine below_drewN ?_ _) | (with_reducible refine Below.trans ?_ (Below.mono (by assumption) (by first | omega | (simp; done) | (simp; omega)))))))) HL.out).mono ?_); rintro e w1 ⟨rfl, hb⟩; obtain ⟨hc, hf, hz⟩ := bcall hb; (try simp at hc hf hz)) | (go_at_call 46; (with_reducible refine (times_yes _ _ _ HN.out).mono ?_); rintro e w1 ⟨rfl, rfl⟩))
          go_ret
          refine ⟨rfl, ?_⟩
          (repeat' (first | (with_reducible exact Below.refl _ _) | (with_reducible refine Below.setCell ?_ (by first | omega | (simp; done) | (simp; omega)) _) | (with_reducible refine Below.alloc ?_ (by first | omega | (simp; done) | (simp; omega)) _) | (with_reducible refine Below.drew ?_) | (with_reducible refine below_drewN ?_ _) | (with_reducible refine Below.trans ?_ (Below.mono (by assumption) (by first | omega | (simp; done) | (simp; omega))))))
        · obtain rfl : z = 7 := by
            rcases h with h | h | h
            · exact absurd h.2.2 hr
            · exact absurd ⟨⟨hv, hk⟩, hk2⟩ h.2
            · exact h.1
          have HN := Lib.hid hr
          clear h hv hk hk2 hr
          go_enter Tryz.func24, Tryz.ntmps24
          go_wp2_with (first | (go_at_call 44; (with_reducible refine (rmValid_ok W H ao n c P.1 bo m d P.2 _ HV.out (HA.out.below (by (repeat' (first | (with_reducible exact Below.refl _ _) | (with_reducible refine Below.setCell ?_ (by first | omega | (simp; done) | (simp; omega)) _) | (with_reducible refine Below.alloc ?_ (by first | omega | (simp; done) | (simp; omega)) _) | (with_reducible refine Below.drew ?_) | (with_reducible refine below_drewN ?_ _) | (with_reducible refine Below.trans ?_ (Below.mono (by assumption) (by first | omega | (simp; done) | (simp; omega)))))))) (HB.out.below (by (repeat' (first | (with_reducible exact Below.refl _ _) | (with_reducible refine Below.setCell ?_ (by first | omega | (simp; done) | (simp; omega)) _) | (with_reducible refine Below.alloc ?_ (by first | omega | (simp; done) | (simp; omega)) _) | (with_reducible refine Below.drew ?_) | (with_reducible refine below_drewN ?_ _) | (with_reducible refine Below.trans ?_ (Below.mono (by assumption) (by first | omega | (simp; done) | (simp; omega))))))))).mono ?_); rintro e w1 ⟨rfl, hb⟩; obtain ⟨hc, hf, hz⟩ := bcall hb; (try simp at hc hf hz)) | (go_at_call 45; (with_reducible refine (refValidRulesI_ok ro len rc R _ (HR.out.below (by (repeat' (first | (with_reducible exact Below.refl _ _) | (with_reducible refine Below.setCell ?_ (by first | omega | (simp; done) | (simp; omega)) _) | (with_reducible refine Below.alloc ?_ (by first | omega | (simp; done) | (simp; omega)) _) | (with_reducible refine Below.drew ?_) | (with_reducible refine below_drewN ?_ _) | (with_reducible refine Below.trans ?_ (Below.mono (by assumption) (by first | omega | (simp; done) | (simp; omega)))))))) HK.out).mono ?_); rintro e w1 ⟨rfl, hb⟩; obtain ⟨hc, hf, hz⟩ := bcall hb; (try simp at hc hf hz)) | (go_at_call 45; (with_reducible refine (refValidRulesI_ok so len2 sc S _ (HS.out.below (by (repeat' (first | (with_reducible exact Below.refl _ _) | (with_reducible refine Below.setCell ?_ (by first | omega | (simp; done) | (simp; omega)) _) | (with_reducible refine Below.alloc ?_ (by first | omega | (simp; done) | (simp; omega)) _) | (with_reducible refine Below.drew ?_) | (with_reducible refine below_drewN ?_ _) | (with_reducible refine Below.trans ?_ (Below.mono (by assumption) (by first | omega | (simp; done) | (simp; omega)))))))) HL.out).mono ?_); rintro e w1 ⟨rfl, hb⟩; obtain ⟨hc, hf, hz⟩ := bcall hb; (try simp at hc hf hz)) | (go_at_call 46; (with_reducible refine (times_no _ _ _ HN.out).mono ?_); rintro e w1 ⟨rfl, rfl⟩))
          go_ret
          refine ⟨rfl, ?_⟩
          (repeat' (first | (with_reducible exact Below.refl _ _) | (with_reducible refine Below.setCell ?_ (by first | omega | (simp; done) | (simp; omega)) _) | (with_reducible refine Below.alloc ?_ (by first | omega | (simp; done) | (simp; omega)) _) | (with_reducible refine Below.drew ?_) | (with_reducible refine below_drewN ?_ _) | (with_reducible refine Below.trans ?_ (Below.mono (by assumption) (by first | omega | (simp; done) | (simp; omega))))))
      · obtain rfl : z = 1 := by
          rcases h with h | h | h
          · exact absurd h.2.1.2 hk2
          · exact h.1
          · exact absurd h.2.1.2 hk2
        have HV := Lib.hid hv
        have HK := Lib.hid hk
        have HL := Lib.hid hk2
        clear h hv hk hk2
        go_enter Tryz.func24, Tryz.ntmps24
        go_wp2_with (first | (go_at_call 44; (with_reducible refine (rmValid_ok W H ao n c P.1 bo m d P.2 _ HV.out (HA.out.below (by (repeat' (first | (with_reducible exact Below.refl _ _) | (with_reducible refine Below.setCell ?_ (by first | omega | (simp; done) | (simp; omega)) _) | (with_reducible refine Below.alloc ?_ (by first | omega | (simp; done) | (simp; omega)) _) | (with_reducible refine Below.drew ?_) | (with_reducible refine below_drewN ?_ _) | (with_reducible refine Below.trans ?_ (Below.mono (by assumption) (by first | omega | (simp; done) | (simp; omega)))))))) (HB.out.below (by (repeat' (first | (with_reducible exact Below.refl _ _) | (with_reducible refine Below.setCell ?_ (by first | omega | (simp; done) | (simp; omega)) _) | (with_reducible refine Below.alloc ?_ (by first | omega | (simp; done) | (simp; omega)) _) | (with_reducible refine Below.drew ?_) | (with_reducible refine below_drewN ?_ _) | (with_reducible refine Below.trans ?_ (Below.mono (by assumption) (by first | omega | (simp; done) | (simp; omega))))))))).mono ?_); rintro e w1 ⟨rfl, hb⟩; obtain ⟨hc, hf, hz⟩ := bcall hb; (try simp at hc hf hz)) | (go_at_call 45; (with_reducible refine (refValidRulesI_ok ro len rc R _ (HR.out.below (by (repeat' (first | (with_reducible exact Below.refl _ _) | (with_reducible refine Below.setCell ?_ (by first | omega | (simp; done) | (simp; omega)) _) | (with_reducible refine Below.alloc ?_ (by first | omega | (simp; done) | (simp; omega)) _) | (with_reducible refine Below.drew ?_) | (with_reducible refine below_drewN ?_ _) | (with_reducible refine Below.trans ?_ (Below.mono (by assumption) (by first | omega | (simp; done) | (simp; omega)))))))) HK.out).mono ?_); rintro e w1 ⟨rfl, hb⟩; obtain ⟨hc, hf, hz⟩ := bcall hb; (try simp at hc hf hz)) | (go_at_call 45; (with_reducible refine (refValidRules_bad so len2 sc S _ hm2 (HS.out.below (by (repeat' (first | (with_reducible exact Below.refl _ _) | (with_reducible refine Below.setCell ?_ (by first | omega | (simp; done) | (simp; omega)) _) | (with_reducible refine Below.alloc ?_ (by first | omega | (simp; done) | (simp; omega)) _) | (with_reducible refine Below.drew ?_) | (with_reducible refine below_drewN ?_ _) | (with_reducible refine Below.trans ?_ (Below.mono (by assumption) (by first | omega | (simp; done) | (simp; omega)))))))) HL.out).mono ?_); rintro e w1 ⟨rfl, hb⟩; obtain ⟨hc, hf, hz⟩ := bcall hb; (try simp at hc hf hz)))
        go_ret
        refine ⟨rfl, ?_⟩
        (repeat' (first | (with_reducible exact Below.refl _ _) | (with_reducible refine Below.setCell ?_ (by first | omega | (simp; done) | (simp; omega)) _) | (with_reducible refine Below.alloc ?_ (by first | omega | (simp; done) | (simp; omega)) _) | (with_reducible refine Below.drew ?_) | (with_reducible refine below_drewN ?_ _) | (with_reducible refine Below.trans ?_ (Below.mono (by assumption) (by first | omega | (simp; done) | (simp; omega))))))
    · obtain rfl : z = 1 := by
        rcases h with h | h | h
        · exact absurd h.2.1.1.2 hk
        · exact h.1
        · exact absurd h.2.1.1.2 hk
      have HV := Lib.hid hv
      have HK := Lib.hid hk
      clear h hv hk
      go_enter Tryz.func24, Tryz.ntmps24
      go_wp2_with (first | (go_at_call 44; (with_reducible refine (rmValid_ok W H ao n c P.1 bo m d P.2 _ HV.out (HA.out.below (by (repeat' (first | (with_reducible exact Below.refl _ _) | (with_reducible refine Below.setCell ?_ (by first | omega | (simp; done) | (simp; omega)) _) | (with_reducible refine Below.alloc ?_ (by first | omega | (simp; done) | (simp; omega)) _) | (with_reducible refine Below.drew ?_) | (with_reducible refine below_drewN ?_ _) | (with_reducible refine Below.trans ?_ (Below.mono (by assumption) (by first | omega | (simp; done) | (simp; omega)))))))) (HB.out.below (by (repeat' (first | (with_reducible exact Below.refl _ _) | (with_reducible refine Below.setCell ?_ (by first | omega | (simp; done) | (simp; omega)) _) | (with_reducible refine Below.alloc ?_ (by first | omega | (simp; done) | (simp; omega)) _) | (with_reducible refine Below.drew ?_) | (with_reducible refine below_drewN ?_ _) | (with_reducible refine Below.trans ?_ (Below.mono (by assumption) (by first | omega | (simp; done) | (simp; omega))))))))).mono ?_); rintro e w1 ⟨rfl, hb⟩; obtain ⟨hc, hf, hz⟩ := bcall hb; (try simp at hc hf hz)) | (go_at_call 45; (with_reducible refine (refValidRules_bad ro len rc R _ hm1 (HR.out.below (by (repeat' (first | (with_reducible exact Below.refl _ _) | (with_reducible refine Below.setCell ?_ (by first | omega | (simp; done) | (simp; omega)) _) | (with_reducible refine Below.alloc ?_ (by first | omega | (simp; done) | (simp; omega)) _) | (with_reducible refine Below.drew ?_) | (with_reducible refine below_drewN ?_ _) | (with_reducible refine Below.trans ?_ (Below.mono (by assumption) (by first | omega | (simp; done) | (simp; omega)))))))) HK.out).mono ?_); rintro e w1 ⟨rfl, hb⟩; obtain ⟨hc, hf, hz⟩ := bcall hb; (try simp at hc hf hz)))
      go_ret
      refine ⟨rfl, ?_⟩
      (repeat' (first | (with_reducible exact Below.refl _ _) | (with_reducible refine Below.setCell ?_ (by first | omega | (simp; done) | (simp; omega)) _) | (with_reducible refine Below.alloc ?_ (by first | omega | (simp; done) | (simp; omega)) _) | (with_reducible refine Below.drew ?_) | (with_reducible refine below_drewN ?_ _) | (with_reducible refine Below.trans ?_ (Below.mono (by assumption) (by first | omega | (simp; done) | (simp; omega))))))
  · obtain rfl : z = 1 := by
      rcases h with h | h | h
      · exact absurd h.2.1.1.1 hv
      · exact h.1
      · exact absurd h.2.1.1.1 hv
    have HV := Lib.hid hv
    clear h hv
    go_enter Tryz.func24, Tryz.ntmps24
    go_wp2_with (go_at_call 44; (with_reducible refine (rmValid_bad W H ao n c P.1 bo m d P.2 _ HV.out (HA.out.below (by (repeat' (first | (with_reducible exact Below.refl _ _) | (with_reducible refine Below.setCell ?_ (by first | omega | (simp; done) | (simp; omega)) _) | (with_reducible refine Below.alloc ?_ (by first | omega | (simp; done) | (simp; omega)) _) | (with_reducible refine Below.drew ?_) | (with_reducible refine below_drewN ?_ _) | (with_reducible refine Below.trans ?_ (Below.mono (by assumption) (by first | omega | (simp; done) | (simp; omega)))))))) (HB.out.below (by (repeat' (first | (with_reducible exact Below.refl _ _) | (with_reducible refine Below.setCell ?_ (by first | omega | (simp; done) | (simp; omega)) _) | (with_reducible refine Below.alloc ?_ (by first | omega | (simp; done) | (simp; omega)) _) | (with_reducible refine Below.drew ?_) | (with_reducible refine below_drewN ?_ _) | (with_reducible refine Below.trans ?_ (Below.mono (by assumption) (by first | omega | (simp; done) | (simp; omega))))))))).mono ?_); rintro e w1 ⟨rfl, hb⟩; obtain ⟨hc, hf, hz⟩ := bcall hb; (try simp at hc hf hz))
    go_ret
    refine ⟨rfl, ?_⟩
    (repeat' (first | (with_reducible exact Below.refl _ _) | (with_reducible refine Below.setCell ?_ (by first | omega | (simp; done) | (simp; omega)) _) | (with_reducible refine Below.alloc ?_ (by first | omega | (simp; done) | (simp; omega)) _) | (with_reducible refine Below.drew ?_) | (with_reducible refine below_drewN ?_ _) | (with_reducible refine Below.trans ?_ (Below.mono (by assumption) (by first | omega | (simp; done) | (simp; omega))))))
set_option maxHeartbeats 1000000 in
theorem rRunM_err (hz : z ≠ 0) (C : ∀ wx, Below w.heap.size w wx → Calls Tryz.prog 24 #[.agg #[.int .i64 W, .int .i64 H, .slice (ao) n c, .slice (bo) m d], .slice ro len rc, .slice so len2 sc, .int .i64 t, .int .i64 k] wx fun e w' => e = .returned (.int .i64 z) ∧ Below wx.heap.size wx w') :
    Calls Tryz.prog 14 #[.agg #[.int .i64 W, .int .i64 H, .slice (ao) n c, .slice (bo) m d], .slice ro len rc, .slice so len2 sc, .int .i64 t, .int .i64 k] w fun e w' => e = .returned (.tuple #[.agg #[.int .i64 0, .int .i64 0, .slice (none) 0 0, .slice (none) 0 0], .int .i64 z]) ∧ Below w.heap.size w w' := by
  have HC := Lib.hid C; clear C
  have e0 : (z == 0) = false := beq_eq_false_iff_ne.2 hz
  have e1 : (z != 0) = true := by simp [bne, e0]
  clear hz
  go_enter Tryz.func14, Tryz.ntmps14
  go_wp2_with (go_at_call 24; (with_reducible refine (HC.out _ (by (repeat' (first | (with_reducible exact Below.refl _ _) | (with_reducible refine Below.setCell ?_ (by first | omega | (simp; done) | (simp; omega)) _) | (with_reducible refine Below.alloc ?_ (by first | omega | (simp; done) | (simp; omega)) _) | (with_reducible refine Below.drew ?_) | (with_reducible refine below_drewN ?_ _) | (with_reducible refine Below.trans ?_ (Below.mono (by assumption) (by first | omega | (simp; done) | (simp; omega)))))))).mono ?_); rintro e w1 ⟨rfl, hb⟩; obtain ⟨hc, hf, hz⟩ := bcall hb; (try simp at hc hf hz))
  refine bodyPost_ret (v := .tuple #[.agg #[.int .i64 0, .int .i64 0, .slice (none) 0 0, .slice (none) 0 0], .int .i64 z]) (by simp [results, Tryz.results14, go_sem, ↓IntWalk.iteOmega, *]) rfl ⟨rfl, ?_⟩
  (repeat' (first | (with_reducible exact Below.refl _ _) | (with_reducible refine Below.setCell ?_ (by first | omega | (simp; done) | (simp; omega)) _) | (with_reducible refine Below.alloc ?_ (by first | omega | (simp; done) | (simp; omega)) _) | (with_reducible refine Below.drew ?_) | (with_reducible refine below_drewN ?_ _) | (with_reducible refine Below.trans ?_ (Below.mono (by assumption) (by first | omega | (simp; done) | (simp; omega))))))
set_option maxHeartbeats 1000000 in
theorem rUndoM_err (hz : z ≠ 0) (C : ∀ wx, Below w.heap.size w wx → Calls Tryz.prog 24 #[.agg #[.int .i64 W, .int .i64 H, .slice (ao) n c, .slice (bo) m d], .slice ro len rc, .slice so len2 sc, .int .i64 t, .int .i64 k] wx fun e w' => e = .returned (.int .i64 z) ∧ Below wx.heap.size wx w') :
    Calls Tryz.prog 16 #[.agg #[.int .i64 W, .int .i64 H, .slice (ao) n c, .slice (bo) m d], .slice ro len rc, .slice so len2 sc, .int .i64 t, .int .i64 k] w fun e w' => e = .returned (.tuple #[.agg #[.int .i64 0, .int .i64 0, .slice (none) 0 0, .slice (none) 0 0], .int .i64 z]) ∧ Below w.heap.size w w' := by
  have HC := Lib.hid C; clear C
  have e0 : (z == 0) = false := beq_eq_false_iff_ne.2 hz
  have e1 : (z != 0) = true := by simp [bne, e0]
  clear hz
  go_enter Tryz.func16, Tryz.ntmps16
  go_wp2_with (go_at_call 24; (with_reducible refine (HC.out _ (by (repeat' (first | (with_reducible exact Below.refl _ _) | (with_reducible refine Below.setCell ?_ (by first | omega | (simp; done) | (simp; omega)) _) | (with_reducible refine Below.alloc ?_ (by first | omega | (simp; done) | (simp; omega)) _) | (with_reducible refine Below.drew ?_) | (with_reducible refine below_drewN ?_ _) | (with_reducible refine Below.trans ?_ (Below.mono (by assumption) (by first | omega | (simp; done) | (simp; omega)))))))).mono ?_); rintro e w1 ⟨rfl, hb⟩; obtain ⟨hc, hf, hz⟩ := bcall hb; (try simp at hc hf hz))
  refine bodyPost_ret (v := .tuple #[.agg #[.int .i64 0, .int .i64 0, .slice (none) 0 0, .slice (none) 0 0], .int .i64 z]) (by simp [results, Tryz.results16, go_sem, ↓IntWalk.iteOmega, *]) rfl ⟨rfl, ?_⟩
  (repeat' (first | (with_reducible exact Below.refl _ _) | (with_reducible refine Below.setCell ?_ (by first | omega | (simp; done) | (simp; omega)) _) | (with_reducible refine Below.alloc ?_ (by first | omega | (simp; done) | (simp; omega)) _) | (with_reducible refine Below.drew ?_) | (with_reducible refine below_drewN ?_ _) | (with_reducible refine Below.trans ?_ (Below.mono (by assumption) (by first | omega | (simp; done) | (simp; omega))))))
set_option maxHeartbeats 1000000 in
theorem rStepM_err (hz : z ≠ 0) (C : ∀ wx, Below w.heap.size w wx → Calls Tryz.prog 24 #[.agg #[.int .i64 W, .int .i64 H, .slice (ao) n c, .slice (bo) m d], .slice ro len rc, .slice so len2 sc, .int .i64 t, .int .i64 1] wx fun e w' => e = .returned (.int .i64 z) ∧ Below wx.heap.size wx w') :
    Calls Tryz.prog 9 #[.agg #[.int .i64 W, .int .i64 H, .slice (ao) n c, .slice (bo) m d], .slice ro len rc, .slice so len2 sc, .int .i64 t] w fun e w' => e = .returned (.tuple #[.agg #[.int .i64 0, .int .i64 0, .slice (none) 0 0, .slice (none) 0 0], .int .i64 z]) ∧ Below w.heap.size w w' := by
  have HC := Lib.hid (fun wx (hb : Below w.heap.size w wx) => rRunM_err W H ao n c bo m d ro len rc so len2 sc t 1 z wx hz (fun wy hy => C wy (hb.trans (hy.mono hb.size))))
  clear C hz
  go_enter Tryz.func9, Tryz.ntmps9
  go_wp2_with (go_at_call 14; (with_reducible refine (HC.out _ (by (repeat' (first | (with_reducible exact Below.refl _ _) | (with_reducible refine Below.setCell ?_ (by first | omega | (simp; done) | (simp; omega)) _) | (with_reducible refine Below.alloc ?_ (by first | omega | (simp; done) | (simp; omega)) _) | (with_reducible refine Below.drew ?_) | (with_reducible refine below_drewN ?_ _) | (with_reducible refine Below.trans ?_ (Below.mono (by assumption) (by first | omega | (simp; done) | (simp; omega)))))))).mono ?_); rintro e w1 ⟨rfl, hb⟩; obtain ⟨hc, hf, hz⟩ := bcall hb; (try simp at hc hf hz))
  refine bodyPost_ret (v := .tuple #[.agg #[.int .i64 0, .int .i64 0, .slice (none) 0 0, .slice (none) 0 0], .int .i64 z]) (by simp [results, Tryz.results9, go_sem, ↓IntWalk.iteOmega, *]) rfl ⟨rfl, ?_⟩
  (repeat' (first | (with_reducible exact Below.refl _ _) | (with_reducible refine Below.setCell ?_ (by first | omega | (simp; done) | (simp; omega)) _) | (with_reducible refine Below.alloc ?_ (by first | omega | (simp; done) | (simp; omega)) _) | (with_reducible refine Below.drew ?_) | (with_reducible refine below_drewN ?_ _) | (with_reducible refine Below.trans ?_ (Below.mono (by assumption) (by first | omega | (simp; done) | (simp; omega))))))
set_option maxHeartbeats 1000000 in
theorem rBackM_err (hz : z ≠ 0) (C : ∀ wx, Below w.heap.size w wx → Calls Tryz.prog 24 #[.agg #[.int .i64 W, .int .i64 H, .slice (ao) n c, .slice (bo) m d], .slice ro len rc, .slice so len2 sc, .int .i64 t, .int .i64 1] wx fun e w' => e = .returned (.int .i64 z) ∧ Below wx.heap.size wx w') :
    Calls Tryz.prog 12 #[.agg #[.int .i64 W, .int .i64 H, .slice (ao) n c, .slice (bo) m d], .slice ro len rc, .slice so len2 sc, .int .i64 t] w fun e w' => e = .returned (.tuple #[.agg #[.int .i64 0, .int .i64 0, .slice (none) 0 0, .slice (none) 0 0], .int .i64 z]) ∧ Below w.heap.size w w' := by
  have HC := Lib.hid (fun wx (hb : Below w.heap.size w wx) => rUndoM_err W H ao n c bo m d ro len rc so len2 sc t 1 z wx hz (fun wy hy => C wy (hb.trans (hy.mono hb.size))))
  clear C hz
  go_enter Tryz.func12, Tryz.ntmps12
  go_wp2_with (go_at_call 16; (with_reducible refine (HC.out _ (by (repeat' (first | (with_reducible exact Below.refl _ _) | (with_reducible refine Below.setCell ?_ (by first | omega | (simp; done) | (simp; omega)) _) | (with_reducible refine Below.alloc ?_ (by first | omega | (simp; done) | (simp; omega)) _) | (with_reducible refine Below.drew ?_) | (with_reducible refine below_drewN ?_ _) | (with_reducible refine Below.trans ?_ (Below.mono (by assumption) (by first | omega | (simp; done) | (simp; omega)))))))).mono ?_); rintro e w1 ⟨rfl, hb⟩; obtain ⟨hc, hf, hz⟩ := bcall hb; (try simp at hc hf hz))
  refine bodyPost_ret (v := .tuple #[.agg #[.int .i64 0, .int .i64 0, .slice (none) 0 0, .slice (none) 0 0], .int .i64 z]) (by simp [results, Tryz.results12, go_sem, ↓IntWalk.iteOmega, *]) rfl ⟨rfl, ?_⟩
  (repeat' (first | (with_reducible exact Below.refl _ _) | (with_reducible refine Below.setCell ?_ (by first | omega | (simp; done) | (simp; omega)) _) | (with_reducible refine Below.alloc ?_ (by first | omega | (simp; done) | (simp; omega)) _) | (with_reducible refine Below.drew ?_) | (with_reducible refine below_drewN ?_ _) | (with_reducible refine Below.trans ?_ (Below.mono (by assumption) (by first | omega | (simp; done) | (simp; omega))))))
end

/-- Where a run stands. -/
def RunSt (w : World) (W H : Int) (n : Nat) (P : MG) (a ca b cb : Nat) (wr : World) : Prop :=
  Four wr w.heap.size 24 (.int .i64 W) (.int .i64 H) (.slice (some ⟨a, 0, none⟩) n ca) (.slice (some ⟨b, 0, none⟩) n cb) ∧ (Row wr a n P.1 ∧ Row wr b n P.2 ∧ a ≠ b) ∧ Four wr (w.heap.size + 1) 24 (.int .i64 0) (.int .i64 0) (.slice none 0 0) (.slice none 0 0) ∧ Below w.heap.size w wr ∧ w.heap.size + 2 ≤ a ∧ w.heap.size + 2 ≤ b
theorem runSt_round {w wr wp : World} {W H : Int} {n : Nat} {P Q : MG} {a ca b cb a' ca' b' cb' : Nat} {v0 v1 : Int} (h : RunSt w W H n P a ca b cb wr) (hx : Below wr.heap.size wr wp) (r : Row wp a' n Q.1 ∧ Row wp b' n Q.2 ∧ a' ≠ b') (la : wr.heap.size ≤ a') (lb : wr.heap.size ≤ b') (h0 : v0 = W) (h1 : v1 = H) :
    RunSt w W H n Q a' ca' b' cb' ((((wp.setCell ⟨w.heap.size, 0, none⟩ (.int .i64 v0)).setCell ⟨w.heap.size, 1, none⟩ (.int .i64 v1)).setCell ⟨w.heap.size, 2, none⟩ (.slice (some ⟨a', 0, none⟩) n ca')).setCell ⟨w.heap.size, 3, none⟩ (.slice (some ⟨b', 0, none⟩) n cb')) := by
  subst h0; subst h1
  obtain ⟨f1, _, f2, hB, l1, l2⟩ := h
  have q1 := f1.lt
  have q2 := f2.lt
  have x : Ex (fun k => k = w.heap.size) wp ((((wp.setCell ⟨w.heap.size, 0, none⟩ (.int .i64 v0)).setCell ⟨w.heap.size, 1, none⟩ (.int .i64 v1)).setCell ⟨w.heap.size, 2, none⟩ (.slice (some ⟨a', 0, none⟩) n ca')).setCell ⟨w.heap.size, 3, none⟩ (.slice (some ⟨b', 0, none⟩) n cb')) := four_ex
  have hB2 := hB.trans (hx.mono hB.size)
  exact ⟨(f1.below hx q1).set4, ⟨r.1.ex x (by omega), r.2.1.ex x (by omega), r.2.2⟩, (f2.below hx q2).ex x (by omega), hB2.trans (x.below hB2.size (fun k hk => by omega)), by omega, by omega⟩
theorem runSt_init {w wp : World} {W H : Int} {n : Nat} {Q : MG} {sa sb : Value} {a' ca' b' cb' : Nat} (hx : Below (w.heap.size + 1 + 1) ((w.alloc (.cells #[.int .i64 W, .int .i64 H, sa, sb] 24)).alloc (.cells #[.int .i64 0, .int .i64 0, .slice none 0 0, .slice none 0 0] 24)) wp) (r : Row wp a' n Q.1 ∧ Row wp b' n Q.2 ∧ a' ≠ b') (la : w.heap.size + 2 ≤ a') (lb : w.heap.size + 2 ≤ b') :
    RunSt w W H n Q a' ca' b' cb' ((((wp.setCell ⟨w.heap.size, 0, none⟩ (.int .i64 W)).setCell ⟨w.heap.size, 1, none⟩ (.int .i64 H)).setCell ⟨w.heap.size, 2, none⟩ (.slice (some ⟨a', 0, none⟩) n ca')).setCell ⟨w.heap.size, 3, none⟩ (.slice (some ⟨b', 0, none⟩) n cb')) := by
  have f1 : Four ((w.alloc (.cells #[.int .i64 W, .int .i64 H, sa, sb] 24)).alloc (.cells #[.int .i64 0, .int .i64 0, .slice none 0 0, .slice none 0 0] 24)) w.heap.size 24 (.int .i64 W) (.int .i64 H) sa sb :=
    (Four.new0 w _ _ _ _ _).ex (S := fun _ => False) ((Ex.refl _ _).alloc _) (fun x => x)
  have f2 : Four ((w.alloc (.cells #[.int .i64 W, .int .i64 H, sa, sb] 24)).alloc (.cells #[.int .i64 0, .int .i64 0, .slice none 0 0, .slice none 0 0] 24)) (w.heap.size + 1) 24 (.int .i64 0) (.int .i64 0) (.slice none 0 0) (.slice none 0 0) := by
    have := Four.new0 (w.alloc (.cells #[.int .i64 W, .int .i64 H, sa, sb] 24)) 24 (.int .i64 0) (.int .i64 0) (.slice none 0 0) (.slice none 0 0)
    rwa [World.size_alloc] at this
  have x : Ex (fun k => k = w.heap.size) wp ((((wp.setCell ⟨w.heap.size, 0, none⟩ (.int .i64 W)).setCell ⟨w.heap.size, 1, none⟩ (.int .i64 H)).setCell ⟨w.heap.size, 2, none⟩ (.slice (some ⟨a', 0, none⟩) n ca')).setCell ⟨w.heap.size, 3, none⟩ (.slice (some ⟨b', 0, none⟩) n cb')) := four_ex
  have hB2 : Below w.heap.size w wp := (((Below.refl _ w).alloc (Nat.le_refl _) _).alloc (by simp) _).trans (hx.mono (by omega))
  have q2 := (f2.below hx (by omega)).lt
  exact ⟨(f1.below hx (by omega)).set4, ⟨r.1.ex x (by omega), r.2.1.ex x (by omega), r.2.2⟩, (f2.below hx (by omega)).ex x (by omega), hB2.trans (x.below hB2.size (fun k hk => by omega)), la, lb⟩
theorem okM_runs {W H n len len2 : Nat} {R S : Nat → Int × Int} {t c : Nat} {P : MG} (hn : n = W * H) (h : OkM n P) : OkM n (runM (mfwd W H len len2 R S) t c P) := by
  induction c with
  | zero => exact h
  | succ c ih => exact okM_fwd hn ih _ _ _ _
end Go.Proofs.YtmkhbkkhoemkoaaGreatDoor
