/- The law WallSteps: the walk. -/
import Derived.Test.YtnpmlbhlchoolaaDoorKWBoth
import Derived.Test.YtnpmlbhlchoolaaDoorKLawSends
namespace Go.Proofs.YtnpmlbhlchoolaaDoor
set_option linter.unusedSimpArgs false
set_option linter.unusedVariables false
open Go.RowKit

theorem gz_three {w : World} {r n : Nat} {ao : Option Addr} {K : Nat → Nat → Int} {v0 v1 v2 : Value} (h : CellsIn w ao n K) (hf : ∀ p, ao = some p → r < p.block) : CellsIn (((w.setCell ⟨r, 0, none⟩ v0).setCell ⟨r, 1, none⟩ v1).setCell ⟨r, 2, none⟩ v2) ao n K := cellsIn_ex h three_ex (fun p hp => by have := hf p hp; omega)

set_option maxHeartbeats 4000000 in
theorem wallSteps_big (W H : Int) (ao : Option Addr) (n cap : Nat) (G : Nat → Nat → Int) (ak : Option Addr) (nk ck : Nat) (K : Nat → Int) (ab : Option Addr) (nb cb : Nat) (B : Nat → Int) (ro : Option Addr) (len rc : Nat) (R : Nat → Int × Int) (t : Int) (w : World) (hT : Tbl w) (h : ¬ (n ≤ 1200 ∧ nk ≤ 1200 ∧ nb ≤ 1200)) :
    Calls Tryd.prog 3 #[.agg #[.int .i64 W, .int .i64 H, .slice (ao) n cap, .slice (ak) nk ck, .slice (ab) nb cb], .slice ro len rc, .int .i64 t] w fun e w' => e = .returned (.bool true) ∧ Below w.heap.size w w' := by
  have HN := Lib.hid h; clear h
  have T := Lib.hid hT; clear hT
  go_enter Tryd.func3, Tryd.ntmps3
  go_wp2_with (first | (go_at_call 9; (with_reducible refine (small1200_no W H ao n cap ak nk ck ab nb cb _ HN.out).mono ?_); rintro e w1 ⟨rfl, hb⟩; obtain ⟨hc, hf, hz⟩ := bcall hb; (try simp at hc hf hz)) | (go_at_call 10; (with_reducible refine (awake3_any _ (T.out.below (by (repeat' (first | (with_reducible exact Below.refl _ _) | (with_reducible refine Below.setCell ?_ (by first | omega | (simp; done) | (simp; omega)) _) | (with_reducible refine Below.alloc ?_ (by first | omega | (simp; done) | (simp; omega)) _) | (with_reducible refine Below.drew ?_) | (with_reducible refine below_drewN ?_ _) | (with_reducible refine Below.trans ?_ (Below.mono (by assumption) (by first | omega | (simp; done) | (simp; omega))))))))).mono ?_); rintro e w1 ⟨rfl, hb⟩; obtain ⟨hc, hf, hz⟩ := bcall hb; (try simp at hc hf hz)))
  go_ret
  refine ⟨rfl, ?_⟩
  (repeat' (first | (with_reducible exact Below.refl _ _) | (with_reducible refine Below.setCell ?_ (by first | omega | (simp; done) | (simp; omega)) _) | (with_reducible refine Below.alloc ?_ (by first | omega | (simp; done) | (simp; omega)) _) | (with_reducible refine Below.drew ?_) | (with_reducible refine below_drewN ?_ _) | (with_reducible refine Below.trans ?_ (Below.mono (by assumption) (by first | omega | (simp; done) | (simp; omega))))))
set_option maxHeartbeats 4000000 in
theorem wallSteps_many (W H : Int) (ao : Option Addr) (n cap : Nat) (G : Nat → Nat → Int) (ak : Option Addr) (nk ck : Nat) (K : Nat → Int) (ab : Option Addr) (nb cb : Nat) (B : Nat → Int) (ro : Option Addr) (len rc : Nat) (R : Nat → Int × Int) (t : Int) (w : World) (hT : Tbl w) (h : n ≤ 1200 ∧ nk ≤ 1200 ∧ nb ≤ 1200) (hl : 20 < len) (hm : len ≤ 9223372036854775807) :
    Calls Tryd.prog 3 #[.agg #[.int .i64 W, .int .i64 H, .slice (ao) n cap, .slice (ak) nk ck, .slice (ab) nb cb], .slice ro len rc, .int .i64 t] w fun e w' => e = .returned (.bool true) ∧ Below w.heap.size w w' := by
  have HN := Lib.hid h; clear h
  have T := Lib.hid hT; clear hT
  go_enter Tryd.func3, Tryd.ntmps3
  go_wp2_with (first | (go_at_call 9; (with_reducible refine (small1200_yes W H ao n cap ak nk ck ab nb cb _ HN.out).mono ?_); rintro e w1 ⟨rfl, hb⟩; obtain ⟨hc, hf, hz⟩ := bcall hb; (try simp at hc hf hz)) | (go_at_call 10; (with_reducible refine (awake3_any _ (T.out.below (by (repeat' (first | (with_reducible exact Below.refl _ _) | (with_reducible refine Below.setCell ?_ (by first | omega | (simp; done) | (simp; omega)) _) | (with_reducible refine Below.alloc ?_ (by first | omega | (simp; done) | (simp; omega)) _) | (with_reducible refine Below.drew ?_) | (with_reducible refine below_drewN ?_ _) | (with_reducible refine Below.trans ?_ (Below.mono (by assumption) (by first | omega | (simp; done) | (simp; omega))))))))).mono ?_); rintro e w1 ⟨rfl, hb⟩; obtain ⟨hc, hf, hz⟩ := bcall hb; (try simp at hc hf hz)))
  go_ret
  refine ⟨rfl, ?_⟩
  (repeat' (first | (with_reducible exact Below.refl _ _) | (with_reducible refine Below.setCell ?_ (by first | omega | (simp; done) | (simp; omega)) _) | (with_reducible refine Below.alloc ?_ (by first | omega | (simp; done) | (simp; omega)) _) | (with_reducible refine Below.drew ?_) | (with_reducible refine below_drewN ?_ _) | (with_reducible refine Below.trans ?_ (Below.mono (by assumption) (by first | omega | (simp; done) | (simp; omega))))))

set_option maxRecDepth 100000 in
set_option maxHeartbeats 8000000 in
theorem wallSteps_in (W H : Int) (ao : Option Addr) (n cap : Nat) (G : Nat → Nat → Int) (ak : Option Addr) (nk ck : Nat) (K : Nat → Int) (ab : Option Addr) (nb cb : Nat) (B : Nat → Int) (ro : Option Addr) (len rc : Nat) (R : Nat → Int × Int) (t : Int) (w : World) (hp : PreW w ao n G ak nk K ab nb B ro len R) (h : n ≤ 1200 ∧ nk ≤ 1200 ∧ nb ≤ 1200) (hl : len ≤ 20) :
    Calls Tryd.prog 3 #[.agg #[.int .i64 W, .int .i64 H, .slice (ao) n cap, .slice (ak) nk ck, .slice (ab) nb cb], .slice ro len rc, .int .i64 t] w fun e w' => e = .returned (.bool true) ∧ Below w.heap.size w w' := by
  obtain ⟨W1, H1, n1, K1, z1, b1, o1, o2⟩ := wsteps_both W H ao n cap G ak nk ck K ab nb cb B ro len rc R t (by omega)
  obtain ⟨W2, H2, n2, K2, z2, b2, o3, o4⟩ := wbacks_both W H ao n cap G ak nk ck K ab nb cb B ro len rc R t (by omega)
  have O1 := Lib.hid o1
  have O2 := Lib.hid o2
  have O3 := Lib.hid o3
  have O4 := Lib.hid o4
  have HP := Lib.hid hp
  have HN := Lib.hid h
  clear o1 o2 o3 o4 hp h
  go_enter Tryd.func3, Tryd.ntmps3
  go_wp2_with (go_at_call 9; (with_reducible refine (small1200_yes W H ao n cap ak nk ck ab nb cb _ HN.out).mono ?_); rintro e w1 ⟨rfl, hb⟩; obtain ⟨hc, hf, hz⟩ := bcall hb; (try simp at hc hf hz))
  (go_at_call 11; (with_reducible refine (O1.out _ (HP.out.below (show Below w.heap.size w _ from by (repeat' (first | (with_reducible exact Below.refl _ _) | (with_reducible refine Below.setCell ?_ (by first | omega | (simp; done) | (simp; omega)) _) | (with_reducible refine Below.alloc ?_ (by first | omega | (simp; done) | (simp; omega)) _) | (with_reducible refine Below.drew ?_) | (with_reducible refine below_drewN ?_ _) | (with_reducible refine Below.trans ?_ (Below.mono (by assumption) (by first | omega | (simp; done) | (simp; omega))))))))).mono ?_); rintro e wA ⟨oA, cA, rfl, hoA, foA, hb⟩; have HA := Lib.hid hoA.out; have FA := Lib.hid foA; clear hoA foA; obtain ⟨hc, hf, hz⟩ := bcall hb; (try simp at hc hf hz))
  go_wp2_with fail
  (go_at_call 12; (with_reducible refine (O2.out _ (HP.out.below (show Below w.heap.size w _ from by (repeat' (first | (with_reducible exact Below.refl _ _) | (with_reducible refine Below.setCell ?_ (by first | omega | (simp; done) | (simp; omega)) _) | (with_reducible refine Below.alloc ?_ (by first | omega | (simp; done) | (simp; omega)) _) | (with_reducible refine Below.drew ?_) | (with_reducible refine below_drewN ?_ _) | (with_reducible refine Below.trans ?_ (Below.mono (by assumption) (by first | omega | (simp; done) | (simp; omega))))))))).mono ?_); rintro e wB ⟨oB, cB, rfl, hoB, foB, hb⟩; have HB := Lib.hid hoB.out; have FB := Lib.hid foB; clear hoB foB; obtain ⟨hc, hf, hz⟩ := bcall hb; (try simp at hc hf hz))
  go_wp2_with (go_at_call 13; (with_reducible refine (gSame_yes W1 H1 oA oB n1 cA cB K1 K1 _ (by omega) (HA.out.below (show Below wA.heap.size wA _ from by (repeat' (first | (with_reducible exact Below.refl _ _) | (with_reducible refine Below.setCell ?_ (by first | omega | (simp; done) | (simp; omega)) _) | (with_reducible refine Below.alloc ?_ (by first | omega | (simp; done) | (simp; omega)) _) | (with_reducible refine Below.drew ?_) | (with_reducible refine below_drewN ?_ _) | (with_reducible refine Below.trans ?_ (Below.mono (by assumption) (by first | omega | (simp; done) | (simp; omega)))))))) (HB.out.below (show Below wB.heap.size wB _ from by (repeat' (first | (with_reducible exact Below.refl _ _) | (with_reducible refine Below.setCell ?_ (by first | omega | (simp; done) | (simp; omega)) _) | (with_reducible refine Below.alloc ?_ (by first | omega | (simp; done) | (simp; omega)) _) | (with_reducible refine Below.drew ?_) | (with_reducible refine below_drewN ?_ _) | (with_reducible refine Below.trans ?_ (Below.mono (by assumption) (by first | omega | (simp; done) | (simp; omega)))))))) (EqG.refl _ _)).mono ?_); rintro e w1 ⟨rfl, hb⟩; obtain ⟨hc, hf, hz⟩ := bcall hb; (try simp at hc hf hz))
  (go_at_call 14; (with_reducible refine (O3.out _ (HP.out.below (show Below w.heap.size w _ from by (repeat' (first | (with_reducible exact Below.refl _ _) | (with_reducible refine Below.setCell ?_ (by first | omega | (simp; done) | (simp; omega)) _) | (with_reducible refine Below.alloc ?_ (by first | omega | (simp; done) | (simp; omega)) _) | (with_reducible refine Below.drew ?_) | (with_reducible refine below_drewN ?_ _) | (with_reducible refine Below.trans ?_ (Below.mono (by assumption) (by first | omega | (simp; done) | (simp; omega))))))))).mono ?_); rintro e wC ⟨oC, cC, rfl, hoC, foC, hb⟩; have HC := Lib.hid hoC.out; have FC := Lib.hid foC; clear hoC foC; obtain ⟨hc, hf, hz⟩ := bcall hb; (try simp at hc hf hz))
  go_wp2_with fail
  have HC2 : Hid (CellsIn (((wC.setCell ⟨wA.heap.size, 0, none⟩ (.int .i64 W2)).setCell ⟨wA.heap.size, 1, none⟩ (.int .i64 H2)).setCell ⟨wA.heap.size, 2, none⟩ (.slice oC n2 cC)) oC n2 K2) := Lib.hid (gz_three HC.out (fun p hp => by have := FC.out p hp; (try simp at this); omega))
  (go_at_call 15; (with_reducible refine (O4.out _ (HP.out.below (show Below w.heap.size w _ from by (repeat' (first | (with_reducible exact Below.refl _ _) | (with_reducible refine Below.setCell ?_ (by first | omega | (simp; done) | (simp; omega)) _) | (with_reducible refine Below.alloc ?_ (by first | omega | (simp; done) | (simp; omega)) _) | (with_reducible refine Below.drew ?_) | (with_reducible refine below_drewN ?_ _) | (with_reducible refine Below.trans ?_ (Below.mono (by assumption) (by first | omega | (simp; done) | (simp; omega))))))))).mono ?_); rintro e wD ⟨oD, cD, rfl, hoD, foD, hb⟩; have HD := Lib.hid hoD.out; have FD := Lib.hid foD; clear hoD foD; obtain ⟨hc, hf, hz⟩ := bcall hb; (try simp at hc hf hz))
  go_wp2_with fail
  (go_at_call 13; (with_reducible refine (gSame_yes W2 H2 oC oD n2 cC cD K2 K2 _ (by omega) (gz_three (HC2.out.below (by (repeat' (first | (with_reducible exact Below.refl _ _) | (with_reducible refine Below.setCell ?_ (by first | omega | (simp; done) | (simp; omega)) _) | (with_reducible refine Below.alloc ?_ (by first | omega | (simp; done) | (simp; omega)) _) | (with_reducible refine Below.drew ?_) | (with_reducible refine below_drewN ?_ _) | (with_reducible refine Below.trans ?_ (Below.mono (by assumption) (by first | omega | (simp; done) | (simp; omega)))))))) (fun p hp => by have := FC.out p hp; (try simp at this); omega)) (gz_three HD.out (fun p hp => by have := FD.out p hp; simp at this; omega)) (EqG.refl _ _)).mono ?_); rintro e w1 ⟨rfl, hb⟩; obtain ⟨hc, hf, hz⟩ := bcall hb; (try simp at hc hf hz))
  go_wp2_with fail
  (go_at_call 10; (with_reducible refine (awake3_any _ (HP.out.tbl.below (show Below w.heap.size w _ from by (repeat' (first | (with_reducible exact Below.refl _ _) | (with_reducible refine Below.setCell ?_ (by first | omega | (simp; done) | (simp; omega)) _) | (with_reducible refine Below.alloc ?_ (by first | omega | (simp; done) | (simp; omega)) _) | (with_reducible refine Below.drew ?_) | (with_reducible refine below_drewN ?_ _) | (with_reducible refine Below.trans ?_ (Below.mono (by assumption) (by first | omega | (simp; done) | (simp; omega))))))))).mono ?_); rintro e w1 ⟨rfl, hb⟩; obtain ⟨hc, hf, hz⟩ := bcall hb; (try simp at hc hf hz))
  go_wp2
  go_ret
  refine ⟨by simp, ?_⟩
  (repeat' (first | (with_reducible exact Below.refl _ _) | (with_reducible refine Below.setCell ?_ (by first | omega | (simp; done) | (simp; omega)) _) | (with_reducible refine Below.alloc ?_ (by first | omega | (simp; done) | (simp; omega)) _) | (with_reducible refine Below.drew ?_) | (with_reducible refine below_drewN ?_ _) | (with_reducible refine Below.trans ?_ (Below.mono (by assumption) (by first | omega | (simp; done) | (simp; omega))))))

theorem wallSteps_any (W H : Int) (ao : Option Addr) (n cap : Nat) (G : Nat → Nat → Int) (ak : Option Addr) (nk ck : Nat) (K : Nat → Int) (ab : Option Addr) (nb cb : Nat) (B : Nat → Int) (ro : Option Addr) (len rc : Nat) (R : Nat → Int × Int) (t : Int) (w : World) (hT : Tbl w) (wW : Wf W) (wH : Wf H) (hl : n ≤ cap) (hm : cap ≤ maxLen) (hG : CellsIn w ao n G) (hlk : nk ≤ ck) (hmk : ck ≤ maxLen) (hK : NumsIn w ak nk K) (fK : ∀ i, i < nk → Wf (K i)) (hlb : nb ≤ cb) (hmb : cb ≤ maxLen) (hB : NumsIn w ab nb B) (fB : ∀ i, i < nb → Wf (B i)) (hr : len ≤ rc) (hr' : rc ≤ maxLen) (hR : RulesIn w ro len R) (wt : Wf t) :
    Calls Tryd.prog 3 #[.agg #[.int .i64 W, .int .i64 H, .slice (ao) n cap, .slice (ak) nk ck, .slice (ab) nb cb], .slice ro len rc, .int .i64 t] w fun e w' => e = .returned (.bool true) ∧ Below w.heap.size w w' := by
  by_cases hs : n ≤ 1200 ∧ nk ≤ 1200 ∧ nb ≤ 1200
  · by_cases hs2 : len ≤ 20
    · exact wallSteps_in W H ao n cap G ak nk ck K ab nb cb B ro len rc R t w ⟨hT, hG, hK, hB, hR⟩ hs hs2
    · exact wallSteps_many W H ao n cap G ak nk ck K ab nb cb B ro len rc R t w hT hs (by omega) (Nat.le_trans hr (Nat.le_trans hr' (by unfold maxLen; omega)))
  · exact wallSteps_big W H ao n cap G ak nk ck K ab nb cb B ro len rc R t w hT hs
end Go.Proofs.YtnpmlbhlchoolaaDoor
