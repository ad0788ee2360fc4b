/- The law WallMirrors: the walk. -/
import Derived.Test.YtnpmlbhlchoolaaDoorKLawRunsW
import Derived.Test.YtnpmlbhlchoolaaDoorKWMir
import Derived.Test.YtnpmlbhlchoolaaDoorKPuts
namespace Go.Proofs.YtnpmlbhlchoolaaDoor
set_option linter.unusedSimpArgs false
set_option linter.unusedVariables false
open Go.RowKit

theorem small400_yes (W H : Int) (ao : Option Addr) (n cap : Nat) (ak : Option Addr) (nk ck : Nat) (ab : Option Addr) (nb cb : Nat) (w : World) (h : n ≤ 400 ∧ nk ≤ 400 ∧ nb ≤ 400) :
    Calls Tryd.prog 9 #[.agg #[.int .i64 W, .int .i64 H, .slice (ao) n cap, .slice (ak) nk ck, .slice (ab) nb cb], .int .i64 400] w fun e w' => e = .returned (.bool true) ∧ Below w.heap.size w w' := small3_yes W H ao n cap ak nk ck ab nb cb 400 w h.1 h.2.1 h.2.2
theorem small400_no (W H : Int) (ao : Option Addr) (n cap : Nat) (ak : Option Addr) (nk ck : Nat) (ab : Option Addr) (nb cb : Nat) (w : World) (h : ¬ (n ≤ 400 ∧ nk ≤ 400 ∧ nb ≤ 400)) :
    Calls Tryd.prog 9 #[.agg #[.int .i64 W, .int .i64 H, .slice (ao) n cap, .slice (ak) nk ck, .slice (ab) nb cb], .int .i64 400] w fun e w' => e = .returned (.bool false) ∧ Below w.heap.size w w' := small3_no W H ao n cap ak nk ck ab nb cb 400 w (by omega)
theorem rules_oneW {w : World} {b : Nat} {rk ry : Int} (h : w.heap[b]? = some (.cells #[.int .i64 rk, .int .i64 ry] 58 (0, 0))) : RulesIn w (some ⟨b, 0, none⟩) 1 (fun _ => (rk, ry)) := by
  refine .inr ⟨b, 0, rfl, (Array.getElem?_eq_some_iff.1 h).1, fun i hi => ?_⟩
  obtain rfl : i = 0 := by omega
  simp [World.cell?, h]
theorem preW_mk {w : World} {ao : Option Addr} {n : Nat} {G : Nat → Nat → Int} {ak : Option Addr} {nk : Nat} {K : Nat → Int} {ab : Option Addr} {nb : Nat} {B : Nat → Int} {ro : Option Addr} {len : Nat} {R : Nat → Int × Int} (h1 : Tbl w) (h2 : CellsIn w ao n G) (h3 : NumsIn w ak nk K) (h4 : NumsIn w ab nb B) (h5 : RulesIn w ro len R) : PreW w ao n G ak nk K ab nb B ro len R := ⟨h1, h2, h3, h4, h5⟩
/-- One step among walls by one rule, the number 0. -/
theorem wstep0 (W H n cap : Nat) (ao : Option Addr) (G : Nat → Nat → Int) (ak : Option Addr) (ck : Nat) (K : Nat → Int) (ab : Option Addr) (cb : Nat) (B : Nat → Int) (ro : Option Addr) (rk ry : Int) (w : World) (s : Sides W H n) (hG : OkG n G) (hP : ∀ i, i < n → OkP (K i) (B i)) (hr : OkR rk ry) (hp : PreW w ao n G ak n K ab n B ro 1 (fun _ => (rk, ry))) :
    Calls Tryd.prog 11 #[.agg #[.int .i64 W, .int .i64 H, .slice (ao) n cap], .agg #[.slice (ak) n ck, .slice (ab) n cb], .slice ro 1 1, .int .i64 0] w (GZ W H n (fwdW W H K 1 (fun _ => (rk, ry)) 0 G) 0 w) :=
  wStep_ok W H n cap ao G ak ck K ab cb B ro 1 1 (fun _ => (rk, ry)) 0 w s hG hP ⟨by omega, by omega, fun _ _ => hr⟩ (by omega) hp

set_option maxHeartbeats 4000000 in
theorem wallMirrors_out (W H : Int) (ao : Option Addr) (n cap : Nat) (ak : Option Addr) (nk ck : Nat) (ab : Option Addr) (nb cb : Nat) (rk ry : Int) (w : World) (hT : Tbl w) (h : ¬ ((n ≤ 400 ∧ nk ≤ 400 ∧ nb ≤ 400) ∧ rk ≠ 2)) :
    Calls Tryd.prog 8 #[.agg #[.int .i64 W, .int .i64 H, .slice (ao) n cap, .slice (ak) nk ck, .slice (ab) nb cb], .agg #[.int .i64 rk, .int .i64 ry]] w fun e w' => e = .returned (.bool true) ∧ Below w.heap.size w w' := by
  have T := Lib.hid hT; clear hT
  by_cases h1 : n ≤ 400 ∧ nk ≤ 400 ∧ nb ≤ 400
  · obtain rfl : rk = 2 := by omega
    have HN := Lib.hid h1
    clear h h1
    go_enter Tryd.func8, Tryd.ntmps8
    go_wp2_with (first | (go_at_call 9; (with_reducible refine (small400_yes W H ao n cap ak nk ck ab nb cb _ HN.out).mono ?_); rintro e w1 ⟨rfl, hb⟩; obtain ⟨hc, hf, hz⟩ := bcall hb; (try simp at hc hf hz)) | (go_at_call 10; (with_reducible refine (awake3_any _ (T.out.below (by (repeat' (first | (with_reducible exact Below.refl _ _) | (with_reducible refine Below.setCell ?_ (by first | omega | (simp; done) | (simp; omega)) _) | (with_reducible refine Below.alloc ?_ (by first | omega | (simp; done) | (simp; omega)) _) | (with_reducible refine Below.drew ?_) | (with_reducible refine below_drewN ?_ _) | (with_reducible refine Below.trans ?_ (Below.mono (by assumption) (by first | omega | (simp; done) | (simp; omega))))))))).mono ?_); rintro e w1 ⟨rfl, hb⟩; obtain ⟨hc, hf, hz⟩ := bcall hb; (try simp at hc hf hz)))
    go_ret
    refine ⟨rfl, ?_⟩
    (repeat' (first | (with_reducible exact Below.refl _ _) | (with_reducible refine Below.setCell ?_ (by first | omega | (simp; done) | (simp; omega)) _) | (with_reducible refine Below.alloc ?_ (by first | omega | (simp; done) | (simp; omega)) _) | (with_reducible refine Below.drew ?_) | (with_reducible refine below_drewN ?_ _) | (with_reducible refine Below.trans ?_ (Below.mono (by assumption) (by first | omega | (simp; done) | (simp; omega))))))
  · have HN := Lib.hid h1
    clear h h1
    go_enter Tryd.func8, Tryd.ntmps8
    go_wp2_with (first | (go_at_call 9; (with_reducible refine (small400_no W H ao n cap ak nk ck ab nb cb _ HN.out).mono ?_); rintro e w1 ⟨rfl, hb⟩; obtain ⟨hc, hf, hz⟩ := bcall hb; (try simp at hc hf hz)) | (go_at_call 10; (with_reducible refine (awake3_any _ (T.out.below (by (repeat' (first | (with_reducible exact Below.refl _ _) | (with_reducible refine Below.setCell ?_ (by first | omega | (simp; done) | (simp; omega)) _) | (with_reducible refine Below.alloc ?_ (by first | omega | (simp; done) | (simp; omega)) _) | (with_reducible refine Below.drew ?_) | (with_reducible refine below_drewN ?_ _) | (with_reducible refine Below.trans ?_ (Below.mono (by assumption) (by first | omega | (simp; done) | (simp; omega))))))))).mono ?_); rintro e w1 ⟨rfl, hb⟩; obtain ⟨hc, hf, hz⟩ := bcall hb; (try simp at hc hf hz)))
    go_ret
    refine ⟨rfl, ?_⟩
    (repeat' (first | (with_reducible exact Below.refl _ _) | (with_reducible refine Below.setCell ?_ (by first | omega | (simp; done) | (simp; omega)) _) | (with_reducible refine Below.alloc ?_ (by first | omega | (simp; done) | (simp; omega)) _) | (with_reducible refine Below.drew ?_) | (with_reducible refine below_drewN ?_ _) | (with_reducible refine Below.trans ?_ (Below.mono (by assumption) (by first | omega | (simp; done) | (simp; omega))))))

set_option maxRecDepth 100000 in
set_option maxHeartbeats 8000000 in
theorem wallMirrors_err (W H : Int) (ao : Option Addr) (n cap : Nat) (G : Nat → Nat → Int) (ak : Option Addr) (nk ck : Nat) (K : Nat → Int) (ab : Option Addr) (nb cb : Nat) (B : Nat → Int) (rk ry z : Int) (w : World) (hT : Tbl w) (hC : CellsIn w ao n G) (hK : NumsIn w ak nk K) (hB : NumsIn w ab nb B) (h : n ≤ 400 ∧ nk ≤ 400 ∧ nb ≤ 400) (hr : rk ≠ 2) (hz : z ≠ 0)
    (o1 : ∀ ro w, PreW w ao n G ak nk K ab nb B ro 1 (fun _ => (rk, ry)) → Calls Tryd.prog 11 #[.agg #[.int .i64 W, .int .i64 H, .slice (ao) n cap], .agg #[.slice (ak) nk ck, .slice (ab) nb cb], .slice ro 1 1, .int .i64 0] w (GZ 0 0 0 G z w)) :
    Calls Tryd.prog 8 #[.agg #[.int .i64 W, .int .i64 H, .slice (ao) n cap, .slice (ak) nk ck, .slice (ab) nb cb], .agg #[.int .i64 rk, .int .i64 ry]] w fun e w' => e = .returned (.bool true) ∧ Below w.heap.size w w' := by
  have O1 := Lib.hid o1
  have HP := Lib.hid (show ∀ (ro : Option Addr) (wx : World), Below w.heap.size w wx → RulesIn wx ro 1 (fun _ => (rk, ry)) → PreW wx ao n G ak nk K ab nb B ro 1 (fun _ => (rk, ry)) from fun ro wx hb hR => ⟨hT.below hb, hC.below hb, hK.below hb, hB.below hb, hR⟩)
  have HN := Lib.hid h
  have T := Lib.hid hT
  have e0 : (z == 0) = false := beq_eq_false_iff_ne.2 hz
  have e1 : (z != 0) = true := by simp [bne, e0]
  have e2 : (rk == 2) = false := beq_eq_false_iff_ne.2 hr
  clear o1 hT hC hK hB h e0 hz hr
  go_enter Tryd.func8, Tryd.ntmps8
  go_wp2_with (go_at_call 9; (with_reducible refine (small400_yes W H ao n cap ak nk ck ab nb cb _ HN.out).mono ?_); rintro e w0 ⟨rfl, hb⟩; obtain ⟨hc, hf, hz⟩ := bcall hb; (try simp at hc hf hz))
  have HR := Lib.hid (rules_oneW (World.alloc_heap_new w0 (.cells #[.int .i64 rk, .int .i64 ry] 58)))
  (go_at_call 11; (with_reducible refine (O1.out _ _ (HP.out _ _ (show Below w.heap.size w _ from by (repeat' (first | (with_reducible exact Below.refl _ _) | (with_reducible refine Below.setCell ?_ (by first | omega | (simp; done) | (simp; omega)) _) | (with_reducible refine Below.alloc ?_ (by first | omega | (simp; done) | (simp; omega)) _) | (with_reducible refine Below.drew ?_) | (with_reducible refine below_drewN ?_ _) | (with_reducible refine Below.trans ?_ (Below.mono (by assumption) (by first | omega | (simp; done) | (simp; omega))))))) HR.out)).mono ?_); rintro e wA ⟨oA, cA, rfl, hoA, foA, hb⟩; clear hoA foA; obtain ⟨hc, hf, hz⟩ := bcall hb; (try simp at hc hf hz))
  go_wp2_with fail
  (go_at_call 10; (with_reducible refine (awake3_any _ (T.out.below (show Below w.heap.size w _ from by (repeat' (first | (with_reducible exact Below.refl _ _) | (with_reducible refine Below.setCell ?_ (by first | omega | (simp; done) | (simp; omega)) _) | (with_reducible refine Below.alloc ?_ (by first | omega | (simp; done) | (simp; omega)) _) | (with_reducible refine Below.drew ?_) | (with_reducible refine below_drewN ?_ _) | (with_reducible refine Below.trans ?_ (Below.mono (by assumption) (by first | omega | (simp; done) | (simp; omega))))))))).mono ?_); rintro e w1 ⟨rfl, hb⟩; obtain ⟨hc, hf, hz⟩ := bcall hb; (try simp at hc hf hz))
  go_wp2
  go_ret
  refine ⟨rfl, ?_⟩
  (repeat' (first | (with_reducible exact Below.refl _ _) | (with_reducible refine Below.setCell ?_ (by first | omega | (simp; done) | (simp; omega)) _) | (with_reducible refine Below.alloc ?_ (by first | omega | (simp; done) | (simp; omega)) _) | (with_reducible refine Below.drew ?_) | (with_reducible refine below_drewN ?_ _) | (with_reducible refine Below.trans ?_ (Below.mono (by assumption) (by first | omega | (simp; done) | (simp; omega))))))

set_option maxRecDepth 100000 in
set_option maxHeartbeats 16000000 in
theorem wallMirrors_in (W H n cap : Nat) (ao : Option Addr) (G : Nat → Nat → Int) (ak : Option Addr) (ck : Nat) (K : Nat → Int) (ab : Option Addr) (cb : Nat) (B : Nat → Int) (rk ry : Int) (w : World) (s : Sides W H n) (hG : OkG n G) (hP : ∀ i, i < n → OkP (K i) (B i)) (hk : OkR rk ry) (hT : Tbl w) (hC : CellsIn w ao n G) (hK : NumsIn w ak n K) (hB : NumsIn w ab n B) (h : n ≤ 400) (hr : rk ≠ 2) :
    Calls Tryd.prog 8 #[.agg #[.int .i64 W, .int .i64 H, .slice (ao) n cap, .slice (ak) n ck, .slice (ab) n cb], .agg #[.int .i64 rk, .int .i64 ry]] w fun e w' => e = .returned (.bool true) ∧ Below w.heap.size w w' := by
  have O1 := Lib.hid (fun ro wx (hp : PreW wx ao n G ak n K ab n B ro 1 (fun _ => (rk, ry))) => wstep0 W H n cap ao G ak ck K ab cb B ro rk ry wx s hG hP hk hp)
  have O2 := Lib.hid (fun ro wx a2 c2 ak2 ck2 ab2 cb2 (hp : PreW wx a2 n (miG W G) ak2 n (miK W K) ab2 n (miB W B) ro 1 (fun _ => (rk, ry))) => wstep0 W H n c2 a2 (miG W G) ak2 ck2 (miK W K) ab2 cb2 (miB W B) ro rk ry wx s (okG_miG s.n0 hG) (okP_mi s.n0 hP) hk hp)
  have M1 := Lib.hid (fun wx (hb : Below w.heap.size w wx) => gMirrored_ok W H n cap ao G wx s hG (hC.below hb))
  obtain ⟨F1, hF1⟩ : ∃ F, F = fwdW W H K 1 (fun _ => (rk, ry)) 0 G := ⟨_, rfl⟩
  have okF : OkG n F1 := by rw [hF1]; exact okG_fwdW s.n0 (okK_of hP) hG
  have M2 := Lib.hid (fun wx a2 c2 (hc : CellsIn wx a2 n F1) => gMirrored_ok W H n c2 a2 F1 wx s okF hc)
  have MW : Hid (∀ wx, Below w.heap.size w wx → Calls Tryd.prog 33 #[.agg #[.int .i64 W, .int .i64 H, .slice (ao) n cap], .agg #[.slice (ak) n ck, .slice (ab) n cb]] wx (GaveWE n (miK W K) (miB W B) wx)) := Lib.hid (fun wx hb => by
    obtain ⟨b, off, rfl, hlt, hC⟩ := cells_of1 s (hC.below hb)
    obtain ⟨bk, ok, rfl, hbk, hN⟩ := numsAt_of (hK.below hb) (by have := vg_pos (vg_of s hG); omega)
    obtain ⟨bb, ob, rfl, hbb, hB⟩ := numsAt_of (hB.below hb) (by have := vg_pos (vg_of s hG); omega)
    exact wmir_in W H n b off cap bk ok ck bb ob cb K B G wx s hG hlt hC hP hbk hN hbb hB)
  have EM := Lib.hid (fwd_mi (W := W) (H := H) (len := 1) (R := fun _ => (rk, ry)) (t := 0) G s.n0 (okK_of hP))
  have HP := Lib.hid (show ∀ (ro : Option Addr) (wx : World), Below w.heap.size w wx → RulesIn wx ro 1 (fun _ => (rk, ry)) → PreW wx ao n G ak n K ab n B ro 1 (fun _ => (rk, ry)) from fun ro wx hb hR => ⟨hT.below hb, hC.below hb, hK.below hb, hB.below hb, hR⟩)
  have HN : Hid (n ≤ 400 ∧ n ≤ 400 ∧ n ≤ 400) := Lib.hid ⟨h, h, h⟩
  have T := Lib.hid hT
  have e2 : (rk == 2) = false := beq_eq_false_iff_ne.2 hr
  obtain ⟨F2, hF2⟩ : ∃ F, F = fwdW W H (miK W K) 1 (fun _ => (rk, ry)) 0 (miG W G) := ⟨_, rfl⟩
  rw [← hF1] at O1 EM
  rw [← hF2] at O2 EM
  clear hT hC hK hB hr s hG hP hk hF1 hF2 okF
  go_enter Tryd.func8, Tryd.ntmps8
  go_wp2_with (go_at_call 9; (with_reducible refine (small400_yes W H ao n cap ak n ck ab n cb _ HN.out).mono ?_); rintro e w0 ⟨rfl, hb⟩; obtain ⟨hc, hf, hz⟩ := bcall hb; (try simp at hc hf hz))
  have HR := Lib.hid (rules_oneW (World.alloc_heap_new w0 (.cells #[.int .i64 rk, .int .i64 ry] 58)))
  (go_at_call 11; (with_reducible refine (O1.out _ _ (HP.out _ _ (show Below w.heap.size w _ from by (repeat' (first | (with_reducible exact Below.refl _ _) | (with_reducible refine Below.setCell ?_ (by first | omega | (simp; done) | (simp; omega)) _) | (with_reducible refine Below.alloc ?_ (by first | omega | (simp; done) | (simp; omega)) _) | (with_reducible refine Below.drew ?_) | (with_reducible refine below_drewN ?_ _) | (with_reducible refine Below.trans ?_ (Below.mono (by assumption) (by first | omega | (simp; done) | (simp; omega))))))) HR.out)).mono ?_); rintro e wA ⟨oA, cA, rfl, hoA, foA, hb⟩; have HA := Lib.hid hoA.out; clear hoA foA; obtain ⟨hc, hf, hz⟩ := bcall hb; (try simp at hc hf hz))
  go_wp2_with fail
  (go_at_call 32; (with_reducible refine (M1.out _ (show Below w.heap.size w _ from by (repeat' (first | (with_reducible exact Below.refl _ _) | (with_reducible refine Below.setCell ?_ (by first | omega | (simp; done) | (simp; omega)) _) | (with_reducible refine Below.alloc ?_ (by first | omega | (simp; done) | (simp; omega)) _) | (with_reducible refine Below.drew ?_) | (with_reducible refine below_drewN ?_ _) | (with_reducible refine Below.trans ?_ (Below.mono (by assumption) (by first | omega | (simp; done) | (simp; omega)))))))).mono ?_); rintro e wB ⟨oB, cB, rfl, hoB, loB, hb⟩; have HB := Lib.hid hoB; clear hoB; obtain ⟨hc, hf, hz⟩ := bcall hb; (try simp at hc hf hz loB))
  go_wp2_with fail
  (go_at_call 33; (with_reducible refine (MW.out _ (show Below w.heap.size w _ from by (repeat' (first | (with_reducible exact Below.refl _ _) | (with_reducible refine Below.setCell ?_ (by first | omega | (simp; done) | (simp; omega)) _) | (with_reducible refine Below.alloc ?_ (by first | omega | (simp; done) | (simp; omega)) _) | (with_reducible refine Below.drew ?_) | (with_reducible refine below_drewN ?_ _) | (with_reducible refine Below.trans ?_ (Below.mono (by assumption) (by first | omega | (simp; done) | (simp; omega)))))))).mono ?_); rintro e wC ⟨kC, bC, ckC, cbC, rfl, hC, lC, lD, hb⟩; have HC := Lib.hid hC.out.1; have HD := Lib.hid hC.out.2; clear hC; obtain ⟨hc, hf, hz⟩ := bcall hb; (try simp at hc hf hz lC lD))
  go_wp2_with fail
  (go_at_call 11; (with_reducible refine (O2.out _ _ _ _ _ _ _ _ (preW_mk (T.out.below (show Below w.heap.size w _ from by (repeat' (first | (with_reducible exact Below.refl _ _) | (with_reducible refine Below.setCell ?_ (by first | omega | (simp; done) | (simp; omega)) _) | (with_reducible refine Below.alloc ?_ (by first | omega | (simp; done) | (simp; omega)) _) | (with_reducible refine Below.drew ?_) | (with_reducible refine below_drewN ?_ _) | (with_reducible refine Below.trans ?_ (Below.mono (by assumption) (by first | omega | (simp; done) | (simp; omega)))))))) (HB.out.below (show Below wB.heap.size wB _ from by (repeat' (first | (with_reducible exact Below.refl _ _) | (with_reducible refine Below.setCell ?_ (by first | omega | (simp; done) | (simp; omega)) _) | (with_reducible refine Below.alloc ?_ (by first | omega | (simp; done) | (simp; omega)) _) | (with_reducible refine Below.drew ?_) | (with_reducible refine below_drewN ?_ _) | (with_reducible refine Below.trans ?_ (Below.mono (by assumption) (by first | omega | (simp; done) | (simp; omega)))))))) (HC.out.below (show Below wC.heap.size wC _ from by (repeat' (first | (with_reducible exact Below.refl _ _) | (with_reducible refine Below.setCell ?_ (by first | omega | (simp; done) | (simp; omega)) _) | (with_reducible refine Below.alloc ?_ (by first | omega | (simp; done) | (simp; omega)) _) | (with_reducible refine Below.drew ?_) | (with_reducible refine below_drewN ?_ _) | (with_reducible refine Below.trans ?_ (Below.mono (by assumption) (by first | omega | (simp; done) | (simp; omega)))))))) (HD.out.below (show Below wC.heap.size wC _ from by (repeat' (first | (with_reducible exact Below.refl _ _) | (with_reducible refine Below.setCell ?_ (by first | omega | (simp; done) | (simp; omega)) _) | (with_reducible refine Below.alloc ?_ (by first | omega | (simp; done) | (simp; omega)) _) | (with_reducible refine Below.drew ?_) | (with_reducible refine below_drewN ?_ _) | (with_reducible refine Below.trans ?_ (Below.mono (by assumption) (by first | omega | (simp; done) | (simp; omega)))))))) (HR.out.below (by (repeat' (first | (with_reducible exact Below.refl _ _) | (with_reducible refine Below.setCell ?_ (by first | omega | (simp; done) | (simp; omega)) _) | (with_reducible refine Below.alloc ?_ (by first | omega | (simp; done) | (simp; omega)) _) | (with_reducible refine Below.drew ?_) | (with_reducible refine below_drewN ?_ _) | (with_reducible refine Below.trans ?_ (Below.mono (by assumption) (by first | omega | (simp; done) | (simp; omega)))))))))).mono ?_); rintro e wE ⟨oE, cE, rfl, hoE, foE, hb⟩; have HE := Lib.hid hoE.out; clear hoE foE; obtain ⟨hc, hf, hz⟩ := bcall hb; (try simp at hc hf hz))
  go_wp2_with fail
  (go_at_call 32; (with_reducible refine (M2.out _ _ _ (HA.out.below (show Below wA.heap.size wA _ from by (repeat' (first | (with_reducible exact Below.refl _ _) | (with_reducible refine Below.setCell ?_ (by first | omega | (simp; done) | (simp; omega)) _) | (with_reducible refine Below.alloc ?_ (by first | omega | (simp; done) | (simp; omega)) _) | (with_reducible refine Below.drew ?_) | (with_reducible refine below_drewN ?_ _) | (with_reducible refine Below.trans ?_ (Below.mono (by assumption) (by first | omega | (simp; done) | (simp; omega))))))))).mono ?_); rintro e wF ⟨oF, cF, rfl, hoF, loF, hb⟩; have HF := Lib.hid hoF; clear hoF; obtain ⟨hc, hf, hz⟩ := bcall hb; (try simp at hc hf hz loF))
  go_wp2_with fail
  (go_at_call 13; (with_reducible refine (gSame_yes W H oE (some ⟨oF, 0, none⟩) n cE cF F2 (miG W F1) _ (by omega) (HE.out.below (show Below wE.heap.size wE _ from by (repeat' (first | (with_reducible exact Below.refl _ _) | (with_reducible refine Below.setCell ?_ (by first | omega | (simp; done) | (simp; omega)) _) | (with_reducible refine Below.alloc ?_ (by first | omega | (simp; done) | (simp; omega)) _) | (with_reducible refine Below.drew ?_) | (with_reducible refine below_drewN ?_ _) | (with_reducible refine Below.trans ?_ (Below.mono (by assumption) (by first | omega | (simp; done) | (simp; omega)))))))) (HF.out.below (show Below wF.heap.size wF _ from by (repeat' (first | (with_reducible exact Below.refl _ _) | (with_reducible refine Below.setCell ?_ (by first | omega | (simp; done) | (simp; omega)) _) | (with_reducible refine Below.alloc ?_ (by first | omega | (simp; done) | (simp; omega)) _) | (with_reducible refine Below.drew ?_) | (with_reducible refine below_drewN ?_ _) | (with_reducible refine Below.trans ?_ (Below.mono (by assumption) (by first | omega | (simp; done) | (simp; omega)))))))) EM.out).mono ?_); rintro e w1 ⟨rfl, hb⟩; obtain ⟨hc, hf, hz⟩ := bcall hb; (try simp at hc hf hz))
  go_wp2_with fail
  (go_at_call 10; (with_reducible refine (awake3_any _ (T.out.below (show Below w.heap.size w _ from by (repeat' (first | (with_reducible exact Below.refl _ _) | (with_reducible refine Below.setCell ?_ (by first | omega | (simp; done) | (simp; omega)) _) | (with_reducible refine Below.alloc ?_ (by first | omega | (simp; done) | (simp; omega)) _) | (with_reducible refine Below.drew ?_) | (with_reducible refine below_drewN ?_ _) | (with_reducible refine Below.trans ?_ (Below.mono (by assumption) (by first | omega | (simp; done) | (simp; omega))))))))).mono ?_); rintro e w1 ⟨rfl, hb⟩; obtain ⟨hc, hf, hz⟩ := bcall hb; (try simp at hc hf hz))
  go_wp2
  go_ret
  refine ⟨by simp, ?_⟩
  (repeat' (first | (with_reducible exact Below.refl _ _) | (with_reducible refine Below.setCell ?_ (by first | omega | (simp; done) | (simp; omega)) _) | (with_reducible refine Below.alloc ?_ (by first | omega | (simp; done) | (simp; omega)) _) | (with_reducible refine Below.drew ?_) | (with_reducible refine below_drewN ?_ _) | (with_reducible refine Below.trans ?_ (Below.mono (by assumption) (by first | omega | (simp; done) | (simp; omega))))))

theorem wallMirrors_any (W H : Int) (ao : Option Addr) (n cap : Nat) (G : Nat → Nat → Int) (ak : Option Addr) (nk ck : Nat) (K : Nat → Int) (ab : Option Addr) (nb cb : Nat) (B : Nat → Int) (rk ry : Int) (w : World) (hT : Tbl w) (wW : Wf W) (wH : Wf H) (hl : n ≤ cap) (hm : cap ≤ maxLen) (hG : CellsIn w ao n G) (hlk : nk ≤ ck) (hmk : ck ≤ maxLen) (hK : NumsIn w ak nk K) (fK : ∀ i, i < nk → Wf (K i)) (hlb : nb ≤ cb) (hmb : cb ≤ maxLen) (hB : NumsIn w ab nb B) (fB : ∀ i, i < nb → Wf (B i)) :
    Calls Tryd.prog 8 #[.agg #[.int .i64 W, .int .i64 H, .slice (ao) n cap, .slice (ak) nk ck, .slice (ab) nb cb], .agg #[.int .i64 rk, .int .i64 ry]] w fun e w' => e = .returned (.bool true) ∧ Below w.heap.size w w' := by
  by_cases hs : (n ≤ 400 ∧ nk ≤ 400 ∧ nb ≤ 400) ∧ rk ≠ 2
  · by_cases h : WOk W H n G nk K nb B 1 (fun _ => (rk, ry)) 0 1
    · obtain ⟨W', H', t', c', rfl, rfl, _, _, rfl, rfl, s, hG', hP, hk, hr⟩ := wok_nat W H n G nk K nb B 1 (fun _ => (rk, ry)) h
      exact wallMirrors_in W' H' _ cap ao G ak ck K ab cb B rk ry w s hG' hP (hk.2.2 0 (by omega)) hT hG hK hB hs.1.1 hs.2
    · have hz : ∃ z : Int, z ≠ 0 ∧ ∀ ro w, PreW w ao n G ak nk K ab nb B ro 1 (fun _ => (rk, ry)) → Calls Tryd.prog 11 #[.agg #[.int .i64 W, .int .i64 H, .slice (ao) n cap], .agg #[.slice (ak) nk ck, .slice (ab) nb cb], .slice ro 1 1, .int .i64 0] w (GZ 0 0 0 G z w) := by
        by_cases h1 : WV W H n G nk K nb B
        · refine ⟨1, by omega, fun ro w hp => ?_⟩
          have h2 : ¬ OkRs 1 (fun _ => (rk, ry)) := fun h2 => h ⟨h1, h2, by unfold RunOk; omega⟩
          exact wstep_gz W H ao n cap ak nk ck ab nb cb ro 1 1 0 w 0 0 0 G 1 fun wx hb => (wrun_err W H ao n cap ak nk ck ab nb cb ro 1 1 0 1 1 wx (by omega) (fun wy hy => by
            have q := (hp.below hb).below hy
            exact wcheck_r W H ao n cap ak nk ck ab nb cb ro 1 1 0 1 wy (fun wz hb => wValid_yes W H ao n cap G ak nk ck K ab nb cb B wz h1 (q.2.1.below hb) (q.2.2.1.below hb) (q.2.2.2.1.below hb)) (fun wz hb => validRules_bad ro 1 1 (fun _ => (rk, ry)) wz (by omega) (q.2.2.2.2.below hb) h2))).mono fun _ _ h => gz_err h
        · refine ⟨1, by omega, fun ro w hp => ?_⟩
          exact wstep_gz W H ao n cap ak nk ck ab nb cb ro 1 1 0 w 0 0 0 G 1 fun wx hb => (wrun_err W H ao n cap ak nk ck ab nb cb ro 1 1 0 1 1 wx (by omega) (fun wy hy => by
            have q := (hp.below hb).below hy
            exact wcheck_v W H ao n cap ak nk ck ab nb cb ro 1 1 0 1 wy (fun wz hb => wValid_no W H ao n cap G ak nk ck K ab nb cb B wz h1 (q.2.1.below hb) (q.2.2.1.below hb) (q.2.2.2.1.below hb)))).mono fun _ _ h => gz_err h
      obtain ⟨z, h1, h2⟩ := hz
      exact wallMirrors_err W H ao n cap G ak nk ck K ab nb cb B rk ry z w hT hG hK hB hs.1 hs.2 h1 h2
  · exact wallMirrors_out W H ao n cap ak nk ck ab nb cb rk ry w hT hs
end Go.Proofs.YtnpmlbhlchoolaaDoor
