/- A body's drag: both sides as one form. -/
import Derived.Test.YtnpmlbhlchoolaaDoorKRefDrag
import Derived.Test.YtnpmlbhlchoolaaDoorKDragW
import Derived.Test.YtnpmlbhlchoolaaDoorKWBoth
namespace Go.Proofs.YtnpmlbhlchoolaaDoor
set_option linter.unusedSimpArgs false
set_option linter.unusedVariables false
open Go.RowKit

/-- The drag: what the walls give a body over some steps. -/
noncomputable def dgE (W H : Nat) (K : Nat → Int) (len : Nat) (R : Nat → Int × Int) (t : Nat) (G : Nat → Nat → Int) (L : List Nat) (c : Nat) : Int := sm c (fun k => sumL (dE K (runG (fwdW W H K len R) t k G)) L)
noncomputable def dgN (W H : Nat) (K : Nat → Int) (len : Nat) (R : Nat → Int × Int) (t : Nat) (G : Nat → Nat → Int) (L : List Nat) (c : Nat) : Int := sm c (fun k => sumL (dN K (runG (fwdW W H K len R) t k G)) L)
theorem sm_split (f : Nat → Int) (a b : Nat) : sm (a + b) f = sm a f + sm b (fun i => f (a + i)) := by
  induction b with
  | zero => simp [sm]
  | succ b ih =>
    rw [← Nat.add_assoc]
    simp only [sm, ih]
    omega
theorem runG_addW (F : Stepper) (t c1 c2 : Nat) (G : Nat → Nat → Int) : runG F (t + c1) c2 (runG F t c1 G) = runG F t (c1 + c2) G := by
  induction c2 with
  | zero => rfl
  | succ c ih =>
    show F (t + c1 + c) (runG F (t + c1) c (runG F t c1 G)) = F (t + (c1 + c)) (runG F t (c1 + c) G)
    rw [ih, Nat.add_assoc]
theorem dgE_add {W H : Nat} {K : Nat → Int} {len : Nat} {R : Nat → Int × Int} (t : Nat) (G : Nat → Nat → Int) (L : List Nat) (a b : Nat) : dgE W H K len R t G L (a + b) = dgE W H K len R t G L a + dgE W H K len R (t + a) (runG (fwdW W H K len R) t a G) L b := by
  unfold dgE
  rw [sm_split]
  simp only [runG_addW]
theorem dgN_add {W H : Nat} {K : Nat → Int} {len : Nat} {R : Nat → Int × Int} (t : Nat) (G : Nat → Nat → Int) (L : List Nat) (a b : Nat) : dgN W H K len R t G L (a + b) = dgN W H K len R t G L a + dgN W H K len R (t + a) (runG (fwdW W H K len R) t a G) L b := by
  unfold dgN
  rw [sm_split]
  simp only [runG_addW]
theorem sumL_own {n : Nat} {K B : Nat → Int} {body : Int} {G : Nat → Nat → Int} (hn : n ≤ 1024) (hK : OkK n K) (hG : OkG n G) : (-2100000000000 ≤ sumL (dE K G) (ownN B body n) ∧ sumL (dE K G) (ownN B body n) ≤ 2100000000000) ∧ (-2100000000000 ≤ sumL (dN K G) (ownN B body n) ∧ sumL (dN K G) (ownN B body n) ≤ 2100000000000) := by
  have hl : (ownN B body n).length ≤ n := by rw [ownN_len]; exact cntB_le _ _ _
  have h1 := sumL_bd (f := dE K G) (c := 2000000000) (by omega) (ownN B body n) (fun i hi => (d_bd hK hG (ownN_mem hi).1).1)
  have h2 := sumL_bd (f := dN K G) (c := 2000000000) (by omega) (ownN B body n) (fun i hi => (d_bd hK hG (ownN_mem hi).1).2)
  omega
theorem okP_body {n : Nat} {K B : Nat → Int} (h : ∀ i, i < n → OkP (K i) (B i)) : ∀ i, i < n → 0 ≤ B i ∧ B i ≤ 9 := fun i hi => by
  have := h i hi
  unfold OkP at this
  omega

section
variable (W H n cap : Nat) (ao : Option Addr) (G : Nat → Nat → Int) (ak : Option Addr) (ck : Nat) (K : Nat → Int) (ab : Option Addr) (cb : Nat) (B : Nat → Int) (ro : Option Addr) (len rc : Nat) (R : Nat → Int × Int) (t c : Nat) (body : Int) (w : World)
theorem wDrag_ok (s : Sides W H n) (hG : OkG n G) (hP : ∀ i, i < n → OkP (K i) (B i)) (hk : OkRs len R) (hr : RunOk t c) (h1 : 1 ≤ body) (h9 : body ≤ 9) (hc : 0 < cntB B body n) (hp : PreW w ao n G ak n K ab n B ro len R) :
    Calls Tryd.prog 30 #[.agg #[.int .i64 W, .int .i64 H, .slice (ao) n cap], .agg #[.slice (ak) n ck, .slice (ab) n cb], .slice ro len rc, .int .i64 t, .int .i64 c, .int .i64 body] w fun e w' => e = .returned (.tuple #[.agg #[.int .i64 (dgE W H K len R t G (ownN B body n) c), .int .i64 (dgN W H K len R t G (ownN B body n) c)], .int .i64 0]) ∧ Below w.heap.size w w' := by
  obtain ⟨z, hz, e1, _⟩ := wcheck_both W H ao n cap G ak n ck K ab n cb B ro len rc R t c (hm_of hk)
  obtain rfl := hz.2 (wok_of s hG hP hk hr)
  have hp' := hp
  obtain ⟨hT, hC, hN, hB, hR⟩ := hp
  obtain ⟨b, off, rfl, hlt, hC⟩ := cells_of1 s hC
  have hpos := vg_pos (vg_of s hG)
  have hn1 := s.n1
  obtain ⟨bk, ok, rfl, hbk, hN⟩ := numsAt_of hN (by omega)
  obtain ⟨bb, ob, rfl, lbb, hB⟩ := numsAt_of hB (by omega)
  obtain ⟨rb, rof, rfl, hrb, hR⟩ := rules_of1 hk hR
  have hK := okK_of hP
  exact wdrag_in W H n cap b off bk ok ck rb rof len rc t c bb ob cb K B R G body w s hG hlt hC hK hbk hN lbb hB hrb hR hk hT hr h1 h9 (fun wx hb => by have q := hp'.below hb; exact e1 wx q.2.1 q.2.2.1 q.2.2.2.1 q.2.2.2.2)
    (fun wx hb => (whas_in (some ⟨bk, ok, none⟩) n ck bb ob n cb B body wx hn1 (Nat.lt_of_lt_of_le lbb hb.size) (hB.below hb lbb) (okP_body hP) h1 h9).mono fun e w' h => by simpa [hc] using h)
    _ _ (fun k _ => (sumL_own hn1 hK (okG_runW s.n0 hK hG)).1) (fun k _ => (sumL_own hn1 hK (okG_runW s.n0 hK hG)).2) (fun _ _ => rfl) (fun _ _ => rfl)
theorem rDrag_ok (s : Sides W H n) (hG : OkG n G) (hP : ∀ i, i < n → OkP (K i) (B i)) (hk : OkRs len R) (hr : RunOk t c) (h1 : 1 ≤ body) (h9 : body ≤ 9) (hc : 0 < cntB B body n) (hp : PreW w ao n G ak n K ab n B ro len R) :
    Calls Tryd.prog 31 #[.agg #[.int .i64 W, .int .i64 H, .slice (ao) n cap], .agg #[.slice (ak) n ck, .slice (ab) n cb], .slice ro len rc, .int .i64 t, .int .i64 c, .int .i64 body] w fun e w' => e = .returned (.tuple #[.agg #[.int .i64 (dgE W H K len R t G (ownN B body n) c), .int .i64 (dgN W H K len R t G (ownN B body n) c)], .int .i64 0]) ∧ Below w.heap.size w w' := by
  obtain ⟨z, hz, _, e1⟩ := wcheck_both W H ao n cap G ak n ck K ab n cb B ro len rc R t c (hm_of hk)
  obtain rfl := hz.2 (wok_of s hG hP hk hr)
  have hp' := hp
  obtain ⟨hT, hC, hN, hB, hR⟩ := hp
  obtain ⟨b, off, rfl, hlt, hC⟩ := cells_of1 s hC
  have hpos := vg_pos (vg_of s hG)
  have hn1 := s.n1
  obtain ⟨bk, ok, rfl, hbk, hN⟩ := numsAt_of hN (by omega)
  obtain ⟨bb, ob, rfl, lbb, hB⟩ := numsAt_of hB (by omega)
  have hK := okK_of hP
  have hm : 1 ≤ (ownN B body n).length := by rw [ownN_len]; exact hc
  have hm1 : (ownN B body n).length ≤ n := by rw [ownN_len]; exact cntB_le _ _ _
  exact rdrag_in W H n cap b off bk ok ck ro len rc (some ⟨bb, ob, none⟩) n cb K R G t c body w s hG hlt hC hK hbk hN hR hk hr h1 h9 (ownN B body n).length (fun j => (ownN B body n).getD j 0) hm (by omega) (fun wx hb => by have q := hp'.below hb; exact e1 wx q.2.1 q.2.2.1 q.2.2.2.1 q.2.2.2.2)
    (fun wx hb => rown_in _ n ck bb ob n cb B body wx hn1 (Nat.lt_of_lt_of_le lbb hb.size) (hB.below hb lbb))
    _ _ (fun k _ => (sumL_own hn1 hK (okG_runW s.n0 hK hG)).1) (fun k _ => (sumL_own hn1 hK (okG_runW s.n0 hK hG)).2)
    (fun k b2 o2 c2 wx hk hb l2 g2 => rimpulse_in W H n c2 b2 o2 bk ok ck bb ob cb K B body _ wx hm hn1 (okG_runW s.n0 hK hG) l2 g2 hK (Nat.lt_of_lt_of_le hbk hb.size) (hN.below hb hbk) (Nat.lt_of_lt_of_le lbb hb.size) (hB.below hb lbb))
end

section
variable (W H : Int) (ao : Option Addr) (n cap : Nat) (ak : Option Addr) (nk ck : Nat) (ab : Option Addr) (nb cb : Nat) (ro : Option Addr) (len rc : Nat) (t c body : Int) (w : World)
set_option maxHeartbeats 4000000 in
theorem wdrag_err (z : Int) (hz : z ≠ 0) (E : ∀ wx, Below w.heap.size w wx → Calls Tryd.prog 40 #[.agg #[.int .i64 W, .int .i64 H, .slice (ao) n cap], .agg #[.slice (ak) nk ck, .slice (ab) nb cb], .slice ro len rc, .int .i64 t, .int .i64 c] wx fun e w' => e = .returned (.int .i64 z) ∧ Below wx.heap.size wx w') :
    Calls Tryd.prog 30 #[.agg #[.int .i64 W, .int .i64 H, .slice (ao) n cap], .agg #[.slice (ak) nk ck, .slice (ab) nb cb], .slice ro len rc, .int .i64 t, .int .i64 c, .int .i64 body] w fun e w' => e = .returned (.tuple #[.agg #[.int .i64 0, .int .i64 0], .int .i64 z]) ∧ Below w.heap.size w w' := by
  have HE := Lib.hid E; clear E
  have e0 : (z == 0) = false := beq_eq_false_iff_ne.2 hz
  have e1 : (z != 0) = true := by simp [bne, e0]
  clear hz e0
  go_enter Tryd.func30, Tryd.ntmps30
  go_wp2_with (go_at_call 40; (with_reducible refine (HE.out _ (by (repeat' (first | (with_reducible exact Below.refl _ _) | (with_reducible refine Below.setCell ?_ (by first | omega | (simp; done) | (simp; omega)) _) | (with_reducible refine Below.alloc ?_ (by first | omega | (simp; done) | (simp; omega)) _) | (with_reducible refine Below.drew ?_) | (with_reducible refine below_drewN ?_ _) | (with_reducible refine Below.trans ?_ (Below.mono (by assumption) (by first | omega | (simp; done) | (simp; omega)))))))).mono ?_); rintro e w1 ⟨rfl, hb⟩; obtain ⟨hc, hf, hz⟩ := bcall hb; (try simp at hc hf hz))
  refine bodyPost_ret (v := .tuple #[.agg #[.int .i64 0, .int .i64 0], .int .i64 z]) (by simp [results, Tryd.results30, go_sem, ↓IntWalk.iteOmega, *]) rfl ⟨rfl, ?_⟩
  (repeat' (first | (with_reducible exact Below.refl _ _) | (with_reducible refine Below.setCell ?_ (by first | omega | (simp; done) | (simp; omega)) _) | (with_reducible refine Below.alloc ?_ (by first | omega | (simp; done) | (simp; omega)) _) | (with_reducible refine Below.drew ?_) | (with_reducible refine below_drewN ?_ _) | (with_reducible refine Below.trans ?_ (Below.mono (by assumption) (by first | omega | (simp; done) | (simp; omega))))))
set_option maxHeartbeats 4000000 in
theorem rdrag_err (z : Int) (hz : z ≠ 0) (E : ∀ wx, Below w.heap.size w wx → Calls Tryd.prog 35 #[.agg #[.int .i64 W, .int .i64 H, .slice (ao) n cap], .agg #[.slice (ak) nk ck, .slice (ab) nb cb], .slice ro len rc, .int .i64 t, .int .i64 c] wx fun e w' => e = .returned (.int .i64 z) ∧ Below wx.heap.size wx w') :
    Calls Tryd.prog 31 #[.agg #[.int .i64 W, .int .i64 H, .slice (ao) n cap], .agg #[.slice (ak) nk ck, .slice (ab) nb cb], .slice ro len rc, .int .i64 t, .int .i64 c, .int .i64 body] w fun e w' => e = .returned (.tuple #[.agg #[.int .i64 0, .int .i64 0], .int .i64 z]) ∧ Below w.heap.size w w' := by
  have HE := Lib.hid E; clear E
  have e0 : (z == 0) = false := beq_eq_false_iff_ne.2 hz
  have e1 : (z != 0) = true := by simp [bne, e0]
  clear hz e0
  go_enter Tryd.func31, Tryd.ntmps31
  go_wp2_with (go_at_call 35; (with_reducible refine (HE.out _ (by (repeat' (first | (with_reducible exact Below.refl _ _) | (with_reducible refine Below.setCell ?_ (by first | omega | (simp; done) | (simp; omega)) _) | (with_reducible refine Below.alloc ?_ (by first | omega | (simp; done) | (simp; omega)) _) | (with_reducible refine Below.drew ?_) | (with_reducible refine below_drewN ?_ _) | (with_reducible refine Below.trans ?_ (Below.mono (by assumption) (by first | omega | (simp; done) | (simp; omega)))))))).mono ?_); rintro e w1 ⟨rfl, hb⟩; obtain ⟨hc, hf, hz⟩ := bcall hb; (try simp at hc hf hz))
  refine bodyPost_ret (v := .tuple #[.agg #[.int .i64 0, .int .i64 0], .int .i64 z]) (by simp [results, Tryd.results31, go_sem, ↓IntWalk.iteOmega, *]) rfl ⟨rfl, ?_⟩
  (repeat' (first | (with_reducible exact Below.refl _ _) | (with_reducible refine Below.setCell ?_ (by first | omega | (simp; done) | (simp; omega)) _) | (with_reducible refine Below.alloc ?_ (by first | omega | (simp; done) | (simp; omega)) _) | (with_reducible refine Below.drew ?_) | (with_reducible refine below_drewN ?_ _) | (with_reducible refine Below.trans ?_ (Below.mono (by assumption) (by first | omega | (simp; done) | (simp; omega))))))
set_option maxHeartbeats 4000000 in
theorem wdrag_7 (hb : body < 1 ∨ 9 < body) (E : ∀ wx, Below w.heap.size w wx → Calls Tryd.prog 40 #[.agg #[.int .i64 W, .int .i64 H, .slice (ao) n cap], .agg #[.slice (ak) nk ck, .slice (ab) nb cb], .slice ro len rc, .int .i64 t, .int .i64 c] wx fun e w' => e = .returned (.int .i64 0) ∧ Below wx.heap.size wx w') :
    Calls Tryd.prog 30 #[.agg #[.int .i64 W, .int .i64 H, .slice (ao) n cap], .agg #[.slice (ak) nk ck, .slice (ab) nb cb], .slice ro len rc, .int .i64 t, .int .i64 c, .int .i64 body] w fun e w' => e = .returned (.tuple #[.agg #[.int .i64 0, .int .i64 0], .int .i64 7]) ∧ Below w.heap.size w w' := by
  have HE := Lib.hid E; clear E
  have HB := Lib.hid hb; clear hb
  go_enter Tryd.func30, Tryd.ntmps30
  go_wp2_with (first | (go_at_call 40; (with_reducible refine (HE.out _ (by (repeat' (first | (with_reducible exact Below.refl _ _) | (with_reducible refine Below.setCell ?_ (by first | omega | (simp; done) | (simp; omega)) _) | (with_reducible refine Below.alloc ?_ (by first | omega | (simp; done) | (simp; omega)) _) | (with_reducible refine Below.drew ?_) | (with_reducible refine below_drewN ?_ _) | (with_reducible refine Below.trans ?_ (Below.mono (by assumption) (by first | omega | (simp; done) | (simp; omega)))))))).mono ?_); rintro e w1 ⟨rfl, hb⟩; obtain ⟨hc, hf, hz⟩ := bcall hb; (try simp at hc hf hz)) | (go_at_call 63; (with_reducible refine (isBody_no _ _ HB.out).mono ?_); rintro e w1 ⟨rfl, rfl⟩))
  refine bodyPost_ret (v := .tuple #[.agg #[.int .i64 0, .int .i64 0], .int .i64 7]) (by simp [results, Tryd.results30, go_sem, ↓IntWalk.iteOmega, *]) rfl ⟨rfl, ?_⟩
  (repeat' (first | (with_reducible exact Below.refl _ _) | (with_reducible refine Below.setCell ?_ (by first | omega | (simp; done) | (simp; omega)) _) | (with_reducible refine Below.alloc ?_ (by first | omega | (simp; done) | (simp; omega)) _) | (with_reducible refine Below.drew ?_) | (with_reducible refine below_drewN ?_ _) | (with_reducible refine Below.trans ?_ (Below.mono (by assumption) (by first | omega | (simp; done) | (simp; omega))))))
set_option maxHeartbeats 4000000 in
theorem rdrag_7 (hb : body < 1 ∨ 9 < body) (E : ∀ wx, Below w.heap.size w wx → Calls Tryd.prog 35 #[.agg #[.int .i64 W, .int .i64 H, .slice (ao) n cap], .agg #[.slice (ak) nk ck, .slice (ab) nb cb], .slice ro len rc, .int .i64 t, .int .i64 c] wx fun e w' => e = .returned (.int .i64 0) ∧ Below wx.heap.size wx w') :
    Calls Tryd.prog 31 #[.agg #[.int .i64 W, .int .i64 H, .slice (ao) n cap], .agg #[.slice (ak) nk ck, .slice (ab) nb cb], .slice ro len rc, .int .i64 t, .int .i64 c, .int .i64 body] w fun e w' => e = .returned (.tuple #[.agg #[.int .i64 0, .int .i64 0], .int .i64 7]) ∧ Below w.heap.size w w' := by
  have HE := Lib.hid E; clear E
  have HB := Lib.hid hb; clear hb
  go_enter Tryd.func31, Tryd.ntmps31
  go_wp2_with (first | (go_at_call 35; (with_reducible refine (HE.out _ (by (repeat' (first | (with_reducible exact Below.refl _ _) | (with_reducible refine Below.setCell ?_ (by first | omega | (simp; done) | (simp; omega)) _) | (with_reducible refine Below.alloc ?_ (by first | omega | (simp; done) | (simp; omega)) _) | (with_reducible refine Below.drew ?_) | (with_reducible refine below_drewN ?_ _) | (with_reducible refine Below.trans ?_ (Below.mono (by assumption) (by first | omega | (simp; done) | (simp; omega)))))))).mono ?_); rintro e w1 ⟨rfl, hb⟩; obtain ⟨hc, hf, hz⟩ := bcall hb; (try simp at hc hf hz)) | (go_at_call 58; (with_reducible refine (rIsBody_no _ _ HB.out).mono ?_); rintro e w1 ⟨rfl, rfl⟩))
  refine bodyPost_ret (v := .tuple #[.agg #[.int .i64 0, .int .i64 0], .int .i64 7]) (by simp [results, Tryd.results31, go_sem, ↓IntWalk.iteOmega, *]) rfl ⟨rfl, ?_⟩
  (repeat' (first | (with_reducible exact Below.refl _ _) | (with_reducible refine Below.setCell ?_ (by first | omega | (simp; done) | (simp; omega)) _) | (with_reducible refine Below.alloc ?_ (by first | omega | (simp; done) | (simp; omega)) _) | (with_reducible refine Below.drew ?_) | (with_reducible refine below_drewN ?_ _) | (with_reducible refine Below.trans ?_ (Below.mono (by assumption) (by first | omega | (simp; done) | (simp; omega))))))
set_option maxHeartbeats 4000000 in
theorem wdrag_8 (h1 : 1 ≤ body) (h9 : body ≤ 9) (E : ∀ wx, Below w.heap.size w wx → Calls Tryd.prog 40 #[.agg #[.int .i64 W, .int .i64 H, .slice (ao) n cap], .agg #[.slice (ak) nk ck, .slice (ab) nb cb], .slice ro len rc, .int .i64 t, .int .i64 c] wx fun e w' => e = .returned (.int .i64 0) ∧ Below wx.heap.size wx w')
    (HS : ∀ wx, Below w.heap.size w wx → Calls Tryd.prog 54 #[.agg #[.slice (ak) nk ck, .slice (ab) nb cb], .int .i64 body] wx fun e w' => e = .returned (.bool false) ∧ Below wx.heap.size wx w') :
    Calls Tryd.prog 30 #[.agg #[.int .i64 W, .int .i64 H, .slice (ao) n cap], .agg #[.slice (ak) nk ck, .slice (ab) nb cb], .slice ro len rc, .int .i64 t, .int .i64 c, .int .i64 body] w fun e w' => e = .returned (.tuple #[.agg #[.int .i64 0, .int .i64 0], .int .i64 8]) ∧ Below w.heap.size w w' := by
  have HE := Lib.hid E; clear E
  have HHS := Lib.hid HS; clear HS
  go_enter Tryd.func30, Tryd.ntmps30
  go_wp2_with (first | (go_at_call 40; (with_reducible refine (HE.out _ (by (repeat' (first | (with_reducible exact Below.refl _ _) | (with_reducible refine Below.setCell ?_ (by first | omega | (simp; done) | (simp; omega)) _) | (with_reducible refine Below.alloc ?_ (by first | omega | (simp; done) | (simp; omega)) _) | (with_reducible refine Below.drew ?_) | (with_reducible refine below_drewN ?_ _) | (with_reducible refine Below.trans ?_ (Below.mono (by assumption) (by first | omega | (simp; done) | (simp; omega)))))))).mono ?_); rintro e w1 ⟨rfl, hb⟩; obtain ⟨hc, hf, hz⟩ := bcall hb; (try simp at hc hf hz)) | (go_at_call 63; (with_reducible refine (isBody_yes _ _ h1 h9).mono ?_); rintro e w1 ⟨rfl, rfl⟩) | (go_at_call 54; (with_reducible refine (HHS.out _ (by (repeat' (first | (with_reducible exact Below.refl _ _) | (with_reducible refine Below.setCell ?_ (by first | omega | (simp; done) | (simp; omega)) _) | (with_reducible refine Below.alloc ?_ (by first | omega | (simp; done) | (simp; omega)) _) | (with_reducible refine Below.drew ?_) | (with_reducible refine below_drewN ?_ _) | (with_reducible refine Below.trans ?_ (Below.mono (by assumption) (by first | omega | (simp; done) | (simp; omega)))))))).mono ?_); rintro e wh ⟨rfl, hbh⟩; obtain ⟨hch, hfh, hzh⟩ := bcall hbh; (try simp at hch hfh hzh)))
  refine bodyPost_ret (v := .tuple #[.agg #[.int .i64 0, .int .i64 0], .int .i64 8]) (by simp [results, Tryd.results30, go_sem, ↓IntWalk.iteOmega, *]) rfl ⟨rfl, ?_⟩
  (repeat' (first | (with_reducible exact Below.refl _ _) | (with_reducible refine Below.setCell ?_ (by first | omega | (simp; done) | (simp; omega)) _) | (with_reducible refine Below.alloc ?_ (by first | omega | (simp; done) | (simp; omega)) _) | (with_reducible refine Below.drew ?_) | (with_reducible refine below_drewN ?_ _) | (with_reducible refine Below.trans ?_ (Below.mono (by assumption) (by first | omega | (simp; done) | (simp; omega))))))
set_option maxHeartbeats 4000000 in
theorem rdrag_8 (h1 : 1 ≤ body) (h9 : body ≤ 9) (E : ∀ wx, Below w.heap.size w wx → Calls Tryd.prog 35 #[.agg #[.int .i64 W, .int .i64 H, .slice (ao) n cap], .agg #[.slice (ak) nk ck, .slice (ab) nb cb], .slice ro len rc, .int .i64 t, .int .i64 c] wx fun e w' => e = .returned (.int .i64 0) ∧ Below wx.heap.size wx w')
    (OW : ∀ wx, Below w.heap.size w wx → Calls Tryd.prog 59 #[.agg #[.slice (ak) nk ck, .slice (ab) nb cb], .int .i64 body] wx fun e w' => ∃ ao co, e = .returned (.slice ao 0 co) ∧ Below wx.heap.size wx w') :
    Calls Tryd.prog 31 #[.agg #[.int .i64 W, .int .i64 H, .slice (ao) n cap], .agg #[.slice (ak) nk ck, .slice (ab) nb cb], .slice ro len rc, .int .i64 t, .int .i64 c, .int .i64 body] w fun e w' => e = .returned (.tuple #[.agg #[.int .i64 0, .int .i64 0], .int .i64 8]) ∧ Below w.heap.size w w' := by
  have HE := Lib.hid E; clear E
  have OW := Lib.hid OW
  go_enter Tryd.func31, Tryd.ntmps31
  go_wp2_with (first | (go_at_call 35; (with_reducible refine (HE.out _ (by (repeat' (first | (with_reducible exact Below.refl _ _) | (with_reducible refine Below.setCell ?_ (by first | omega | (simp; done) | (simp; omega)) _) | (with_reducible refine Below.alloc ?_ (by first | omega | (simp; done) | (simp; omega)) _) | (with_reducible refine Below.drew ?_) | (with_reducible refine below_drewN ?_ _) | (with_reducible refine Below.trans ?_ (Below.mono (by assumption) (by first | omega | (simp; done) | (simp; omega)))))))).mono ?_); rintro e w1 ⟨rfl, hb⟩; obtain ⟨hc, hf, hz⟩ := bcall hb; (try simp at hc hf hz)) | (go_at_call 58; (with_reducible refine (rIsBody_yes _ _ h1 h9).mono ?_); rintro e w1 ⟨rfl, rfl⟩) | (go_at_call 59; (with_reducible refine (OW.out _ (by (repeat' (first | (with_reducible exact Below.refl _ _) | (with_reducible refine Below.setCell ?_ (by first | omega | (simp; done) | (simp; omega)) _) | (with_reducible refine Below.alloc ?_ (by first | omega | (simp; done) | (simp; omega)) _) | (with_reducible refine Below.drew ?_) | (with_reducible refine below_drewN ?_ _) | (with_reducible refine Below.trans ?_ (Below.mono (by assumption) (by first | omega | (simp; done) | (simp; omega)))))))).mono ?_); rintro e wo ⟨ao3, co3, rfl, hb3⟩; obtain ⟨hc3, hf3, hz3⟩ := bcall hb3; (try simp at hc3 hf3 hz3)))
  refine bodyPost_ret (v := .tuple #[.agg #[.int .i64 0, .int .i64 0], .int .i64 8]) (by simp [results, Tryd.results31, go_sem, ↓IntWalk.iteOmega, *]) rfl ⟨rfl, ?_⟩
  (repeat' (first | (with_reducible exact Below.refl _ _) | (with_reducible refine Below.setCell ?_ (by first | omega | (simp; done) | (simp; omega)) _) | (with_reducible refine Below.alloc ?_ (by first | omega | (simp; done) | (simp; omega)) _) | (with_reducible refine Below.drew ?_) | (with_reducible refine below_drewN ?_ _) | (with_reducible refine Below.trans ?_ (Below.mono (by assumption) (by first | omega | (simp; done) | (simp; omega))))))
end

section
variable (W H : Int) (ao : Option Addr) (n cap : Nat) (G : Nat → Nat → Int) (ak : Option Addr) (nk ck : Nat) (K : Nat → Int) (ab : Option Addr) (nb cb : Nat) (B : Nat → Int) (ro : Option Addr) (len rc : Nat) (R : Nat → Int × Int) (t c body : Int)
/-- What a drag asks for. -/
def DOk (W H : Int) (n : Nat) (G : Nat → Nat → Int) (nk : Nat) (K : Nat → Int) (nb : Nat) (B : Nat → Int) (len : Nat) (R : Nat → Int × Int) (t c body : Int) : Prop := WOk W H n G nk K nb B len R t c ∧ 1 ≤ body ∧ body ≤ 9 ∧ 0 < cntB B body n
theorem drags_not (hm : len ≤ 1000000000000) (h : ¬ DOk W H n G nk K nb B len R t c body) :
    ∃ z : Int, z ≠ 0 ∧ (∀ w, PreW w ao n G ak nk K ab nb B ro len R → Calls Tryd.prog 30 #[.agg #[.int .i64 W, .int .i64 H, .slice (ao) n cap], .agg #[.slice (ak) nk ck, .slice (ab) nb cb], .slice ro len rc, .int .i64 t, .int .i64 c, .int .i64 body] w fun e w' => e = .returned (.tuple #[.agg #[.int .i64 0, .int .i64 0], .int .i64 z]) ∧ Below w.heap.size w w') ∧
      (∀ w, PreW w ao n G ak nk K ab nb B ro len R → Calls Tryd.prog 31 #[.agg #[.int .i64 W, .int .i64 H, .slice (ao) n cap], .agg #[.slice (ak) nk ck, .slice (ab) nb cb], .slice ro len rc, .int .i64 t, .int .i64 c, .int .i64 body] w fun e w' => e = .returned (.tuple #[.agg #[.int .i64 0, .int .i64 0], .int .i64 z]) ∧ Below w.heap.size w w') := by
  obtain ⟨z, hz, e1, e2⟩ := wcheck_both W H ao n cap G ak nk ck K ab nb cb B ro len rc R t c hm
  by_cases h0 : z = 0
  · subst h0
    have hw := hz.1 rfl
    by_cases hb : 1 ≤ body ∧ body ≤ 9
    · have hcn : cntB B body n = 0 := by
        by_cases hcn : cntB B body n = 0
        · exact hcn
        · exact absurd ⟨hw, hb.1, hb.2, by omega⟩ h
      obtain ⟨W', H', t', c', rfl, rfl, rfl, rfl, rfl, rfl, s, hG, hP, hk, hr⟩ := wok_nat W H n G nk K nb B len R hw
      have hpos := vg_pos (vg_of s hG)
      have hn1 := s.n1
      refine ⟨8, by omega, fun w hp => ?_, fun w hp => ?_⟩
      · refine wdrag_8 W' H' ao _ cap ak _ ck ab _ cb ro len rc t' c' body w hb.1 hb.2 (fun wx hx => by have q := hp.below hx; exact e1 wx q.2.1 q.2.2.1 q.2.2.2.1 q.2.2.2.2) (fun wx hx => ?_)
        obtain ⟨bb, ob, rfl, lbb, hB⟩ := numsAt_of (hp.below hx).2.2.2.1 (by omega)
        exact (whas_in ak _ ck bb ob _ cb B body wx hn1 lbb hB (okP_body hP) hb.1 hb.2).mono fun e w' h => by simpa [hcn] using h
      · refine rdrag_8 W' H' ao _ cap ak _ ck ab _ cb ro len rc t' c' body w hb.1 hb.2 (fun wx hx => by have q := hp.below hx; exact e2 wx q.2.1 q.2.2.1 q.2.2.2.1 q.2.2.2.2) (fun wx hx => ?_)
        obtain ⟨bb, ob, rfl, lbb, hB⟩ := numsAt_of (hp.below hx).2.2.2.1 (by omega)
        have hl : (ownN B body nb).length = 0 := by rw [ownN_len]; exact hcn
        refine (rown_in ak nb ck bb ob nb cb B body wx hn1 lbb hB).mono ?_
        rintro e w' ⟨a3, c3, rfl, _, hb3⟩
        rw [hl]
        exact ⟨a3, c3, rfl, hb3⟩
    · have hb' : body < 1 ∨ 9 < body := by omega
      exact ⟨7, by omega, fun w hp => wdrag_7 W H ao n cap ak nk ck ab nb cb ro len rc t c body w hb' (fun wx hx => by have q := hp.below hx; exact e1 wx q.2.1 q.2.2.1 q.2.2.2.1 q.2.2.2.2), fun w hp => rdrag_7 W H ao n cap ak nk ck ab nb cb ro len rc t c body w hb' (fun wx hx => by have q := hp.below hx; exact e2 wx q.2.1 q.2.2.1 q.2.2.2.1 q.2.2.2.2)⟩
  · exact ⟨z, h0, fun w hp => wdrag_err W H ao n cap ak nk ck ab nb cb ro len rc t c body w z h0 (fun wx hx => by have q := hp.below hx; exact e1 wx q.2.1 q.2.2.1 q.2.2.2.1 q.2.2.2.2), fun w hp => rdrag_err W H ao n cap ak nk ck ab nb cb ro len rc t c body w z h0 (fun wx hx => by have q := hp.below hx; exact e2 wx q.2.1 q.2.2.1 q.2.2.2.1 q.2.2.2.2)⟩
end
end Go.Proofs.YtnpmlbhlchoolaaDoor
