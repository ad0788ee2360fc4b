/- A body's drag: both sides as one form. -/
import Derived.Test.YtdbehbeaigfpcaaDoorKRefDrag
import Derived.Test.YtdbehbeaigfpcaaDoorKDragW
import Derived.Test.YtdbehbeaigfpcaaDoorKWBoth
namespace Go.Proofs.YtdbehbeaigfpcaaDoor
set_option linter.unusedSimpArgs false
set_option linter.unusedVariables false
open Go.RowKit

/-- The drag: what the walls give a body over some steps. -/
noncomputable def dgE (W H : Nat) (K : Nat → Int) (len : Nat) (R : Nat → Int × Int) (t : Nat) (G : Nat → Nat → Int) (L : List Nat) (c : Nat) : Int := sm c (fun k => sumL (dE K (runG (fwdW W H K len R) t k G)) L)
noncomputable def dgN (W H : Nat) (K : Nat → Int) (len : Nat) (R : Nat → Int × Int) (t : Nat) (G : Nat → Nat → Int) (L : List Nat) (c : Nat) : Int := sm c (fun k => sumL (dN K (runG (fwdW W H K len R) t k G)) L)
theorem sm_split (f : Nat → Int) (a b : Nat) : sm (a + b) f = sm a f + sm b (fun i => f (a + i)) := by
  induction b with
  | zero => simp [sm]
  | succ b ih =>
    rw [← Nat.add_assoc]
    simp only [sm, ih]
    omega
theorem runG_addW (F : Stepper) (t c1 c2 : Nat) (G : Nat → Nat → Int) : runG F (t + c1) c2 (runG F t c1 G) = runG F t (c1 + c2) G := by
  induction c2 with
  | zero => rfl
  | succ c ih =>
    show F (t + c1 + c) (runG F (t + c1) c (runG F t c1 G)) = F (t + (c1 + c)) (runG F t (c1 + c) G)
    rw [ih, Nat.add_assoc]
theorem dgE_add {W H : Nat} {K : Nat → Int} {len : Nat} {R : Nat → Int × Int} (t : Nat) (G : Nat → Nat → Int) (L : List Nat) (a b : Nat) : dgE W H K len R t G L (a + b) = dgE W H K len R t G L a + dgE W H K len R (t + a) (runG (fwdW W H K len R) t a G) L b := by
  unfold dgE
  rw [sm_split]
  simp only [runG_addW]
theorem dgN_add {W H : Nat} {K : Nat → Int} {len : Nat} {R : Nat → Int × Int} (t : Nat) (G : Nat → Nat → Int) (L : List Nat) (a b : Nat) : dgN W H K len R t G L (a + b) = dgN W H K len R t G L a + dgN W H K len R (t + a) (runG (fwdW W H K len R) t a G) L b := by
  unfold dgN
  rw [sm_split]
  simp only [runG_addW]
theorem sumL_own {n : Nat} {K B : Nat → Int} {body : Int} {G : Nat → Nat → Int} (hn : n ≤ 1024) (hK : OkK n K) (hG : OkG n G) : (-2100000000000 ≤ sumL (dE K G) (ownN B body n) ∧ sumL (dE K G) (ownN B body n) ≤ 2100000000000) ∧ (-2100000000000 ≤ sumL (dN K G) (ownN B body n) ∧ sumL (dN K G) (ownN B body n) ≤ 2100000000000) := by
  have hl : (ownN B body n).length ≤ n := by rw [ownN_len]; exact cntB_le _ _ _
  have h1 := sumL_bd (f := dE K G) (c := 2000000000) (by omega) (ownN B body n) (fun i hi => (d_bd hK hG (ownN_mem hi).1).1)
  have h2 := sumL_bd (f := dN K G) (c := 2000000000) (by omega) (ownN B body n) (fun i hi => (d_bd hK hG (ownN_mem hi).1).2)
  omega
theorem okP_body {n : Nat} {K B : Nat → Int} (h : ∀ i, i < n → OkP (K i) (B i)) : ∀ i, i < n → 0 ≤ B i ∧ B i ≤ 9 := fun i hi => by
  have := h i hi
  unfold OkP at this
  omega

section
variable (W H n cap : Nat) (ao : Option Addr) (G : Nat → Nat → Int) (ak : Option Addr) (ck : Nat) (K : Nat → Int) (ab : Option Addr) (cb : Nat) (B : Nat → Int) (ro : Option Addr) (len rc : Nat) (R : Nat → Int × Int) (t c : Nat) (body : Int) (w : World)
theorem wDrag_ok (s : Sides W H n) (hG : OkG n G) (hP : ∀ i, i < n → OkP (K i) (B i)) (hk : OkRs len R) (hr : RunOk t c) (h1 : 1 ≤ body) (h9 : body ≤ 9) (hc : 0 < cntB B body n) (hp : PreW w ao n G ak n K ab n B ro len R) :
    Calls Tryd.prog 17 #[.agg #[.int .i64 W, .int .i64 H, .slice (ao) n cap], .agg #[.slice (ak) n ck, .slice (ab) n cb], .slice ro len rc, .int .i64 t, .int .i64 c, .int .i64 body] w fun e w' => e = .returned (.tuple #[.agg #[.int .i64 (dgE W H K len R t G (ownN B body n) c), .int .i64 (dgN W H K len R t G (ownN B body n) c)], .int .i64 0]) ∧ Below w.heap.size w w' := by
  obtain ⟨z, hz, e1⟩ := wcheck_prog W H ao n cap G ak n ck K ab n cb B ro len rc R t c (hm_of hk)
  obtain rfl := hz.2 (wok_of s hG hP hk hr)
  have hp' := hp
  obtain ⟨hT, hC, hN, hB, hR⟩ := hp
  obtain ⟨b, off, rfl, hlt, hC⟩ := cells_of1 s hC
  have hpos := vg_pos (vg_of s hG)
  have hn1 := s.n1
  obtain ⟨bk, ok, rfl, hbk, hN⟩ := numsAt_of hN (by omega)
  obtain ⟨bb, ob, rfl, lbb, hB⟩ := numsAt_of hB (by omega)
  obtain ⟨rb, rof, rfl, hrb, hR⟩ := rules_of1 hk hR
  have hK := okK_of hP
  exact wdrag_in W H n cap b off bk ok ck rb rof len rc t c bb ob cb K B R G body w s hG hlt hC hK hbk hN lbb hB hrb hR hk hT hr h1 h9 (fun wx hb => by have q := hp'.below hb; exact e1 wx q.2.1 q.2.2.1 q.2.2.2.1 q.2.2.2.2)
    (fun wx hb => (whas_in (some ⟨bk, ok, none⟩) n ck bb ob n cb B body wx hn1 (Nat.lt_of_lt_of_le lbb hb.size) (hB.below hb lbb) (okP_body hP) h1 h9).mono fun e w' h => by simpa [hc] using h)
    _ _ (fun k _ => (sumL_own hn1 hK (okG_runW s.n0 hK hG)).1) (fun k _ => (sumL_own hn1 hK (okG_runW s.n0 hK hG)).2) (fun _ _ => rfl) (fun _ _ => rfl)
end

section
variable (W H : Int) (ao : Option Addr) (n cap : Nat) (ak : Option Addr) (nk ck : Nat) (ab : Option Addr) (nb cb : Nat) (ro : Option Addr) (len rc : Nat) (t c body : Int) (w : World)
set_option maxHeartbeats 4000000 in
theorem wdrag_err (z : Int) (hz : z ≠ 0) (E : ∀ wx, Below w.heap.size w wx → Calls Tryd.prog 34 #[.agg #[.int .i64 W, .int .i64 H, .slice (ao) n cap], .agg #[.slice (ak) nk ck, .slice (ab) nb cb], .slice ro len rc, .int .i64 t, .int .i64 c] wx fun e w' => e = .returned (.int .i64 z) ∧ Below wx.heap.size wx w') :
    Calls Tryd.prog 17 #[.agg #[.int .i64 W, .int .i64 H, .slice (ao) n cap], .agg #[.slice (ak) nk ck, .slice (ab) nb cb], .slice ro len rc, .int .i64 t, .int .i64 c, .int .i64 body] w fun e w' => e = .returned (.tuple #[.agg #[.int .i64 0, .int .i64 0], .int .i64 z]) ∧ Below w.heap.size w w' := by
  have HE := Lib.hid E; clear E
  have e0 : (z == 0) = false := beq_eq_false_iff_ne.2 hz
  have e1 : (z != 0) = true := by simp [bne, e0]
  clear hz e0
  go_enter Tryd.func17, Tryd.ntmps17
  go_wp2_with (go_at_call 34; (with_reducible refine (HE.out _ (by (repeat' (first | (with_reducible exact Below.refl _ _) | (with_reducible refine Below.setCell ?_ (by first | omega | (simp; done) | (simp; omega)) _) | (with_reducible refine Below.alloc ?_ (by first | omega | (simp; done) | (simp; omega)) _) | (with_reducible refine Below.drew ?_) | (with_reducible refine below_drewN ?_ _) | (with_reducible refine Below.trans ?_ (Below.mono (by assumption) (by first | omega | (simp; done) | (simp; omega)))))))).mono ?_); rintro e w1 ⟨rfl, hb⟩; obtain ⟨hc, hf, hz⟩ := bcall hb; (try simp at hc hf hz))
  refine bodyPost_ret (v := .tuple #[.agg #[.int .i64 0, .int .i64 0], .int .i64 z]) (by simp [results, Tryd.results17, go_sem, ↓IntWalk.iteOmega, *]) rfl ⟨rfl, ?_⟩
  (repeat' (first | (with_reducible exact Below.refl _ _) | (with_reducible refine Below.setCell ?_ (by first | omega | (simp; done) | (simp; omega)) _) | (with_reducible refine Below.alloc ?_ (by first | omega | (simp; done) | (simp; omega)) _) | (with_reducible refine Below.drew ?_) | (with_reducible refine below_drewN ?_ _) | (with_reducible refine Below.trans ?_ (Below.mono (by assumption) (by first | omega | (simp; done) | (simp; omega))))))
set_option maxHeartbeats 4000000 in
theorem wdrag_7 (hb : body < 1 ∨ 9 < body) (E : ∀ wx, Below w.heap.size w wx → Calls Tryd.prog 34 #[.agg #[.int .i64 W, .int .i64 H, .slice (ao) n cap], .agg #[.slice (ak) nk ck, .slice (ab) nb cb], .slice ro len rc, .int .i64 t, .int .i64 c] wx fun e w' => e = .returned (.int .i64 0) ∧ Below wx.heap.size wx w') :
    Calls Tryd.prog 17 #[.agg #[.int .i64 W, .int .i64 H, .slice (ao) n cap], .agg #[.slice (ak) nk ck, .slice (ab) nb cb], .slice ro len rc, .int .i64 t, .int .i64 c, .int .i64 body] w fun e w' => e = .returned (.tuple #[.agg #[.int .i64 0, .int .i64 0], .int .i64 7]) ∧ Below w.heap.size w w' := by
  have HE := Lib.hid E; clear E
  have HB := Lib.hid hb; clear hb
  go_enter Tryd.func17, Tryd.ntmps17
  go_wp2_with (first | (go_at_call 34; (with_reducible refine (HE.out _ (by (repeat' (first | (with_reducible exact Below.refl _ _) | (with_reducible refine Below.setCell ?_ (by first | omega | (simp; done) | (simp; omega)) _) | (with_reducible refine Below.alloc ?_ (by first | omega | (simp; done) | (simp; omega)) _) | (with_reducible refine Below.drew ?_) | (with_reducible refine below_drewN ?_ _) | (with_reducible refine Below.trans ?_ (Below.mono (by assumption) (by first | omega | (simp; done) | (simp; omega)))))))).mono ?_); rintro e w1 ⟨rfl, hb⟩; obtain ⟨hc, hf, hz⟩ := bcall hb; (try simp at hc hf hz)) | (go_at_call 38; (with_reducible refine (isBody_no _ _ HB.out).mono ?_); rintro e w1 ⟨rfl, rfl⟩))
  refine bodyPost_ret (v := .tuple #[.agg #[.int .i64 0, .int .i64 0], .int .i64 7]) (by simp [results, Tryd.results17, go_sem, ↓IntWalk.iteOmega, *]) rfl ⟨rfl, ?_⟩
  (repeat' (first | (with_reducible exact Below.refl _ _) | (with_reducible refine Below.setCell ?_ (by first | omega | (simp; done) | (simp; omega)) _) | (with_reducible refine Below.alloc ?_ (by first | omega | (simp; done) | (simp; omega)) _) | (with_reducible refine Below.drew ?_) | (with_reducible refine below_drewN ?_ _) | (with_reducible refine Below.trans ?_ (Below.mono (by assumption) (by first | omega | (simp; done) | (simp; omega))))))
set_option maxHeartbeats 4000000 in
theorem wdrag_8 (h1 : 1 ≤ body) (h9 : body ≤ 9) (E : ∀ wx, Below w.heap.size w wx → Calls Tryd.prog 34 #[.agg #[.int .i64 W, .int .i64 H, .slice (ao) n cap], .agg #[.slice (ak) nk ck, .slice (ab) nb cb], .slice ro len rc, .int .i64 t, .int .i64 c] wx fun e w' => e = .returned (.int .i64 0) ∧ Below wx.heap.size wx w')
    (HS : ∀ wx, Below w.heap.size w wx → Calls Tryd.prog 20 #[.agg #[.slice (ak) nk ck, .slice (ab) nb cb], .int .i64 body] wx fun e w' => e = .returned (.bool false) ∧ Below wx.heap.size wx w') :
    Calls Tryd.prog 17 #[.agg #[.int .i64 W, .int .i64 H, .slice (ao) n cap], .agg #[.slice (ak) nk ck, .slice (ab) nb cb], .slice ro len rc, .int .i64 t, .int .i64 c, .int .i64 body] w fun e w' => e = .returned (.tuple #[.agg #[.int .i64 0, .int .i64 0], .int .i64 8]) ∧ Below w.heap.size w w' := by
  have HE := Lib.hid E; clear E
  have HHS := Lib.hid HS; clear HS
  go_enter Tryd.func17, Tryd.ntmps17
  go_wp2_with (first | (go_at_call 34; (with_reducible refine (HE.out _ (by (repeat' (first | (with_reducible exact Below.refl _ _) | (with_reducible refine Below.setCell ?_ (by first | omega | (simp; done) | (simp; omega)) _) | (with_reducible refine Below.alloc ?_ (by first | omega | (simp; done) | (simp; omega)) _) | (with_reducible refine Below.drew ?_) | (with_reducible refine below_drewN ?_ _) | (with_reducible refine Below.trans ?_ (Below.mono (by assumption) (by first | omega | (simp; done) | (simp; omega)))))))).mono ?_); rintro e w1 ⟨rfl, hb⟩; obtain ⟨hc, hf, hz⟩ := bcall hb; (try simp at hc hf hz)) | (go_at_call 38; (with_reducible refine (isBody_yes _ _ h1 h9).mono ?_); rintro e w1 ⟨rfl, rfl⟩) | (go_at_call 20; (with_reducible refine (HHS.out _ (by (repeat' (first | (with_reducible exact Below.refl _ _) | (with_reducible refine Below.setCell ?_ (by first | omega | (simp; done) | (simp; omega)) _) | (with_reducible refine Below.alloc ?_ (by first | omega | (simp; done) | (simp; omega)) _) | (with_reducible refine Below.drew ?_) | (with_reducible refine below_drewN ?_ _) | (with_reducible refine Below.trans ?_ (Below.mono (by assumption) (by first | omega | (simp; done) | (simp; omega)))))))).mono ?_); rintro e wh ⟨rfl, hbh⟩; obtain ⟨hch, hfh, hzh⟩ := bcall hbh; (try simp at hch hfh hzh)))
  refine bodyPost_ret (v := .tuple #[.agg #[.int .i64 0, .int .i64 0], .int .i64 8]) (by simp [results, Tryd.results17, go_sem, ↓IntWalk.iteOmega, *]) rfl ⟨rfl, ?_⟩
  (repeat' (first | (with_reducible exact Below.refl _ _) | (with_reducible refine Below.setCell ?_ (by first | omega | (simp; done) | (simp; omega)) _) | (with_reducible refine Below.alloc ?_ (by first | omega | (simp; done) | (simp; omega)) _) | (with_reducible refine Below.drew ?_) | (with_reducible refine below_drewN ?_ _) | (with_reducible refine Below.trans ?_ (Below.mono (by assumption) (by first | omega | (simp; done) | (simp; omega))))))
end

section
variable (W H : Int) (ao : Option Addr) (n cap : Nat) (G : Nat → Nat → Int) (ak : Option Addr) (nk ck : Nat) (K : Nat → Int) (ab : Option Addr) (nb cb : Nat) (B : Nat → Int) (ro : Option Addr) (len rc : Nat) (R : Nat → Int × Int) (t c body : Int)
/-- What a drag asks for. -/
def DOk (W H : Int) (n : Nat) (G : Nat → Nat → Int) (nk : Nat) (K : Nat → Int) (nb : Nat) (B : Nat → Int) (len : Nat) (R : Nat → Int × Int) (t c body : Int) : Prop := WOk W H n G nk K nb B len R t c ∧ 1 ≤ body ∧ body ≤ 9 ∧ 0 < cntB B body n
end
end Go.Proofs.YtdbehbeaigfpcaaDoor
