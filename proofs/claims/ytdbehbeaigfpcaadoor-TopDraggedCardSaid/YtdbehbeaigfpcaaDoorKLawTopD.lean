/- The law TopDragged: the walk. -/
import Derived.Test.YtdbehbeaigfpcaaDoorKLawKeptW
import Derived.Test.YtdbehbeaigfpcaaDoorKLawDragsW
import Derived.Test.YtdbehbeaigfpcaaDoorKTop5
namespace Go.Proofs.YtdbehbeaigfpcaaDoor
set_option linter.unusedSimpArgs false
set_option linter.unusedVariables false
open Go.RowKit Go.Maps Go.Sort

theorem small150_yes (W H : Int) (ao : Option Addr) (n cap : Nat) (ak : Option Addr) (nk ck : Nat) (ab : Option Addr) (nb cb : Nat) (w : World) (h : n ≤ 150 ∧ nk ≤ 150 ∧ nb ≤ 150) :
    Calls Tryd.prog 5 #[.agg #[.int .i64 W, .int .i64 H, .slice (ao) n cap, .slice (ak) nk ck, .slice (ab) nb cb], .int .i64 150] w fun e w' => e = .returned (.bool true) ∧ Below w.heap.size w w' := small3_yes W H ao n cap ak nk ck ab nb cb 150 w h.1 h.2.1 h.2.2
theorem small150_no (W H : Int) (ao : Option Addr) (n cap : Nat) (ak : Option Addr) (nk ck : Nat) (ab : Option Addr) (nb cb : Nat) (w : World) (h : ¬ (n ≤ 150 ∧ nk ≤ 150 ∧ nb ≤ 150)) :
    Calls Tryd.prog 5 #[.agg #[.int .i64 W, .int .i64 H, .slice (ao) n cap, .slice (ak) nk ck, .slice (ab) nb cb], .int .i64 150] w fun e w' => e = .returned (.bool false) ∧ Below w.heap.size w w' := small3_no W H ao n cap ak nk ck ab nb cb 150 w (by omega)
theorem sm_addT (m : Nat) (f g : Nat → Int) : sm m (fun j => f j + g j) = sm m f + sm m g := by
  induction m with
  | zero => rfl
  | succ m ih => simp only [sm, ih]; omega
theorem sm_zeroT (m : Nat) : sm m (fun _ => 0) = 0 := by
  induction m with
  | zero => rfl
  | succ m ih => simp only [sm, ih]; rfl
theorem sm_swap (m c : Nat) (f : Nat → Nat → Int) : sm m (fun j => sm c (fun k => f j k)) = sm c (fun k => sm m (fun j => f j k)) := by
  induction c with
  | zero => exact sm_zeroT m
  | succ c ih =>
    show sm m (fun j => sm c (fun k => f j k) + f j c) = _
    rw [sm_addT, ih]
    rfl
theorem drag_sums {W H n len : Nat} {K : Nat → Int} {R : Nat → Int × Int} {t : Nat} {G : Nat → Nat → Int} (hn : n = W * H) (hK : OkK n K) (c : Nat) :
    imE (runG (fwdW W H K len R) t c G) n = imE G n + sm c (fun k => sm n (dE K (runG (fwdW W H K len R) t k G))) ∧ imN (runG (fwdW W H K len R) t c G) n = imN G n + sm c (fun k => sm n (dN K (runG (fwdW W H K len R) t k G))) := by
  induction c with
  | zero => exact ⟨by show imE G n = _; simp [sm], by show imN G n = _; simp [sm]⟩
  | succ c ih =>
    obtain ⟨_, e2, e3⟩ := kept_sums (W := W) (H := H) (len := len) (R := R) (t := t + c) (G := runG (fwdW W H K len R) t c G) hn hK
    refine ⟨?_, ?_⟩
    · show imE (fwdW W H K len R (t + c) (runG (fwdW W H K len R) t c G)) n = _
      rw [e2, ih.1]
      simp only [sm]
      omega
    · show imN (fwdW W H K len R (t + c) (runG (fwdW W H K len R) t c G)) n = _
      rw [e3, ih.2]
      simp only [sm]
      omega
theorem drags_sum {W H n len : Nat} {K B : Nat → Int} {R : Nat → Int × Int} {t : Nat} {G : Nat → Nat → Int} (c : Nat) (hP : ∀ i, i < n → OkP (K i) (B i)) :
    sm (bodL B n).length (fun j => dgE W H K len R t G (ownN B ((bodL B n).getD j 0) n) c) = sm c (fun k => sm n (dE K (runG (fwdW W H K len R) t k G))) ∧ sm (bodL B n).length (fun j => dgN W H K len R t G (ownN B ((bodL B n).getD j 0) n) c) = sm c (fun k => sm n (dN K (runG (fwdW W H K len R) t k G))) := by
  unfold dgE dgN
  exact ⟨(sm_swap _ _ _).trans (congrArg (sm c) (funext fun k => (bodies_sum hP).1)), (sm_swap _ _ _).trans (congrArg (sm c) (funext fun k => (bodies_sum hP).2))⟩

set_option maxRecDepth 100000 in
set_option maxHeartbeats 16000000 in
theorem topDragged_in (W H n cap : Nat) (ao : Option Addr) (G : Nat → Nat → Int) (ak : Option Addr) (ck : Nat) (K : Nat → Int) (ab : Option Addr) (cb : Nat) (B : Nat → Int) (ro : Option Addr) (len rc : Nat) (R : Nat → Int × Int) (t c : Nat) (w : World) (s : Sides W H n) (hG : OkG n G) (hP : ∀ i, i < n → OkP (K i) (B i)) (hk : OkRs len R) (ht : RunOk t c) (hc20 : c ≤ 20) (hp : PreW w ao n G ak n K ab n B ro len R) (h : n ≤ 150) (hl20 : len ≤ 20) :
    Calls Tryd.prog 4 #[.agg #[.int .i64 W, .int .i64 H, .slice (ao) n cap, .slice (ak) n ck, .slice (ab) n cb], .slice ro len rc, .agg #[.int .i64 t, .int .i64 c]] w fun e w' => e = .returned (.bool true) ∧ Below w.heap.size w w' := by
  have hK := okK_of hP
  have hn1 := s.n1
  have hpos := vg_pos (vg_of s hG)
  obtain ⟨F, hF⟩ : ∃ F, F = runG (fwdW W H K len R) t c G := ⟨_, rfl⟩
  have hGF : OkG n F := by rw [hF]; exact okG_runW s.n0 hK hG
  have o1 := fun wx (hp : PreW wx ao n G ak n K ab n B ro len R) => wRun_ok W H n cap ao G ak ck K ab cb B ro len rc R t c wx s hG hP hk ht hp
  rw [← hF] at o1
  obtain ⟨e2, e3⟩ := drag_sums (W := W) (H := H) (len := len) (R := R) (t := t) (G := G) s.n0 hK c
  rw [← hF] at e2 e3
  obtain ⟨b1, b2⟩ := drags_sum (W := W) (H := H) (len := len) (R := R) (t := t) (G := G) c hP
  rw [← b1] at e2
  rw [← b2] at e3
  have m3 := fun wx (hC : CellsIn wx ao n G) => gMomentum_ok W H ao n cap G wx (vg_of s hG) hC
  have m4 := fun wx oA cA (hC : CellsIn wx oA n F) => gMomentum_ok W H oA n cA F wx (vg_of s hGF) hC
  rw [e2, e3] at m4
  have bd := im_bd hG.1 n (Nat.le_refl _)
  obtain ⟨L, hL⟩ : ∃ L, L = bodL B n := ⟨_, rfl⟩
  obtain ⟨FE, hFE⟩ : ∃ FE : Nat → Int, FE = fun j => dgE W H K len R t G (ownN B (L.getD j 0) n) c := ⟨_, rfl⟩
  obtain ⟨FN, hFN⟩ : ∃ FN : Nat → Int, FN = fun j => dgN W H K len R t G (ownN B (L.getD j 0) n) c := ⟨_, rfl⟩
  have hLl : L.length ≤ 9 := by rw [hL]; exact bodL_len B n
  have hbF : ∀ j, j < L.length → -42000000000000 ≤ FE j ∧ FE j ≤ 42000000000000 := fun j _ => by rw [hFE]; have q := (dg_bd (len := len) (R := R) (B := B) (body := L.getD j 0) t c hn1 s.n0 hK hG).1; dsimp only; omega
  have hbN : ∀ j, j < L.length → -42000000000000 ≤ FN j ∧ FN j ≤ 42000000000000 := fun j _ => by rw [hFN]; have q := (dg_bd (len := len) (R := R) (B := B) (body := L.getD j 0) t c hn1 s.n0 hK hG).2; dsimp only; omega
  have V := fun wx (hp : PreW wx ao n G ak n K ab n B ro len R) => wValid_yes W H ao n cap G ak n ck K ab n cb B wx ⟨vg_of s hG, rfl, rfl, hP⟩ hp.2.1 hp.2.2.1 hp.2.2.2.1
  have BO : ∀ wx, PreW wx ao n G ak n K ab n B ro len R → Calls Tryd.prog 9 #[.agg #[.int .i64 W, .int .i64 H, .slice (ao) n cap], .agg #[.slice (ak) n ck, .slice (ab) n cb]] wx fun e w' => ∃ a c, e = .returned (.tuple #[.slice a L.length c, .int .i64 0]) ∧ IntsL w' a L.length (fun j => L.getD j 0) ∧ Below wx.heap.size wx w' := fun wx hp => by
    obtain ⟨bb, ob, rfl, lbb, hB⟩ := numsAt_of hp.2.2.2.1 (by omega)
    refine (wbodies_in W H ao n cap ak n ck bb ob cb B wx hn1 lbb hB (okP_body hP) (fun wy hy => V wy (hp.below hy))).mono ?_
    rintro e w' ⟨v, rfl, hr, hb⟩
    rw [← hL] at hr
    obtain ⟨a, c, rfl, hI⟩ := owns_ints hr
    exact ⟨a, c, rfl, hI, hb⟩
  have IM : ∀ j wx, j < L.length → PreW wx ao n G ak n K ab n B ro len R → Calls Tryd.prog 17 #[.agg #[.int .i64 W, .int .i64 H, .slice (ao) n cap], .agg #[.slice (ak) n ck, .slice (ab) n cb], .slice ro len rc, .int .i64 t, .int .i64 c, .int .i64 (L.getD j 0)] wx fun e w' => e = .returned (.tuple #[.agg #[.int .i64 (FE j), .int .i64 (FN j)], .int .i64 0]) ∧ Below wx.heap.size wx w' := fun j wx hj hp => by
    have hm : L.getD j 0 ∈ bodL B n := by
      rw [← hL, List.getD_eq_getElem?_getD, List.getElem?_eq_getElem hj]
      exact List.getElem_mem hj
    rw [hFE, hFN]
    dsimp only
    generalize L.getD j 0 = xb at hm ⊢
    have hc := ((mem_bodL (okP_body hP) _).1 hm).2
    have h19 : 1 ≤ xb ∧ xb ≤ 9 := by
      obtain ⟨i, hi, e⟩ := cntB_pos hc
      have := okP_body hP i hi
      have := ((mem_bodL (okP_body hP) _).1 hm).1
      omega
    exact wDrag_ok W H n cap ao G ak ck K ab cb B ro len rc R t c _ wx s hG hP hk ht h19.1 h19.2 hc hp
  rw [← hL] at m4
  obtain ⟨LL, hLL⟩ : ∃ LL : Nat → Int, LL = fun j => L.getD j 0 := ⟨_, rfl⟩
  rw [show (fun j => dgE W H K len R t G (ownN B (L.getD j 0) n) c) = FE from hFE.symm, show (fun j => dgN W H K len R t G (ownN B (L.getD j 0) n) c) = FN from hFN.symm] at m4
  have IM : ∀ j wx, j < L.length → PreW wx ao n G ak n K ab n B ro len R → Calls Tryd.prog 17 #[.agg #[.int .i64 W, .int .i64 H, .slice (ao) n cap], .agg #[.slice (ak) n ck, .slice (ab) n cb], .slice ro len rc, .int .i64 t, .int .i64 c, .int .i64 (LL j)] wx fun e w' => e = .returned (.tuple #[.agg #[.int .i64 (FE j), .int .i64 (FN j)], .int .i64 0]) ∧ Below wx.heap.size wx w' := by rw [hLL]; exact IM
  rw [← hLL] at BO
  obtain ⟨m, hm⟩ : ∃ m, m = L.length := ⟨_, rfl⟩
  rw [← hm] at m4 hLl hbF hbN BO IM
  obtain ⟨pE, hpE⟩ : ∃ p, p = imE G n := ⟨_, rfl⟩
  obtain ⟨pN, hpN⟩ : ∃ p, p = imN G n := ⟨_, rfl⟩
  rw [← hpE, ← hpN] at m3 m4 bd
  have O1 := Lib.hid o1
  have M3 := Lib.hid m3
  have M4 := Lib.hid m4
  have BO := Lib.hid BO
  have IM := Lib.hid IM
  have HBF := Lib.hid hbF
  have HBN := Lib.hid hbN
  have HP := Lib.hid hp
  have HN : Hid (n ≤ 150 ∧ n ≤ 150 ∧ n ≤ 150) := Lib.hid ⟨h, h, h⟩
  clear o1 m3 m4 hp s hG hP hk hF hGF e2 e3 b1 b2 hK hL hFE hFN hbF hbN V hLL hm hpE hpN hpos
  go_enter Tryd.func4, Tryd.ntmps4
  go_wp2_with (go_at_call 5; (with_reducible refine (small150_yes W H ao n cap ak n ck ab n cb _ HN.out).mono ?_); rintro e w1 ⟨rfl, hb⟩; obtain ⟨hc, hf, hz⟩ := bcall hb; (try simp at hc hf hz))
  (go_at_call 15; (with_reducible refine (O1.out _ (HP.out.below (show Below w.heap.size w _ from by (repeat' (first | (with_reducible exact Below.refl _ _) | (with_reducible refine Below.setCell ?_ (by first | omega | (simp; done) | (simp; omega)) _) | (with_reducible refine Below.alloc ?_ (by first | omega | (simp; done) | (simp; omega)) _) | (with_reducible refine Below.drew ?_) | (with_reducible refine below_drewN ?_ _) | (with_reducible refine Below.trans ?_ (Below.mono (by assumption) (by first | omega | (simp; done) | (simp; omega))))))))).mono ?_); rintro e wA ⟨oA, cA, rfl, hoA, foA, hb⟩; have HA := Lib.hid hoA.out; clear hoA foA; obtain ⟨hc, hf, hz⟩ := bcall hb; (try simp at hc hf hz))
  go_wp2_with (first | (go_at_call 16; (with_reducible refine (M3.out _ (HP.out.below (show Below w.heap.size w _ from by (repeat' (first | (with_reducible exact Below.refl _ _) | (with_reducible refine Below.setCell ?_ (by first | omega | (simp; done) | (simp; omega)) _) | (with_reducible refine Below.alloc ?_ (by first | omega | (simp; done) | (simp; omega)) _) | (with_reducible refine Below.drew ?_) | (with_reducible refine below_drewN ?_ _) | (with_reducible refine Below.trans ?_ (Below.mono (by assumption) (by first | omega | (simp; done) | (simp; omega)))))))).cellsK).mono ?_); rintro e w1 ⟨rfl, hb⟩; obtain ⟨hc, hf, hz⟩ := bcall hb; (try simp at hc hf hz)) | (go_at_call 16; (with_reducible refine (M4.out _ oA cA (HA.out.below (by (repeat' (first | (with_reducible exact Below.refl _ _) | (with_reducible refine Below.setCell ?_ (by first | omega | (simp; done) | (simp; omega)) _) | (with_reducible refine Below.alloc ?_ (by first | omega | (simp; done) | (simp; omega)) _) | (with_reducible refine Below.drew ?_) | (with_reducible refine below_drewN ?_ _) | (with_reducible refine Below.trans ?_ (Below.mono (by assumption) (by first | omega | (simp; done) | (simp; omega))))))))).mono ?_); rintro e w1 ⟨rfl, hb⟩; obtain ⟨hc, hf, hz⟩ := bcall hb; (try simp at hc hf hz)) | (go_at_call 9; (with_reducible refine (BO.out _ (HP.out.below (show Below w.heap.size w _ from by (repeat' (first | (with_reducible exact Below.refl _ _) | (with_reducible refine Below.setCell ?_ (by first | omega | (simp; done) | (simp; omega)) _) | (with_reducible refine Below.alloc ?_ (by first | omega | (simp; done) | (simp; omega)) _) | (with_reducible refine Below.drew ?_) | (with_reducible refine below_drewN ?_ _) | (with_reducible refine Below.trans ?_ (Below.mono (by assumption) (by first | omega | (simp; done) | (simp; omega))))))))).mono ?_); rintro e wB ⟨aL, cL, rfl, hIL, hb⟩; have HIL := Lib.hid hIL; clear hIL; obtain ⟨hc, hf, hz⟩ := bcall hb; (try simp at hc hf hz)))
  have hBw := Lib.hid (show Below w.heap.size w wB from by (repeat' (first | (with_reducible exact Below.refl _ _) | (with_reducible refine Below.setCell ?_ (by first | omega | (simp; done) | (simp; omega)) _) | (with_reducible refine Below.alloc ?_ (by first | omega | (simp; done) | (simp; omega)) _) | (with_reducible refine Below.drew ?_) | (with_reducible refine below_drewN ?_ _) | (with_reducible refine Below.trans ?_ (Below.mono (by assumption) (by first | omega | (simp; done) | (simp; omega)))))))
  have hX := Lib.hid (show Below (w.heap.size + 2) ((w.alloc (.cells #[.int .i64 W, .int .i64 H, .slice ao n cap, .slice ak n ck, .slice ab n cb] 29)).alloc (.cells #[.int .i64 t, .int .i64 c] 42)) wB from by (repeat' (first | (with_reducible exact Below.refl _ _) | (with_reducible refine Below.setCell ?_ (by first | omega | (simp; done) | (simp; omega)) _) | (with_reducible refine Below.alloc ?_ (by first | omega | (simp; done) | (simp; omega)) _) | (with_reducible refine Below.drew ?_) | (with_reducible refine below_drewN ?_ _) | (with_reducible refine Below.trans ?_ (Below.mono (by assumption) (by first | omega | (simp; done) | (simp; omega)))))))
  have hY := Lib.hid (show Below (wA.heap.size + 1) (wA.alloc (.cells #[.int .i64 W, .int .i64 H, .slice oA n cA] 24)) wB from by (repeat' (first | (with_reducible exact Below.refl _ _) | (with_reducible refine Below.setCell ?_ (by first | omega | (simp; done) | (simp; omega)) _) | (with_reducible refine Below.alloc ?_ (by first | omega | (simp; done) | (simp; omega)) _) | (with_reducible refine Below.drew ?_) | (with_reducible refine below_drewN ?_ _) | (with_reducible refine Below.trans ?_ (Below.mono (by assumption) (by first | omega | (simp; done) | (simp; omega)))))))
  have hAB := Lib.hid (show Below wA.heap.size wA wB from by (repeat' (first | (with_reducible exact Below.refl _ _) | (with_reducible refine Below.setCell ?_ (by first | omega | (simp; done) | (simp; omega)) _) | (with_reducible refine Below.alloc ?_ (by first | omega | (simp; done) | (simp; omega)) _) | (with_reducible refine Below.drew ?_) | (with_reducible refine below_drewN ?_ _) | (with_reducible refine Below.trans ?_ (Below.mono (by assumption) (by first | omega | (simp; done) | (simp; omega)))))))
  have hXb : wB.heap[w.heap.size]? = some (.cells #[.int .i64 W, .int .i64 H, .slice ao n cap, .slice ak n ck, .slice ab n cb] 29 (0, 0)) := (hX.out.block _ (by omega)).trans ((Below.heap_alloc _ _ _ (by simp)).trans (World.alloc_heap_new w _))
  have hZb : wB.heap[w.heap.size + 1]? = some (.cells #[.int .i64 t, .int .i64 c] 42 (0, 0)) := (hX.out.block _ (by omega)).trans (by have q := World.alloc_heap_new (w.alloc (.cells #[.int .i64 W, .int .i64 H, .slice ao n cap, .slice ak n ck, .slice ab n cb] 29)) (.cells #[.int .i64 t, .int .i64 c] 42); rwa [World.size_alloc] at q)
  have hYb : Three wB wA.heap.size 24 (.int .i64 W) (.int .i64 H) (.slice oA n cA) := (hY.out.block _ (by omega)).trans (World.alloc_heap_new wA _)
  have HXB := Lib.hid hXb
  have HZB := Lib.hid hZb
  have HYB := Lib.hid hYb
  have HCA := Lib.hid (HA.out.below hAB.out)
  have HBW := hBw
  have lX : w.heap.size < wB.heap.size := (Array.getElem?_eq_some_iff.1 hXb).1
  have lZ : w.heap.size + 1 < wB.heap.size := (Array.getElem?_eq_some_iff.1 hZb).1
  have lY : wA.heap.size < wB.heap.size := hYb.lt
  clear hBw hX hY hAB hXb hZb hYb hc hf hz hb
  go_loopw [9, 10, 17] (fun x y i wr => ∃ k : Nat, k ≤ m ∧ i = .int .i64 k ∧ x = .int .i64 (pE + sm k FE) ∧ y = .int .i64 (pN + sm k FN) ∧ Hid (Below wB.heap.size wB wr)) (fun _ _ i _ => m - (intOf i).toNat)
  case atStart => exact ⟨0, Nat.zero_le _, rfl, by simp [sm], by simp [sm], Lib.hid (Below.refl _ _)⟩
  case round =>
    obtain ⟨k, hk, rfl, rfl, rfl, HH⟩ := hrel
    have hBr := HH.out
    have hWr := HBW.out.trans (hBr.mono HBW.out.size)
    have bx := (hBr.block _ lX).trans HXB.out
    have x0 : wr.cell? ⟨w.heap.size, 0, none⟩ = some (.int .i64 W) := by simp [World.cell?, bx]
    have x1 : wr.cell? ⟨w.heap.size, 1, none⟩ = some (.int .i64 H) := by simp [World.cell?, bx]
    have x2 : wr.cell? ⟨w.heap.size, 2, none⟩ = some (.slice ao n cap) := by simp [World.cell?, bx]
    have x3 : wr.cell? ⟨w.heap.size, 3, none⟩ = some (.slice ak n ck) := by simp [World.cell?, bx]
    have x4 : wr.cell? ⟨w.heap.size, 4, none⟩ = some (.slice ab n cb) := by simp [World.cell?, bx]
    have lXr : w.heap.size < wr.heap.size := Nat.lt_of_lt_of_le lX hBr.size
    have bz := (hBr.block _ lZ).trans HZB.out
    have n0 : wr.cell? ⟨w.heap.size + 1, 0, none⟩ = some (.int .i64 t) := by simp [World.cell?, bz]
    have n1 : wr.cell? ⟨w.heap.size + 1, 1, none⟩ = some (.int .i64 c) := by simp [World.cell?, bz]
    have lZr : w.heap.size + 1 < wr.heap.size := Nat.lt_of_lt_of_le lZ hBr.size
    by_cases hlk : k < m
    · have IMk := Lib.hid (fun wx (hb : Below wr.heap.size wr wx) => IM.out k wx hlk (HP.out.below (hWr.trans (hb.mono hWr.size))))
      rcases HIL.out with h0 | ⟨g, rfl, hg, hgc⟩
      · omega
      have g0 := (hBr.cell (p := ⟨g, k, none⟩) hg).trans (hgc k hlk)
      have lg : g < wr.heap.size := Nat.lt_of_lt_of_le hg hBr.size
      obtain ⟨z, hz⟩ : ∃ z, z = LL k := ⟨_, rfl⟩
      rw [← hz] at g0 IMk
      have p0 : (0 : Int) ≤ (k : Int) := by omega
      have p1 : (k : Int) < (m : Int) := by omega
      have b1 := smW (C := 42000000000000) (by omega) m HBF.out k (by omega)
      have b2 := smW (C := 42000000000000) (by omega) m HBN.out k (by omega)
      have b3 := HBF.out k hlk
      have b4 := HBN.out k hlk
      have s1 : IntKind.i64.wrap (pE + sm k FE + FE k) = pE + sm k FE + FE k := IntWalk.i64_in _ ⟨by omega, by omega⟩
      have s2 : IntKind.i64.wrap (pN + sm k FN + FN k) = pN + sm k FN + FN k := IntWalk.i64_in _ ⟨by omega, by omega⟩
      have HBR := Lib.hid hBr
      clear b1 b2 b3 b4 bx bz hgc hz hBr hWr bd
      go_wp2
      go_region_held3 (fun w' => w'.cell? ⟨w.heap.size, 0, none⟩ = some (.int .i64 W) ∧ w'.cell? ⟨w.heap.size, 1, none⟩ = some (.int .i64 H) ∧ w'.cell? ⟨w.heap.size, 2, none⟩ = some (.slice ao n cap) ∧ w'.cell? ⟨w.heap.size, 3, none⟩ = some (.slice ak n ck) ∧ w'.cell? ⟨w.heap.size, 4, none⟩ = some (.slice ab n cb) ∧ w'.cell? ⟨w.heap.size + 1, 0, none⟩ = some (.int .i64 t) ∧ w'.cell? ⟨w.heap.size + 1, 1, none⟩ = some (.int .i64 c) ∧ w'.cell? ⟨g, k, none⟩ = some (.int .i64 z)) (first | (go_split_ands; (try dsimp only); refine ⟨?_, ?_, ?_, ?_, ?_, ?_, ?_, ?_⟩ <;> (first | (with_reducible assumption) | (with_reducible exact keep_cell (by assumption) (by first | omega | (simp; done) | (simp; omega)) (by assumption)) | (with_reducible exact (World.cell?_alloc_past _ _ _ (by show _ < _; omega)).trans (by assumption)) | (with_reducible exact (World.cell?_alloc_past _ _ _ (by show _ < _; omega)).trans ((World.cell?_alloc_past _ _ _ (by show _ < _; omega)).symm.trans (by assumption))) | (simp [go_sem]; with_reducible assumption))) | (simp [go_sem, ↓IntWalk.iteOmega, *]; done)) ((go_at_call 17; (with_reducible refine (IMk.out _ (by (repeat' (first | (with_reducible exact Below.refl _ _) | (with_reducible refine Below.setCell ?_ (by first | omega | (simp; done) | (simp; omega)) _) | (with_reducible refine Below.alloc ?_ (by first | omega | (simp; done) | (simp; omega)) _) | (with_reducible refine Below.drew ?_) | (with_reducible refine below_drewN ?_ _) | (with_reducible refine Below.trans ?_ (Below.mono (by assumption) (by first | omega | (simp; done) | (simp; omega)))))))).mono ?_); rintro e w1 ⟨rfl, hb⟩; obtain ⟨hc, hf, hz⟩ := bcall hb; (try simp at hc hf hz)))
      all_goals (rename_i hX9; clear hX9)
      · obtain ⟨X, eX⟩ : ∃ X, X = w1.alloc (.cells #[.int .i64 (FE k), .int .i64 (FN k)] 33) := ⟨_, rfl⟩
        have XB := Lib.hid (show Below wr.heap.size wr X from by rw [eX]; (repeat' (first | (with_reducible exact Below.refl _ _) | (with_reducible refine Below.setCell ?_ (by first | omega | (simp; done) | (simp; omega)) _) | (with_reducible refine Below.alloc ?_ (by first | omega | (simp; done) | (simp; omega)) _) | (with_reducible refine Below.drew ?_) | (with_reducible refine below_drewN ?_ _) | (with_reducible refine Below.trans ?_ (Below.mono (by assumption) (by first | omega | (simp; done) | (simp; omega)))))))
        have y0 : X.cell? ⟨w1.heap.size, 0, none⟩ = some (.int .i64 (FE k)) := by rw [eX]; exact (Two.new w1 _ _ _).c0
        have y1 : X.cell? ⟨w1.heap.size, 1, none⟩ = some (.int .i64 (FN k)) := by rw [eX]; exact (Two.new w1 _ _ _).c1
        have lP : w1.heap.size < X.heap.size := by rw [eX]; simp
        rw [← eX]
        obtain ⟨P, hP⟩ : ∃ P, P = w1.heap.size := ⟨_, rfl⟩
        rw [← hP] at y0 y1 lP
        rw [← hP]
        clear eX hP
        have hXs := XB.out.size
        have HXW := Lib.hid (HH.out.trans (XB.out.mono HH.out.size))
        clear hc hf hz hb x0 x1 x2 x3 x4 n0 n1 g0 IMk XB
        go_wp2
        go_quiet (fail)
        clear s1 s2
        go_wp2
        go_roundw
        case rel => exact ⟨k + 1, by omega, by go_num, congrArg (Value.int IntKind.i64) (show pE + sm k FE + FE k = pE + sm (k + 1) FE by simp only [sm]; omega), congrArg (Value.int IntKind.i64) (show pN + sm k FN + FN k = pN + sm (k + 1) FN by simp only [sm]; omega), Lib.hid (below_drewN HXW.out _)⟩
        case measure => simp [intOf]; omega
      · obtain ⟨X, eX⟩ : ∃ X, X = (w1.setCell ⟨wr.heap.size, 0, none⟩ (.int .i64 (FE k))).setCell ⟨wr.heap.size, 1, none⟩ (.int .i64 (FN k)) := ⟨_, rfl⟩
        have XB := Lib.hid (show Below wr.heap.size wr X from by rw [eX]; (repeat' (first | (with_reducible exact Below.refl _ _) | (with_reducible refine Below.setCell ?_ (by first | omega | (simp; done) | (simp; omega)) _) | (with_reducible refine Below.alloc ?_ (by first | omega | (simp; done) | (simp; omega)) _) | (with_reducible refine Below.drew ?_) | (with_reducible refine below_drewN ?_ _) | (with_reducible refine Below.trans ?_ (Below.mono (by assumption) (by first | omega | (simp; done) | (simp; omega)))))))
        have t2 : Two w1 wr.heap.size 33 (.int .i64 0) (.int .i64 0) := (hb.block wr.heap.size (by simp)).trans (World.alloc_heap_new wr _)
        have y0 : X.cell? ⟨wr.heap.size, 0, none⟩ = some (.int .i64 (FE k)) := by rw [eX]; exact (t2.set2 _ _).c0
        have y1 : X.cell? ⟨wr.heap.size, 1, none⟩ = some (.int .i64 (FN k)) := by rw [eX]; exact (t2.set2 _ _).c1
        have lP : wr.heap.size < X.heap.size := by rw [eX]; exact (t2.set2 _ _).lt
        rw [← eX]
        clear eX t2
        have hXs := XB.out.size
        have HXW := Lib.hid (HH.out.trans (XB.out.mono HH.out.size))
        clear hc hf hz hb x0 x1 x2 x3 x4 n0 n1 g0 IMk XB
        go_wp2
        go_quiet (fail)
        clear s1 s2
        go_wp2
        go_roundw
        case rel => exact ⟨k + 1, by omega, by go_num, congrArg (Value.int IntKind.i64) (show pE + sm k FE + FE k = pE + sm (k + 1) FE by simp only [sm]; omega), congrArg (Value.int IntKind.i64) (show pN + sm k FN + FN k = pN + sm (k + 1) FN by simp only [sm]; omega), Lib.hid (below_drewN HXW.out _)⟩
        case measure => simp [intOf]; omega
    · obtain rfl : m = k := by omega
      have HWr := Lib.hid hWr
      clear hBr hWr bx bz bd x0 x1 x2 x3 x4 n0 n1
      go_wp2_with (go_at_call 14; (with_reducible refine (awake5_any _).mono ?_); rintro e w1 ⟨rfl, hb⟩; obtain ⟨hc, hf, hz⟩ := bcall hb; (try simp at hc hf hz))
      go_ret
      refine ⟨by simp, ?_⟩
      have hW := HWr.out
      (repeat' (first | (with_reducible exact Below.refl _ _) | (with_reducible refine Below.setCell ?_ (by first | omega | (simp; done) | (simp; omega)) _) | (with_reducible refine Below.alloc ?_ (by first | omega | (simp; done) | (simp; omega)) _) | (with_reducible refine Below.drew ?_) | (with_reducible refine below_drewN ?_ _) | (with_reducible refine Below.trans ?_ (Below.mono (by assumption) (by first | omega | (simp; done) | (simp; omega))))))

section
variable (W H : Int) (ao : Option Addr) (n cap : Nat) (G : Nat → Nat → Int) (ak : Option Addr) (nk ck : Nat) (K : Nat → Int) (ab : Option Addr) (nb cb : Nat) (B : Nat → Int) (ro : Option Addr) (len rc : Nat) (R : Nat → Int × Int) (t c : Int) (w : World)
set_option maxRecDepth 100000 in
set_option maxHeartbeats 8000000 in
theorem topDragged_big (h : ¬ (n ≤ 150 ∧ nk ≤ 150 ∧ nb ≤ 150)) :
    Calls Tryd.prog 4 #[.agg #[.int .i64 W, .int .i64 H, .slice (ao) n cap, .slice (ak) nk ck, .slice (ab) nb cb], .slice ro len rc, .agg #[.int .i64 t, .int .i64 c]] w fun e w' => e = .returned (.bool true) ∧ Below w.heap.size w w' := by
  have HN := Lib.hid h; clear h
  go_enter Tryd.func4, Tryd.ntmps4
  go_wp2_with (first | (go_at_call 5; (with_reducible refine (small150_no W H ao n cap ak nk ck ab nb cb _ HN.out).mono ?_); rintro e w1 ⟨rfl, hb⟩; obtain ⟨hc, hf, hz⟩ := bcall hb; (try simp at hc hf hz)) | (go_at_call 14; (with_reducible refine (awake5_any _).mono ?_); rintro e w1 ⟨rfl, hb⟩; obtain ⟨hc, hf, hz⟩ := bcall hb; (try simp at hc hf hz)))
  go_ret
  refine ⟨rfl, ?_⟩
  (repeat' (first | (with_reducible exact Below.refl _ _) | (with_reducible refine Below.setCell ?_ (by first | omega | (simp; done) | (simp; omega)) _) | (with_reducible refine Below.alloc ?_ (by first | omega | (simp; done) | (simp; omega)) _) | (with_reducible refine Below.drew ?_) | (with_reducible refine below_drewN ?_ _) | (with_reducible refine Below.trans ?_ (Below.mono (by assumption) (by first | omega | (simp; done) | (simp; omega))))))
set_option maxRecDepth 100000 in
set_option maxHeartbeats 8000000 in
theorem topDragged_many (h : n ≤ 150 ∧ nk ≤ 150 ∧ nb ≤ 150) (hl : 20 < len) (hm : len ≤ 9223372036854775807) :
    Calls Tryd.prog 4 #[.agg #[.int .i64 W, .int .i64 H, .slice (ao) n cap, .slice (ak) nk ck, .slice (ab) nb cb], .slice ro len rc, .agg #[.int .i64 t, .int .i64 c]] w fun e w' => e = .returned (.bool true) ∧ Below w.heap.size w w' := by
  have HN := Lib.hid h; clear h
  go_enter Tryd.func4, Tryd.ntmps4
  go_wp2_with (first | (go_at_call 5; (with_reducible refine (small150_yes W H ao n cap ak nk ck ab nb cb _ HN.out).mono ?_); rintro e w1 ⟨rfl, hb⟩; obtain ⟨hc, hf, hz⟩ := bcall hb; (try simp at hc hf hz)) | (go_at_call 14; (with_reducible refine (awake5_any _).mono ?_); rintro e w1 ⟨rfl, hb⟩; obtain ⟨hc, hf, hz⟩ := bcall hb; (try simp at hc hf hz)))
  go_ret
  refine ⟨rfl, ?_⟩
  (repeat' (first | (with_reducible exact Below.refl _ _) | (with_reducible refine Below.setCell ?_ (by first | omega | (simp; done) | (simp; omega)) _) | (with_reducible refine Below.alloc ?_ (by first | omega | (simp; done) | (simp; omega)) _) | (with_reducible refine Below.drew ?_) | (with_reducible refine below_drewN ?_ _) | (with_reducible refine Below.trans ?_ (Below.mono (by assumption) (by first | omega | (simp; done) | (simp; omega))))))
set_option maxRecDepth 100000 in
set_option maxHeartbeats 8000000 in
theorem topDragged_far (h : n ≤ 150 ∧ nk ≤ 150 ∧ nb ≤ 150) (hl : len ≤ 20) (hc : 20 < c) :
    Calls Tryd.prog 4 #[.agg #[.int .i64 W, .int .i64 H, .slice (ao) n cap, .slice (ak) nk ck, .slice (ab) nb cb], .slice ro len rc, .agg #[.int .i64 t, .int .i64 c]] w fun e w' => e = .returned (.bool true) ∧ Below w.heap.size w w' := by
  have HN := Lib.hid h; clear h
  go_enter Tryd.func4, Tryd.ntmps4
  go_wp2_with (first | (go_at_call 5; (with_reducible refine (small150_yes W H ao n cap ak nk ck ab nb cb _ HN.out).mono ?_); rintro e w1 ⟨rfl, hb⟩; obtain ⟨hc, hf, hz⟩ := bcall hb; (try simp at hc hf hz)) | (go_at_call 14; (with_reducible refine (awake5_any _).mono ?_); rintro e w1 ⟨rfl, hb⟩; obtain ⟨hc, hf, hz⟩ := bcall hb; (try simp at hc hf hz)))
  go_ret
  refine ⟨rfl, ?_⟩
  (repeat' (first | (with_reducible exact Below.refl _ _) | (with_reducible refine Below.setCell ?_ (by first | omega | (simp; done) | (simp; omega)) _) | (with_reducible refine Below.alloc ?_ (by first | omega | (simp; done) | (simp; omega)) _) | (with_reducible refine Below.drew ?_) | (with_reducible refine below_drewN ?_ _) | (with_reducible refine Below.trans ?_ (Below.mono (by assumption) (by first | omega | (simp; done) | (simp; omega))))))
set_option maxRecDepth 100000 in
set_option maxHeartbeats 8000000 in
theorem topDragged_err (hp : PreW w ao n G ak nk K ab nb B ro len R) (h : n ≤ 150 ∧ nk ≤ 150 ∧ nb ≤ 150) (hl : len ≤ 20) (hc20 : c ≤ 20) (z : Int) (hz : z ≠ 0)
    (o1 : ∀ w, PreW w ao n G ak nk K ab nb B ro len R → Calls Tryd.prog 15 #[.agg #[.int .i64 W, .int .i64 H, .slice (ao) n cap], .agg #[.slice (ak) nk ck, .slice (ab) nb cb], .slice ro len rc, .int .i64 t, .int .i64 c] w fun e w' => e = .returned (.tuple #[.agg #[.int .i64 0, .int .i64 0, .slice (none) 0 0], .int .i64 z]) ∧ Below w.heap.size w w') :
    Calls Tryd.prog 4 #[.agg #[.int .i64 W, .int .i64 H, .slice (ao) n cap, .slice (ak) nk ck, .slice (ab) nb cb], .slice ro len rc, .agg #[.int .i64 t, .int .i64 c]] w fun e w' => e = .returned (.bool true) ∧ Below w.heap.size w w' := by
  have O1 := Lib.hid o1
  have HP := Lib.hid hp
  have HN := Lib.hid h
  have e0 : (z == 0) = false := beq_eq_false_iff_ne.2 hz
  have e1 : (z != 0) = true := by simp [bne, e0]
  clear o1 hp h e0 hz
  go_enter Tryd.func4, Tryd.ntmps4
  go_wp2_with (first | (go_at_call 5; (with_reducible refine (small150_yes W H ao n cap ak nk ck ab nb cb _ HN.out).mono ?_); rintro e w1 ⟨rfl, hb⟩; obtain ⟨hc, hf, hz⟩ := bcall hb; (try simp at hc hf hz)) | (go_at_call 15; (with_reducible refine (O1.out _ (HP.out.below (show Below w.heap.size w _ from by (repeat' (first | (with_reducible exact Below.refl _ _) | (with_reducible refine Below.setCell ?_ (by first | omega | (simp; done) | (simp; omega)) _) | (with_reducible refine Below.alloc ?_ (by first | omega | (simp; done) | (simp; omega)) _) | (with_reducible refine Below.drew ?_) | (with_reducible refine below_drewN ?_ _) | (with_reducible refine Below.trans ?_ (Below.mono (by assumption) (by first | omega | (simp; done) | (simp; omega))))))))).mono ?_); rintro e w1 ⟨rfl, hb⟩; obtain ⟨hc, hf, hz⟩ := bcall hb; (try simp at hc hf hz)) | (go_at_call 14; (with_reducible refine (awake5_any _).mono ?_); rintro e w1 ⟨rfl, hb⟩; obtain ⟨hc, hf, hz⟩ := bcall hb; (try simp at hc hf hz)))
  go_ret
  refine ⟨rfl, ?_⟩
  (repeat' (first | (with_reducible exact Below.refl _ _) | (with_reducible refine Below.setCell ?_ (by first | omega | (simp; done) | (simp; omega)) _) | (with_reducible refine Below.alloc ?_ (by first | omega | (simp; done) | (simp; omega)) _) | (with_reducible refine Below.drew ?_) | (with_reducible refine below_drewN ?_ _) | (with_reducible refine Below.trans ?_ (Below.mono (by assumption) (by first | omega | (simp; done) | (simp; omega))))))
end
theorem topDragged_any (W H : Int) (ao : Option Addr) (n cap : Nat) (G : Nat → Nat → Int) (ak : Option Addr) (nk ck : Nat) (K : Nat → Int) (ab : Option Addr) (nb cb : Nat) (B : Nat → Int) (ro : Option Addr) (len rc : Nat) (R : Nat → Int × Int) (t c : Int) (w : World) (hT : Tbl w) (wW : Wf W) (wH : Wf H) (hl : n ≤ cap) (hm : cap ≤ maxLen) (hG : CellsIn w ao n G) (hlk : nk ≤ ck) (hmk : ck ≤ maxLen) (hK : NumsIn w ak nk K) (fK : ∀ i, i < nk → Wf (K i)) (hlb : nb ≤ cb) (hmb : cb ≤ maxLen) (hB : NumsIn w ab nb B) (fB : ∀ i, i < nb → Wf (B i)) (hr : len ≤ rc) (hr' : rc ≤ maxLen) (hR : RulesIn w ro len R) :
    Calls Tryd.prog 4 #[.agg #[.int .i64 W, .int .i64 H, .slice (ao) n cap, .slice (ak) nk ck, .slice (ab) nb cb], .slice ro len rc, .agg #[.int .i64 t, .int .i64 c]] w fun e w' => e = .returned (.bool true) ∧ Below w.heap.size w w' := by
  by_cases hs : n ≤ 150 ∧ nk ≤ 150 ∧ nb ≤ 150
  · by_cases hs2 : len ≤ 20
    · by_cases hs3 : c ≤ 20
      · obtain ⟨z, hz, e1⟩ := wcheck_prog W H ao n cap G ak nk ck K ab nb cb B ro len rc R t c (by omega)
        by_cases h : z = 0
        · obtain ⟨W', H', t', c', rfl, rfl, rfl, rfl, rfl, rfl, s, hG', hP, hk, hrr⟩ := wok_nat W H n G nk K nb B len R (hz.1 h)
          exact topDragged_in W' H' _ cap ao G ak ck K ab cb B ro len rc R t' c' w s hG' hP hk hrr (by omega) ⟨hT, hG, hK, hB, hR⟩ hs.1 hs2
        · exact topDragged_err W H ao n cap G ak nk ck K ab nb cb B ro len rc R t c w ⟨hT, hG, hK, hB, hR⟩ hs hs2 hs3 z h
            (fun w hp => wrun_err W H ao n cap ak nk ck ab nb cb ro len rc t c z w h (fun wy hy => by have q := hp.below hy; exact e1 wy q.2.1 q.2.2.1 q.2.2.2.1 q.2.2.2.2))
      · exact topDragged_far W H ao n cap ak nk ck ab nb cb ro len rc t c w hs hs2 (by omega)
    · exact topDragged_many W H ao n cap ak nk ck ab nb cb ro len rc t c w hs (by omega) (Nat.le_trans hr (Nat.le_trans hr' (by unfold maxLen; omega)))
  · exact topDragged_big W H ao n cap ak nk ck ab nb cb ro len rc t c w hs
end Go.Proofs.YtdbehbeaigfpcaaDoor
