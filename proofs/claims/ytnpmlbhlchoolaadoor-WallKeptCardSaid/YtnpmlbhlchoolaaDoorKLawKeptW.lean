/- The law WallKept: the walk. -/
import Derived.Test.YtnpmlbhlchoolaaDoorKKeptW
import Derived.Test.YtnpmlbhlchoolaaDoorKLawStepsW
import Derived.Test.YtnpmlbhlchoolaaDoorKImpA
import Derived.Test.YtnpmlbhlchoolaaDoorKRunU
import Derived.Test.YtnpmlbhlchoolaaDoorKDragB
import Derived.Deep.RegionHeld3
namespace Go.Proofs.YtnpmlbhlchoolaaDoor
set_option linter.unusedSimpArgs false
set_option linter.unusedVariables false
open Go.RowKit Go.Maps Go.Sort

theorem small400_yes (W H : Int) (ao : Option Addr) (n cap : Nat) (ak : Option Addr) (nk ck : Nat) (ab : Option Addr) (nb cb : Nat) (w : World) (h : n ≤ 400 ∧ nk ≤ 400 ∧ nb ≤ 400) :
    Calls Tryd.prog 9 #[.agg #[.int .i64 W, .int .i64 H, .slice (ao) n cap, .slice (ak) nk ck, .slice (ab) nb cb], .int .i64 400] w fun e w' => e = .returned (.bool true) ∧ Below w.heap.size w w' := small3_yes W H ao n cap ak nk ck ab nb cb 400 w h.1 h.2.1 h.2.2
theorem small400_no (W H : Int) (ao : Option Addr) (n cap : Nat) (ak : Option Addr) (nk ck : Nat) (ab : Option Addr) (nb cb : Nat) (w : World) (h : ¬ (n ≤ 400 ∧ nk ≤ 400 ∧ nb ≤ 400)) :
    Calls Tryd.prog 9 #[.agg #[.int .i64 W, .int .i64 H, .slice (ao) n cap, .slice (ak) nk ck, .slice (ab) nb cb], .int .i64 400] w fun e w' => e = .returned (.bool false) ∧ Below w.heap.size w w' := small3_no W H ao n cap ak nk ck ab nb cb 400 w (by omega)
theorem PreW.cellsK {w : World} {ao : Option Addr} {n : Nat} {G : Nat → Nat → Int} {ak : Option Addr} {nk : Nat} {K : Nat → Int} {ab : Option Addr} {nb : Nat} {B : Nat → Int} {ro : Option Addr} {len : Nat} {R : Nat → Int × Int} (h : PreW w ao n G ak nk K ab nb B ro len R) : CellsIn w ao n G := h.2.1
/-- Numbers in memory. -/
def IntsL (w : World) (ao : Option Addr) (m : Nat) (L : Nat → Int) : Prop := m = 0 ∨ ∃ g, ao = some ⟨g, 0, none⟩ ∧ g < w.heap.size ∧ ∀ j, j < m → w.cell? ⟨g, j, none⟩ = some (.int .i64 (L j))
theorem owns_ints {w : World} {base : Nat} {v : Value} {L : List Int} (h : w.ownsRow base 3 1 v L.length (L.map encZ)) : ∃ ao cap, v = .slice ao L.length cap ∧ IntsL w ao L.length (fun j => L.getD j 0) := by
  rcases h.2 with ⟨rfl, hn⟩ | ⟨g, cap, cur, rfl, hg, hgg, hc, hm, hs, ht⟩
  · exact ⟨none, 0, by rw [hn], .inl hn⟩
  · refine ⟨_, cap, rfl, .inr ⟨g, rfl, (Array.getElem?_eq_some_iff.1 hgg).1, fun j hj => ?_⟩⟩
    simp only [World.cell?, hgg]
    have e : (cur.toList.take (L.length * 1))[j]? = (L.map encZ)[j]? := by rw [ht]
    rw [List.getElem?_take, if_pos (by omega)] at e
    rw [← Array.getElem?_toList, e]
    simp [List.getElem?_map, List.getElem?_eq_getElem hj, List.getD_eq_getElem?_getD, encZ]

set_option maxRecDepth 100000 in
set_option maxHeartbeats 16000000 in
theorem wallKept_in (W H n cap : Nat) (ao : Option Addr) (G : Nat → Nat → Int) (ak : Option Addr) (ck : Nat) (K : Nat → Int) (ab : Option Addr) (cb : Nat) (B : Nat → Int) (ro : Option Addr) (len rc : Nat) (R : Nat → Int × Int) (t : Nat) (w : World) (s : Sides W H n) (hG : OkG n G) (hP : ∀ i, i < n → OkP (K i) (B i)) (hk : OkRs len R) (ht : t ≤ 1000000) (hp : PreW w ao n G ak n K ab n B ro len R) (h : n ≤ 400) (hl20 : len ≤ 20) :
    Calls Tryd.prog 5 #[.agg #[.int .i64 W, .int .i64 H, .slice (ao) n cap, .slice (ak) n ck, .slice (ab) n cb], .slice ro len rc, .int .i64 t] w fun e w' => e = .returned (.bool true) ∧ Below w.heap.size w w' := by
  have hK := okK_of hP
  have hn1 := s.n1
  have hpos := vg_pos (vg_of s hG)
  obtain ⟨F, hF⟩ : ∃ F, F = fwdW W H K len R t G := ⟨_, rfl⟩
  have hGF : OkG n F := by rw [hF]; exact okG_fwdW s.n0 hK hG
  have o1 := fun wx (hp : PreW wx ao n G ak n K ab n B ro len R) => wStep_ok W H n cap ao G ak ck K ab cb B ro len rc R t wx s hG hP hk ht hp
  rw [← hF] at o1
  obtain ⟨e1, e2, e3⟩ := kept_sums (W := W) (H := H) (len := len) (R := R) (t := t) (G := G) s.n0 hK
  rw [← hF] at e1 e2 e3
  obtain ⟨b1, b2⟩ := bodies_sum (G := G) hP
  rw [← b1] at e2
  rw [← b2] at e3
  have m1 := fun wx (hC : CellsIn wx ao n G) => gMass_ok W H ao n cap G wx (vg_of s hG) hC
  have m2 := fun wx oA cA (hC : CellsIn wx oA n F) => gMass_ok W H oA n cA F wx (vg_of s hGF) hC
  have m3 := fun wx (hC : CellsIn wx ao n G) => gMomentum_ok W H ao n cap G wx (vg_of s hG) hC
  have m4 := fun wx oA cA (hC : CellsIn wx oA n F) => gMomentum_ok W H oA n cA F wx (vg_of s hGF) hC
  rw [e1] at m2
  rw [e2, e3] at m4
  have bd := im_bd hG.1 n (Nat.le_refl _)
  obtain ⟨L, hL⟩ : ∃ L, L = bodL B n := ⟨_, rfl⟩
  obtain ⟨FE, hFE⟩ : ∃ FE : Nat → Int, FE = fun j => sumL (dE K G) (ownN B (L.getD j 0) n) := ⟨_, rfl⟩
  obtain ⟨FN, hFN⟩ : ∃ FN : Nat → Int, FN = fun j => sumL (dN K G) (ownN B (L.getD j 0) n) := ⟨_, rfl⟩
  have hLl : L.length ≤ 9 := by rw [hL]; exact bodL_len B n
  have hbF : ∀ j, j < L.length → -2100000000000 ≤ FE j ∧ FE j ≤ 2100000000000 := fun j _ => by rw [hFE]; exact (sumL_own hn1 hK hG).1
  have hbN : ∀ j, j < L.length → -2100000000000 ≤ FN j ∧ FN j ≤ 2100000000000 := fun j _ => by rw [hFN]; exact (sumL_own hn1 hK hG).2
  have V := fun wx (hp : PreW wx ao n G ak n K ab n B ro len R) => wValid_yes W H ao n cap G ak n ck K ab n cb B wx ⟨vg_of s hG, rfl, rfl, hP⟩ hp.2.1 hp.2.2.1 hp.2.2.2.1
  have BO : ∀ wx, PreW wx ao n G ak n K ab n B ro len R → Calls Tryd.prog 22 #[.agg #[.int .i64 W, .int .i64 H, .slice (ao) n cap], .agg #[.slice (ak) n ck, .slice (ab) n cb]] wx fun e w' => ∃ a c, e = .returned (.tuple #[.slice a L.length c, .int .i64 0]) ∧ IntsL w' a L.length (fun j => L.getD j 0) ∧ Below wx.heap.size wx w' := fun wx hp => by
    obtain ⟨bb, ob, rfl, lbb, hB⟩ := numsAt_of hp.2.2.2.1 (by omega)
    refine (wbodies_in W H ao n cap ak n ck bb ob cb B wx hn1 lbb hB (okP_body hP) (fun wy hy => V wy (hp.below hy))).mono ?_
    rintro e w' ⟨v, rfl, hr, hb⟩
    rw [← hL] at hr
    obtain ⟨a, c, rfl, hI⟩ := owns_ints hr
    exact ⟨a, c, rfl, hI, hb⟩
  have IM : ∀ j wx, j < L.length → PreW wx ao n G ak n K ab n B ro len R → Calls Tryd.prog 23 #[.agg #[.int .i64 W, .int .i64 H, .slice (ao) n cap], .agg #[.slice (ak) n ck, .slice (ab) n cb], .int .i64 (L.getD j 0)] wx fun e w' => e = .returned (.tuple #[.agg #[.int .i64 (FE j), .int .i64 (FN j)], .int .i64 0]) ∧ Below wx.heap.size wx w' := fun j wx hj hp => by
    have hm : L.getD j 0 ∈ bodL B n := by
      rw [← hL, List.getD_eq_getElem?_getD, List.getElem?_eq_getElem hj]
      exact List.getElem_mem hj
    rw [hFE, hFN]
    dsimp only
    generalize L.getD j 0 = xb at hm ⊢
    have hc := ((mem_bodL (okP_body hP) _).1 hm).2
    have h19 : 1 ≤ xb ∧ xb ≤ 9 := by
      obtain ⟨i, hi, e⟩ := cntB_pos hc
      have := okP_body hP i hi
      have := ((mem_bodL (okP_body hP) _).1 hm).1
      omega
    have hp' := hp
    obtain ⟨hT, hC, hN, hB, hR⟩ := hp
    obtain ⟨b, off, rfl, hlt, hC⟩ := cells_of1 s hC
    obtain ⟨bk, ok, rfl, hbk, hN⟩ := numsAt_of hN (by omega)
    obtain ⟨bb, ob, rfl, lbb, hB⟩ := numsAt_of hB (by omega)
    exact wImpulse_in W H n cap b off bk ok ck bb ob cb K B _ G wx s hG hlt hC hK hbk hN lbb hB hT h19.1 h19.2 (fun wy hy => V wy (hp'.below hy)) (fun wy hy => (whas_in (some ⟨bk, ok, none⟩) n ck bb ob n cb B _ wy hn1 (Nat.lt_of_lt_of_le lbb hy.size) (hB.below hy lbb) (okP_body hP) h19.1 h19.2).mono fun e w' h => by simpa [hc] using h)
  have OS : ∀ wx, PreW wx ao n G ak n K ab n B ro len R → Calls Tryd.prog 24 #[.agg #[.int .i64 W, .int .i64 H, .slice (ao) n cap], .slice ro len rc, .int .i64 t] wx (Made W H n (fwd W H len R t G) wx) := fun wx hp => gStep_ok W H n cap ao G ro len rc R t wx s hG hp.2.1 hp.2.2.2.2 hk ht
  have EQ : L.length = 0 → EqG n F (fwd W H len R t G) := fun h0 => by
    rw [hF]
    have e := bodies_none (k := (R (t % len)).1) (y := (R (t % len)).2) (G := G) hP (by rw [← hL]; exact List.length_eq_zero_iff.1 h0)
    exact EqG.pull s.n0 e
  rw [← hL] at m4
  obtain ⟨LL, hLL⟩ : ∃ LL : Nat → Int, LL = fun j => L.getD j 0 := ⟨_, rfl⟩
  rw [show (fun j => sumL (dE K G) (ownN B (L.getD j 0) n)) = FE from hFE.symm, show (fun j => sumL (dN K G) (ownN B (L.getD j 0) n)) = FN from hFN.symm] at m4
  have IM : ∀ j wx, j < L.length → PreW wx ao n G ak n K ab n B ro len R → Calls Tryd.prog 23 #[.agg #[.int .i64 W, .int .i64 H, .slice (ao) n cap], .agg #[.slice (ak) n ck, .slice (ab) n cb], .int .i64 (LL j)] wx fun e w' => e = .returned (.tuple #[.agg #[.int .i64 (FE j), .int .i64 (FN j)], .int .i64 0]) ∧ Below wx.heap.size wx w' := by rw [hLL]; exact IM
  rw [← hLL] at BO
  obtain ⟨m, hm⟩ : ∃ m, m = L.length := ⟨_, rfl⟩
  rw [← hm] at m4 hLl hbF hbN BO IM EQ
  obtain ⟨pE, hpE⟩ : ∃ p, p = imE G n := ⟨_, rfl⟩
  obtain ⟨pN, hpN⟩ : ∃ p, p = imN G n := ⟨_, rfl⟩
  rw [← hpE, ← hpN] at m3 m4 bd
  have O1 := Lib.hid o1
  have M1 := Lib.hid m1
  have M2 := Lib.hid m2
  have M3 := Lib.hid m3
  have M4 := Lib.hid m4
  have BO := Lib.hid BO
  have IM := Lib.hid IM
  have OS := Lib.hid OS
  have EQ := Lib.hid EQ
  have HBF := Lib.hid hbF
  have HBN := Lib.hid hbN
  have HP := Lib.hid hp
  have HN : Hid (n ≤ 400 ∧ n ≤ 400 ∧ n ≤ 400) := Lib.hid ⟨h, h, h⟩
  clear o1 m1 m2 m3 m4 hp s hG hP hk hF hGF e1 e2 e3 b1 b2 hK hL hFE hFN hbF hbN V hLL hm hpE hpN hpos
  go_enter Tryd.func5, Tryd.ntmps5
  go_wp2_with (go_at_call 9; (with_reducible refine (small400_yes W H ao n cap ak n ck ab n cb _ HN.out).mono ?_); rintro e w1 ⟨rfl, hb⟩; obtain ⟨hc, hf, hz⟩ := bcall hb; (try simp at hc hf hz))
  (go_at_call 11; (with_reducible refine (O1.out _ (HP.out.below (show Below w.heap.size w _ from by (repeat' (first | (with_reducible exact Below.refl _ _) | (with_reducible refine Below.setCell ?_ (by first | omega | (simp; done) | (simp; omega)) _) | (with_reducible refine Below.alloc ?_ (by first | omega | (simp; done) | (simp; omega)) _) | (with_reducible refine Below.drew ?_) | (with_reducible refine below_drewN ?_ _) | (with_reducible refine Below.trans ?_ (Below.mono (by assumption) (by first | omega | (simp; done) | (simp; omega))))))))).mono ?_); rintro e wA ⟨oA, cA, rfl, hoA, foA, hb⟩; have HA := Lib.hid hoA.out; clear hoA foA; obtain ⟨hc, hf, hz⟩ := bcall hb; (try simp at hc hf hz))
  go_wp2_with (first | (go_at_call 20; (with_reducible refine (M1.out _ (HP.out.below (show Below w.heap.size w _ from by (repeat' (first | (with_reducible exact Below.refl _ _) | (with_reducible refine Below.setCell ?_ (by first | omega | (simp; done) | (simp; omega)) _) | (with_reducible refine Below.alloc ?_ (by first | omega | (simp; done) | (simp; omega)) _) | (with_reducible refine Below.drew ?_) | (with_reducible refine below_drewN ?_ _) | (with_reducible refine Below.trans ?_ (Below.mono (by assumption) (by first | omega | (simp; done) | (simp; omega)))))))).cellsK).mono ?_); rintro e w1 ⟨rfl, hb⟩; obtain ⟨hc, hf, hz⟩ := bcall hb; (try simp at hc hf hz)) | (go_at_call 20; (with_reducible refine (M2.out _ oA cA (HA.out.below (by (repeat' (first | (with_reducible exact Below.refl _ _) | (with_reducible refine Below.setCell ?_ (by first | omega | (simp; done) | (simp; omega)) _) | (with_reducible refine Below.alloc ?_ (by first | omega | (simp; done) | (simp; omega)) _) | (with_reducible refine Below.drew ?_) | (with_reducible refine below_drewN ?_ _) | (with_reducible refine Below.trans ?_ (Below.mono (by assumption) (by first | omega | (simp; done) | (simp; omega))))))))).mono ?_); rintro e w1 ⟨rfl, hb⟩; obtain ⟨hc, hf, hz⟩ := bcall hb; (try simp at hc hf hz)) | (go_at_call 21; (with_reducible refine (M3.out _ (HP.out.below (show Below w.heap.size w _ from by (repeat' (first | (with_reducible exact Below.refl _ _) | (with_reducible refine Below.setCell ?_ (by first | omega | (simp; done) | (simp; omega)) _) | (with_reducible refine Below.alloc ?_ (by first | omega | (simp; done) | (simp; omega)) _) | (with_reducible refine Below.drew ?_) | (with_reducible refine below_drewN ?_ _) | (with_reducible refine Below.trans ?_ (Below.mono (by assumption) (by first | omega | (simp; done) | (simp; omega)))))))).cellsK).mono ?_); rintro e w1 ⟨rfl, hb⟩; obtain ⟨hc, hf, hz⟩ := bcall hb; (try simp at hc hf hz)) | (go_at_call 21; (with_reducible refine (M4.out _ oA cA (HA.out.below (by (repeat' (first | (with_reducible exact Below.refl _ _) | (with_reducible refine Below.setCell ?_ (by first | omega | (simp; done) | (simp; omega)) _) | (with_reducible refine Below.alloc ?_ (by first | omega | (simp; done) | (simp; omega)) _) | (with_reducible refine Below.drew ?_) | (with_reducible refine below_drewN ?_ _) | (with_reducible refine Below.trans ?_ (Below.mono (by assumption) (by first | omega | (simp; done) | (simp; omega))))))))).mono ?_); rintro e w1 ⟨rfl, hb⟩; obtain ⟨hc, hf, hz⟩ := bcall hb; (try simp at hc hf hz)) | (go_at_call 22; (with_reducible refine (BO.out _ (HP.out.below (show Below w.heap.size w _ from by (repeat' (first | (with_reducible exact Below.refl _ _) | (with_reducible refine Below.setCell ?_ (by first | omega | (simp; done) | (simp; omega)) _) | (with_reducible refine Below.alloc ?_ (by first | omega | (simp; done) | (simp; omega)) _) | (with_reducible refine Below.drew ?_) | (with_reducible refine below_drewN ?_ _) | (with_reducible refine Below.trans ?_ (Below.mono (by assumption) (by first | omega | (simp; done) | (simp; omega))))))))).mono ?_); rintro e wB ⟨aL, cL, rfl, hIL, hb⟩; have HIL := Lib.hid hIL; clear hIL; obtain ⟨hc, hf, hz⟩ := bcall hb; (try simp at hc hf hz)))
  have hBw := Lib.hid (show Below w.heap.size w wB from by (repeat' (first | (with_reducible exact Below.refl _ _) | (with_reducible refine Below.setCell ?_ (by first | omega | (simp; done) | (simp; omega)) _) | (with_reducible refine Below.alloc ?_ (by first | omega | (simp; done) | (simp; omega)) _) | (with_reducible refine Below.drew ?_) | (with_reducible refine below_drewN ?_ _) | (with_reducible refine Below.trans ?_ (Below.mono (by assumption) (by first | omega | (simp; done) | (simp; omega)))))))
  have hX := Lib.hid (show Below (w.heap.size + 1) (w.alloc (.cells #[.int .i64 W, .int .i64 H, .slice ao n cap, .slice ak n ck, .slice ab n cb] 29)) wB from by (repeat' (first | (with_reducible exact Below.refl _ _) | (with_reducible refine Below.setCell ?_ (by first | omega | (simp; done) | (simp; omega)) _) | (with_reducible refine Below.alloc ?_ (by first | omega | (simp; done) | (simp; omega)) _) | (with_reducible refine Below.drew ?_) | (with_reducible refine below_drewN ?_ _) | (with_reducible refine Below.trans ?_ (Below.mono (by assumption) (by first | omega | (simp; done) | (simp; omega)))))))
  have hY := Lib.hid (show Below (wA.heap.size + 1) (wA.alloc (.cells #[.int .i64 W, .int .i64 H, .slice oA n cA] 24)) wB from by (repeat' (first | (with_reducible exact Below.refl _ _) | (with_reducible refine Below.setCell ?_ (by first | omega | (simp; done) | (simp; omega)) _) | (with_reducible refine Below.alloc ?_ (by first | omega | (simp; done) | (simp; omega)) _) | (with_reducible refine Below.drew ?_) | (with_reducible refine below_drewN ?_ _) | (with_reducible refine Below.trans ?_ (Below.mono (by assumption) (by first | omega | (simp; done) | (simp; omega)))))))
  have hAB := Lib.hid (show Below wA.heap.size wA wB from by (repeat' (first | (with_reducible exact Below.refl _ _) | (with_reducible refine Below.setCell ?_ (by first | omega | (simp; done) | (simp; omega)) _) | (with_reducible refine Below.alloc ?_ (by first | omega | (simp; done) | (simp; omega)) _) | (with_reducible refine Below.drew ?_) | (with_reducible refine below_drewN ?_ _) | (with_reducible refine Below.trans ?_ (Below.mono (by assumption) (by first | omega | (simp; done) | (simp; omega)))))))
  have hXb : wB.heap[w.heap.size]? = some (.cells #[.int .i64 W, .int .i64 H, .slice ao n cap, .slice ak n ck, .slice ab n cb] 29 (0, 0)) := (hX.out.block _ (by omega)).trans (World.alloc_heap_new w _)
  have hYb : Three wB wA.heap.size 24 (.int .i64 W) (.int .i64 H) (.slice oA n cA) := (hY.out.block _ (by omega)).trans (World.alloc_heap_new wA _)
  have HXB := Lib.hid hXb
  have HYB := Lib.hid hYb
  have HCA := Lib.hid (HA.out.below hAB.out)
  have HBW := hBw
  have lX : w.heap.size < wB.heap.size := (Array.getElem?_eq_some_iff.1 hXb).1
  have lY : wA.heap.size < wB.heap.size := hYb.lt
  clear hBw hX hY hAB hXb hYb hc hf hz hb
  go_loopw [13, 14, 21] (fun x y i wr => ∃ k : Nat, k ≤ m ∧ i = .int .i64 k ∧ x = .int .i64 (pE + sm k FE) ∧ y = .int .i64 (pN + sm k FN) ∧ Hid (Below wB.heap.size wB wr)) (fun _ _ i _ => m - (intOf i).toNat)
  case atStart => exact ⟨0, Nat.zero_le _, rfl, by simp [sm], by simp [sm], Lib.hid (Below.refl _ _)⟩
  case round =>
    obtain ⟨k, hk, rfl, rfl, rfl, HH⟩ := hrel
    have hBr := HH.out
    have hWr := HBW.out.trans (hBr.mono HBW.out.size)
    have bx := (hBr.block _ lX).trans HXB.out
    have x0 : wr.cell? ⟨w.heap.size, 0, none⟩ = some (.int .i64 W) := by simp [World.cell?, bx]
    have x1 : wr.cell? ⟨w.heap.size, 1, none⟩ = some (.int .i64 H) := by simp [World.cell?, bx]
    have x2 : wr.cell? ⟨w.heap.size, 2, none⟩ = some (.slice ao n cap) := by simp [World.cell?, bx]
    have x3 : wr.cell? ⟨w.heap.size, 3, none⟩ = some (.slice ak n ck) := by simp [World.cell?, bx]
    have x4 : wr.cell? ⟨w.heap.size, 4, none⟩ = some (.slice ab n cb) := by simp [World.cell?, bx]
    have lXr : w.heap.size < wr.heap.size := Nat.lt_of_lt_of_le lX hBr.size
    by_cases hlk : k < m
    · have IMk := Lib.hid (fun wx (hb : Below wr.heap.size wr wx) => IM.out k wx hlk (HP.out.below (hWr.trans (hb.mono hWr.size))))
      rcases HIL.out with h0 | ⟨g, rfl, hg, hgc⟩
      · omega
      have g0 := (hBr.cell (p := ⟨g, k, none⟩) hg).trans (hgc k hlk)
      have lg : g < wr.heap.size := Nat.lt_of_lt_of_le hg hBr.size
      obtain ⟨z, hz⟩ : ∃ z, z = LL k := ⟨_, rfl⟩
      rw [← hz] at g0 IMk
      have p0 : (0 : Int) ≤ (k : Int) := by omega
      have p1 : (k : Int) < (m : Int) := by omega
      have b1 := smW (C := 2100000000000) (by omega) m HBF.out k (by omega)
      have b2 := smW (C := 2100000000000) (by omega) m HBN.out k (by omega)
      have b3 := HBF.out k hlk
      have b4 := HBN.out k hlk
      have s1 : IntKind.i64.wrap (pE + sm k FE + FE k) = pE + sm k FE + FE k := IntWalk.i64_in _ ⟨by omega, by omega⟩
      have s2 : IntKind.i64.wrap (pN + sm k FN + FN k) = pN + sm k FN + FN k := IntWalk.i64_in _ ⟨by omega, by omega⟩
      have HBR := Lib.hid hBr
      clear b1 b2 b3 b4 bx hgc hz hBr hWr bd
      go_wp2
      go_region_held3 (fun w' => w'.cell? ⟨w.heap.size, 0, none⟩ = some (.int .i64 W) ∧ w'.cell? ⟨w.heap.size, 1, none⟩ = some (.int .i64 H) ∧ w'.cell? ⟨w.heap.size, 2, none⟩ = some (.slice ao n cap) ∧ w'.cell? ⟨w.heap.size, 3, none⟩ = some (.slice ak n ck) ∧ w'.cell? ⟨w.heap.size, 4, none⟩ = some (.slice ab n cb) ∧ w'.cell? ⟨g, k, none⟩ = some (.int .i64 z)) (first | (go_split_ands; (try dsimp only); refine ⟨?_, ?_, ?_, ?_, ?_, ?_⟩ <;> (first | (with_reducible assumption) | (with_reducible exact keep_cell (by assumption) (by first | omega | (simp; done) | (simp; omega)) (by assumption)) | (with_reducible exact (World.cell?_alloc_past _ _ _ (by show _ < _; omega)).trans (by assumption)) | (with_reducible exact (World.cell?_alloc_past _ _ _ (by show _ < _; omega)).trans ((World.cell?_alloc_past _ _ _ (by show _ < _; omega)).symm.trans (by assumption))) | (simp [go_sem]; with_reducible assumption))) | (simp [go_sem, ↓IntWalk.iteOmega, *]; done)) ((go_at_call 23; (with_reducible refine (IMk.out _ (by (repeat' (first | (with_reducible exact Below.refl _ _) | (with_reducible refine Below.setCell ?_ (by first | omega | (simp; done) | (simp; omega)) _) | (with_reducible refine Below.alloc ?_ (by first | omega | (simp; done) | (simp; omega)) _) | (with_reducible refine Below.drew ?_) | (with_reducible refine below_drewN ?_ _) | (with_reducible refine Below.trans ?_ (Below.mono (by assumption) (by first | omega | (simp; done) | (simp; omega)))))))).mono ?_); rintro e w1 ⟨rfl, hb⟩; obtain ⟨hc, hf, hz⟩ := bcall hb; (try simp at hc hf hz)))
      all_goals (rename_i hX9; clear hX9)
      · obtain ⟨X, eX⟩ : ∃ X, X = w1.alloc (.cells #[.int .i64 (FE k), .int .i64 (FN k)] 48) := ⟨_, rfl⟩
        have XB := Lib.hid (show Below wr.heap.size wr X from by rw [eX]; (repeat' (first | (with_reducible exact Below.refl _ _) | (with_reducible refine Below.setCell ?_ (by first | omega | (simp; done) | (simp; omega)) _) | (with_reducible refine Below.alloc ?_ (by first | omega | (simp; done) | (simp; omega)) _) | (with_reducible refine Below.drew ?_) | (with_reducible refine below_drewN ?_ _) | (with_reducible refine Below.trans ?_ (Below.mono (by assumption) (by first | omega | (simp; done) | (simp; omega)))))))
        have y0 : X.cell? ⟨w1.heap.size, 0, none⟩ = some (.int .i64 (FE k)) := by rw [eX]; exact (Two.new w1 _ _ _).c0
        have y1 : X.cell? ⟨w1.heap.size, 1, none⟩ = some (.int .i64 (FN k)) := by rw [eX]; exact (Two.new w1 _ _ _).c1
        have lP : w1.heap.size < X.heap.size := by rw [eX]; simp
        rw [← eX]
        obtain ⟨P, hP⟩ : ∃ P, P = w1.heap.size := ⟨_, rfl⟩
        rw [← hP] at y0 y1 lP
        rw [← hP]
        clear eX hP
        have hXs := XB.out.size
        have HXW := Lib.hid (HH.out.trans (XB.out.mono HH.out.size))
        clear hc hf hz hb x0 x1 x2 x3 x4 g0 IMk XB
        go_wp2
        go_quiet (fail)
        clear s1 s2
        go_wp2
        go_roundw
        case rel => exact ⟨k + 1, by omega, by go_num, congrArg (Value.int IntKind.i64) (show pE + sm k FE + FE k = pE + sm (k + 1) FE by simp only [sm]; omega), congrArg (Value.int IntKind.i64) (show pN + sm k FN + FN k = pN + sm (k + 1) FN by simp only [sm]; omega), Lib.hid (below_drewN HXW.out _)⟩
        case measure => simp [intOf]; omega
      · obtain ⟨X, eX⟩ : ∃ X, X = (w1.setCell ⟨wr.heap.size, 0, none⟩ (.int .i64 (FE k))).setCell ⟨wr.heap.size, 1, none⟩ (.int .i64 (FN k)) := ⟨_, rfl⟩
        have XB := Lib.hid (show Below wr.heap.size wr X from by rw [eX]; (repeat' (first | (with_reducible exact Below.refl _ _) | (with_reducible refine Below.setCell ?_ (by first | omega | (simp; done) | (simp; omega)) _) | (with_reducible refine Below.alloc ?_ (by first | omega | (simp; done) | (simp; omega)) _) | (with_reducible refine Below.drew ?_) | (with_reducible refine below_drewN ?_ _) | (with_reducible refine Below.trans ?_ (Below.mono (by assumption) (by first | omega | (simp; done) | (simp; omega)))))))
        have t2 : Two w1 wr.heap.size 48 (.int .i64 0) (.int .i64 0) := (hb.block wr.heap.size (by simp)).trans (World.alloc_heap_new wr _)
        have y0 : X.cell? ⟨wr.heap.size, 0, none⟩ = some (.int .i64 (FE k)) := by rw [eX]; exact (t2.set2 _ _).c0
        have y1 : X.cell? ⟨wr.heap.size, 1, none⟩ = some (.int .i64 (FN k)) := by rw [eX]; exact (t2.set2 _ _).c1
        have lP : wr.heap.size < X.heap.size := by rw [eX]; exact (t2.set2 _ _).lt
        rw [← eX]
        clear eX t2
        have hXs := XB.out.size
        have HXW := Lib.hid (HH.out.trans (XB.out.mono HH.out.size))
        clear hc hf hz hb x0 x1 x2 x3 x4 g0 IMk XB
        go_wp2
        go_quiet (fail)
        clear s1 s2
        go_wp2
        go_roundw
        case rel => exact ⟨k + 1, by omega, by go_num, congrArg (Value.int IntKind.i64) (show pE + sm k FE + FE k = pE + sm (k + 1) FE by simp only [sm]; omega), congrArg (Value.int IntKind.i64) (show pN + sm k FN + FN k = pN + sm (k + 1) FN by simp only [sm]; omega), Lib.hid (below_drewN HXW.out _)⟩
        case measure => simp [intOf]; omega
    · obtain rfl : m = k := by omega
      have y := hBr
      have cA := (HYB.out.below hBr lY)
      have a0 := cA.c0
      have a1 := cA.c1
      have a2 := cA.c2
      have lYr := cA.lt
      have HCr := Lib.hid (HCA.out.below hBr)
      have HWr := Lib.hid hWr
      clear hBr hWr y cA bx bd
      by_cases hm0 : m = 0
      · have EQ0 := Lib.hid (EQ.out hm0)
        have hgt : ¬ (0 < (m : Int)) := by omega
        have hgt2 : decide (0 < (m : Int)) = false := by simp; omega
        have HM0 := Lib.hid hm0
        clear hm0
        go_wp2_with fail
        (go_at_call 24; (with_reducible refine (OS.out _ (HP.out.below HWr.out)).mono ?_); rintro e wp ⟨p, cp, rfl, hp, lop, hb⟩; have Cp := Lib.hid hp; clear hp lop; obtain ⟨hc, hf, hz⟩ := bcall hb; (try simp at hc hf hz))
        go_wp2_with (first | (go_at_call 13; (with_reducible refine (gSame_yes W H oA (some ⟨p, 0, none⟩) n cA cp F (fwd W H len R t G) _ (by omega) (HCr.out.below (by (repeat' (first | (with_reducible exact Below.refl _ _) | (with_reducible refine Below.setCell ?_ (by first | omega | (simp; done) | (simp; omega)) _) | (with_reducible refine Below.alloc ?_ (by first | omega | (simp; done) | (simp; omega)) _) | (with_reducible refine Below.drew ?_) | (with_reducible refine below_drewN ?_ _) | (with_reducible refine Below.trans ?_ (Below.mono (by assumption) (by first | omega | (simp; done) | (simp; omega)))))))) (Cp.out.below (by (repeat' (first | (with_reducible exact Below.refl _ _) | (with_reducible refine Below.setCell ?_ (by first | omega | (simp; done) | (simp; omega)) _) | (with_reducible refine Below.alloc ?_ (by first | omega | (simp; done) | (simp; omega)) _) | (with_reducible refine Below.drew ?_) | (with_reducible refine below_drewN ?_ _) | (with_reducible refine Below.trans ?_ (Below.mono (by assumption) (by first | omega | (simp; done) | (simp; omega)))))))) EQ0.out).mono ?_); rintro e w1 ⟨rfl, hb⟩; obtain ⟨hc, hf, hz⟩ := bcall hb; (try simp at hc hf hz)) | (go_at_call 10; (with_reducible refine (awake3_any _ (HP.out.tbl.below (show Below w.heap.size w _ from HWr.out.trans (Below.mono (show Below wr.heap.size wr _ from by (repeat' (first | (with_reducible exact Below.refl _ _) | (with_reducible refine Below.setCell ?_ (by first | omega | (simp; done) | (simp; omega)) _) | (with_reducible refine Below.alloc ?_ (by first | omega | (simp; done) | (simp; omega)) _) | (with_reducible refine Below.drew ?_) | (with_reducible refine below_drewN ?_ _) | (with_reducible refine Below.trans ?_ (Below.mono (by assumption) (by first | omega | (simp; done) | (simp; omega))))))) HWr.out.size)))).mono ?_); rintro e w1 ⟨rfl, hb⟩; obtain ⟨hc, hf, hz⟩ := bcall hb; (try simp at hc hf hz)))
        go_ret
        refine ⟨by simp, ?_⟩
        have hW := HWr.out
        refine hW.trans (Below.mono (show Below wr.heap.size wr _ from by (clear hW; (repeat' (first | (with_reducible exact Below.refl _ _) | (with_reducible refine Below.setCell ?_ (by first | omega | (simp; done) | (simp; omega)) _) | (with_reducible refine Below.alloc ?_ (by first | omega | (simp; done) | (simp; omega)) _) | (with_reducible refine Below.drew ?_) | (with_reducible refine below_drewN ?_ _) | (with_reducible refine Below.trans ?_ (Below.mono (by assumption) (by first | omega | (simp; done) | (simp; omega)))))))) hW.size)
      · have hgt : 0 < (m : Int) := by omega
        have hgt2 : decide (0 < (m : Int)) = true := by simp; omega
        go_wp2_with (go_at_call 10; (with_reducible refine (awake3_any _ (HP.out.tbl.below (show Below w.heap.size w _ from HWr.out))).mono ?_); rintro e w1 ⟨rfl, hb⟩; obtain ⟨hc, hf, hz⟩ := bcall hb; (try simp at hc hf hz))
        go_ret
        refine ⟨rfl, ?_⟩
        have hW := HWr.out
        (repeat' (first | (with_reducible exact Below.refl _ _) | (with_reducible refine Below.setCell ?_ (by first | omega | (simp; done) | (simp; omega)) _) | (with_reducible refine Below.alloc ?_ (by first | omega | (simp; done) | (simp; omega)) _) | (with_reducible refine Below.drew ?_) | (with_reducible refine below_drewN ?_ _) | (with_reducible refine Below.trans ?_ (Below.mono (by assumption) (by first | omega | (simp; done) | (simp; omega))))))

section
variable (W H : Int) (ao : Option Addr) (n cap : Nat) (G : Nat → Nat → Int) (ak : Option Addr) (nk ck : Nat) (K : Nat → Int) (ab : Option Addr) (nb cb : Nat) (B : Nat → Int) (ro : Option Addr) (len rc : Nat) (R : Nat → Int × Int) (t : Int) (w : World)
set_option maxRecDepth 100000 in
set_option maxHeartbeats 8000000 in
theorem wallKept_big (hT : Tbl w) (h : ¬ (n ≤ 400 ∧ nk ≤ 400 ∧ nb ≤ 400)) :
    Calls Tryd.prog 5 #[.agg #[.int .i64 W, .int .i64 H, .slice (ao) n cap, .slice (ak) nk ck, .slice (ab) nb cb], .slice ro len rc, .int .i64 t] w fun e w' => e = .returned (.bool true) ∧ Below w.heap.size w w' := by
  have HN := Lib.hid h; clear h
  have T := Lib.hid hT; clear hT
  go_enter Tryd.func5, Tryd.ntmps5
  go_wp2_with (first | (go_at_call 9; (with_reducible refine (small400_no W H ao n cap ak nk ck ab nb cb _ HN.out).mono ?_); rintro e w1 ⟨rfl, hb⟩; obtain ⟨hc, hf, hz⟩ := bcall hb; (try simp at hc hf hz)) | (go_at_call 10; (with_reducible refine (awake3_any _ (T.out.below (by (repeat' (first | (with_reducible exact Below.refl _ _) | (with_reducible refine Below.setCell ?_ (by first | omega | (simp; done) | (simp; omega)) _) | (with_reducible refine Below.alloc ?_ (by first | omega | (simp; done) | (simp; omega)) _) | (with_reducible refine Below.drew ?_) | (with_reducible refine below_drewN ?_ _) | (with_reducible refine Below.trans ?_ (Below.mono (by assumption) (by first | omega | (simp; done) | (simp; omega))))))))).mono ?_); rintro e w1 ⟨rfl, hb⟩; obtain ⟨hc, hf, hz⟩ := bcall hb; (try simp at hc hf hz)))
  go_ret
  refine ⟨rfl, ?_⟩
  (repeat' (first | (with_reducible exact Below.refl _ _) | (with_reducible refine Below.setCell ?_ (by first | omega | (simp; done) | (simp; omega)) _) | (with_reducible refine Below.alloc ?_ (by first | omega | (simp; done) | (simp; omega)) _) | (with_reducible refine Below.drew ?_) | (with_reducible refine below_drewN ?_ _) | (with_reducible refine Below.trans ?_ (Below.mono (by assumption) (by first | omega | (simp; done) | (simp; omega))))))
set_option maxRecDepth 100000 in
set_option maxHeartbeats 8000000 in
theorem wallKept_many (hT : Tbl w) (h : n ≤ 400 ∧ nk ≤ 400 ∧ nb ≤ 400) (hl : 20 < len) (hm : len ≤ 9223372036854775807) :
    Calls Tryd.prog 5 #[.agg #[.int .i64 W, .int .i64 H, .slice (ao) n cap, .slice (ak) nk ck, .slice (ab) nb cb], .slice ro len rc, .int .i64 t] w fun e w' => e = .returned (.bool true) ∧ Below w.heap.size w w' := by
  have HN := Lib.hid h; clear h
  have T := Lib.hid hT; clear hT
  go_enter Tryd.func5, Tryd.ntmps5
  go_wp2_with (first | (go_at_call 9; (with_reducible refine (small400_yes W H ao n cap ak nk ck ab nb cb _ HN.out).mono ?_); rintro e w1 ⟨rfl, hb⟩; obtain ⟨hc, hf, hz⟩ := bcall hb; (try simp at hc hf hz)) | (go_at_call 10; (with_reducible refine (awake3_any _ (T.out.below (by (repeat' (first | (with_reducible exact Below.refl _ _) | (with_reducible refine Below.setCell ?_ (by first | omega | (simp; done) | (simp; omega)) _) | (with_reducible refine Below.alloc ?_ (by first | omega | (simp; done) | (simp; omega)) _) | (with_reducible refine Below.drew ?_) | (with_reducible refine below_drewN ?_ _) | (with_reducible refine Below.trans ?_ (Below.mono (by assumption) (by first | omega | (simp; done) | (simp; omega))))))))).mono ?_); rintro e w1 ⟨rfl, hb⟩; obtain ⟨hc, hf, hz⟩ := bcall hb; (try simp at hc hf hz)))
  go_ret
  refine ⟨rfl, ?_⟩
  (repeat' (first | (with_reducible exact Below.refl _ _) | (with_reducible refine Below.setCell ?_ (by first | omega | (simp; done) | (simp; omega)) _) | (with_reducible refine Below.alloc ?_ (by first | omega | (simp; done) | (simp; omega)) _) | (with_reducible refine Below.drew ?_) | (with_reducible refine below_drewN ?_ _) | (with_reducible refine Below.trans ?_ (Below.mono (by assumption) (by first | omega | (simp; done) | (simp; omega))))))
set_option maxRecDepth 100000 in
set_option maxHeartbeats 8000000 in
theorem wallKept_err (hp : PreW w ao n G ak nk K ab nb B ro len R) (h : n ≤ 400 ∧ nk ≤ 400 ∧ nb ≤ 400) (hl : len ≤ 20) (z : Int) (hz : z ≠ 0)
    (o1 : ∀ w, PreW w ao n G ak nk K ab nb B ro len R → Calls Tryd.prog 11 #[.agg #[.int .i64 W, .int .i64 H, .slice (ao) n cap], .agg #[.slice (ak) nk ck, .slice (ab) nb cb], .slice ro len rc, .int .i64 t] w (GZ 0 0 0 G z w)) :
    Calls Tryd.prog 5 #[.agg #[.int .i64 W, .int .i64 H, .slice (ao) n cap, .slice (ak) nk ck, .slice (ab) nb cb], .slice ro len rc, .int .i64 t] w fun e w' => e = .returned (.bool true) ∧ Below w.heap.size w w' := by
  have O1 := Lib.hid o1
  have HP := Lib.hid hp
  have HN := Lib.hid h
  have e0 : (z == 0) = false := beq_eq_false_iff_ne.2 hz
  have e1 : (z != 0) = true := by simp [bne, e0]
  clear o1 hp h e0 hz
  go_enter Tryd.func5, Tryd.ntmps5
  go_wp2_with (go_at_call 9; (with_reducible refine (small400_yes W H ao n cap ak nk ck ab nb cb _ HN.out).mono ?_); rintro e w1 ⟨rfl, hb⟩; obtain ⟨hc, hf, hz⟩ := bcall hb; (try simp at hc hf hz))
  (go_at_call 11; (with_reducible refine (O1.out _ (HP.out.below (show Below w.heap.size w _ from by (repeat' (first | (with_reducible exact Below.refl _ _) | (with_reducible refine Below.setCell ?_ (by first | omega | (simp; done) | (simp; omega)) _) | (with_reducible refine Below.alloc ?_ (by first | omega | (simp; done) | (simp; omega)) _) | (with_reducible refine Below.drew ?_) | (with_reducible refine below_drewN ?_ _) | (with_reducible refine Below.trans ?_ (Below.mono (by assumption) (by first | omega | (simp; done) | (simp; omega))))))))).mono ?_); rintro e wA ⟨oA, cA, rfl, hoA, foA, hb⟩; clear hoA foA; obtain ⟨hc, hf, hz⟩ := bcall hb; (try simp at hc hf hz))
  go_wp2_with (go_at_call 10; (with_reducible refine (awake3_any _ (HP.out.tbl.below (show Below w.heap.size w _ from by (repeat' (first | (with_reducible exact Below.refl _ _) | (with_reducible refine Below.setCell ?_ (by first | omega | (simp; done) | (simp; omega)) _) | (with_reducible refine Below.alloc ?_ (by first | omega | (simp; done) | (simp; omega)) _) | (with_reducible refine Below.drew ?_) | (with_reducible refine below_drewN ?_ _) | (with_reducible refine Below.trans ?_ (Below.mono (by assumption) (by first | omega | (simp; done) | (simp; omega))))))))).mono ?_); rintro e w1 ⟨rfl, hb⟩; obtain ⟨hc, hf, hz⟩ := bcall hb; (try simp at hc hf hz))
  go_ret
  refine ⟨rfl, ?_⟩
  (repeat' (first | (with_reducible exact Below.refl _ _) | (with_reducible refine Below.setCell ?_ (by first | omega | (simp; done) | (simp; omega)) _) | (with_reducible refine Below.alloc ?_ (by first | omega | (simp; done) | (simp; omega)) _) | (with_reducible refine Below.drew ?_) | (with_reducible refine below_drewN ?_ _) | (with_reducible refine Below.trans ?_ (Below.mono (by assumption) (by first | omega | (simp; done) | (simp; omega))))))
end
theorem wallKept_any (W H : Int) (ao : Option Addr) (n cap : Nat) (G : Nat → Nat → Int) (ak : Option Addr) (nk ck : Nat) (K : Nat → Int) (ab : Option Addr) (nb cb : Nat) (B : Nat → Int) (ro : Option Addr) (len rc : Nat) (R : Nat → Int × Int) (t : Int) (w : World) (hT : Tbl w) (wW : Wf W) (wH : Wf H) (hl : n ≤ cap) (hm : cap ≤ maxLen) (hG : CellsIn w ao n G) (hlk : nk ≤ ck) (hmk : ck ≤ maxLen) (hK : NumsIn w ak nk K) (fK : ∀ i, i < nk → Wf (K i)) (hlb : nb ≤ cb) (hmb : cb ≤ maxLen) (hB : NumsIn w ab nb B) (fB : ∀ i, i < nb → Wf (B i)) (hr : len ≤ rc) (hr' : rc ≤ maxLen) (hR : RulesIn w ro len R) (wt : Wf t) :
    Calls Tryd.prog 5 #[.agg #[.int .i64 W, .int .i64 H, .slice (ao) n cap, .slice (ak) nk ck, .slice (ab) nb cb], .slice ro len rc, .int .i64 t] w fun e w' => e = .returned (.bool true) ∧ Below w.heap.size w w' := by
  by_cases hs : n ≤ 400 ∧ nk ≤ 400 ∧ nb ≤ 400
  · by_cases hs2 : len ≤ 20
    · obtain ⟨z, hz, e1, e2⟩ := wcheck_both W H ao n cap G ak nk ck K ab nb cb B ro len rc R t 1 (by omega)
      by_cases h : z = 0
      · obtain ⟨W', H', t', c', rfl, rfl, rfl, _, rfl, rfl, s, hG', hP, hk, hr⟩ := wok_nat W H n G nk K nb B len R (hz.1 h)
        exact wallKept_in W' H' _ cap ao G ak ck K ab cb B ro len rc R t' w s hG' hP hk (by unfold RunOk at hr; omega) ⟨hT, hG, hK, hB, hR⟩ hs.1 hs2
      · exact wallKept_err W H ao n cap G ak nk ck K ab nb cb B ro len rc R t w ⟨hT, hG, hK, hB, hR⟩ hs hs2 z h
          (fun w hp => wstep_gz W H ao n cap ak nk ck ab nb cb ro len rc t w 0 0 0 G z fun wx hb => (wrun_err W H ao n cap ak nk ck ab nb cb ro len rc t 1 z wx h (fun wy hy => by have q := (hp.below hb).below hy; exact e1 wy q.2.1 q.2.2.1 q.2.2.2.1 q.2.2.2.2)).mono fun _ _ h => gz_err h)
    · exact wallKept_many W H ao n cap ak nk ck ab nb cb ro len rc t w hT hs (by omega) (Nat.le_trans hr (Nat.le_trans hr' (by unfold maxLen; omega)))
  · exact wallKept_big W H ao n cap ak nk ck ab nb cb ro len rc t w hT hs
end Go.Proofs.YtnpmlbhlchoolaaDoor
