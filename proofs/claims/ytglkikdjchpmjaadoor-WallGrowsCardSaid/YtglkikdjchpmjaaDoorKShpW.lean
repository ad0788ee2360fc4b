/- Walls with shapes built in: by the program. -/
import Derived.Test.YtglkikdjchpmjaaDoorKShpP
import Derived.Test.YtglkikdjchpmjaaDoorKBuiW
import Derived.Test.YtglkikdjchpmjaaDoorKRefDiscs
namespace Go.Proofs.YtglkikdjchpmjaaDoor
set_option linter.unusedSimpArgs false
set_option linter.unusedVariables false
open Go.RowKit Go.Shelf

theorem built_cl (W H n cap : Nat) (ao : Option Addr) (bk ok ck bb ob cb : Nat) (K B : Nat → Int) (body : Int) (fn0 : Nat) (cs : Array Value) (f : Int → Int → Bool) (fn1 : Nat) (cs1 : Array Value) (kd : Int → Int → Int) (w : World) (s : Sides W H n)
    (lbk : bk < w.heap.size) (hNK : NumsAt w bk ok n K) (lbb : bb < w.heap.size) (hNB : NumsAt w bb ob n B) (hkd0 : ∀ x y, kd x y ≠ 0) (hF : ClF w fn0 cs f W H) (hK : ClK w fn1 cs1 kd W H) :
    Calls Tryd.prog 68 #[.agg #[.int .i64 W, .int .i64 H, .slice (ao) n cap], .agg #[.slice (some ⟨bk, ok, none⟩) n ck, .slice (some ⟨bb, ob, none⟩) n cb], .func (.func fn0) #[] cs, .func (.func fn1) #[] cs1, .int .i64 body] w (PutR n (shpS W f kd) K B body w) :=
  callsIn_wide.1 (built_in W H n cap ao bk ok ck bb ob cb K B body fn0 cs f fn1 cs1 kd w s lbk hNK lbb hNB hF.1 hK.1 hF.2 hkd0 hK.2)
theorem shp_blocks5 (w : World) (t0 t1 t2 t3 t4 : TypeId) (a b c d e f g h i j k : Value) :
    Three (((((w.alloc (.cells #[a, b, c] t0)).alloc (.cells #[d, e] t1)).alloc (.cells #[f, g] t2)).alloc (.cells #[h, i] t3)).alloc (.cells #[j, k] t4)) w.heap.size t0 a b c ∧
    Two (((((w.alloc (.cells #[a, b, c] t0)).alloc (.cells #[d, e] t1)).alloc (.cells #[f, g] t2)).alloc (.cells #[h, i] t3)).alloc (.cells #[j, k] t4)) (w.heap.size + 1) t1 d e ∧
    Two (((((w.alloc (.cells #[a, b, c] t0)).alloc (.cells #[d, e] t1)).alloc (.cells #[f, g] t2)).alloc (.cells #[h, i] t3)).alloc (.cells #[j, k] t4)) (w.heap.size + 2) t2 f g ∧
    Two (((((w.alloc (.cells #[a, b, c] t0)).alloc (.cells #[d, e] t1)).alloc (.cells #[f, g] t2)).alloc (.cells #[h, i] t3)).alloc (.cells #[j, k] t4)) (w.heap.size + 3) t3 h i ∧
    Two (((((w.alloc (.cells #[a, b, c] t0)).alloc (.cells #[d, e] t1)).alloc (.cells #[f, g] t2)).alloc (.cells #[h, i] t3)).alloc (.cells #[j, k] t4)) (w.heap.size + 4) t4 j k ∧
    Below w.heap.size w (((((w.alloc (.cells #[a, b, c] t0)).alloc (.cells #[d, e] t1)).alloc (.cells #[f, g] t2)).alloc (.cells #[h, i] t3)).alloc (.cells #[j, k] t4)) ∧
    (((((w.alloc (.cells #[a, b, c] t0)).alloc (.cells #[d, e] t1)).alloc (.cells #[f, g] t2)).alloc (.cells #[h, i] t3)).alloc (.cells #[j, k] t4)).heap.size = w.heap.size + 5 := by
  have g0 : ∀ (X : World) (k : Nat) (o o' : Obj), X.heap[k]? = some o → (X.alloc o').heap[k]? = some o := fun X k o o' h => (Below.heap_alloc _ _ _ (Array.getElem?_eq_some_iff.1 h).1).trans h
  have n0 : ∀ (X : World) (k : Nat) (o : Obj), X.heap.size = k → (X.alloc o).heap[k]? = some o := fun X k o h => by rw [← h]; exact World.alloc_heap_new X _
  refine ⟨?_, ?_, ?_, ?_, ?_, ?_, by simp⟩
  · exact g0 _ _ _ _ (g0 _ _ _ _ (g0 _ _ _ _ (g0 _ _ _ _ (n0 _ _ _ rfl))))
  · exact g0 _ _ _ _ (g0 _ _ _ _ (g0 _ _ _ _ (n0 _ _ _ (by simp))))
  · exact g0 _ _ _ _ (g0 _ _ _ _ (n0 _ _ _ (by simp)))
  · exact g0 _ _ _ _ (n0 _ _ _ (by simp))
  · exact n0 _ _ _ (by simp)
  · (repeat' (first | (with_reducible exact Below.refl _ _) | (with_reducible refine Below.setCell ?_ (by first | omega | (simp; done) | (simp; omega)) _) | (with_reducible refine Below.alloc ?_ (by first | omega | (simp; done) | (simp; omega)) _) | (with_reducible refine Below.drew ?_) | (with_reducible refine below_drewN ?_ _) | (with_reducible refine Below.trans ?_ (Below.mono (by assumption) (by first | omega | (simp; done) | (simp; omega))))))

set_option maxRecDepth 100000 in
set_option maxHeartbeats 16000000 in
theorem wdisc_ok (W H n cap : Nat) (ao : Option Addr) (bk ok ck bb ob cb : Nat) (K B : Nat → Int) (px py q b : Int) (w : World) (s : Sides W H n) (hp : OnG W H px py) 
    (lbk : bk < w.heap.size) (hNK : NumsAt w bk ok n K) (lbb : bb < w.heap.size) (hNB : NumsAt w bb ob n B)
    (CK : ∀ wx, Below w.heap.size w wx → Calls Tryd.prog 67 #[.agg #[.int .i64 W, .int .i64 H, .slice (ao) n cap], .agg #[.slice (some ⟨bk, ok, none⟩) n ck, .slice (some ⟨bb, ob, none⟩) n cb], .agg #[.int .i64 px, .int .i64 py], .int .i64 q, .int .i64 b] wx fun e w' => e = .returned (.int .i64 0) ∧ Below wx.heap.size wx w') :
    Calls Tryd.prog 15 #[.agg #[.int .i64 W, .int .i64 H, .slice (ao) n cap], .agg #[.slice (some ⟨bk, ok, none⟩) n ck, .slice (some ⟨bb, ob, none⟩) n cb], .agg #[.int .i64 px, .int .i64 py], .int .i64 q, .int .i64 b] w (PutR n (shpS W (inD px py q) (fun _ _ => 1)) K B b w) := by
  have n1 := s.n1
  have sw1 := s.w1
  have sh1 := s.h1
  have sw0 := s.w0
  have sh0 := s.h0
  have HNK := Lib.hid hNK
  have HNB := Lib.hid hNB
  have HS := Lib.hid s
  have CK := Lib.hid CK
  have HON := Lib.hid hp
  obtain ⟨⟨p0, p1⟩, p2, p3⟩ := hp
  have GD := Lib.hid (fun wx => disc_gives px py q W H wx (by omega) (by omega) (by omega) (by omega) (by omega) (by omega))
  have GA := Lib.hid (fun wx => all_gives 1 W H wx)
  have HKD := Lib.hid (show ∀ x y : Int, ((fun _ _ => 1) : Int → Int → Int) x y ≠ 0 from fun _ _ => by simp)
  clear hNK hNB s p0 p1 p2 p3
  go_enter Tryd.func15, Tryd.ntmps15
  go_wp2_with fail
  obtain ⟨t0, t1, t2, t3, hb0, hs0⟩ := shp_blocks w 24 27 31 27 (.int .i64 W) (.int .i64 H) (.slice ao n cap) (.slice (some ⟨bk, ok, none⟩) n ck) (.slice (some ⟨bb, ob, none⟩) n cb) (.int .i64 px) (.int .i64 py) (.slice none 0 0) (.slice none 0 0)
  obtain ⟨w0, hw0⟩ : ∃ w0, w0 = ((((w.alloc (.cells #[.int .i64 W, .int .i64 H, .slice ao n cap] 24)).alloc (.cells #[.slice (some ⟨bk, ok, none⟩) n ck, .slice (some ⟨bb, ob, none⟩) n cb] 27)).alloc (.cells #[.int .i64 px, .int .i64 py] 31)).alloc (.cells #[.slice none 0 0, .slice none 0 0] 27)) := ⟨_, rfl⟩
  rw [← hw0] at t0 t1 t2 t3 hb0 hs0 ⊢
  have lw0 : w.heap.size + 3 < w0.heap.size := by omega
  clear hw0 hs0
  have T0 := Lib.hid t0
  have T1 := Lib.hid t1
  have T2 := Lib.hid t2
  have T3 := Lib.hid t3
  have g0 := t0.c0
  have g1 := t0.c1
  have g2 := t0.c2
  have k0 := t1.c0
  have k1 := t1.c1
  have q0 := t2.c0
  have q1 := t2.c1
  have r0 := t3.c0
  have r1 := t3.c1
  have rf0 := t3.f0 0
  have rf1 := t3.f0 1
  clear t0 t1 t2 t3
  go_wp2_with (first | (go_at_call 67; (with_reducible refine (CK.out _ (by (repeat' (first | (with_reducible exact Below.refl _ _) | (with_reducible refine Below.setCell ?_ (by first | omega | (simp; done) | (simp; omega)) _) | (with_reducible refine Below.alloc ?_ (by first | omega | (simp; done) | (simp; omega)) _) | (with_reducible refine Below.drew ?_) | (with_reducible refine below_drewN ?_ _) | (with_reducible refine Below.trans ?_ (Below.mono (by assumption) (by first | omega | (simp; done) | (simp; omega)))))))).mono ?_); rintro e w1 ⟨rfl, hb⟩; obtain ⟨hc, hf, hz⟩ := bcall hb; (try simp at hc hf hz)))
  have HW1 := Lib.hid (show Below w0.heap.size w0 w1 from by (repeat' (first | (with_reducible exact Below.refl _ _) | (with_reducible refine Below.setCell ?_ (by first | omega | (simp; done) | (simp; omega)) _) | (with_reducible refine Below.alloc ?_ (by first | omega | (simp; done) | (simp; omega)) _) | (with_reducible refine Below.drew ?_) | (with_reducible refine below_drewN ?_ _) | (with_reducible refine Below.trans ?_ (Below.mono (by assumption) (by first | omega | (simp; done) | (simp; omega)))))))
  have s1 := HW1.out.size
  have g0 := keep_cell HW1.out (by omega) g0
  have g1 := keep_cell HW1.out (by omega) g1
  have g2 := keep_cell HW1.out (by omega) g2
  have k0 := keep_cell HW1.out (by omega) k0
  have k1 := keep_cell HW1.out (by omega) k1
  have q0 := keep_cell HW1.out (by omega) q0
  have q1 := keep_cell HW1.out (by omega) q1
  have r0 := keep_cell HW1.out (by omega) r0
  have r1 := keep_cell HW1.out (by omega) r1
  have rf0 := (HW1.out.frozen (p := ⟨w.heap.size + 3, 0, none⟩) (by show _ < _; omega)).trans rf0
  have rf1 := (HW1.out.frozen (p := ⟨w.heap.size + 3, 1, none⟩) (by show _ < _; omega)).trans rf1
  have hw1 := hb0.trans (HW1.out.mono (show w.heap.size ≤ w0.heap.size by omega))
  have lw1 : w.heap.size + 3 < w1.heap.size := by omega
  clear hb hc hf hz hb0 lw0
  go_region_held3 (fun w' => w'.cell? ⟨w.heap.size, 0, none⟩ = some (.int .i64 W) ∧ w'.cell? ⟨w.heap.size, 1, none⟩ = some (.int .i64 H) ∧ w'.cell? ⟨w.heap.size, 2, none⟩ = some (.slice ao n cap) ∧ w'.cell? ⟨w.heap.size + 1, 0, none⟩ = some (.slice (some ⟨bk, ok, none⟩) n ck) ∧ w'.cell? ⟨w.heap.size + 1, 1, none⟩ = some (.slice (some ⟨bb, ob, none⟩) n cb) ∧ w'.cell? ⟨w.heap.size + 2, 0, none⟩ = some (.int .i64 px) ∧ w'.cell? ⟨w.heap.size + 2, 1, none⟩ = some (.int .i64 py)) (first | (go_split_ands; (try dsimp only); refine ⟨?_, ?_, ?_, ?_, ?_, ?_, ?_⟩ <;> (first | (with_reducible assumption) | (with_reducible exact keep_cell (by assumption) (by first | omega | (simp; done) | (simp; omega)) (by assumption)) | (with_reducible exact (World.cell?_alloc_past _ _ _ (by show _ < _; omega)).trans (by assumption)) | (with_reducible exact (World.cell?_alloc_past _ _ _ (by show _ < _; omega)).trans ((World.cell?_alloc_past _ _ _ (by show _ < _; omega)).symm.trans (by assumption))) | (simp [go_sem]; with_reducible assumption))) | (simp [go_sem, ↓IntWalk.iteOmega, *]; done)) (first | (go_at_call 69; (with_reducible refine (GD.out _).mono ?_); rintro e wD ⟨fD, cD, rfl, hD, hbD⟩; obtain ⟨hcD, hfD, hzD⟩ := bcall hbD; (try simp at hcD hfD hzD)) | (go_at_call 70; (with_reducible refine (GA.out _).mono ?_); rintro e wA ⟨fA, cA, rfl, hA, hbA⟩; obtain ⟨hcA, hfA, hzA⟩ := bcall hbA; (try simp at hcA hfA hzA)) | (go_at_call 68; refine (built_cl W H n cap ao bk ok ck bb ob cb K B b _ _ (inD px py q) _ _ (fun _ _ => 1) _ HS.out (Nat.lt_of_lt_of_le lbk (Below.size (show Below w.heap.size w _ from by (repeat' (first | (with_reducible exact Below.refl _ _) | (with_reducible refine Below.setCell ?_ (by first | omega | (simp; done) | (simp; omega)) _) | (with_reducible refine Below.alloc ?_ (by first | omega | (simp; done) | (simp; omega)) _) | (with_reducible refine Below.drew ?_) | (with_reducible refine below_drewN ?_ _) | (with_reducible refine Below.trans ?_ (Below.mono (by assumption) (by first | omega | (simp; done) | (simp; omega))))))))) (HNK.out.below (show Below w.heap.size w _ from by (repeat' (first | (with_reducible exact Below.refl _ _) | (with_reducible refine Below.setCell ?_ (by first | omega | (simp; done) | (simp; omega)) _) | (with_reducible refine Below.alloc ?_ (by first | omega | (simp; done) | (simp; omega)) _) | (with_reducible refine Below.drew ?_) | (with_reducible refine below_drewN ?_ _) | (with_reducible refine Below.trans ?_ (Below.mono (by assumption) (by first | omega | (simp; done) | (simp; omega))))))) lbk) (Nat.lt_of_lt_of_le lbb (Below.size (show Below w.heap.size w _ from by (repeat' (first | (with_reducible exact Below.refl _ _) | (with_reducible refine Below.setCell ?_ (by first | omega | (simp; done) | (simp; omega)) _) | (with_reducible refine Below.alloc ?_ (by first | omega | (simp; done) | (simp; omega)) _) | (with_reducible refine Below.drew ?_) | (with_reducible refine below_drewN ?_ _) | (with_reducible refine Below.trans ?_ (Below.mono (by assumption) (by first | omega | (simp; done) | (simp; omega))))))))) (HNB.out.below (show Below w.heap.size w _ from by (repeat' (first | (with_reducible exact Below.refl _ _) | (with_reducible refine Below.setCell ?_ (by first | omega | (simp; done) | (simp; omega)) _) | (with_reducible refine Below.alloc ?_ (by first | omega | (simp; done) | (simp; omega)) _) | (with_reducible refine Below.drew ?_) | (with_reducible refine below_drewN ?_ _) | (with_reducible refine Below.trans ?_ (Below.mono (by assumption) (by first | omega | (simp; done) | (simp; omega))))))) lbb) HKD.out (ClF.below (by assumption) (by (repeat' (first | (with_reducible exact Below.refl _ _) | (with_reducible refine Below.setCell ?_ (by first | omega | (simp; done) | (simp; omega)) _) | (with_reducible refine Below.alloc ?_ (by first | omega | (simp; done) | (simp; omega)) _) | (with_reducible refine Below.drew ?_) | (with_reducible refine below_drewN ?_ _) | (with_reducible refine Below.trans ?_ (Below.mono (by assumption) (by first | omega | (simp; done) | (simp; omega)))))))) (ClK.below (by assumption) (by (repeat' (first | (with_reducible exact Below.refl _ _) | (with_reducible refine Below.setCell ?_ (by first | omega | (simp; done) | (simp; omega)) _) | (with_reducible refine Below.alloc ?_ (by first | omega | (simp; done) | (simp; omega)) _) | (with_reducible refine Below.drew ?_) | (with_reducible refine below_drewN ?_ _) | (with_reducible refine Below.trans ?_ (Below.mono (by assumption) (by first | omega | (simp; done) | (simp; omega))))))))).mono ?_; intro e w5 hP5; obtain ⟨ak, ab, m5, c5, d5, z5, rfl, hb5, hst⟩ := putR_store (R := w.heap.size + 3) hP5 (show Below w.heap.size w _ from by (repeat' (first | (with_reducible exact Below.refl _ _) | (with_reducible refine Below.setCell ?_ (by first | omega | (simp; done) | (simp; omega)) _) | (with_reducible refine Below.alloc ?_ (by first | omega | (simp; done) | (simp; omega)) _) | (with_reducible refine Below.drew ?_) | (with_reducible refine below_drewN ?_ _) | (with_reducible refine Below.trans ?_ (Below.mono (by assumption) (by first | omega | (simp; done) | (simp; omega))))))) (by omega) (by first | omega | (simp; omega)); clear hP5; have HST := Lib.hid hst; clear hst; obtain ⟨hc5, hf5, hz5⟩ := bcall hb5; (try simp at hc5 hf5 hz5)))
  all_goals
    go_wp2
    refine bodyPost_ret (v := .tuple #[.agg #[.slice (ak) m5 c5, .slice (ab) m5 d5], .int .i64 z5]) (by simp [results, Tryd.results15, go_sem, ↓IntWalk.iteOmega, *]) rfl ?_
    exact HST.out _ rfl

set_option maxRecDepth 100000 in
set_option maxHeartbeats 16000000 in
theorem wsmooth_ok (W H n cap : Nat) (ao : Option Addr) (bk ok ck bb ob cb : Nat) (K B : Nat → Int) (px py q b : Int) (w : World) (s : Sides W H n) (hp : OnG W H px py) 
    (lbk : bk < w.heap.size) (hNK : NumsAt w bk ok n K) (lbb : bb < w.heap.size) (hNB : NumsAt w bb ob n B)
    (CK : ∀ wx, Below w.heap.size w wx → Calls Tryd.prog 67 #[.agg #[.int .i64 W, .int .i64 H, .slice (ao) n cap], .agg #[.slice (some ⟨bk, ok, none⟩) n ck, .slice (some ⟨bb, ob, none⟩) n cb], .agg #[.int .i64 px, .int .i64 py], .int .i64 q, .int .i64 b] wx fun e w' => e = .returned (.int .i64 0) ∧ Below wx.heap.size wx w') :
    Calls Tryd.prog 18 #[.agg #[.int .i64 W, .int .i64 H, .slice (ao) n cap], .agg #[.slice (some ⟨bk, ok, none⟩) n ck, .slice (some ⟨bb, ob, none⟩) n cb], .agg #[.int .i64 px, .int .i64 py], .int .i64 q, .int .i64 b] w (PutR n (shpS W (inD px py q) (smoK W H (inD px py q))) K B b w) := by
  have n1 := s.n1
  have sw1 := s.w1
  have sh1 := s.h1
  have sw0 := s.w0
  have sh0 := s.h0
  have HNK := Lib.hid hNK
  have HNB := Lib.hid hNB
  have HS := Lib.hid s
  have CK := Lib.hid CK
  have HON := Lib.hid hp
  obtain ⟨⟨p0, p1⟩, p2, p3⟩ := hp
  have GD := Lib.hid (fun wx => disc_gives px py q W H wx (by omega) (by omega) (by omega) (by omega) (by omega) (by omega))
  have HKD := Lib.hid (show ∀ x y : Int, ((smoK W H (inD px py q)) : Int → Int → Int) x y ≠ 0 from fun x y => by have := smoK_rng W H (inD px py q) x y; omega)
  clear hNK hNB s p0 p1 p2 p3
  go_enter Tryd.func18, Tryd.ntmps18
  go_wp2_with fail
  obtain ⟨t0, t1, t2, t3, hb0, hs0⟩ := shp_blocks w 24 27 31 27 (.int .i64 W) (.int .i64 H) (.slice ao n cap) (.slice (some ⟨bk, ok, none⟩) n ck) (.slice (some ⟨bb, ob, none⟩) n cb) (.int .i64 px) (.int .i64 py) (.slice none 0 0) (.slice none 0 0)
  obtain ⟨w0, hw0⟩ : ∃ w0, w0 = ((((w.alloc (.cells #[.int .i64 W, .int .i64 H, .slice ao n cap] 24)).alloc (.cells #[.slice (some ⟨bk, ok, none⟩) n ck, .slice (some ⟨bb, ob, none⟩) n cb] 27)).alloc (.cells #[.int .i64 px, .int .i64 py] 31)).alloc (.cells #[.slice none 0 0, .slice none 0 0] 27)) := ⟨_, rfl⟩
  rw [← hw0] at t0 t1 t2 t3 hb0 hs0 ⊢
  have lw0 : w.heap.size + 3 < w0.heap.size := by omega
  clear hw0 hs0
  have T0 := Lib.hid t0
  have T1 := Lib.hid t1
  have T2 := Lib.hid t2
  have T3 := Lib.hid t3
  have g0 := t0.c0
  have g1 := t0.c1
  have g2 := t0.c2
  have k0 := t1.c0
  have k1 := t1.c1
  have q0 := t2.c0
  have q1 := t2.c1
  have r0 := t3.c0
  have r1 := t3.c1
  have rf0 := t3.f0 0
  have rf1 := t3.f0 1
  clear t0 t1 t2 t3
  go_wp2_with (first | (go_at_call 67; (with_reducible refine (CK.out _ (by (repeat' (first | (with_reducible exact Below.refl _ _) | (with_reducible refine Below.setCell ?_ (by first | omega | (simp; done) | (simp; omega)) _) | (with_reducible refine Below.alloc ?_ (by first | omega | (simp; done) | (simp; omega)) _) | (with_reducible refine Below.drew ?_) | (with_reducible refine below_drewN ?_ _) | (with_reducible refine Below.trans ?_ (Below.mono (by assumption) (by first | omega | (simp; done) | (simp; omega)))))))).mono ?_); rintro e w1 ⟨rfl, hb⟩; obtain ⟨hc, hf, hz⟩ := bcall hb; (try simp at hc hf hz)))
  have HW1 := Lib.hid (show Below w0.heap.size w0 w1 from by (repeat' (first | (with_reducible exact Below.refl _ _) | (with_reducible refine Below.setCell ?_ (by first | omega | (simp; done) | (simp; omega)) _) | (with_reducible refine Below.alloc ?_ (by first | omega | (simp; done) | (simp; omega)) _) | (with_reducible refine Below.drew ?_) | (with_reducible refine below_drewN ?_ _) | (with_reducible refine Below.trans ?_ (Below.mono (by assumption) (by first | omega | (simp; done) | (simp; omega)))))))
  have s1 := HW1.out.size
  have g0 := keep_cell HW1.out (by omega) g0
  have g1 := keep_cell HW1.out (by omega) g1
  have g2 := keep_cell HW1.out (by omega) g2
  have k0 := keep_cell HW1.out (by omega) k0
  have k1 := keep_cell HW1.out (by omega) k1
  have q0 := keep_cell HW1.out (by omega) q0
  have q1 := keep_cell HW1.out (by omega) q1
  have r0 := keep_cell HW1.out (by omega) r0
  have r1 := keep_cell HW1.out (by omega) r1
  have rf0 := (HW1.out.frozen (p := ⟨w.heap.size + 3, 0, none⟩) (by show _ < _; omega)).trans rf0
  have rf1 := (HW1.out.frozen (p := ⟨w.heap.size + 3, 1, none⟩) (by show _ < _; omega)).trans rf1
  have hw1 := hb0.trans (HW1.out.mono (show w.heap.size ≤ w0.heap.size by omega))
  have lw1 : w.heap.size + 3 < w1.heap.size := by omega
  clear hb hc hf hz hb0 lw0
  go_region_held3 (fun w' => w'.cell? ⟨w.heap.size, 0, none⟩ = some (.int .i64 W) ∧ w'.cell? ⟨w.heap.size, 1, none⟩ = some (.int .i64 H) ∧ w'.cell? ⟨w.heap.size, 2, none⟩ = some (.slice ao n cap) ∧ w'.cell? ⟨w.heap.size + 1, 0, none⟩ = some (.slice (some ⟨bk, ok, none⟩) n ck) ∧ w'.cell? ⟨w.heap.size + 1, 1, none⟩ = some (.slice (some ⟨bb, ob, none⟩) n cb) ∧ w'.cell? ⟨w.heap.size + 2, 0, none⟩ = some (.int .i64 px) ∧ w'.cell? ⟨w.heap.size + 2, 1, none⟩ = some (.int .i64 py)) (first | (go_split_ands; (try dsimp only); refine ⟨?_, ?_, ?_, ?_, ?_, ?_, ?_⟩ <;> (first | (with_reducible assumption) | (with_reducible exact keep_cell (by assumption) (by first | omega | (simp; done) | (simp; omega)) (by assumption)) | (with_reducible exact (World.cell?_alloc_past _ _ _ (by show _ < _; omega)).trans (by assumption)) | (with_reducible exact (World.cell?_alloc_past _ _ _ (by show _ < _; omega)).trans ((World.cell?_alloc_past _ _ _ (by show _ < _; omega)).symm.trans (by assumption))) | (simp [go_sem]; with_reducible assumption))) | (simp [go_sem, ↓IntWalk.iteOmega, *]; done)) (first | (go_at_call 69; (with_reducible refine (GD.out _).mono ?_); rintro e wD ⟨fD, cD, rfl, hD, hbD⟩; obtain ⟨hcD, hfD, hzD⟩ := bcall hbD; (try simp at hcD hfD hzD)) | (go_at_call 72; (with_reducible refine (smoothed_gives W H ao n cap (inD px py q) _ _ _ sw1 sh1 (ClF.below (by assumption) (by (repeat' (first | (with_reducible exact Below.refl _ _) | (with_reducible refine Below.setCell ?_ (by first | omega | (simp; done) | (simp; omega)) _) | (with_reducible refine Below.alloc ?_ (by first | omega | (simp; done) | (simp; omega)) _) | (with_reducible refine Below.drew ?_) | (with_reducible refine below_drewN ?_ _) | (with_reducible refine Below.trans ?_ (Below.mono (by assumption) (by first | omega | (simp; done) | (simp; omega))))))))).mono ?_); rintro e wA ⟨fA, cA, rfl, hA, hbA⟩; obtain ⟨hcA, hfA, hzA⟩ := bcall hbA; (try simp at hcA hfA hzA)) | (go_at_call 68; refine (built_cl W H n cap ao bk ok ck bb ob cb K B b _ _ (inD px py q) _ _ (smoK W H (inD px py q)) _ HS.out (Nat.lt_of_lt_of_le lbk (Below.size (show Below w.heap.size w _ from by (repeat' (first | (with_reducible exact Below.refl _ _) | (with_reducible refine Below.setCell ?_ (by first | omega | (simp; done) | (simp; omega)) _) | (with_reducible refine Below.alloc ?_ (by first | omega | (simp; done) | (simp; omega)) _) | (with_reducible refine Below.drew ?_) | (with_reducible refine below_drewN ?_ _) | (with_reducible refine Below.trans ?_ (Below.mono (by assumption) (by first | omega | (simp; done) | (simp; omega))))))))) (HNK.out.below (show Below w.heap.size w _ from by (repeat' (first | (with_reducible exact Below.refl _ _) | (with_reducible refine Below.setCell ?_ (by first | omega | (simp; done) | (simp; omega)) _) | (with_reducible refine Below.alloc ?_ (by first | omega | (simp; done) | (simp; omega)) _) | (with_reducible refine Below.drew ?_) | (with_reducible refine below_drewN ?_ _) | (with_reducible refine Below.trans ?_ (Below.mono (by assumption) (by first | omega | (simp; done) | (simp; omega))))))) lbk) (Nat.lt_of_lt_of_le lbb (Below.size (show Below w.heap.size w _ from by (repeat' (first | (with_reducible exact Below.refl _ _) | (with_reducible refine Below.setCell ?_ (by first | omega | (simp; done) | (simp; omega)) _) | (with_reducible refine Below.alloc ?_ (by first | omega | (simp; done) | (simp; omega)) _) | (with_reducible refine Below.drew ?_) | (with_reducible refine below_drewN ?_ _) | (with_reducible refine Below.trans ?_ (Below.mono (by assumption) (by first | omega | (simp; done) | (simp; omega))))))))) (HNB.out.below (show Below w.heap.size w _ from by (repeat' (first | (with_reducible exact Below.refl _ _) | (with_reducible refine Below.setCell ?_ (by first | omega | (simp; done) | (simp; omega)) _) | (with_reducible refine Below.alloc ?_ (by first | omega | (simp; done) | (simp; omega)) _) | (with_reducible refine Below.drew ?_) | (with_reducible refine below_drewN ?_ _) | (with_reducible refine Below.trans ?_ (Below.mono (by assumption) (by first | omega | (simp; done) | (simp; omega))))))) lbb) HKD.out (ClF.below (by assumption) (by (repeat' (first | (with_reducible exact Below.refl _ _) | (with_reducible refine Below.setCell ?_ (by first | omega | (simp; done) | (simp; omega)) _) | (with_reducible refine Below.alloc ?_ (by first | omega | (simp; done) | (simp; omega)) _) | (with_reducible refine Below.drew ?_) | (with_reducible refine below_drewN ?_ _) | (with_reducible refine Below.trans ?_ (Below.mono (by assumption) (by first | omega | (simp; done) | (simp; omega)))))))) (ClK.below (by assumption) (by (repeat' (first | (with_reducible exact Below.refl _ _) | (with_reducible refine Below.setCell ?_ (by first | omega | (simp; done) | (simp; omega)) _) | (with_reducible refine Below.alloc ?_ (by first | omega | (simp; done) | (simp; omega)) _) | (with_reducible refine Below.drew ?_) | (with_reducible refine below_drewN ?_ _) | (with_reducible refine Below.trans ?_ (Below.mono (by assumption) (by first | omega | (simp; done) | (simp; omega))))))))).mono ?_; intro e w5 hP5; obtain ⟨ak, ab, m5, c5, d5, z5, rfl, hb5, hst⟩ := putR_store (R := w.heap.size + 3) hP5 (show Below w.heap.size w _ from by (repeat' (first | (with_reducible exact Below.refl _ _) | (with_reducible refine Below.setCell ?_ (by first | omega | (simp; done) | (simp; omega)) _) | (with_reducible refine Below.alloc ?_ (by first | omega | (simp; done) | (simp; omega)) _) | (with_reducible refine Below.drew ?_) | (with_reducible refine below_drewN ?_ _) | (with_reducible refine Below.trans ?_ (Below.mono (by assumption) (by first | omega | (simp; done) | (simp; omega))))))) (by omega) (by first | omega | (simp; omega)); clear hP5; have HST := Lib.hid hst; clear hst; obtain ⟨hc5, hf5, hz5⟩ := bcall hb5; (try simp at hc5 hf5 hz5)))
  all_goals
    go_wp2
    refine bodyPost_ret (v := .tuple #[.agg #[.slice (ak) m5 c5, .slice (ab) m5 d5], .int .i64 z5]) (by simp [results, Tryd.results18, go_sem, ↓IntWalk.iteOmega, *]) rfl ?_
    exact HST.out _ rfl

set_option maxRecDepth 100000 in
set_option maxHeartbeats 16000000 in
theorem wbox_ok (W H n cap : Nat) (ao : Option Addr) (bk ok ck bb ob cb : Nat) (K B : Nat → Int) (px py rx ry kind b : Int) (w : World) (s : Sides W H n) (hp : OnG W H px py) (hr : OnG W H rx ry) (kd1 : 1 ≤ kind) (kd2 : kind ≤ 3)
    (lbk : bk < w.heap.size) (hNK : NumsAt w bk ok n K) (lbb : bb < w.heap.size) (hNB : NumsAt w bb ob n B)
    (CK : ∀ wx, Below w.heap.size w wx → Calls Tryd.prog 73 #[.agg #[.int .i64 W, .int .i64 H, .slice (ao) n cap], .agg #[.slice (some ⟨bk, ok, none⟩) n ck, .slice (some ⟨bb, ob, none⟩) n cb], .agg #[.int .i64 px, .int .i64 py], .int .i64 b] wx fun e w' => e = .returned (.int .i64 0) ∧ Below wx.heap.size wx w') :
    Calls Tryd.prog 21 #[.agg #[.int .i64 W, .int .i64 H, .slice (ao) n cap], .agg #[.slice (some ⟨bk, ok, none⟩) n ck, .slice (some ⟨bb, ob, none⟩) n cb], .agg #[.int .i64 px, .int .i64 py], .agg #[.int .i64 rx, .int .i64 ry], .int .i64 kind, .int .i64 b] w (PutR n (shpS W (inB px py rx ry) (fun _ _ => kind)) K B b w) := by
  have n1 := s.n1
  have sw1 := s.w1
  have sh1 := s.h1
  have sw0 := s.w0
  have sh0 := s.h0
  have HNK := Lib.hid hNK
  have HNB := Lib.hid hNB
  have HS := Lib.hid s
  have CK := Lib.hid CK
  have HON := Lib.hid hp
  obtain ⟨⟨p0, p1⟩, p2, p3⟩ := hp
  have GD := Lib.hid (fun wx => box_gives px py rx ry W H wx)
  have GA := Lib.hid (fun wx => all_gives kind W H wx)
  have HR := Lib.hid hr
  have HKD := Lib.hid (show ∀ x y : Int, ((fun _ _ => kind) : Int → Int → Int) x y ≠ 0 from fun _ _ => (show kind ≠ 0 by omega))
  clear hr
  clear hNK hNB s p0 p1 p2 p3
  go_enter Tryd.func21, Tryd.ntmps21
  go_wp2_with fail
  obtain ⟨t0, t1, t2, t5, t3, hb0, hs0⟩ := shp_blocks5 w 24 27 31 31 27 (.int .i64 W) (.int .i64 H) (.slice ao n cap) (.slice (some ⟨bk, ok, none⟩) n ck) (.slice (some ⟨bb, ob, none⟩) n cb) (.int .i64 px) (.int .i64 py) (.int .i64 rx) (.int .i64 ry) (.slice none 0 0) (.slice none 0 0)
  obtain ⟨w0, hw0⟩ : ∃ w0, w0 = (((((w.alloc (.cells #[.int .i64 W, .int .i64 H, .slice ao n cap] 24)).alloc (.cells #[.slice (some ⟨bk, ok, none⟩) n ck, .slice (some ⟨bb, ob, none⟩) n cb] 27)).alloc (.cells #[.int .i64 px, .int .i64 py] 31)).alloc (.cells #[.int .i64 rx, .int .i64 ry] 31)).alloc (.cells #[.slice none 0 0, .slice none 0 0] 27)) := ⟨_, rfl⟩
  rw [← hw0] at t0 t1 t2 t5 t3 hb0 hs0 ⊢
  have lw0 : w.heap.size + 4 < w0.heap.size := by omega
  clear hw0 hs0
  have T0 := Lib.hid t0
  have T1 := Lib.hid t1
  have T2 := Lib.hid t2
  have T3 := Lib.hid t3
  have g0 := t0.c0
  have g1 := t0.c1
  have g2 := t0.c2
  have k0 := t1.c0
  have k1 := t1.c1
  have q0 := t2.c0
  have q1 := t2.c1
  have r0 := t3.c0
  have r1 := t3.c1
  have rf0 := t3.f0 0
  have rf1 := t3.f0 1
  have T5 := Lib.hid t5
  have u0 := t5.c0
  have u1 := t5.c1
  clear t0 t1 t2 t5 t3
  go_wp2_with (first | (go_at_call 73; (with_reducible refine (CK.out _ (by (repeat' (first | (with_reducible exact Below.refl _ _) | (with_reducible refine Below.setCell ?_ (by first | omega | (simp; done) | (simp; omega)) _) | (with_reducible refine Below.alloc ?_ (by first | omega | (simp; done) | (simp; omega)) _) | (with_reducible refine Below.drew ?_) | (with_reducible refine below_drewN ?_ _) | (with_reducible refine Below.trans ?_ (Below.mono (by assumption) (by first | omega | (simp; done) | (simp; omega)))))))).mono ?_); rintro e w1 ⟨rfl, hb⟩; obtain ⟨hc, hf, hz⟩ := bcall hb; (try simp at hc hf hz)) | (go_at_call 74; (with_reducible refine (isOn_yes W H rx ry ao n cap _ HR.out).mono ?_); rintro e w1 ⟨rfl, hb⟩; obtain ⟨hc, hf, hz⟩ := bcall hb; (try simp at hc hf hz)) | (go_at_call 75; (with_reducible refine (isWall_yes kind _ kd1 kd2).mono ?_); rintro e w1 ⟨rfl, rfl⟩))
  have HW1 := Lib.hid (show Below w0.heap.size w0 w1 from by (repeat' (first | (with_reducible exact Below.refl _ _) | (with_reducible refine Below.setCell ?_ (by first | omega | (simp; done) | (simp; omega)) _) | (with_reducible refine Below.alloc ?_ (by first | omega | (simp; done) | (simp; omega)) _) | (with_reducible refine Below.drew ?_) | (with_reducible refine below_drewN ?_ _) | (with_reducible refine Below.trans ?_ (Below.mono (by assumption) (by first | omega | (simp; done) | (simp; omega)))))))
  have s1 := HW1.out.size
  have g0 := keep_cell HW1.out (by omega) g0
  have g1 := keep_cell HW1.out (by omega) g1
  have g2 := keep_cell HW1.out (by omega) g2
  have k0 := keep_cell HW1.out (by omega) k0
  have k1 := keep_cell HW1.out (by omega) k1
  have q0 := keep_cell HW1.out (by omega) q0
  have q1 := keep_cell HW1.out (by omega) q1
  have r0 := keep_cell HW1.out (by omega) r0
  have r1 := keep_cell HW1.out (by omega) r1
  have rf0 := (HW1.out.frozen (p := ⟨w.heap.size + 4, 0, none⟩) (by show _ < _; omega)).trans rf0
  have rf1 := (HW1.out.frozen (p := ⟨w.heap.size + 4, 1, none⟩) (by show _ < _; omega)).trans rf1
  have u0 := keep_cell HW1.out (by omega) u0
  have u1 := keep_cell HW1.out (by omega) u1
  have hw1 := hb0.trans (HW1.out.mono (show w.heap.size ≤ w0.heap.size by omega))
  have lw1 : w.heap.size + 4 < w1.heap.size := by omega
  clear hb hc hf hz hb0 lw0
  go_region_held3 (fun w' => w'.cell? ⟨w.heap.size, 0, none⟩ = some (.int .i64 W) ∧ w'.cell? ⟨w.heap.size, 1, none⟩ = some (.int .i64 H) ∧ w'.cell? ⟨w.heap.size, 2, none⟩ = some (.slice ao n cap) ∧ w'.cell? ⟨w.heap.size + 1, 0, none⟩ = some (.slice (some ⟨bk, ok, none⟩) n ck) ∧ w'.cell? ⟨w.heap.size + 1, 1, none⟩ = some (.slice (some ⟨bb, ob, none⟩) n cb) ∧ w'.cell? ⟨w.heap.size + 2, 0, none⟩ = some (.int .i64 px) ∧ w'.cell? ⟨w.heap.size + 2, 1, none⟩ = some (.int .i64 py) ∧ w'.cell? ⟨w.heap.size + 3, 0, none⟩ = some (.int .i64 rx) ∧ w'.cell? ⟨w.heap.size + 3, 1, none⟩ = some (.int .i64 ry)) (first | (go_split_ands; (try dsimp only); refine ⟨?_, ?_, ?_, ?_, ?_, ?_, ?_, ?_, ?_⟩ <;> (first | (with_reducible assumption) | (with_reducible exact keep_cell (by assumption) (by first | omega | (simp; done) | (simp; omega)) (by assumption)) | (with_reducible exact (World.cell?_alloc_past _ _ _ (by show _ < _; omega)).trans (by assumption)) | (with_reducible exact (World.cell?_alloc_past _ _ _ (by show _ < _; omega)).trans ((World.cell?_alloc_past _ _ _ (by show _ < _; omega)).symm.trans (by assumption))) | (simp [go_sem]; with_reducible assumption))) | (simp [go_sem, ↓IntWalk.iteOmega, *]; done)) (first | (go_at_call 76; (with_reducible refine (GD.out _).mono ?_); rintro e wD ⟨fD, cD, rfl, hD, hbD⟩; obtain ⟨hcD, hfD, hzD⟩ := bcall hbD; (try simp at hcD hfD hzD)) | (go_at_call 70; (with_reducible refine (GA.out _).mono ?_); rintro e wA ⟨fA, cA, rfl, hA, hbA⟩; obtain ⟨hcA, hfA, hzA⟩ := bcall hbA; (try simp at hcA hfA hzA)) | (go_at_call 68; refine (built_cl W H n cap ao bk ok ck bb ob cb K B b _ _ (inB px py rx ry) _ _ (fun _ _ => kind) _ HS.out (Nat.lt_of_lt_of_le lbk (Below.size (show Below w.heap.size w _ from by (repeat' (first | (with_reducible exact Below.refl _ _) | (with_reducible refine Below.setCell ?_ (by first | omega | (simp; done) | (simp; omega)) _) | (with_reducible refine Below.alloc ?_ (by first | omega | (simp; done) | (simp; omega)) _) | (with_reducible refine Below.drew ?_) | (with_reducible refine below_drewN ?_ _) | (with_reducible refine Below.trans ?_ (Below.mono (by assumption) (by first | omega | (simp; done) | (simp; omega))))))))) (HNK.out.below (show Below w.heap.size w _ from by (repeat' (first | (with_reducible exact Below.refl _ _) | (with_reducible refine Below.setCell ?_ (by first | omega | (simp; done) | (simp; omega)) _) | (with_reducible refine Below.alloc ?_ (by first | omega | (simp; done) | (simp; omega)) _) | (with_reducible refine Below.drew ?_) | (with_reducible refine below_drewN ?_ _) | (with_reducible refine Below.trans ?_ (Below.mono (by assumption) (by first | omega | (simp; done) | (simp; omega))))))) lbk) (Nat.lt_of_lt_of_le lbb (Below.size (show Below w.heap.size w _ from by (repeat' (first | (with_reducible exact Below.refl _ _) | (with_reducible refine Below.setCell ?_ (by first | omega | (simp; done) | (simp; omega)) _) | (with_reducible refine Below.alloc ?_ (by first | omega | (simp; done) | (simp; omega)) _) | (with_reducible refine Below.drew ?_) | (with_reducible refine below_drewN ?_ _) | (with_reducible refine Below.trans ?_ (Below.mono (by assumption) (by first | omega | (simp; done) | (simp; omega))))))))) (HNB.out.below (show Below w.heap.size w _ from by (repeat' (first | (with_reducible exact Below.refl _ _) | (with_reducible refine Below.setCell ?_ (by first | omega | (simp; done) | (simp; omega)) _) | (with_reducible refine Below.alloc ?_ (by first | omega | (simp; done) | (simp; omega)) _) | (with_reducible refine Below.drew ?_) | (with_reducible refine below_drewN ?_ _) | (with_reducible refine Below.trans ?_ (Below.mono (by assumption) (by first | omega | (simp; done) | (simp; omega))))))) lbb) HKD.out (ClF.below (by assumption) (by (repeat' (first | (with_reducible exact Below.refl _ _) | (with_reducible refine Below.setCell ?_ (by first | omega | (simp; done) | (simp; omega)) _) | (with_reducible refine Below.alloc ?_ (by first | omega | (simp; done) | (simp; omega)) _) | (with_reducible refine Below.drew ?_) | (with_reducible refine below_drewN ?_ _) | (with_reducible refine Below.trans ?_ (Below.mono (by assumption) (by first | omega | (simp; done) | (simp; omega)))))))) (ClK.below (by assumption) (by (repeat' (first | (with_reducible exact Below.refl _ _) | (with_reducible refine Below.setCell ?_ (by first | omega | (simp; done) | (simp; omega)) _) | (with_reducible refine Below.alloc ?_ (by first | omega | (simp; done) | (simp; omega)) _) | (with_reducible refine Below.drew ?_) | (with_reducible refine below_drewN ?_ _) | (with_reducible refine Below.trans ?_ (Below.mono (by assumption) (by first | omega | (simp; done) | (simp; omega))))))))).mono ?_; intro e w5 hP5; obtain ⟨ak, ab, m5, c5, d5, z5, rfl, hb5, hst⟩ := putR_store (R := w.heap.size + 4) hP5 (show Below w.heap.size w _ from by (repeat' (first | (with_reducible exact Below.refl _ _) | (with_reducible refine Below.setCell ?_ (by first | omega | (simp; done) | (simp; omega)) _) | (with_reducible refine Below.alloc ?_ (by first | omega | (simp; done) | (simp; omega)) _) | (with_reducible refine Below.drew ?_) | (with_reducible refine below_drewN ?_ _) | (with_reducible refine Below.trans ?_ (Below.mono (by assumption) (by first | omega | (simp; done) | (simp; omega))))))) (by omega) (by first | omega | (simp; omega)); clear hP5; have HST := Lib.hid hst; clear hst; obtain ⟨hc5, hf5, hz5⟩ := bcall hb5; (try simp at hc5 hf5 hz5)))
  all_goals
    go_wp2
    refine bodyPost_ret (v := .tuple #[.agg #[.slice (ak) m5 c5, .slice (ab) m5 d5], .int .i64 z5]) (by simp [results, Tryd.results21, go_sem, ↓IntWalk.iteOmega, *]) rfl ?_
    exact HST.out _ rfl

set_option maxRecDepth 100000 in
set_option maxHeartbeats 16000000 in
theorem wslopeU_ok (W H n cap : Nat) (ao : Option Addr) (bk ok ck bb ob cb : Nat) (K B : Nat → Int) (px py m b : Int) (w : World) (s : Sides W H n) (hp : OnG W H px py) (m0 : 1 ≤ m) (m1 : m ≤ 64)
    (lbk : bk < w.heap.size) (hNK : NumsAt w bk ok n K) (lbb : bb < w.heap.size) (hNB : NumsAt w bb ob n B)
    (CK : ∀ wx, Below w.heap.size w wx → Calls Tryd.prog 73 #[.agg #[.int .i64 W, .int .i64 H, .slice (ao) n cap], .agg #[.slice (some ⟨bk, ok, none⟩) n ck, .slice (some ⟨bb, ob, none⟩) n cb], .agg #[.int .i64 px, .int .i64 py], .int .i64 b] wx fun e w' => e = .returned (.int .i64 0) ∧ Below wx.heap.size wx w') :
    Calls Tryd.prog 23 #[.agg #[.int .i64 W, .int .i64 H, .slice (ao) n cap], .agg #[.slice (some ⟨bk, ok, none⟩) n ck, .slice (some ⟨bb, ob, none⟩) n cb], .agg #[.int .i64 px, .int .i64 py], .int .i64 m, .bool true, .int .i64 b] w (PutR n (shpS W (inL px py m 1) (fun _ _ => 2)) K B b w) := by
  have n1 := s.n1
  have sw1 := s.w1
  have sh1 := s.h1
  have sw0 := s.w0
  have sh0 := s.h0
  have HNK := Lib.hid hNK
  have HNB := Lib.hid hNB
  have HS := Lib.hid s
  have CK := Lib.hid CK
  have HON := Lib.hid hp
  obtain ⟨⟨p0, p1⟩, p2, p3⟩ := hp
  have GD := Lib.hid (fun wx => slope_gives px py m 1 W H wx (by omega) (by omega) (by omega) (by omega) (by omega) (.inl rfl))
  have GA := Lib.hid (fun wx => all_gives 2 W H wx)
  have HKD := Lib.hid (show ∀ x y : Int, ((fun _ _ => 2) : Int → Int → Int) x y ≠ 0 from fun _ _ => by simp)
  clear hNK hNB s p0 p1 p2 p3
  go_enter Tryd.func23, Tryd.ntmps23
  go_wp2_with fail
  obtain ⟨t0, t1, t2, t3, hb0, hs0⟩ := shp_blocks w 24 27 31 27 (.int .i64 W) (.int .i64 H) (.slice ao n cap) (.slice (some ⟨bk, ok, none⟩) n ck) (.slice (some ⟨bb, ob, none⟩) n cb) (.int .i64 px) (.int .i64 py) (.slice none 0 0) (.slice none 0 0)
  obtain ⟨w0, hw0⟩ : ∃ w0, w0 = ((((w.alloc (.cells #[.int .i64 W, .int .i64 H, .slice ao n cap] 24)).alloc (.cells #[.slice (some ⟨bk, ok, none⟩) n ck, .slice (some ⟨bb, ob, none⟩) n cb] 27)).alloc (.cells #[.int .i64 px, .int .i64 py] 31)).alloc (.cells #[.slice none 0 0, .slice none 0 0] 27)) := ⟨_, rfl⟩
  rw [← hw0] at t0 t1 t2 t3 hb0 hs0 ⊢
  have lw0 : w.heap.size + 3 < w0.heap.size := by omega
  clear hw0 hs0
  have T0 := Lib.hid t0
  have T1 := Lib.hid t1
  have T2 := Lib.hid t2
  have T3 := Lib.hid t3
  have g0 := t0.c0
  have g1 := t0.c1
  have g2 := t0.c2
  have k0 := t1.c0
  have k1 := t1.c1
  have q0 := t2.c0
  have q1 := t2.c1
  have r0 := t3.c0
  have r1 := t3.c1
  have rf0 := t3.f0 0
  have rf1 := t3.f0 1
  clear t0 t1 t2 t3
  go_wp2_with (first | (go_at_call 73; (with_reducible refine (CK.out _ (by (repeat' (first | (with_reducible exact Below.refl _ _) | (with_reducible refine Below.setCell ?_ (by first | omega | (simp; done) | (simp; omega)) _) | (with_reducible refine Below.alloc ?_ (by first | omega | (simp; done) | (simp; omega)) _) | (with_reducible refine Below.drew ?_) | (with_reducible refine below_drewN ?_ _) | (with_reducible refine Below.trans ?_ (Below.mono (by assumption) (by first | omega | (simp; done) | (simp; omega)))))))).mono ?_); rintro e w1 ⟨rfl, hb⟩; obtain ⟨hc, hf, hz⟩ := bcall hb; (try simp at hc hf hz)))
  have HW1 := Lib.hid (show Below w0.heap.size w0 w1 from by (repeat' (first | (with_reducible exact Below.refl _ _) | (with_reducible refine Below.setCell ?_ (by first | omega | (simp; done) | (simp; omega)) _) | (with_reducible refine Below.alloc ?_ (by first | omega | (simp; done) | (simp; omega)) _) | (with_reducible refine Below.drew ?_) | (with_reducible refine below_drewN ?_ _) | (with_reducible refine Below.trans ?_ (Below.mono (by assumption) (by first | omega | (simp; done) | (simp; omega)))))))
  have s1 := HW1.out.size
  have g0 := keep_cell HW1.out (by omega) g0
  have g1 := keep_cell HW1.out (by omega) g1
  have g2 := keep_cell HW1.out (by omega) g2
  have k0 := keep_cell HW1.out (by omega) k0
  have k1 := keep_cell HW1.out (by omega) k1
  have q0 := keep_cell HW1.out (by omega) q0
  have q1 := keep_cell HW1.out (by omega) q1
  have r0 := keep_cell HW1.out (by omega) r0
  have r1 := keep_cell HW1.out (by omega) r1
  have rf0 := (HW1.out.frozen (p := ⟨w.heap.size + 3, 0, none⟩) (by show _ < _; omega)).trans rf0
  have rf1 := (HW1.out.frozen (p := ⟨w.heap.size + 3, 1, none⟩) (by show _ < _; omega)).trans rf1
  have hw1 := hb0.trans (HW1.out.mono (show w.heap.size ≤ w0.heap.size by omega))
  have lw1 : w.heap.size + 3 < w1.heap.size := by omega
  clear hb hc hf hz hb0 lw0
  go_region_held3 (fun w' => w'.cell? ⟨w.heap.size, 0, none⟩ = some (.int .i64 W) ∧ w'.cell? ⟨w.heap.size, 1, none⟩ = some (.int .i64 H) ∧ w'.cell? ⟨w.heap.size, 2, none⟩ = some (.slice ao n cap) ∧ w'.cell? ⟨w.heap.size + 1, 0, none⟩ = some (.slice (some ⟨bk, ok, none⟩) n ck) ∧ w'.cell? ⟨w.heap.size + 1, 1, none⟩ = some (.slice (some ⟨bb, ob, none⟩) n cb) ∧ w'.cell? ⟨w.heap.size + 2, 0, none⟩ = some (.int .i64 px) ∧ w'.cell? ⟨w.heap.size + 2, 1, none⟩ = some (.int .i64 py)) (first | (go_split_ands; (try dsimp only); refine ⟨?_, ?_, ?_, ?_, ?_, ?_, ?_⟩ <;> (first | (with_reducible assumption) | (with_reducible exact keep_cell (by assumption) (by first | omega | (simp; done) | (simp; omega)) (by assumption)) | (with_reducible exact (World.cell?_alloc_past _ _ _ (by show _ < _; omega)).trans (by assumption)) | (with_reducible exact (World.cell?_alloc_past _ _ _ (by show _ < _; omega)).trans ((World.cell?_alloc_past _ _ _ (by show _ < _; omega)).symm.trans (by assumption))) | (simp [go_sem]; with_reducible assumption))) | (simp [go_sem, ↓IntWalk.iteOmega, *]; done)) (first | (go_at_call 81; (with_reducible refine (GD.out _).mono ?_); rintro e wD ⟨fD, cD, rfl, hD, hbD⟩; obtain ⟨hcD, hfD, hzD⟩ := bcall hbD; (try simp at hcD hfD hzD)) | (go_at_call 70; (with_reducible refine (GA.out _).mono ?_); rintro e wA ⟨fA, cA, rfl, hA, hbA⟩; obtain ⟨hcA, hfA, hzA⟩ := bcall hbA; (try simp at hcA hfA hzA)) | (go_at_call 68; refine (built_cl W H n cap ao bk ok ck bb ob cb K B b _ _ (inL px py m 1) _ _ (fun _ _ => 2) _ HS.out (Nat.lt_of_lt_of_le lbk (Below.size (show Below w.heap.size w _ from by (repeat' (first | (with_reducible exact Below.refl _ _) | (with_reducible refine Below.setCell ?_ (by first | omega | (simp; done) | (simp; omega)) _) | (with_reducible refine Below.alloc ?_ (by first | omega | (simp; done) | (simp; omega)) _) | (with_reducible refine Below.drew ?_) | (with_reducible refine below_drewN ?_ _) | (with_reducible refine Below.trans ?_ (Below.mono (by assumption) (by first | omega | (simp; done) | (simp; omega))))))))) (HNK.out.below (show Below w.heap.size w _ from by (repeat' (first | (with_reducible exact Below.refl _ _) | (with_reducible refine Below.setCell ?_ (by first | omega | (simp; done) | (simp; omega)) _) | (with_reducible refine Below.alloc ?_ (by first | omega | (simp; done) | (simp; omega)) _) | (with_reducible refine Below.drew ?_) | (with_reducible refine below_drewN ?_ _) | (with_reducible refine Below.trans ?_ (Below.mono (by assumption) (by first | omega | (simp; done) | (simp; omega))))))) lbk) (Nat.lt_of_lt_of_le lbb (Below.size (show Below w.heap.size w _ from by (repeat' (first | (with_reducible exact Below.refl _ _) | (with_reducible refine Below.setCell ?_ (by first | omega | (simp; done) | (simp; omega)) _) | (with_reducible refine Below.alloc ?_ (by first | omega | (simp; done) | (simp; omega)) _) | (with_reducible refine Below.drew ?_) | (with_reducible refine below_drewN ?_ _) | (with_reducible refine Below.trans ?_ (Below.mono (by assumption) (by first | omega | (simp; done) | (simp; omega))))))))) (HNB.out.below (show Below w.heap.size w _ from by (repeat' (first | (with_reducible exact Below.refl _ _) | (with_reducible refine Below.setCell ?_ (by first | omega | (simp; done) | (simp; omega)) _) | (with_reducible refine Below.alloc ?_ (by first | omega | (simp; done) | (simp; omega)) _) | (with_reducible refine Below.drew ?_) | (with_reducible refine below_drewN ?_ _) | (with_reducible refine Below.trans ?_ (Below.mono (by assumption) (by first | omega | (simp; done) | (simp; omega))))))) lbb) HKD.out (ClF.below (by assumption) (by (repeat' (first | (with_reducible exact Below.refl _ _) | (with_reducible refine Below.setCell ?_ (by first | omega | (simp; done) | (simp; omega)) _) | (with_reducible refine Below.alloc ?_ (by first | omega | (simp; done) | (simp; omega)) _) | (with_reducible refine Below.drew ?_) | (with_reducible refine below_drewN ?_ _) | (with_reducible refine Below.trans ?_ (Below.mono (by assumption) (by first | omega | (simp; done) | (simp; omega)))))))) (ClK.below (by assumption) (by (repeat' (first | (with_reducible exact Below.refl _ _) | (with_reducible refine Below.setCell ?_ (by first | omega | (simp; done) | (simp; omega)) _) | (with_reducible refine Below.alloc ?_ (by first | omega | (simp; done) | (simp; omega)) _) | (with_reducible refine Below.drew ?_) | (with_reducible refine below_drewN ?_ _) | (with_reducible refine Below.trans ?_ (Below.mono (by assumption) (by first | omega | (simp; done) | (simp; omega))))))))).mono ?_; intro e w5 hP5; obtain ⟨ak, ab, m5, c5, d5, z5, rfl, hb5, hst⟩ := putR_store (R := w.heap.size + 3) hP5 (show Below w.heap.size w _ from by (repeat' (first | (with_reducible exact Below.refl _ _) | (with_reducible refine Below.setCell ?_ (by first | omega | (simp; done) | (simp; omega)) _) | (with_reducible refine Below.alloc ?_ (by first | omega | (simp; done) | (simp; omega)) _) | (with_reducible refine Below.drew ?_) | (with_reducible refine below_drewN ?_ _) | (with_reducible refine Below.trans ?_ (Below.mono (by assumption) (by first | omega | (simp; done) | (simp; omega))))))) (by omega) (by first | omega | (simp; omega)); clear hP5; have HST := Lib.hid hst; clear hst; obtain ⟨hc5, hf5, hz5⟩ := bcall hb5; (try simp at hc5 hf5 hz5)))
  all_goals
    go_wp2
    refine bodyPost_ret (v := .tuple #[.agg #[.slice (ak) m5 c5, .slice (ab) m5 d5], .int .i64 z5]) (by simp [results, Tryd.results23, go_sem, ↓IntWalk.iteOmega, *]) rfl ?_
    exact HST.out _ rfl

set_option maxRecDepth 100000 in
set_option maxHeartbeats 16000000 in
theorem wslopeD_ok (W H n cap : Nat) (ao : Option Addr) (bk ok ck bb ob cb : Nat) (K B : Nat → Int) (px py m b : Int) (w : World) (s : Sides W H n) (hp : OnG W H px py) (m0 : 1 ≤ m) (m1 : m ≤ 64)
    (lbk : bk < w.heap.size) (hNK : NumsAt w bk ok n K) (lbb : bb < w.heap.size) (hNB : NumsAt w bb ob n B)
    (CK : ∀ wx, Below w.heap.size w wx → Calls Tryd.prog 73 #[.agg #[.int .i64 W, .int .i64 H, .slice (ao) n cap], .agg #[.slice (some ⟨bk, ok, none⟩) n ck, .slice (some ⟨bb, ob, none⟩) n cb], .agg #[.int .i64 px, .int .i64 py], .int .i64 b] wx fun e w' => e = .returned (.int .i64 0) ∧ Below wx.heap.size wx w') :
    Calls Tryd.prog 23 #[.agg #[.int .i64 W, .int .i64 H, .slice (ao) n cap], .agg #[.slice (some ⟨bk, ok, none⟩) n ck, .slice (some ⟨bb, ob, none⟩) n cb], .agg #[.int .i64 px, .int .i64 py], .int .i64 m, .bool false, .int .i64 b] w (PutR n (shpS W (inL px py m (-1)) (fun _ _ => 3)) K B b w) := by
  have n1 := s.n1
  have sw1 := s.w1
  have sh1 := s.h1
  have sw0 := s.w0
  have sh0 := s.h0
  have HNK := Lib.hid hNK
  have HNB := Lib.hid hNB
  have HS := Lib.hid s
  have CK := Lib.hid CK
  have HON := Lib.hid hp
  obtain ⟨⟨p0, p1⟩, p2, p3⟩ := hp
  have GD := Lib.hid (fun wx => slope_gives px py m (-1) W H wx (by omega) (by omega) (by omega) (by omega) (by omega) (.inr rfl))
  have GA := Lib.hid (fun wx => all_gives 3 W H wx)
  have HKD := Lib.hid (show ∀ x y : Int, ((fun _ _ => 3) : Int → Int → Int) x y ≠ 0 from fun _ _ => by simp)
  clear hNK hNB s p0 p1 p2 p3
  go_enter Tryd.func23, Tryd.ntmps23
  go_wp2_with fail
  obtain ⟨t0, t1, t2, t3, hb0, hs0⟩ := shp_blocks w 24 27 31 27 (.int .i64 W) (.int .i64 H) (.slice ao n cap) (.slice (some ⟨bk, ok, none⟩) n ck) (.slice (some ⟨bb, ob, none⟩) n cb) (.int .i64 px) (.int .i64 py) (.slice none 0 0) (.slice none 0 0)
  obtain ⟨w0, hw0⟩ : ∃ w0, w0 = ((((w.alloc (.cells #[.int .i64 W, .int .i64 H, .slice ao n cap] 24)).alloc (.cells #[.slice (some ⟨bk, ok, none⟩) n ck, .slice (some ⟨bb, ob, none⟩) n cb] 27)).alloc (.cells #[.int .i64 px, .int .i64 py] 31)).alloc (.cells #[.slice none 0 0, .slice none 0 0] 27)) := ⟨_, rfl⟩
  rw [← hw0] at t0 t1 t2 t3 hb0 hs0 ⊢
  have lw0 : w.heap.size + 3 < w0.heap.size := by omega
  clear hw0 hs0
  have T0 := Lib.hid t0
  have T1 := Lib.hid t1
  have T2 := Lib.hid t2
  have T3 := Lib.hid t3
  have g0 := t0.c0
  have g1 := t0.c1
  have g2 := t0.c2
  have k0 := t1.c0
  have k1 := t1.c1
  have q0 := t2.c0
  have q1 := t2.c1
  have r0 := t3.c0
  have r1 := t3.c1
  have rf0 := t3.f0 0
  have rf1 := t3.f0 1
  clear t0 t1 t2 t3
  go_wp2_with (first | (go_at_call 73; (with_reducible refine (CK.out _ (by (repeat' (first | (with_reducible exact Below.refl _ _) | (with_reducible refine Below.setCell ?_ (by first | omega | (simp; done) | (simp; omega)) _) | (with_reducible refine Below.alloc ?_ (by first | omega | (simp; done) | (simp; omega)) _) | (with_reducible refine Below.drew ?_) | (with_reducible refine below_drewN ?_ _) | (with_reducible refine Below.trans ?_ (Below.mono (by assumption) (by first | omega | (simp; done) | (simp; omega)))))))).mono ?_); rintro e w1 ⟨rfl, hb⟩; obtain ⟨hc, hf, hz⟩ := bcall hb; (try simp at hc hf hz)))
  have HW1 := Lib.hid (show Below w0.heap.size w0 w1 from by (repeat' (first | (with_reducible exact Below.refl _ _) | (with_reducible refine Below.setCell ?_ (by first | omega | (simp; done) | (simp; omega)) _) | (with_reducible refine Below.alloc ?_ (by first | omega | (simp; done) | (simp; omega)) _) | (with_reducible refine Below.drew ?_) | (with_reducible refine below_drewN ?_ _) | (with_reducible refine Below.trans ?_ (Below.mono (by assumption) (by first | omega | (simp; done) | (simp; omega)))))))
  have s1 := HW1.out.size
  have g0 := keep_cell HW1.out (by omega) g0
  have g1 := keep_cell HW1.out (by omega) g1
  have g2 := keep_cell HW1.out (by omega) g2
  have k0 := keep_cell HW1.out (by omega) k0
  have k1 := keep_cell HW1.out (by omega) k1
  have q0 := keep_cell HW1.out (by omega) q0
  have q1 := keep_cell HW1.out (by omega) q1
  have r0 := keep_cell HW1.out (by omega) r0
  have r1 := keep_cell HW1.out (by omega) r1
  have rf0 := (HW1.out.frozen (p := ⟨w.heap.size + 3, 0, none⟩) (by show _ < _; omega)).trans rf0
  have rf1 := (HW1.out.frozen (p := ⟨w.heap.size + 3, 1, none⟩) (by show _ < _; omega)).trans rf1
  have hw1 := hb0.trans (HW1.out.mono (show w.heap.size ≤ w0.heap.size by omega))
  have lw1 : w.heap.size + 3 < w1.heap.size := by omega
  clear hb hc hf hz hb0 lw0
  go_region_held3 (fun w' => w'.cell? ⟨w.heap.size, 0, none⟩ = some (.int .i64 W) ∧ w'.cell? ⟨w.heap.size, 1, none⟩ = some (.int .i64 H) ∧ w'.cell? ⟨w.heap.size, 2, none⟩ = some (.slice ao n cap) ∧ w'.cell? ⟨w.heap.size + 1, 0, none⟩ = some (.slice (some ⟨bk, ok, none⟩) n ck) ∧ w'.cell? ⟨w.heap.size + 1, 1, none⟩ = some (.slice (some ⟨bb, ob, none⟩) n cb) ∧ w'.cell? ⟨w.heap.size + 2, 0, none⟩ = some (.int .i64 px) ∧ w'.cell? ⟨w.heap.size + 2, 1, none⟩ = some (.int .i64 py)) (first | (go_split_ands; (try dsimp only); refine ⟨?_, ?_, ?_, ?_, ?_, ?_, ?_⟩ <;> (first | (with_reducible assumption) | (with_reducible exact keep_cell (by assumption) (by first | omega | (simp; done) | (simp; omega)) (by assumption)) | (with_reducible exact (World.cell?_alloc_past _ _ _ (by show _ < _; omega)).trans (by assumption)) | (with_reducible exact (World.cell?_alloc_past _ _ _ (by show _ < _; omega)).trans ((World.cell?_alloc_past _ _ _ (by show _ < _; omega)).symm.trans (by assumption))) | (simp [go_sem]; with_reducible assumption))) | (simp [go_sem, ↓IntWalk.iteOmega, *]; done)) (first | (go_at_call 81; (with_reducible refine (GD.out _).mono ?_); rintro e wD ⟨fD, cD, rfl, hD, hbD⟩; obtain ⟨hcD, hfD, hzD⟩ := bcall hbD; (try simp at hcD hfD hzD)) | (go_at_call 70; (with_reducible refine (GA.out _).mono ?_); rintro e wA ⟨fA, cA, rfl, hA, hbA⟩; obtain ⟨hcA, hfA, hzA⟩ := bcall hbA; (try simp at hcA hfA hzA)) | (go_at_call 68; refine (built_cl W H n cap ao bk ok ck bb ob cb K B b _ _ (inL px py m (-1)) _ _ (fun _ _ => 3) _ HS.out (Nat.lt_of_lt_of_le lbk (Below.size (show Below w.heap.size w _ from by (repeat' (first | (with_reducible exact Below.refl _ _) | (with_reducible refine Below.setCell ?_ (by first | omega | (simp; done) | (simp; omega)) _) | (with_reducible refine Below.alloc ?_ (by first | omega | (simp; done) | (simp; omega)) _) | (with_reducible refine Below.drew ?_) | (with_reducible refine below_drewN ?_ _) | (with_reducible refine Below.trans ?_ (Below.mono (by assumption) (by first | omega | (simp; done) | (simp; omega))))))))) (HNK.out.below (show Below w.heap.size w _ from by (repeat' (first | (with_reducible exact Below.refl _ _) | (with_reducible refine Below.setCell ?_ (by first | omega | (simp; done) | (simp; omega)) _) | (with_reducible refine Below.alloc ?_ (by first | omega | (simp; done) | (simp; omega)) _) | (with_reducible refine Below.drew ?_) | (with_reducible refine below_drewN ?_ _) | (with_reducible refine Below.trans ?_ (Below.mono (by assumption) (by first | omega | (simp; done) | (simp; omega))))))) lbk) (Nat.lt_of_lt_of_le lbb (Below.size (show Below w.heap.size w _ from by (repeat' (first | (with_reducible exact Below.refl _ _) | (with_reducible refine Below.setCell ?_ (by first | omega | (simp; done) | (simp; omega)) _) | (with_reducible refine Below.alloc ?_ (by first | omega | (simp; done) | (simp; omega)) _) | (with_reducible refine Below.drew ?_) | (with_reducible refine below_drewN ?_ _) | (with_reducible refine Below.trans ?_ (Below.mono (by assumption) (by first | omega | (simp; done) | (simp; omega))))))))) (HNB.out.below (show Below w.heap.size w _ from by (repeat' (first | (with_reducible exact Below.refl _ _) | (with_reducible refine Below.setCell ?_ (by first | omega | (simp; done) | (simp; omega)) _) | (with_reducible refine Below.alloc ?_ (by first | omega | (simp; done) | (simp; omega)) _) | (with_reducible refine Below.drew ?_) | (with_reducible refine below_drewN ?_ _) | (with_reducible refine Below.trans ?_ (Below.mono (by assumption) (by first | omega | (simp; done) | (simp; omega))))))) lbb) HKD.out (ClF.below (by assumption) (by (repeat' (first | (with_reducible exact Below.refl _ _) | (with_reducible refine Below.setCell ?_ (by first | omega | (simp; done) | (simp; omega)) _) | (with_reducible refine Below.alloc ?_ (by first | omega | (simp; done) | (simp; omega)) _) | (with_reducible refine Below.drew ?_) | (with_reducible refine below_drewN ?_ _) | (with_reducible refine Below.trans ?_ (Below.mono (by assumption) (by first | omega | (simp; done) | (simp; omega)))))))) (ClK.below (by assumption) (by (repeat' (first | (with_reducible exact Below.refl _ _) | (with_reducible refine Below.setCell ?_ (by first | omega | (simp; done) | (simp; omega)) _) | (with_reducible refine Below.alloc ?_ (by first | omega | (simp; done) | (simp; omega)) _) | (with_reducible refine Below.drew ?_) | (with_reducible refine below_drewN ?_ _) | (with_reducible refine Below.trans ?_ (Below.mono (by assumption) (by first | omega | (simp; done) | (simp; omega))))))))).mono ?_; intro e w5 hP5; obtain ⟨ak, ab, m5, c5, d5, z5, rfl, hb5, hst⟩ := putR_store (R := w.heap.size + 3) hP5 (show Below w.heap.size w _ from by (repeat' (first | (with_reducible exact Below.refl _ _) | (with_reducible refine Below.setCell ?_ (by first | omega | (simp; done) | (simp; omega)) _) | (with_reducible refine Below.alloc ?_ (by first | omega | (simp; done) | (simp; omega)) _) | (with_reducible refine Below.drew ?_) | (with_reducible refine below_drewN ?_ _) | (with_reducible refine Below.trans ?_ (Below.mono (by assumption) (by first | omega | (simp; done) | (simp; omega))))))) (by omega) (by first | omega | (simp; omega)); clear hP5; have HST := Lib.hid hst; clear hst; obtain ⟨hc5, hf5, hz5⟩ := bcall hb5; (try simp at hc5 hf5 hz5)))
  all_goals
    go_wp2
    refine bodyPost_ret (v := .tuple #[.agg #[.slice (ak) m5 c5, .slice (ab) m5 d5], .int .i64 z5]) (by simp [results, Tryd.results23, go_sem, ↓IntWalk.iteOmega, *]) rfl ?_
    exact HST.out _ rfl
end Go.Proofs.YtglkikdjchpmjaaDoor
