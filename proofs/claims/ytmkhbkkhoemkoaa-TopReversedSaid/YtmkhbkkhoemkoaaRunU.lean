/- Runs and their undoing: by the program. -/
import Derived.Test.YtmkhbkkhoemkoaaDo
import Derived.Test.YtmkhbkkhoemkoaaCheck
namespace Go.Proofs.Ytmkhbkkhoemkoaa
set_option linter.unusedSimpArgs false
set_option linter.unusedVariables false
open Go.RowKit Go.Shelf
attribute [local go_sem] Oper.semAt_some

abbrev Stepper := Nat → (Nat → Nat → Int) → (Nat → Nat → Int)
/-- A grid after some steps, and one that becomes it. -/
def runG (F : Stepper) (t : Nat) : Nat → (Nat → Nat → Int) → Nat → Nat → Int
  | 0, G => G
  | c + 1, G => F (t + c) (runG F t c G)
def undoR (F : Stepper) (t : Nat) : Nat → (Nat → Nat → Int) → Nat → Nat → Int
  | 0, G => G
  | c + 1, G => undoR F t c (F (t + c) G)
def up (t : Nat) (j : Nat) : Stp := ⟨min (t + j) 1000000, Nat.min_le_right _ _⟩
def down (t c : Nat) (j : Nat) : Stp := ⟨min (t + c - 1 - j) 1000000, Nat.min_le_right _ _⟩
theorem fold_up (F : Stepper) (t c : Nat) (G : Nat → Nat → Int) (h : c = 0 ∨ t + c - 1 ≤ 1000000) : foldG F (upto (up t) c) G = runG F t c G := by
  induction c with
  | zero => rfl
  | succ c ih =>
    rw [upto_succ, foldG_snoc, ih (by omega)]
    show F (min (t + c) 1000000) _ = F (t + c) _
    rw [Nat.min_eq_left (by omega)]
theorem upto_down (t c : Nat) : upto (down t (c + 1)) (c + 1) = down t (c + 1) 0 :: upto (down t c) c := by
  unfold upto
  rw [List.range_succ_eq_map, List.map_cons, List.map_map]
  congr 1
  apply List.map_congr_left
  intro j hj
  have := List.mem_range.1 hj
  simp only [Function.comp, down, Nat.succ_eq_add_one]
  congr 2
  omega
theorem fold_down (F : Stepper) (t c : Nat) (G : Nat → Nat → Int) (h : c = 0 ∨ t + c - 1 ≤ 1000000) : foldG F (upto (down t c) c) G = undoR F t c G := by
  induction c generalizing G with
  | zero => rfl
  | succ c ih =>
    rw [upto_down]
    show foldG F (upto (down t c) c) (F (min (t + (c + 1) - 1 - 0) 1000000) G) = undoR F t c (F (t + c) G)
    rw [ih _ (by omega), Nat.min_eq_left (by omega)]
    rfl

/-- A grid that was made. -/
def Made (W H : Int) (n : Nat) (K : Nat → Nat → Int) (w : World) (e : Ending) (w' : World) : Prop :=
  ∃ b c, e = .returned (.tuple #[.agg #[.int .i64 W, .int .i64 H, .slice (some ⟨b, 0, none⟩) n c], .int .i64 0]) ∧ CellsIn w' (some ⟨b, 0, none⟩) n K ∧ w.heap.size ≤ b ∧ Below w.heap.size w w'

/-- A block of three cells. -/
def Three (W : World) (B : Nat) (t : TypeId) (x y z : Value) : Prop := W.heap[B]? = some (.cells #[x, y, z] t (0, 0))
theorem Three.lt {W : World} {B : Nat} {t : TypeId} {x y z : Value} (h : Three W B t x y z) : B < W.heap.size := (Array.getElem?_eq_some_iff.1 h).1
theorem Three.c0 {W : World} {B : Nat} {t : TypeId} {x y z : Value} (h : Three W B t x y z) : W.cell? ⟨B, 0, none⟩ = some x := by simp [World.cell?, show W.heap[B]? = _ from h]
theorem Three.c1 {W : World} {B : Nat} {t : TypeId} {x y z : Value} (h : Three W B t x y z) : W.cell? ⟨B, 1, none⟩ = some y := by simp [World.cell?, show W.heap[B]? = _ from h]
theorem Three.c2 {W : World} {B : Nat} {t : TypeId} {x y z : Value} (h : Three W B t x y z) : W.cell? ⟨B, 2, none⟩ = some z := by simp [World.cell?, show W.heap[B]? = _ from h]
theorem Three.free {W : World} {B : Nat} {t : TypeId} {x y z : Value} (h : Three W B t x y z) (i : Nat) : W.frozen? ⟨B, i, none⟩ = false := by simp [World.frozen?, show W.heap[B]? = _ from h]
theorem Three.below {n : Nat} {W W' : World} {B : Nat} {t : TypeId} {x y z : Value} (h : Three W B t x y z) (hb : Below n W W') (hB : B < n) : Three W' B t x y z := (hb.block B hB).trans h
theorem Three.ex {S : Nat → Prop} {W W' : World} {B : Nat} {t : TypeId} {x y z : Value} (h : Three W B t x y z) (hx : Ex S W W') (hs : ¬ S B) : Three W' B t x y z := (hx.block B h.lt hs).trans h
theorem Three.new1 (w : World) (o : Obj) (t : TypeId) (x y z : Value) : Three ((w.alloc o).alloc (.cells #[x, y, z] t)) (w.heap.size + 1) t x y z := by
  have := World.alloc_heap_new (w.alloc o) (.cells #[x, y, z] t)
  rw [World.size_alloc] at this
  exact this

theorem made_end {W H : Int} {n b c : Nat} {K : Nat → Nat → Int} {w w5 : World} {v0 v1 v2 : Value} (hr : Row w5 b n K) (hb : Below w.heap.size w w5) (hne : w.heap.size + 1 < b) :
    Made W H n K w (.returned (.tuple #[.agg #[.int .i64 W, .int .i64 H, .slice (some ⟨b, 0, none⟩) n c], .int .i64 0])) (((w5.setCell ⟨w.heap.size + 1, 0, none⟩ v0).setCell ⟨w.heap.size + 1, 1, none⟩ v1).setCell ⟨w.heap.size + 1, 2, none⟩ v2) := by
  have x : Ex (fun k => k = w.heap.size + 1) w5 (((w5.setCell ⟨w.heap.size + 1, 0, none⟩ v0).setCell ⟨w.heap.size + 1, 1, none⟩ v1).setCell ⟨w.heap.size + 1, 2, none⟩ v2) := by
    refine Ex.setCell (Ex.setCell (Ex.setCell (Ex.refl _ w5) ?_ _) ?_ _) ?_ _ <;> rfl
  exact ⟨b, c, rfl, (hr.ex x (by omega)).cellsIn, by omega, hb.trans (x.below hb.size (fun k hk => by omega))⟩

/-- A made grid, handed on through a result's own block. -/
theorem made_pass {W H : Int} {n b c r : Nat} {K : Nat → Nat → Int} {w w5 : World} {v0 v1 v2 : Value} (hr : CellsIn w5 (some ⟨b, 0, none⟩) n K) (hb : Below w.heap.size w w5) (h1 : w.heap.size ≤ r) (h2 : r < b) :
    Made W H n K w (.returned (.tuple #[.agg #[.int .i64 W, .int .i64 H, .slice (some ⟨b, 0, none⟩) n c], .int .i64 0])) (((w5.setCell ⟨r, 0, none⟩ v0).setCell ⟨r, 1, none⟩ v1).setCell ⟨r, 2, none⟩ v2) := by
  have x : Ex (fun k => k = r) w5 (((w5.setCell ⟨r, 0, none⟩ v0).setCell ⟨r, 1, none⟩ v1).setCell ⟨r, 2, none⟩ v2) := by
    refine Ex.setCell (Ex.setCell (Ex.setCell (Ex.refl _ w5) ?_ _) ?_ _) ?_ _ <;> rfl
  refine ⟨b, c, rfl, ?_, by omega, hb.trans (x.below hb.size (fun k hk => by omega))⟩
  rcases hr with h | ⟨b', o, e, hlt, hG⟩
  · exact .inl h
  · cases e
    exact .inr ⟨b, 0, rfl, Nat.lt_of_lt_of_le hlt x.size, fun i hi => ⟨(x.cell hlt (by omega)).trans (hG i hi).1, (x.cell hlt (by omega)).trans (hG i hi).2.1, (x.cell hlt (by omega)).trans (hG i hi).2.2.1, (x.cell hlt (by omega)).trans (hG i hi).2.2.2⟩⟩

set_option maxRecDepth 100000 in
set_option maxHeartbeats 4000000 in
theorem run_in1 (W H b off n cap rb ro len rc t c : Nat) (R : Nat → Int × Int) (G : Nat → Nat → Int) (w : World) (s : Sides W H n) (hG : OkG n G) (hlt : b < w.heap.size) (hC : Grd w b off n G) (hrb : rb < w.heap.size) (hR : RulesAt w rb ro len R) (hk : OkRs len R) (hr : RunOk t c) :
    Calls Try.prog 17 #[.agg #[.int .i64 W, .int .i64 H, .slice (some ⟨b, off, none⟩) n cap], .slice (some ⟨rb, ro, none⟩) len rc, .int .i64 t, .int .i64 c] w (Made W H n (foldG (fwd W H len R) (upto (up t) c) G) w) := by
  have HCk := Lib.hid (fun w' (hb : Below w.heap.size w w') => checkRun_ok W H (some ⟨b, off, none⟩) n cap G (some ⟨rb, ro, none⟩) len rc R t c w' (vg_of s hG) ((show CellsIn w _ n G from .inr ⟨b, off, rfl, hlt, hC⟩).below hb) (by have := hk.2.1; omega) ((show RulesIn w _ len R from .inr ⟨rb, ro, rfl, hrb, hR⟩).below hb) hk hr)
  have hc' : c ≤ 1000 := by unfold RunOk at hr; omega
  have ht : t ≤ 1000000 := by unfold RunOk at hr; omega
  have htc : c = 0 ∨ t + c - 1 ≤ 1000000 := by unfold RunOk at hr; omega
  go_enter Try.func17, Try.ntmps17
  go_wp2_with (go_at_call 33; (with_reducible refine (HCk.out _ (by (repeat' (first | (with_reducible exact Below.refl _ _) | (with_reducible refine Below.setCell ?_ (by first | omega | (simp; done) | (simp; omega)) _) | (with_reducible refine Below.alloc ?_ (by first | omega | (simp; done) | (simp; omega)) _) | (with_reducible refine Below.drew ?_) | (with_reducible refine below_drewN ?_ _) | (with_reducible refine Below.trans ?_ (Below.mono (by assumption) (by first | omega | (simp; done) | (simp; omega)))))))).mono ?_); rintro e w1 ⟨rfl, hb⟩; obtain ⟨hc, hf, hz⟩ := bcall hb; (try simp at hc hf hz))
  have hb0 : Below ((w.alloc (.cells #[.int .i64 W, .int .i64 H, .slice (some ⟨b, off, none⟩) n cap] 24)).alloc (.cells #[.int .i64 0, .int .i64 0, .slice none 0 0] 24)).heap.size ((w.alloc (.cells #[.int .i64 W, .int .i64 H, .slice (some ⟨b, off, none⟩) n cap] 24)).alloc (.cells #[.int .i64 0, .int .i64 0, .slice none 0 0] 24)) w1 := by (repeat' (first | (with_reducible exact Below.refl _ _) | (with_reducible refine Below.setCell ?_ (by first | omega | (simp; done) | (simp; omega)) _) | (with_reducible refine Below.alloc ?_ (by first | omega | (simp; done) | (simp; omega)) _) | (with_reducible refine Below.drew ?_) | (with_reducible refine below_drewN ?_ _) | (with_reducible refine Below.trans ?_ (Below.mono (by assumption) (by first | omega | (simp; done) | (simp; omega))))))
  have hbw : Below w.heap.size w w1 := by (repeat' (first | (with_reducible exact Below.refl _ _) | (with_reducible refine Below.setCell ?_ (by first | omega | (simp; done) | (simp; omega)) _) | (with_reducible refine Below.alloc ?_ (by first | omega | (simp; done) | (simp; omega)) _) | (with_reducible refine Below.drew ?_) | (with_reducible refine below_drewN ?_ _) | (with_reducible refine Below.trans ?_ (Below.mono (by assumption) (by first | omega | (simp; done) | (simp; omega))))))
  have t3 : Three w1 (w.heap.size + 1) 24 (.int .i64 0) (.int .i64 0) (.slice none 0 0) := (Three.new1 w _ _ _ _ _).below hb0 (by simp)
  have hGd : Grd w1 b off n G := hC.below hbw hlt
  have hRl : RulesAt w1 rb ro len R := fun i hi => ⟨(hbw.cell (p := ⟨rb, ro + i * 2, none⟩) hrb).trans (hR i hi).1, (hbw.cell (p := ⟨rb, ro + i * 2 + 1, none⟩) hrb).trans (hR i hi).2⟩
  have hsz : w.heap.size + 2 ≤ w1.heap.size := by omega
  clear hc hf hb hz hb0 HCk
  go_at_call 34
  refine (newMachine_any W H b off n cap rb ro len rc R G w1 s (by omega) hGd (by omega) hRl).mono ?_
  rintro e w3 ⟨m, rfl, hM, hb3⟩
  have t3 := t3.below hb3 t3.lt
  have hbw : Below w.heap.size w w3 := hbw.trans (hb3.mono (by omega))
  have hs3 := hb3.size
  obtain ⟨B, hB⟩ : ∃ B, B = w1.heap.size := ⟨_, rfl⟩
  rw [← hB] at hM hs3 hsz
  have HM := Lib.hid hM
  have HT := Lib.hid t3
  have HB := Lib.hid hbw
  clear hM t3 hbw hb3 hGd hRl hB hC hR
  go_wp2_with (go_at_call 37; refine (callsIn_wide.1 (nums_in 5 _ _ _ _)).mono ?_; rintro e w' ⟨rfl, rfl⟩)
  have x4 : Below w3.heap.size w3 (((w3.alloc (.cells #[.int .i64 t] 3)).alloc (.cells #[.int .i64 1] 3)).alloc (.cells #[.int .i64 c] 3)) := (((Below.refl _ w3).alloc (Nat.le_refl _) _).alloc (by simp) _).alloc (by simp; omega) _
  have bF := ((Boxed.new w3 3 (.int .i64 t)).alloc (.cells #[.int .i64 1] 3)).alloc (.cells #[.int .i64 c] 3)
  have bB := (Boxed.new (w3.alloc (.cells #[.int .i64 t] 3)) 3 (.int .i64 1)).alloc (.cells #[.int .i64 c] 3)
  have bN := Boxed.new ((w3.alloc (.cells #[.int .i64 t] 3)).alloc (.cells #[.int .i64 1] 3)) 3 (.int .i64 c)
  simp only [World.size_alloc] at bB bN
  have DO := Lib.hid (callsIn_wide.1 (do_step m W H n rb ro len rc B w3.heap.size c w3.heap.size t 1 (up t) R G _ (HM.out.ext x4) s hG hk hc' (by omega) (by omega) (by omega) (by omega) (fun j hj => by show ((min (t + j) 1000000 : Nat) : Int) = _; rw [Nat.min_eq_left (by omega)]; omega) (Nat.le_refl _) bF bB bN))
  have HX4 := Lib.hid x4
  clear x4 bF bB bN
  go_at_call 35
  refine DO.out.mono ?_
  rintro e w5 ⟨rfl, hM5, hx5⟩
  have t5 := (HT.out.below HX4.out HT.out.lt).ex hx5 (by omega)
  have hlow : B ≤ w5.heap.size := Nat.le_trans hs3 (Nat.le_trans HX4.out.size hx5.size)
  have hB5 := Lib.hid (show Below w.heap.size w w5 from (HB.out.trans (HX4.out.mono (by omega))).trans (hx5.below (by have := HX4.out.size; omega) (fun k hk => by omega)))
  obtain ⟨⟨b1, c1, b2, c2, K, hMm, hr1, _, _, _, _, _, hq1, _⟩, _⟩ := hM5
  have k0 := hMm.k0
  have k1 := hMm.k1
  have k2 := hMm.k2
  have g0 := t5.free 0
  have g1 := t5.free 1
  have g2 := t5.free 2
  have q0 := t5.c0
  have q1 := t5.c1
  have q2 := t5.c2
  have hne : w.heap.size + 1 < b1 := by omega
  have HRow := Lib.hid hr1
  clear hMm hx5 DO t5 hr1 HX4 HT HM HB
  go_wp2
  refine bodyPost_ret (v := .tuple #[.agg #[.int .i64 W, .int .i64 H, .slice (some ⟨b1, 0, none⟩) n c1], .int .i64 0]) (by simp [results, Try.results17, go_sem, ↓IntWalk.iteOmega, *]) rfl ?_
  exact made_end HRow.out hB5.out hne

theorem gRun_ok (W H n cap : Nat) (ao : Option Addr) (G : Nat → Nat → Int) (ro : Option Addr) (len rc : Nat) (R : Nat → Int × Int) (t c : Nat) (w : World) (s : Sides W H n) (hG : OkG n G) (hC : CellsIn w ao n G) (hR : RulesIn w ro len R) (hk : OkRs len R) (hr : RunOk t c) :
    Calls Try.prog 17 #[.agg #[.int .i64 W, .int .i64 H, .slice (ao) n cap], .slice ro len rc, .int .i64 t, .int .i64 c] w (Made W H n (runG (fwd W H len R) t c G) w) := by
  rw [← fold_up _ _ _ _ (by unfold RunOk at hr; omega)]
  rcases hC with h | ⟨b, off, rfl, hlt, hC⟩
  · have := s.n0
    have := Nat.mul_le_mul s.w0 s.h0
    omega
  · rcases hR with h | ⟨rb, ro, rfl, hrb, hR⟩
    · have := hk.1
      omega
    · exact run_in1 W H b off n cap rb ro len rc t c R G w s hG hlt hC hrb hR hk hr
set_option maxHeartbeats 1000000 in
theorem gRun_inv (W H : Int) (n cap : Nat) (ao : Option Addr) (G : Nat → Nat → Int) (ro : Option Addr) (len rc : Nat) (R : Nat → Int × Int) (t c : Int) (w : World) (hC : CellsIn w ao n G) (hm : len ≤ 1000000000000) (hR : RulesIn w ro len R) (hk : ¬ (VG W H n G ∧ OkRs len R)) :
    Calls Try.prog 17 #[.agg #[.int .i64 W, .int .i64 H, .slice (ao) n cap], .slice ro len rc, .int .i64 t, .int .i64 c] w fun e w' => e = .returned (.tuple #[.agg #[.int .i64 0, .int .i64 0, .slice (none) 0 0], .int .i64 1]) ∧ Below w.heap.size w w' := by
  have HC := Lib.hid hC; clear hC
  have HR := Lib.hid hR; clear hR
  have HK := Lib.hid hk; clear hk
  go_enter Try.func17, Try.ntmps17
  go_wp2_with (go_at_call 33; (with_reducible refine (checkRun_inv W H ao n cap G ro len rc R t c _ (HC.out.below (by (repeat' (first | (with_reducible exact Below.refl _ _) | (with_reducible refine Below.setCell ?_ (by first | omega | (simp; done) | (simp; omega)) _) | (with_reducible refine Below.alloc ?_ (by first | omega | (simp; done) | (simp; omega)) _) | (with_reducible refine Below.drew ?_) | (with_reducible refine below_drewN ?_ _) | (with_reducible refine Below.trans ?_ (Below.mono (by assumption) (by first | omega | (simp; done) | (simp; omega)))))))) hm (HR.out.below (by (repeat' (first | (with_reducible exact Below.refl _ _) | (with_reducible refine Below.setCell ?_ (by first | omega | (simp; done) | (simp; omega)) _) | (with_reducible refine Below.alloc ?_ (by first | omega | (simp; done) | (simp; omega)) _) | (with_reducible refine Below.drew ?_) | (with_reducible refine below_drewN ?_ _) | (with_reducible refine Below.trans ?_ (Below.mono (by assumption) (by first | omega | (simp; done) | (simp; omega)))))))) HK.out).mono ?_); rintro e w1 ⟨rfl, hb⟩; obtain ⟨hc, hf, hz⟩ := bcall hb; (try simp at hc hf hz))
  refine bodyPost_ret (v := .tuple #[.agg #[.int .i64 0, .int .i64 0, .slice (none) 0 0], .int .i64 1]) (by simp [results, Try.results17, go_sem, ↓IntWalk.iteOmega, *]) rfl ⟨rfl, ?_⟩
  (repeat' (first | (with_reducible exact Below.refl _ _) | (with_reducible refine Below.setCell ?_ (by first | omega | (simp; done) | (simp; omega)) _) | (with_reducible refine Below.alloc ?_ (by first | omega | (simp; done) | (simp; omega)) _) | (with_reducible refine Below.drew ?_) | (with_reducible refine below_drewN ?_ _) | (with_reducible refine Below.trans ?_ (Below.mono (by assumption) (by first | omega | (simp; done) | (simp; omega))))))

set_option maxHeartbeats 1000000 in
theorem gRun_range (W H : Int) (n cap : Nat) (ao : Option Addr) (G : Nat → Nat → Int) (ro : Option Addr) (len rc : Nat) (R : Nat → Int × Int) (t c : Int) (w : World) (hv : VG W H n G) (hC : CellsIn w ao n G) (hm : len ≤ 1000000000000) (hR : RulesIn w ro len R) (hk : OkRs len R) (hr : ¬ RunOk t c) :
    Calls Try.prog 17 #[.agg #[.int .i64 W, .int .i64 H, .slice (ao) n cap], .slice ro len rc, .int .i64 t, .int .i64 c] w fun e w' => e = .returned (.tuple #[.agg #[.int .i64 0, .int .i64 0, .slice (none) 0 0], .int .i64 7]) ∧ Below w.heap.size w w' := by
  have HV := Lib.hid hv; clear hv
  have HC := Lib.hid hC; clear hC
  have HR := Lib.hid hR; clear hR
  have HK := Lib.hid hk; clear hk
  have HN := Lib.hid hr; clear hr
  go_enter Try.func17, Try.ntmps17
  go_wp2_with (go_at_call 33; (with_reducible refine (checkRun_range W H ao n cap G ro len rc R t c _ HV.out (HC.out.below (by (repeat' (first | (with_reducible exact Below.refl _ _) | (with_reducible refine Below.setCell ?_ (by first | omega | (simp; done) | (simp; omega)) _) | (with_reducible refine Below.alloc ?_ (by first | omega | (simp; done) | (simp; omega)) _) | (with_reducible refine Below.drew ?_) | (with_reducible refine below_drewN ?_ _) | (with_reducible refine Below.trans ?_ (Below.mono (by assumption) (by first | omega | (simp; done) | (simp; omega)))))))) hm (HR.out.below (by (repeat' (first | (with_reducible exact Below.refl _ _) | (with_reducible refine Below.setCell ?_ (by first | omega | (simp; done) | (simp; omega)) _) | (with_reducible refine Below.alloc ?_ (by first | omega | (simp; done) | (simp; omega)) _) | (with_reducible refine Below.drew ?_) | (with_reducible refine below_drewN ?_ _) | (with_reducible refine Below.trans ?_ (Below.mono (by assumption) (by first | omega | (simp; done) | (simp; omega)))))))) HK.out HN.out).mono ?_); rintro e w1 ⟨rfl, hb⟩; obtain ⟨hc, hf, hz⟩ := bcall hb; (try simp at hc hf hz))
  refine bodyPost_ret (v := .tuple #[.agg #[.int .i64 0, .int .i64 0, .slice (none) 0 0], .int .i64 7]) (by simp [results, Try.results17, go_sem, ↓IntWalk.iteOmega, *]) rfl ⟨rfl, ?_⟩
  (repeat' (first | (with_reducible exact Below.refl _ _) | (with_reducible refine Below.setCell ?_ (by first | omega | (simp; done) | (simp; omega)) _) | (with_reducible refine Below.alloc ?_ (by first | omega | (simp; done) | (simp; omega)) _) | (with_reducible refine Below.drew ?_) | (with_reducible refine below_drewN ?_ _) | (with_reducible refine Below.trans ?_ (Below.mono (by assumption) (by first | omega | (simp; done) | (simp; omega))))))

end Go.Proofs.Ytmkhbkkhoemkoaa
