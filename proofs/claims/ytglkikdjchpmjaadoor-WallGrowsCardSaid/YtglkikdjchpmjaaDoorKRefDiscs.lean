/- Discs: by the reference. -/
import Derived.Test.YtglkikdjchpmjaaDoorKRefShErr
import Derived.Test.YtglkikdjchpmjaaDoorKRefCopyW
import Derived.Test.YtglkikdjchpmjaaDoorKBuiW
namespace Go.Proofs.YtglkikdjchpmjaaDoor
set_option linter.unusedSimpArgs false
set_option linter.unusedVariables false
open Go.RowKit
attribute [local go_sem] Oper.semAt_some

theorem within3_any (n lo hi : Int) (w : World) : Calls Tryd.prog 78 #[.int .i64 n, .int .i64 lo, .int .i64 hi] w fun e w' => e = .returned (.bool (decide (lo ≤ n ∧ n ≤ hi))) ∧ w = w' := by
  by_cases h : lo ≤ n ∧ n ≤ hi
  · rw [decide_eq_true h]
    exact within3_yes n lo hi w h.1 h.2
  · rw [decide_eq_false h]
    exact within3_no n lo hi w (by omega)
theorem run_zerosS (n : Nat) (hn : n ≤ 100000) (w : World) : (Instr.makeSlice 107 (.int .i64 n) (.int .i64 n)).run Tryd.prog w = .ok (.slice (some ⟨w.heap.size, 0, none⟩) n n) (w.alloc (.cells (zerosI n) 3)) := by
  obtain ⟨i0, hi, hz0, hz1, hz2⟩ := info_parts info_int3
  have := run_make (P := Tryd.prog) (w := w) 107 3 i0 _ Tryd.underlying107 hi hz0 .i64 .i64 n n (by omega) (by omega) (by rw [hz2]; omega) (by omega)
  rw [hz1, Int.toNat_natCast] at this
  exact this
/-- What the shape's list holds behind k rounds. -/
def upS (S : Nat → Int) (k i : Nat) : Int := if i < k then S i else 0
theorem pts_one {wx : World} {bp : Nat} {px py : Int} (c0 : wx.cell? ⟨bp, 0, none⟩ = some (.int .i64 px)) (c1 : wx.cell? ⟨bp, 1, none⟩ = some (.int .i64 py)) : PtsAt wx bp 1 (fun _ => px) (fun _ => py) := fun j hj => by
  obtain rfl : j = 0 := by omega
  exact ⟨c0, c1⟩
theorem shp_blocks (w : World) (t0 t1 t2 t3 : TypeId) (a b c d e f g h i : Value) :
    Three ((((w.alloc (.cells #[a, b, c] t0)).alloc (.cells #[d, e] t1)).alloc (.cells #[f, g] t2)).alloc (.cells #[h, i] t3)) w.heap.size t0 a b c ∧
    Two ((((w.alloc (.cells #[a, b, c] t0)).alloc (.cells #[d, e] t1)).alloc (.cells #[f, g] t2)).alloc (.cells #[h, i] t3)) (w.heap.size + 1) t1 d e ∧
    Two ((((w.alloc (.cells #[a, b, c] t0)).alloc (.cells #[d, e] t1)).alloc (.cells #[f, g] t2)).alloc (.cells #[h, i] t3)) (w.heap.size + 2) t2 f g ∧
    Two ((((w.alloc (.cells #[a, b, c] t0)).alloc (.cells #[d, e] t1)).alloc (.cells #[f, g] t2)).alloc (.cells #[h, i] t3)) (w.heap.size + 3) t3 h i ∧
    Below w.heap.size w ((((w.alloc (.cells #[a, b, c] t0)).alloc (.cells #[d, e] t1)).alloc (.cells #[f, g] t2)).alloc (.cells #[h, i] t3)) ∧
    ((((w.alloc (.cells #[a, b, c] t0)).alloc (.cells #[d, e] t1)).alloc (.cells #[f, g] t2)).alloc (.cells #[h, i] t3)).heap.size = w.heap.size + 4 := by
  have g0 : ∀ (X : World) (k : Nat) (o o' : Obj), X.heap[k]? = some o → (X.alloc o').heap[k]? = some o := fun X k o o' h => (Below.heap_alloc _ _ _ (Array.getElem?_eq_some_iff.1 h).1).trans h
  have n0 : ∀ (X : World) (k : Nat) (o : Obj), X.heap.size = k → (X.alloc o).heap[k]? = some o := fun X k o h => by rw [← h]; exact World.alloc_heap_new X _
  refine ⟨?_, ?_, ?_, ?_, ?_, by simp⟩
  · exact g0 _ _ _ _ (g0 _ _ _ _ (g0 _ _ _ _ (n0 _ _ _ rfl)))
  · exact g0 _ _ _ _ (g0 _ _ _ _ (n0 _ _ _ (by simp)))
  · exact g0 _ _ _ _ (n0 _ _ _ (by simp))
  · exact n0 _ _ _ (by simp)
  · (repeat' (first | (with_reducible exact Below.refl _ _) | (with_reducible refine Below.setCell ?_ (by first | omega | (simp; done) | (simp; omega)) _) | (with_reducible refine Below.alloc ?_ (by first | omega | (simp; done) | (simp; omega)) _) | (with_reducible refine Below.drew ?_) | (with_reducible refine below_drewN ?_ _) | (with_reducible refine Below.trans ?_ (Below.mono (by assumption) (by first | omega | (simp; done) | (simp; omega))))))
theorem upS_step {S : Nat → Int} {k i : Nat} : upS S (k + 1) i = if i = k then S k else upS S k i := by
  unfold upS
  by_cases e : i = k
  · subst e; simp
  · by_cases h : i < k
    · rw [if_pos (by omega), if_neg e, if_pos h]
    · rw [if_neg (by omega), if_neg e, if_neg h]
theorem upS_skip {S : Nat → Int} {k : Nat} (h : S k = 0) : upS S (k + 1) = upS S k := funext fun i => by
  rw [upS_step]
  by_cases e : i = k
  · subst e
    rw [if_pos rfl, h]
    simp [upS]
  · rw [if_neg e]
/-- What stands while the shape's list is filled. -/
structure UpI (w1 : World) (P n : Nat) (S : Nat → Int) (k : Nat) (wr : World) : Prop where
  row : RowI wr P n (upS S k)
  below : Below w1.heap.size w1 wr
theorem upI_step {w1 wr X : World} {P n k : Nat} {S : Nat → Int} {v : Int} (h : UpI w1 P n S k wr) (hb : Below wr.heap.size wr X) (hk : k < n) (hv : S k = v) (hP : w1.heap.size ≤ P) : UpI w1 P n S (k + 1) (X.setCell ⟨P, k, none⟩ (.int .i64 v)) := by
  subst hv
  exact ⟨(h.row.below hb h.row.1).setHere hk (fun i => upS_step), (h.below.trans (hb.mono h.below.size)).setCell (p := ⟨P, k, none⟩) hP _⟩
theorem upI_skip {w1 wr X : World} {P n k : Nat} {S : Nat → Int} (h : UpI w1 P n S k wr) (hb : Below wr.heap.size wr X) (hv : S k = 0) : UpI w1 P n S (k + 1) X :=
  ⟨by rw [upS_skip hv]; exact h.row.below hb h.row.1, h.below.trans (hb.mono h.below.size)⟩
theorem upI_nums {w1 wr : World} {P n : Nat} {S : Nat → Int} (h : UpI w1 P n S n wr) : NumsAt wr P 0 n S := (rowI_congr h.row (fun j hj => by unfold upS; rw [if_pos hj])).nums
/-- What putting in gave, its result stored. -/
theorem putR_store {n : Nat} {S K B : Nat → Int} {b : Int} {w wy w' : World} {e : Ending} {R : Nat} (h : PutR n S K B b wy e w') (hb : Below w.heap.size w wy) (h0 : w.heap.size ≤ R) (h1 : R < wy.heap.size) :
    ∃ (ak ab : Option Addr) (m ck cb : Nat) (z : Int), e = .returned (.tuple #[.agg #[.slice (ak) m ck, .slice (ab) m cb], .int .i64 z]) ∧ Below wy.heap.size wy w' ∧ ∀ w'', w'' = (w'.setCell ⟨R, 0, none⟩ (.slice ak m ck)).setCell ⟨R, 1, none⟩ (.slice ab m cb) → PutR n S K B b w (.returned (.tuple #[.agg #[.slice (ak) m ck, .slice (ab) m cb], .int .i64 z])) w'' := by
  have st : ∀ v0 v1, Below wy.heap.size wy w' → Below w.heap.size w ((w'.setCell ⟨R, 0, none⟩ v0).setCell ⟨R, 1, none⟩ v1) := fun v0 v1 hy => ((hb.trans (hy.mono hb.size)).setCell (p := ⟨R, 0, none⟩) h0 _).setCell (p := ⟨R, 1, none⟩) h0 _
  rcases h with ⟨hf, bk, bb, ck, cb, rfl, hO, l0, l1, hy⟩ | ⟨hf, rfl, hy⟩
  · refine ⟨_, _, _, _, _, _, rfl, hy, ?_⟩
    rintro _ rfl
    refine .inl ⟨hf, bk, bb, ck, cb, rfl, Lib.hid ⟨RowI.two hO.out.1 (by omega), RowI.two hO.out.2.1 (by omega), hO.out.2.2⟩, ?_, ?_, st _ _ hy⟩
    · have := hb.size; omega
    · have := hb.size; omega
  · refine ⟨none, none, 0, 0, 0, 11, rfl, hy, ?_⟩
    rintro _ rfl
    exact .inr ⟨hf, rfl, st _ _ hy⟩

set_option maxRecDepth 100000 in
set_option maxHeartbeats 16000000 in
theorem rdisc_ok (W H n cap : Nat) (ao : Option Addr) (bk ok ck bb ob cb : Nat) (K B : Nat → Int) (px py q b : Int) (w : World) (s : Sides W H n) (hp : OnG W H px py) (q0 : 0 ≤ q) (q1 : q ≤ 10000) (b0 : 1 ≤ b) (b1 : b ≤ 9)
    (lbk : bk < w.heap.size) (hNK : NumsAt w bk ok n K) (lbb : bb < w.heap.size) (hNB : NumsAt w bb ob n B)
    (V : ∀ wx, Below w.heap.size w wx → Calls Tryd.prog 147 #[.agg #[.int .i64 W, .int .i64 H, .slice (ao) n cap], .agg #[.slice (some ⟨bk, ok, none⟩) n ck, .slice (some ⟨bb, ob, none⟩) n cb]] wx fun e w' => e = .returned (.bool true) ∧ Below wx.heap.size wx w') :
    Calls Tryd.prog 71 #[.agg #[.int .i64 W, .int .i64 H, .slice (ao) n cap], .agg #[.slice (some ⟨bk, ok, none⟩) n ck, .slice (some ⟨bb, ob, none⟩) n cb], .agg #[.int .i64 px, .int .i64 py], .int .i64 q, .int .i64 b, .bool false] w (PutR n (shpS W (inD px py q) (fun _ _ => 1)) K B b w) := by
  have n1 := s.n1
  have sw0 := s.w0
  have sw1 := s.w1
  have sh0 := s.h0
  have sh1 := s.h1
  have SE := Lib.hid (fun wx (bp cp : Nat) (hb : Below w.heap.size w wx) (lp : bp < wx.heap.size) (c0 : wx.cell? ⟨bp, 0, none⟩ = some (.int .i64 px)) (c1 : wx.cell? ⟨bp, 1, none⟩ = some (.int .i64 py)) =>
    (rShErr_any W H ao n cap (some ⟨bk, ok, none⟩) n ck (some ⟨bb, ob, none⟩) n cb (fun _ => px) (fun _ => py) b bp 1 cp true true wx (by omega) lp (pts_one c0 c1) (fun _ => ⟨by omega, by omega, by omega, by omega⟩) (fun wy hy => V wy (hb.trans (hy.mono hb.size)))))
  have e0 : rErr true (true && onA W H (fun _ => px) (fun _ => py) 1) b = 0 := by simp [rErr, onA, hp, b0, b1]
  rw [e0] at SE
  have eq : decide ((0 : Int) ≤ q ∧ q ≤ 10000) = true := decide_eq_true ⟨q0, q1⟩
  have WI := Lib.hid (fun wx => within3_any q 0 10000 wx)
  rw [eq] at WI
  obtain ⟨⟨p0, p1⟩, p2, p3⟩ := hp
  have ID := Lib.hid (fun x y wx => rInDisc_any W H px py q x y ao n cap wx (by omega) (by omega) (by omega) (by omega) (by omega) (by omega) (by omega) (by omega))
  have MI := Lib.hid (fun x y wx (a0 : -1 ≤ x) (a1 : x ≤ 1100) (a2 : -1 ≤ y) (a3 : y ≤ 1100) => rMirror_any W H px py q x y ao n cap wx (by omega) (by omega) (by omega) (by omega) (by omega) (by omega) (by omega) (by omega) a0 a1 a2 a3)
  have CC := Lib.hid (fun wx (hb : Below w.heap.size w wx) => rwCopy_any n bk ok ck K bb ob cb B wx (by rw [s.n0]; exact Nat.mul_le_mul s.w0 s.h0) (by omega) (Nat.lt_of_lt_of_le lbk hb.size) (Nat.lt_of_lt_of_le lbb hb.size) (hNK.below hb lbk) (hNB.below hb lbb))
  have hmk := fun wx => run_zerosS n (by omega) wx
  have HS := Lib.hid s
  clear e0 eq V q0 q1 b0 b1 p0 p1 p2 p3 hNK hNB s
  go_enter Tryd.func71, Tryd.ntmps71
  go_wp2
  obtain ⟨t0, t1, t2, t3, hb0, hs0⟩ := shp_blocks w 24 27 31 27 (.int .i64 W) (.int .i64 H) (.slice ao n cap) (.slice (some ⟨bk, ok, none⟩) n ck) (.slice (some ⟨bb, ob, none⟩) n cb) (.int .i64 px) (.int .i64 py) (.slice none 0 0) (.slice none 0 0)
  obtain ⟨w0, hw0⟩ : ∃ w0, w0 = ((((w.alloc (.cells #[.int .i64 W, .int .i64 H, .slice ao n cap] 24)).alloc (.cells #[.slice (some ⟨bk, ok, none⟩) n ck, .slice (some ⟨bb, ob, none⟩) n cb] 27)).alloc (.cells #[.int .i64 px, .int .i64 py] 31)).alloc (.cells #[.slice none 0 0, .slice none 0 0] 27)) := ⟨_, rfl⟩
  rw [← hw0] at t0 t1 t2 t3 hb0 hs0 ⊢
  have lw0 : w.heap.size + 3 < w0.heap.size := by omega
  clear hw0 hs0
  have T0 := Lib.hid t0
  have T1 := Lib.hid t1
  have T2 := Lib.hid t2
  have T3 := Lib.hid t3
  have g0 := t0.c0
  have g1 := t0.c1
  have g2 := t0.c2
  have k0 := t1.c0
  have k1 := t1.c1
  have q0 := t2.c0
  have q1 := t2.c1
  clear t0 t1 t2 t3
  go_region_held3 (fun w' => w'.cell? ⟨w.heap.size, 0, none⟩ = some (.int .i64 W) ∧ w'.cell? ⟨w.heap.size, 1, none⟩ = some (.int .i64 H) ∧ w'.cell? ⟨w.heap.size, 2, none⟩ = some (.slice ao n cap) ∧ w'.cell? ⟨w.heap.size + 1, 0, none⟩ = some (.slice (some ⟨bk, ok, none⟩) n ck) ∧ w'.cell? ⟨w.heap.size + 1, 1, none⟩ = some (.slice (some ⟨bb, ob, none⟩) n cb) ∧ w'.cell? ⟨w.heap.size + 2, 0, none⟩ = some (.int .i64 px) ∧ w'.cell? ⟨w.heap.size + 2, 1, none⟩ = some (.int .i64 py)) (first | (go_split_ands; (try dsimp only); refine ⟨?_, ?_, ?_, ?_, ?_, ?_, ?_⟩ <;> (first | (with_reducible assumption) | (with_reducible exact keep_cell (by assumption) (by first | omega | (simp; done) | (simp; omega)) (by assumption)) | (with_reducible exact (World.cell?_alloc_past _ _ _ (by show _ < _; omega)).trans (by assumption)) | (with_reducible exact (World.cell?_alloc_past _ _ _ (by show _ < _; omega)).trans ((World.cell?_alloc_past _ _ _ (by show _ < _; omega)).symm.trans (by assumption))) | (simp [go_sem]; with_reducible assumption))) | (simp [go_sem, ↓IntWalk.iteOmega, *]; done)) (first | (go_at_call 78; (with_reducible refine (WI.out _).mono ?_); rintro e w1 ⟨rfl, rfl⟩) | (go_at_call 77; (with_reducible refine (SE.out _ _ _ (by (repeat' (first | (with_reducible exact Below.refl _ _) | (with_reducible refine Below.setCell ?_ (by first | omega | (simp; done) | (simp; omega)) _) | (with_reducible refine Below.alloc ?_ (by first | omega | (simp; done) | (simp; omega)) _) | (with_reducible refine Below.drew ?_) | (with_reducible refine below_drewN ?_ _) | (with_reducible refine Below.trans ?_ (Below.mono (by assumption) (by first | omega | (simp; done) | (simp; omega))))))) (by first | (simp; done) | (simp; omega)) (by simp [go_sem, ↓IntWalk.iteOmega]) (by simp [go_sem, ↓IntWalk.iteOmega])).mono ?_); rintro e w1 ⟨rfl, hb⟩; obtain ⟨hc, hf, hz⟩ := bcall hb; (try simp at hc hf hz)))
  all_goals
    rename_i hX9
    clear hX9
    have HX := Lib.hid (show Below w0.heap.size w0 w1 from by (repeat' (first | (with_reducible exact Below.refl _ _) | (with_reducible refine Below.setCell ?_ (by first | omega | (simp; done) | (simp; omega)) _) | (with_reducible refine Below.alloc ?_ (by first | omega | (simp; done) | (simp; omega)) _) | (with_reducible refine Below.drew ?_) | (with_reducible refine below_drewN ?_ _) | (with_reducible refine Below.trans ?_ (Below.mono (by assumption) (by first | omega | (simp; done) | (simp; omega)))))))
    clear hb hc hf hz g0 g1 g2 k0 k1 q0 q1 SE WI
    have hW := hb0.trans (HX.out.mono (show w.heap.size ≤ w0.heap.size by omega))
    have hsX := HX.out.size
    have t0 := T0.out.below HX.out (show w.heap.size < w0.heap.size by omega)
    have c2 := t0.c2
    have HW := Lib.hid hW
    have lw1 : w.heap.size + 3 < w1.heap.size := by omega
    clear t0 hW
    go_wp2
    have HR0 := Lib.hid (rowI_zeros w1 n)
    have hz0 : Below w1.heap.size w1 (w1.alloc (.cells (zerosI n) 3)) := (Below.refl _ _).alloc (Nat.le_refl _) _
    have HZ0 := Lib.hid hz0
    clear hz0
    go_loopw [16] (fun i wr => ∃ k : Nat, k ≤ n ∧ i = .int .i64 k ∧ Hid (UpI w1 w1.heap.size n (shpS W (inD px py q) (fun _ _ => 1)) k wr)) (fun i _ => n - (intOf i).toNat)
    case atStart => exact ⟨0, Nat.zero_le _, rfl, Lib.hid ⟨rowI_congr HR0.out (fun j hj => by simp [upS]), HZ0.out⟩⟩
    case round =>
      obtain ⟨k, hk, rfl, HH⟩ := hrel
      have hBr := HH.out.below
      have hXr := HX.out.trans (hBr.mono hsX)
      have t0 := T0.out.below hXr (by omega)
      have t1 := T1.out.below hXr (by omega)
      have t2 := T2.out.below hXr (by omega)
      have t3 := T3.out.below hXr (by omega)
      have g0 := t0.c0
      have g1 := t0.c1
      have g2 := t0.c2
      have q0 := t2.c0
      have q1 := t2.c1
      have lwr : w.heap.size + 3 < wr.heap.size := t3.lt
      have HXr := Lib.hid hXr
      have HBr := Lib.hid hBr
      by_cases hlk : k < n
      · have p0 : (0 : Int) ≤ (k : Int) := by omega
        have p1 : (k : Int) < (n : Int) := by omega
        have n1' := n1
        obtain ⟨x, hx⟩ : ∃ x, x = k % W := ⟨_, rfl⟩
        obtain ⟨y, hy⟩ : ∃ y, y = k / W := ⟨_, rfl⟩
        have tm : (k : Int).tmod (W : Int) = (x : Int) := by rw [Int.tmod_eq_emod_of_nonneg (by omega), hx]; rfl
        have td : (k : Int).tdiv (W : Int) = (y : Int) := by rw [Int.tdiv_eq_ediv_of_nonneg (by omega), hy]; rfl
        have hxl : x < W := by rw [hx]; exact Nat.mod_lt _ (by omega)
        have hy5 : y ≤ k := by rw [hy]; exact Nat.div_le_self _ _
        have hyl : y < H := by rw [hy]; have := HS.out.n0; exact Nat.div_lt_of_lt_mul (by omega)
        have wne : ¬ W = 0 := by omega
        have e0 : ((W : Int) == 0) = false := beq_eq_false_iff_ne.2 (by omega)
        have e3 : IntKind.i64.wrap (y : Int) = (y : Int) := IntWalk.i64_in _ ⟨by omega, by omega⟩
        have e4 : IntKind.i64.wrap (x : Int) = (x : Int) := IntWalk.i64_in _ ⟨by omega, by omega⟩
        have hon : misS W H (inD px py q) (x : Int) (y : Int) = !(inD px py q (x : Int) (y : Int)) := by
          unfold misS
          rw [decide_eq_true (show OnG W H (x : Int) (y : Int) from ⟨⟨by omega, by omega⟩, by omega, by omega⟩)]
          rfl
        have IDk := Lib.hid (fun wx => ID.out (x : Int) (y : Int) wx)
        rw [hon, Bool.not_not] at IDk
        have MIk := Lib.hid (fun wx => MI.out (x : Int) (y : Int) wx (by omega) (by omega) (by omega) (by omega))
        have hS : shpS W (inD px py q) (fun _ _ => 1) k = if inD px py q (x : Int) (y : Int) = true then 1 else 0 := by unfold shpS; rw [← hx, ← hy]
        obtain ⟨t, ht⟩ : ∃ t, t = inD px py q (x : Int) (y : Int) := ⟨_, rfl⟩
        rw [← ht] at IDk hS
        have HSK := Lib.hid hS
        have cR := (HH.out.row.2 k hlk).1
        have fR := (HH.out.row.2 k hlk).2
        have lP := HH.out.row.1
        have lPw : w.heap.size + 3 < w1.heap.size := lw1
        clear t0 t1 t2 t3 hx hy hon ht hS hBr hXr
        go_wp2
        go_quiet (fail)
        obtain ⟨w2, hw2⟩ : ∃ w2, w2 = wr.drewN nq := ⟨_, rfl⟩
        have b2 : Below wr.heap.size wr w2 := by rw [hw2]; exact below_drewN (Below.refl _ _) _
        rw [← hw2]
        have g0 := keep_cell b2 (by omega) g0
        have g1 := keep_cell b2 (by omega) g1
        have g2 := keep_cell b2 (by omega) g2
        have q0 := keep_cell b2 (by omega) q0
        have q1 := keep_cell b2 (by omega) q1
        have s2 := b2.size
        have cR2 := keep_cell b2 lP cR
        have fR2 := (b2.frozen (p := ⟨w1.heap.size, k, none⟩) lP).trans fR
        have B2 := Lib.hid b2
        clear hw2 cR fR
        cases t
        · go_wp2_with (go_at_call 141; (with_reducible refine (IDk.out _).mono ?_); rintro e w1 ⟨rfl, hb⟩; obtain ⟨hc, hf, hz⟩ := bcall hb; (try simp at hc hf hz))
          go_roundw
          case rel =>
            exact ⟨k + 1, by omega, by go_num, Lib.hid (upI_skip HH.out (B2.out.trans (Below.mono (show Below w2.heap.size w2 w1 from by (repeat' (first | (with_reducible exact Below.refl _ _) | (with_reducible refine Below.setCell ?_ (by first | omega | (simp; done) | (simp; omega)) _) | (with_reducible refine Below.alloc ?_ (by first | omega | (simp; done) | (simp; omega)) _) | (with_reducible refine Below.drew ?_) | (with_reducible refine below_drewN ?_ _) | (with_reducible refine Below.trans ?_ (Below.mono (by assumption) (by first | omega | (simp; done) | (simp; omega))))))) B2.out.size)) (by rw [HSK.out]; rfl))⟩
          case measure => simp [intOf]; omega
        · go_wp2_with (first | (go_at_call 141; (with_reducible refine (IDk.out _).mono ?_); rintro e w1 ⟨rfl, hb⟩; obtain ⟨hc, hf, hz⟩ := bcall hb; (try simp at hc hf hz)) | (go_at_call 142; (with_reducible refine (MIk.out _).mono ?_); rintro e w1 ⟨rfl, hb⟩; obtain ⟨hc, hf, hz⟩ := bcall hb; (try simp at hc hf hz)))
          go_roundw
          case rel =>
            exact ⟨k + 1, by omega, by go_num, Lib.hid (upI_step HH.out (B2.out.trans (Below.mono (show Below w2.heap.size w2 w1 from by (repeat' (first | (with_reducible exact Below.refl _ _) | (with_reducible refine Below.setCell ?_ (by first | omega | (simp; done) | (simp; omega)) _) | (with_reducible refine Below.alloc ?_ (by first | omega | (simp; done) | (simp; omega)) _) | (with_reducible refine Below.drew ?_) | (with_reducible refine below_drewN ?_ _) | (with_reducible refine Below.trans ?_ (Below.mono (by assumption) (by first | omega | (simp; done) | (simp; omega))))))) B2.out.size)) hlk (by rw [HSK.out]; rfl) (Nat.le_refl _))⟩
          case measure => simp [intOf]; omega
      · obtain rfl : n = k := by omega
        have k0 := t1.c0
        have k1 := t1.c1
        have r0 := t3.c0
        have r1 := t3.c1
        have rf0 := t3.f0 0
        have rf1 := t3.f0 1
        have hWr := HW.out.trans (hBr.mono HW.out.size)
        have HWr := Lib.hid hWr
        have lP := HH.out.row.1
        clear t0 t1 t2 t3 g0 g1 g2 q0 q1 hBr hXr hWr c2
        go_wp2_with (go_at_call 80; refine (rput_any n w1.heap.size 0 n (shpS W (inD px py q) (fun _ _ => 1)) bk ok ck K bb ob cb B b _ (by rw [HS.out.n0]; exact Nat.mul_le_mul HS.out.w0 HS.out.h0) (by omega) lP (Nat.lt_of_lt_of_le lbk HWr.out.size) (Nat.lt_of_lt_of_le lbb HWr.out.size) (upI_nums HH.out) (fun wx hx => CC.out wx (HWr.out.trans (hx.mono HWr.out.size)))).mono ?_; intro e w5 hP5; obtain ⟨ak, ab, m5, c5, d5, z5, rfl, hb5, hst⟩ := putR_store (R := w.heap.size + 3) hP5 HWr.out (by omega) (by omega); clear hP5; obtain ⟨hc5, hf5, hz5⟩ := bcall hb5; (try simp at hc5 hf5 hz5))
        refine bodyPost_ret (v := .tuple #[.agg #[.slice (ak) m5 c5, .slice (ab) m5 d5], .int .i64 z5]) (by simp [results, Tryd.results71, go_sem, ↓IntWalk.iteOmega, *]) rfl ?_
        exact hst _ rfl

set_option maxRecDepth 100000 in
set_option maxHeartbeats 16000000 in
theorem rsmooth_ok (W H n cap : Nat) (ao : Option Addr) (bk ok ck bb ob cb : Nat) (K B : Nat → Int) (px py q b : Int) (w : World) (s : Sides W H n) (hp : OnG W H px py) (q0 : 0 ≤ q) (q1 : q ≤ 10000) (b0 : 1 ≤ b) (b1 : b ≤ 9)
    (lbk : bk < w.heap.size) (hNK : NumsAt w bk ok n K) (lbb : bb < w.heap.size) (hNB : NumsAt w bb ob n B)
    (V : ∀ wx, Below w.heap.size w wx → Calls Tryd.prog 147 #[.agg #[.int .i64 W, .int .i64 H, .slice (ao) n cap], .agg #[.slice (some ⟨bk, ok, none⟩) n ck, .slice (some ⟨bb, ob, none⟩) n cb]] wx fun e w' => e = .returned (.bool true) ∧ Below wx.heap.size wx w') :
    Calls Tryd.prog 71 #[.agg #[.int .i64 W, .int .i64 H, .slice (ao) n cap], .agg #[.slice (some ⟨bk, ok, none⟩) n ck, .slice (some ⟨bb, ob, none⟩) n cb], .agg #[.int .i64 px, .int .i64 py], .int .i64 q, .int .i64 b, .bool true] w (PutR n (shpS W (inD px py q) (smoK W H (inD px py q))) K B b w) := by
  have n1 := s.n1
  have sw0 := s.w0
  have sw1 := s.w1
  have sh0 := s.h0
  have sh1 := s.h1
  have SE := Lib.hid (fun wx (bp cp : Nat) (hb : Below w.heap.size w wx) (lp : bp < wx.heap.size) (c0 : wx.cell? ⟨bp, 0, none⟩ = some (.int .i64 px)) (c1 : wx.cell? ⟨bp, 1, none⟩ = some (.int .i64 py)) =>
    (rShErr_any W H ao n cap (some ⟨bk, ok, none⟩) n ck (some ⟨bb, ob, none⟩) n cb (fun _ => px) (fun _ => py) b bp 1 cp true true wx (by omega) lp (pts_one c0 c1) (fun _ => ⟨by omega, by omega, by omega, by omega⟩) (fun wy hy => V wy (hb.trans (hy.mono hb.size)))))
  have e0 : rErr true (true && onA W H (fun _ => px) (fun _ => py) 1) b = 0 := by simp [rErr, onA, hp, b0, b1]
  rw [e0] at SE
  have eq : decide ((0 : Int) ≤ q ∧ q ≤ 10000) = true := decide_eq_true ⟨q0, q1⟩
  have WI := Lib.hid (fun wx => within3_any q 0 10000 wx)
  rw [eq] at WI
  obtain ⟨⟨p0, p1⟩, p2, p3⟩ := hp
  have ID := Lib.hid (fun x y wx => rInDisc_any W H px py q x y ao n cap wx (by omega) (by omega) (by omega) (by omega) (by omega) (by omega) (by omega) (by omega))
  have MI := Lib.hid (fun x y wx (a0 : -1 ≤ x) (a1 : x ≤ 1100) (a2 : -1 ≤ y) (a3 : y ≤ 1100) => rMirror_any W H px py q x y ao n cap wx (by omega) (by omega) (by omega) (by omega) (by omega) (by omega) (by omega) (by omega) a0 a1 a2 a3)
  have CC := Lib.hid (fun wx (hb : Below w.heap.size w wx) => rwCopy_any n bk ok ck K bb ob cb B wx (by rw [s.n0]; exact Nat.mul_le_mul s.w0 s.h0) (by omega) (Nat.lt_of_lt_of_le lbk hb.size) (Nat.lt_of_lt_of_le lbb hb.size) (hNK.below hb lbk) (hNB.below hb lbb))
  have hmk := fun wx => run_zerosS n (by omega) wx
  have HS := Lib.hid s
  clear e0 eq V q0 q1 b0 b1 p0 p1 p2 p3 hNK hNB s
  go_enter Tryd.func71, Tryd.ntmps71
  go_wp2
  obtain ⟨t0, t1, t2, t3, hb0, hs0⟩ := shp_blocks w 24 27 31 27 (.int .i64 W) (.int .i64 H) (.slice ao n cap) (.slice (some ⟨bk, ok, none⟩) n ck) (.slice (some ⟨bb, ob, none⟩) n cb) (.int .i64 px) (.int .i64 py) (.slice none 0 0) (.slice none 0 0)
  obtain ⟨w0, hw0⟩ : ∃ w0, w0 = ((((w.alloc (.cells #[.int .i64 W, .int .i64 H, .slice ao n cap] 24)).alloc (.cells #[.slice (some ⟨bk, ok, none⟩) n ck, .slice (some ⟨bb, ob, none⟩) n cb] 27)).alloc (.cells #[.int .i64 px, .int .i64 py] 31)).alloc (.cells #[.slice none 0 0, .slice none 0 0] 27)) := ⟨_, rfl⟩
  rw [← hw0] at t0 t1 t2 t3 hb0 hs0 ⊢
  have lw0 : w.heap.size + 3 < w0.heap.size := by omega
  clear hw0 hs0
  have T0 := Lib.hid t0
  have T1 := Lib.hid t1
  have T2 := Lib.hid t2
  have T3 := Lib.hid t3
  have g0 := t0.c0
  have g1 := t0.c1
  have g2 := t0.c2
  have k0 := t1.c0
  have k1 := t1.c1
  have q0 := t2.c0
  have q1 := t2.c1
  clear t0 t1 t2 t3
  go_region_held3 (fun w' => w'.cell? ⟨w.heap.size, 0, none⟩ = some (.int .i64 W) ∧ w'.cell? ⟨w.heap.size, 1, none⟩ = some (.int .i64 H) ∧ w'.cell? ⟨w.heap.size, 2, none⟩ = some (.slice ao n cap) ∧ w'.cell? ⟨w.heap.size + 1, 0, none⟩ = some (.slice (some ⟨bk, ok, none⟩) n ck) ∧ w'.cell? ⟨w.heap.size + 1, 1, none⟩ = some (.slice (some ⟨bb, ob, none⟩) n cb) ∧ w'.cell? ⟨w.heap.size + 2, 0, none⟩ = some (.int .i64 px) ∧ w'.cell? ⟨w.heap.size + 2, 1, none⟩ = some (.int .i64 py)) (first | (go_split_ands; (try dsimp only); refine ⟨?_, ?_, ?_, ?_, ?_, ?_, ?_⟩ <;> (first | (with_reducible assumption) | (with_reducible exact keep_cell (by assumption) (by first | omega | (simp; done) | (simp; omega)) (by assumption)) | (with_reducible exact (World.cell?_alloc_past _ _ _ (by show _ < _; omega)).trans (by assumption)) | (with_reducible exact (World.cell?_alloc_past _ _ _ (by show _ < _; omega)).trans ((World.cell?_alloc_past _ _ _ (by show _ < _; omega)).symm.trans (by assumption))) | (simp [go_sem]; with_reducible assumption))) | (simp [go_sem, ↓IntWalk.iteOmega, *]; done)) (first | (go_at_call 78; (with_reducible refine (WI.out _).mono ?_); rintro e w1 ⟨rfl, rfl⟩) | (go_at_call 77; (with_reducible refine (SE.out _ _ _ (by (repeat' (first | (with_reducible exact Below.refl _ _) | (with_reducible refine Below.setCell ?_ (by first | omega | (simp; done) | (simp; omega)) _) | (with_reducible refine Below.alloc ?_ (by first | omega | (simp; done) | (simp; omega)) _) | (with_reducible refine Below.drew ?_) | (with_reducible refine below_drewN ?_ _) | (with_reducible refine Below.trans ?_ (Below.mono (by assumption) (by first | omega | (simp; done) | (simp; omega))))))) (by first | (simp; done) | (simp; omega)) (by simp [go_sem, ↓IntWalk.iteOmega]) (by simp [go_sem, ↓IntWalk.iteOmega])).mono ?_); rintro e w1 ⟨rfl, hb⟩; obtain ⟨hc, hf, hz⟩ := bcall hb; (try simp at hc hf hz)))
  all_goals
    rename_i hX9
    clear hX9
    have HX := Lib.hid (show Below w0.heap.size w0 w1 from by (repeat' (first | (with_reducible exact Below.refl _ _) | (with_reducible refine Below.setCell ?_ (by first | omega | (simp; done) | (simp; omega)) _) | (with_reducible refine Below.alloc ?_ (by first | omega | (simp; done) | (simp; omega)) _) | (with_reducible refine Below.drew ?_) | (with_reducible refine below_drewN ?_ _) | (with_reducible refine Below.trans ?_ (Below.mono (by assumption) (by first | omega | (simp; done) | (simp; omega)))))))
    clear hb hc hf hz g0 g1 g2 k0 k1 q0 q1 SE WI
    have hW := hb0.trans (HX.out.mono (show w.heap.size ≤ w0.heap.size by omega))
    have hsX := HX.out.size
    have t0 := T0.out.below HX.out (show w.heap.size < w0.heap.size by omega)
    have c2 := t0.c2
    have HW := Lib.hid hW
    have lw1 : w.heap.size + 3 < w1.heap.size := by omega
    clear t0 hW
    go_wp2
    have HR0 := Lib.hid (rowI_zeros w1 n)
    have hz0 : Below w1.heap.size w1 (w1.alloc (.cells (zerosI n) 3)) := (Below.refl _ _).alloc (Nat.le_refl _) _
    have HZ0 := Lib.hid hz0
    clear hz0
    go_loopw [16] (fun i wr => ∃ k : Nat, k ≤ n ∧ i = .int .i64 k ∧ Hid (UpI w1 w1.heap.size n (shpS W (inD px py q) (smoK W H (inD px py q))) k wr)) (fun i _ => n - (intOf i).toNat)
    case atStart => exact ⟨0, Nat.zero_le _, rfl, Lib.hid ⟨rowI_congr HR0.out (fun j hj => by simp [upS]), HZ0.out⟩⟩
    case round =>
      obtain ⟨k, hk, rfl, HH⟩ := hrel
      have hBr := HH.out.below
      have hXr := HX.out.trans (hBr.mono hsX)
      have t0 := T0.out.below hXr (by omega)
      have t1 := T1.out.below hXr (by omega)
      have t2 := T2.out.below hXr (by omega)
      have t3 := T3.out.below hXr (by omega)
      have g0 := t0.c0
      have g1 := t0.c1
      have g2 := t0.c2
      have q0 := t2.c0
      have q1 := t2.c1
      have lwr : w.heap.size + 3 < wr.heap.size := t3.lt
      have HXr := Lib.hid hXr
      have HBr := Lib.hid hBr
      by_cases hlk : k < n
      · have p0 : (0 : Int) ≤ (k : Int) := by omega
        have p1 : (k : Int) < (n : Int) := by omega
        have n1' := n1
        obtain ⟨x, hx⟩ : ∃ x, x = k % W := ⟨_, rfl⟩
        obtain ⟨y, hy⟩ : ∃ y, y = k / W := ⟨_, rfl⟩
        have tm : (k : Int).tmod (W : Int) = (x : Int) := by rw [Int.tmod_eq_emod_of_nonneg (by omega), hx]; rfl
        have td : (k : Int).tdiv (W : Int) = (y : Int) := by rw [Int.tdiv_eq_ediv_of_nonneg (by omega), hy]; rfl
        have hxl : x < W := by rw [hx]; exact Nat.mod_lt _ (by omega)
        have hy5 : y ≤ k := by rw [hy]; exact Nat.div_le_self _ _
        have hyl : y < H := by rw [hy]; have := HS.out.n0; exact Nat.div_lt_of_lt_mul (by omega)
        have wne : ¬ W = 0 := by omega
        have e0 : ((W : Int) == 0) = false := beq_eq_false_iff_ne.2 (by omega)
        have e3 : IntKind.i64.wrap (y : Int) = (y : Int) := IntWalk.i64_in _ ⟨by omega, by omega⟩
        have e4 : IntKind.i64.wrap (x : Int) = (x : Int) := IntWalk.i64_in _ ⟨by omega, by omega⟩
        have hon : misS W H (inD px py q) (x : Int) (y : Int) = !(inD px py q (x : Int) (y : Int)) := by
          unfold misS
          rw [decide_eq_true (show OnG W H (x : Int) (y : Int) from ⟨⟨by omega, by omega⟩, by omega, by omega⟩)]
          rfl
        have IDk := Lib.hid (fun wx => ID.out (x : Int) (y : Int) wx)
        rw [hon, Bool.not_not] at IDk
        have MIk := Lib.hid (fun wx => MI.out (x : Int) (y : Int) wx (by omega) (by omega) (by omega) (by omega))
        have hS : shpS W (inD px py q) (smoK W H (inD px py q)) k = if inD px py q (x : Int) (y : Int) = true then (smoK W H (inD px py q) (x : Int) (y : Int)) else 0 := by unfold shpS; rw [← hx, ← hy]
        obtain ⟨t, ht⟩ : ∃ t, t = inD px py q (x : Int) (y : Int) := ⟨_, rfl⟩
        rw [← ht] at IDk hS
        have HSK := Lib.hid hS
        have cR := (HH.out.row.2 k hlk).1
        have fR := (HH.out.row.2 k hlk).2
        have lP := HH.out.row.1
        have lPw : w.heap.size + 3 < w1.heap.size := lw1
        clear t0 t1 t2 t3 hx hy hon ht hS hBr hXr
        go_wp2
        go_quiet (fail)
        obtain ⟨w2, hw2⟩ : ∃ w2, w2 = wr.drewN nq := ⟨_, rfl⟩
        have b2 : Below wr.heap.size wr w2 := by rw [hw2]; exact below_drewN (Below.refl _ _) _
        rw [← hw2]
        have g0 := keep_cell b2 (by omega) g0
        have g1 := keep_cell b2 (by omega) g1
        have g2 := keep_cell b2 (by omega) g2
        have q0 := keep_cell b2 (by omega) q0
        have q1 := keep_cell b2 (by omega) q1
        have s2 := b2.size
        have cR2 := keep_cell b2 lP cR
        have fR2 := (b2.frozen (p := ⟨w1.heap.size, k, none⟩) lP).trans fR
        have B2 := Lib.hid b2
        clear hw2 cR fR
        cases t
        · go_wp2_with (go_at_call 141; (with_reducible refine (IDk.out _).mono ?_); rintro e w1 ⟨rfl, hb⟩; obtain ⟨hc, hf, hz⟩ := bcall hb; (try simp at hc hf hz))
          go_roundw
          case rel =>
            exact ⟨k + 1, by omega, by go_num, Lib.hid (upI_skip HH.out (B2.out.trans (Below.mono (show Below w2.heap.size w2 w1 from by (repeat' (first | (with_reducible exact Below.refl _ _) | (with_reducible refine Below.setCell ?_ (by first | omega | (simp; done) | (simp; omega)) _) | (with_reducible refine Below.alloc ?_ (by first | omega | (simp; done) | (simp; omega)) _) | (with_reducible refine Below.drew ?_) | (with_reducible refine below_drewN ?_ _) | (with_reducible refine Below.trans ?_ (Below.mono (by assumption) (by first | omega | (simp; done) | (simp; omega))))))) B2.out.size)) (by rw [HSK.out]; rfl))⟩
          case measure => simp [intOf]; omega
        · go_wp2_with (first | (go_at_call 141; (with_reducible refine (IDk.out _).mono ?_); rintro e w1 ⟨rfl, hb⟩; obtain ⟨hc, hf, hz⟩ := bcall hb; (try simp at hc hf hz)) | (go_at_call 142; (with_reducible refine (MIk.out _).mono ?_); rintro e w1 ⟨rfl, hb⟩; obtain ⟨hc, hf, hz⟩ := bcall hb; (try simp at hc hf hz)))
          go_roundw
          case rel =>
            exact ⟨k + 1, by omega, by go_num, Lib.hid (upI_step HH.out (B2.out.trans (Below.mono (show Below w2.heap.size w2 w1 from by (repeat' (first | (with_reducible exact Below.refl _ _) | (with_reducible refine Below.setCell ?_ (by first | omega | (simp; done) | (simp; omega)) _) | (with_reducible refine Below.alloc ?_ (by first | omega | (simp; done) | (simp; omega)) _) | (with_reducible refine Below.drew ?_) | (with_reducible refine below_drewN ?_ _) | (with_reducible refine Below.trans ?_ (Below.mono (by assumption) (by first | omega | (simp; done) | (simp; omega))))))) B2.out.size)) hlk (by rw [HSK.out]; rfl) (Nat.le_refl _))⟩
          case measure => simp [intOf]; omega
      · obtain rfl : n = k := by omega
        have k0 := t1.c0
        have k1 := t1.c1
        have r0 := t3.c0
        have r1 := t3.c1
        have rf0 := t3.f0 0
        have rf1 := t3.f0 1
        have hWr := HW.out.trans (hBr.mono HW.out.size)
        have HWr := Lib.hid hWr
        have lP := HH.out.row.1
        clear t0 t1 t2 t3 g0 g1 g2 q0 q1 hBr hXr hWr c2
        go_wp2_with (go_at_call 80; refine (rput_any n w1.heap.size 0 n (shpS W (inD px py q) (smoK W H (inD px py q))) bk ok ck K bb ob cb B b _ (by rw [HS.out.n0]; exact Nat.mul_le_mul HS.out.w0 HS.out.h0) (by omega) lP (Nat.lt_of_lt_of_le lbk HWr.out.size) (Nat.lt_of_lt_of_le lbb HWr.out.size) (upI_nums HH.out) (fun wx hx => CC.out wx (HWr.out.trans (hx.mono HWr.out.size)))).mono ?_; intro e w5 hP5; obtain ⟨ak, ab, m5, c5, d5, z5, rfl, hb5, hst⟩ := putR_store (R := w.heap.size + 3) hP5 HWr.out (by omega) (by omega); clear hP5; obtain ⟨hc5, hf5, hz5⟩ := bcall hb5; (try simp at hc5 hf5 hz5))
        refine bodyPost_ret (v := .tuple #[.agg #[.slice (ak) m5 c5, .slice (ab) m5 d5], .int .i64 z5]) (by simp [results, Tryd.results71, go_sem, ↓IntWalk.iteOmega, *]) rfl ?_
        exact hst _ rfl
end Go.Proofs.YtglkikdjchpmjaaDoor
