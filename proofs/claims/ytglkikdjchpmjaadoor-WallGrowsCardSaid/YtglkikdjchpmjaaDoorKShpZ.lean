/- Boxes: by the reference. -/
import Derived.Test.YtglkikdjchpmjaaDoorKShpW
namespace Go.Proofs.YtglkikdjchpmjaaDoor
set_option linter.unusedSimpArgs false
set_option linter.unusedVariables false
open Go.RowKit
attribute [local go_sem] Oper.semAt_some

theorem rBetween_eq (n a b : Int) (t : Bool) (w : World) (h : Hid (decide (min a b ≤ n ∧ n ≤ max a b) = t)) : Calls Tryd.prog 79 #[.int .i64 n, .int .i64 a, .int .i64 b] w fun e w' => e = .returned (.bool t) ∧ w = w' := by
  obtain rfl := h.out
  exact rBetween_any n a b w
def pt2 (a b : Int) (j : Nat) : Int := if j = 0 then a else b
theorem pts_two {wx : World} {bp : Nat} {px py rx ry : Int} (c0 : wx.cell? ⟨bp, 0, none⟩ = some (.int .i64 px)) (c1 : wx.cell? ⟨bp, 1, none⟩ = some (.int .i64 py)) (c2 : wx.cell? ⟨bp, 2, none⟩ = some (.int .i64 rx)) (c3 : wx.cell? ⟨bp, 3, none⟩ = some (.int .i64 ry)) : PtsAt wx bp 2 (pt2 px rx) (pt2 py ry) := fun j hj => by
  match j, hj with
  | 0, _ => exact ⟨c0, c1⟩
  | 1, _ => exact ⟨c2, c3⟩
theorem onA_one (W H px py : Int) : onA W H (fun _ => px) (fun _ => py) 1 = decide (OnG W H px py) := by simp [onA]
theorem onA_two (W H px py rx ry : Int) : onA W H (pt2 px rx) (pt2 py ry) 2 = (decide (OnG W H px py) && decide (OnG W H rx ry)) := by simp [onA, pt2]

set_option maxRecDepth 100000 in
set_option maxHeartbeats 16000000 in
theorem rbox_ok (W H n cap : Nat) (ao : Option Addr) (bk ok ck bb ob cb : Nat) (K B : Nat → Int) (px py rx ry kind b : Int) (w : World) (s : Sides W H n) (hp : OnG W H px py) (hr : OnG W H rx ry) (kd1 : 1 ≤ kind) (kd2 : kind ≤ 3) (b0 : 1 ≤ b) (b1 : b ≤ 9)
    (lbk : bk < w.heap.size) (hNK : NumsAt w bk ok n K) (lbb : bb < w.heap.size) (hNB : NumsAt w bb ob n B)
    (V : ∀ wx, Below w.heap.size w wx → Calls Tryd.prog 147 #[.agg #[.int .i64 W, .int .i64 H, .slice (ao) n cap], .agg #[.slice (some ⟨bk, ok, none⟩) n ck, .slice (some ⟨bb, ob, none⟩) n cb]] wx fun e w' => e = .returned (.bool true) ∧ Below wx.heap.size wx w') :
    Calls Tryd.prog 22 #[.agg #[.int .i64 W, .int .i64 H, .slice (ao) n cap], .agg #[.slice (some ⟨bk, ok, none⟩) n ck, .slice (some ⟨bb, ob, none⟩) n cb], .agg #[.int .i64 px, .int .i64 py], .agg #[.int .i64 rx, .int .i64 ry], .int .i64 kind, .int .i64 b] w (PutR n (shpS W (inB px py rx ry) (fun _ _ => kind)) K B b w) := by
  have n1 := s.n1
  have sw0 := s.w0
  have sw1 := s.w1
  have sh0 := s.h0
  have sh1 := s.h1
  have SE := Lib.hid (fun wx (bp cp : Nat) (hb : Below w.heap.size w wx) (lp : bp < wx.heap.size) (c0 : wx.cell? ⟨bp, 0, none⟩ = some (.int .i64 px)) (c1 : wx.cell? ⟨bp, 1, none⟩ = some (.int .i64 py)) (c2 : wx.cell? ⟨bp, 2, none⟩ = some (.int .i64 rx)) (c3 : wx.cell? ⟨bp, 3, none⟩ = some (.int .i64 ry)) =>
    (rShErr_any W H ao n cap (some ⟨bk, ok, none⟩) n ck (some ⟨bb, ob, none⟩) n cb (pt2 px rx) (pt2 py ry) b bp 2 cp true true wx (by omega) lp (pts_two c0 c1 c2 c3) (fun _ => ⟨by omega, by omega, by omega, by omega⟩) (fun wy hy => V wy (hb.trans (hy.mono hb.size)))))
  have e0 : rErr true (true && onA W H (pt2 px rx) (pt2 py ry) 2) b = 0 := by rw [onA_two, decide_eq_true hp, decide_eq_true hr]; simp [rErr, b0, b1]
  rw [e0] at SE
  have eq : decide ((1 : Int) ≤ kind ∧ kind ≤ 3) = true := decide_eq_true ⟨kd1, kd2⟩
  have WI := Lib.hid (fun wx => within3_any kind 1 3 wx)
  rw [eq] at WI
  have hb01 : ∀ x y : Int, inB px py rx ry x y = (decide (min px rx ≤ x ∧ x ≤ max px rx) && decide (min py ry ≤ y ∧ y ≤ max py ry)) := fun x y => by unfold inB; simp
  have CC := Lib.hid (fun wx (hb : Below w.heap.size w wx) => rwCopy_any n bk ok ck K bb ob cb B wx (by rw [s.n0]; exact Nat.mul_le_mul s.w0 s.h0) (by omega) (Nat.lt_of_lt_of_le lbk hb.size) (Nat.lt_of_lt_of_le lbb hb.size) (hNK.below hb lbk) (hNB.below hb lbb))
  have hmk := fun wx => run_zerosS n (by omega) wx
  have HS := Lib.hid s
  clear e0 eq V kd1 kd2 b0 b1 hp hr hNK hNB s
  go_enter Tryd.func22, Tryd.ntmps22
  go_wp2
  obtain ⟨t0, t1, t2, t5, t3, hb0, hs0⟩ := shp_blocks5 w 24 27 31 31 27 (.int .i64 W) (.int .i64 H) (.slice ao n cap) (.slice (some ⟨bk, ok, none⟩) n ck) (.slice (some ⟨bb, ob, none⟩) n cb) (.int .i64 px) (.int .i64 py) (.int .i64 rx) (.int .i64 ry) (.slice none 0 0) (.slice none 0 0)
  obtain ⟨w0, hw0⟩ : ∃ w0, w0 = (((((w.alloc (.cells #[.int .i64 W, .int .i64 H, .slice ao n cap] 24)).alloc (.cells #[.slice (some ⟨bk, ok, none⟩) n ck, .slice (some ⟨bb, ob, none⟩) n cb] 27)).alloc (.cells #[.int .i64 px, .int .i64 py] 31)).alloc (.cells #[.int .i64 rx, .int .i64 ry] 31)).alloc (.cells #[.slice none 0 0, .slice none 0 0] 27)) := ⟨_, rfl⟩
  rw [← hw0] at t0 t1 t2 t5 t3 hb0 hs0 ⊢
  have lw0 : w.heap.size + 4 < w0.heap.size := by omega
  clear hw0 hs0
  have T0 := Lib.hid t0
  have T1 := Lib.hid t1
  have T2 := Lib.hid t2
  have T3 := Lib.hid t3
  have g0 := t0.c0
  have g1 := t0.c1
  have g2 := t0.c2
  have k0 := t1.c0
  have k1 := t1.c1
  have q0 := t2.c0
  have q1 := t2.c1
  have T5 := Lib.hid t5
  have u0 := t5.c0
  have u1 := t5.c1
  clear t0 t1 t2 t5 t3
  go_region_held3 (fun w' => w'.cell? ⟨w.heap.size, 0, none⟩ = some (.int .i64 W) ∧ w'.cell? ⟨w.heap.size, 1, none⟩ = some (.int .i64 H) ∧ w'.cell? ⟨w.heap.size, 2, none⟩ = some (.slice ao n cap) ∧ w'.cell? ⟨w.heap.size + 1, 0, none⟩ = some (.slice (some ⟨bk, ok, none⟩) n ck) ∧ w'.cell? ⟨w.heap.size + 1, 1, none⟩ = some (.slice (some ⟨bb, ob, none⟩) n cb) ∧ w'.cell? ⟨w.heap.size + 2, 0, none⟩ = some (.int .i64 px) ∧ w'.cell? ⟨w.heap.size + 2, 1, none⟩ = some (.int .i64 py) ∧ w'.cell? ⟨w.heap.size + 3, 0, none⟩ = some (.int .i64 rx) ∧ w'.cell? ⟨w.heap.size + 3, 1, none⟩ = some (.int .i64 ry)) (first | (go_split_ands; (try dsimp only); refine ⟨?_, ?_, ?_, ?_, ?_, ?_, ?_, ?_, ?_⟩ <;> (first | (with_reducible assumption) | (with_reducible exact keep_cell (by assumption) (by first | omega | (simp; done) | (simp; omega)) (by assumption)) | (with_reducible exact (World.cell?_alloc_past _ _ _ (by show _ < _; omega)).trans (by assumption)) | (with_reducible exact (World.cell?_alloc_past _ _ _ (by show _ < _; omega)).trans ((World.cell?_alloc_past _ _ _ (by show _ < _; omega)).symm.trans (by assumption))) | (simp [go_sem]; with_reducible assumption))) | (simp [go_sem, ↓IntWalk.iteOmega, *]; done)) (first | (go_at_call 78; (with_reducible refine (WI.out _).mono ?_); rintro e w1 ⟨rfl, rfl⟩) | (go_at_call 77; (with_reducible refine (SE.out _ _ _ (by (repeat' (first | (with_reducible exact Below.refl _ _) | (with_reducible refine Below.setCell ?_ (by first | omega | (simp; done) | (simp; omega)) _) | (with_reducible refine Below.alloc ?_ (by first | omega | (simp; done) | (simp; omega)) _) | (with_reducible refine Below.drew ?_) | (with_reducible refine below_drewN ?_ _) | (with_reducible refine Below.trans ?_ (Below.mono (by assumption) (by first | omega | (simp; done) | (simp; omega))))))) (by first | (simp; done) | (simp; omega)) (by simp [go_sem, ↓IntWalk.iteOmega]) (by simp [go_sem, ↓IntWalk.iteOmega]) (by simp [go_sem, ↓IntWalk.iteOmega]) (by simp [go_sem, ↓IntWalk.iteOmega])).mono ?_); rintro e w1 ⟨rfl, hb⟩; obtain ⟨hc, hf, hz⟩ := bcall hb; (try simp at hc hf hz)))
  all_goals
    rename_i hX9
    clear hX9
    have HX := Lib.hid (show Below w0.heap.size w0 w1 from by (repeat' (first | (with_reducible exact Below.refl _ _) | (with_reducible refine Below.setCell ?_ (by first | omega | (simp; done) | (simp; omega)) _) | (with_reducible refine Below.alloc ?_ (by first | omega | (simp; done) | (simp; omega)) _) | (with_reducible refine Below.drew ?_) | (with_reducible refine below_drewN ?_ _) | (with_reducible refine Below.trans ?_ (Below.mono (by assumption) (by first | omega | (simp; done) | (simp; omega)))))))
    clear hb hc hf hz g0 g1 g2 k0 k1 q0 q1 u0 u1 SE WI
    have hW := hb0.trans (HX.out.mono (show w.heap.size ≤ w0.heap.size by omega))
    have hsX := HX.out.size
    have t0 := T0.out.below HX.out (show w.heap.size < w0.heap.size by omega)
    have c2 := t0.c2
    have HW := Lib.hid hW
    have lw1 : w.heap.size + 4 < w1.heap.size := by omega
    clear t0 hW
    go_wp2
    have HR0 := Lib.hid (rowI_zeros w1 n)
    have hz0 : Below w1.heap.size w1 (w1.alloc (.cells (zerosI n) 3)) := (Below.refl _ _).alloc (Nat.le_refl _) _
    have HZ0 := Lib.hid hz0
    clear hz0
    go_loopw [16] (fun i wr => ∃ k : Nat, k ≤ n ∧ i = .int .i64 k ∧ Hid (UpI w1 w1.heap.size n (shpS W (inB px py rx ry) (fun _ _ => kind)) k wr)) (fun i _ => n - (intOf i).toNat)
    case atStart => exact ⟨0, Nat.zero_le _, rfl, Lib.hid ⟨rowI_congr HR0.out (fun j hj => by simp [upS]), HZ0.out⟩⟩
    case round =>
      obtain ⟨k, hk, rfl, HH⟩ := hrel
      have hBr := HH.out.below
      have hXr := HX.out.trans (hBr.mono hsX)
      have t0 := T0.out.below hXr (by omega)
      have t1 := T1.out.below hXr (by omega)
      have t2 := T2.out.below hXr (by omega)
      have t5 := T5.out.below hXr (by omega)
      have t3 := T3.out.below hXr (by omega)
      have g0 := t0.c0
      have g1 := t0.c1
      have g2 := t0.c2
      have q0 := t2.c0
      have q1 := t2.c1
      have u0 := t5.c0
      have u1 := t5.c1
      have lwr : w.heap.size + 4 < wr.heap.size := t3.lt
      have HBr := Lib.hid hBr
      have ROW := HH.out.row
      by_cases hlk : k < n
      · have p0 : (0 : Int) ≤ (k : Int) := by omega
        have p1 : (k : Int) < (n : Int) := by omega
        obtain ⟨x, hx⟩ : ∃ x, x = k % W := ⟨_, rfl⟩
        obtain ⟨y, hy⟩ : ∃ y, y = k / W := ⟨_, rfl⟩
        have tm : (k : Int).tmod (W : Int) = (x : Int) := by rw [Int.tmod_eq_emod_of_nonneg (by omega), hx]; rfl
        have td : (k : Int).tdiv (W : Int) = (y : Int) := by rw [Int.tdiv_eq_ediv_of_nonneg (by omega), hy]; rfl
        have hxl : x < W := by rw [hx]; exact Nat.mod_lt _ (by omega)
        have hy5 : y ≤ k := by rw [hy]; exact Nat.div_le_self _ _
        have wne : ¬ W = 0 := by omega
        have e0 : ((W : Int) == 0) = false := beq_eq_false_iff_ne.2 (by omega)
        have e3 : IntKind.i64.wrap (y : Int) = (y : Int) := IntWalk.i64_in _ ⟨by omega, by omega⟩
        have e4 : IntKind.i64.wrap (x : Int) = (x : Int) := IntWalk.i64_in _ ⟨by omega, by omega⟩
        have hS : (shpS W (inB px py rx ry) (fun _ _ => kind)) k = if (decide (min px rx ≤ (x : Int) ∧ (x : Int) ≤ max px rx) && decide (min py ry ≤ (y : Int) ∧ (y : Int) ≤ max py ry)) = true then kind else 0 := by unfold shpS; rw [← hx, ← hy, hb01]
        obtain ⟨ta, hta⟩ : ∃ t, t = decide (min px rx ≤ (x : Int) ∧ (x : Int) ≤ max px rx) := ⟨_, rfl⟩
        obtain ⟨tb, htb⟩ : ∃ t, t = decide (min py ry ≤ (y : Int) ∧ (y : Int) ≤ max py ry) := ⟨_, rfl⟩
        rw [← hta] at hS
        rw [← htb] at hS
        have B1 := Lib.hid (fun wx => rBetween_eq (x : Int) px rx ta wx (Lib.hid hta.symm))
        have B2 := Lib.hid (fun wx => rBetween_eq (y : Int) py ry tb wx (Lib.hid htb.symm))
        clear hta htb
        have HSK := Lib.hid hS
        have cR := (ROW.2 k hlk).1
        have fR := (ROW.2 k hlk).2
        have lP := ROW.1
        clear t0 t1 t2 t3 t5 hx hy hS hBr hXr ROW
        cases ta
        · go_wp2
          refine wp_region_quiet_lit (by kernel_rfl) (by kernel_rfl) ?_
          (iterate 9 (go_big_quiet_step ((go_at_call 79; exact Calls.quiet_of_same ((B1.out _).mono fun _ _ h => ⟨h.1, h.2.symm⟩)))))
          repeat (go_big_quiet_step ((fail)))
          refine wpQuiet_nil ?_
          rintro _ ⟨nq, rfl⟩
          go_wp2
          go_roundw
          case rel => exact ⟨k + 1, by omega, by go_num, Lib.hid (upI_skip HH.out (below_drewN (Below.refl _ _) _) (by rw [HSK.out]; simp))⟩
          case measure => simp [intOf]; omega
        · cases tb
          · go_wp2
            refine wp_region_quiet_lit (by kernel_rfl) (by kernel_rfl) ?_
            (iterate 9 (go_big_quiet_step ((go_at_call 79; exact Calls.quiet_of_same ((B1.out _).mono fun _ _ h => ⟨h.1, h.2.symm⟩)))))
            repeat (go_big_quiet_step ((go_at_call 79; exact Calls.quiet_of_same ((B2.out _).mono fun _ _ h => ⟨h.1, h.2.symm⟩))))
            refine wpQuiet_nil ?_
            rintro _ ⟨nq, rfl⟩
            go_wp2
            go_roundw
            case rel => exact ⟨k + 1, by omega, by go_num, Lib.hid (upI_skip HH.out (below_drewN (Below.refl _ _) _) (by rw [HSK.out]; simp))⟩
            case measure => simp [intOf]; omega
          · go_wp2
            refine wp_region_quiet_lit (by kernel_rfl) (by kernel_rfl) ?_
            (iterate 9 (go_big_quiet_step ((go_at_call 79; exact Calls.quiet_of_same ((B1.out _).mono fun _ _ h => ⟨h.1, h.2.symm⟩)))))
            repeat (go_big_quiet_step ((go_at_call 79; exact Calls.quiet_of_same ((B2.out _).mono fun _ _ h => ⟨h.1, h.2.symm⟩))))
            refine wpQuiet_nil ?_
            rintro _ ⟨nq, rfl⟩
            go_wp2
            go_roundw
            case rel => exact ⟨k + 1, by omega, by go_num, Lib.hid (upI_step HH.out (below_drewN (Below.refl _ _) _) hlk (by rw [HSK.out]; simp) (Nat.le_refl _))⟩
            case measure => simp [intOf]; omega
      · obtain rfl : n = k := by omega
        have k0 := t1.c0
        have k1 := t1.c1
        have r0 := t3.c0
        have r1 := t3.c1
        have rf0 := t3.f0 0
        have rf1 := t3.f0 1
        have hWr := HW.out.trans (hBr.mono HW.out.size)
        have HWr := Lib.hid hWr
        have lP := ROW.1
        clear t0 t1 t2 t3 g0 g1 g2 q0 q1 hBr hXr hWr c2
        go_wp2_with (go_at_call 80; refine (rput_any n w1.heap.size 0 n (shpS W (inB px py rx ry) (fun _ _ => kind)) bk ok ck K bb ob cb B b _ (by rw [HS.out.n0]; exact Nat.mul_le_mul HS.out.w0 HS.out.h0) (by omega) lP (Nat.lt_of_lt_of_le lbk HWr.out.size) (Nat.lt_of_lt_of_le lbb HWr.out.size) (upI_nums HH.out) (fun wx hx => CC.out wx (HWr.out.trans (hx.mono HWr.out.size)))).mono ?_; intro e w5 hP5; obtain ⟨ak, ab, m5, c5, d5, z5, rfl, hb5, hst⟩ := putR_store (R := w.heap.size + 4) hP5 HWr.out (by omega) (by omega); clear hP5; obtain ⟨hc5, hf5, hz5⟩ := bcall hb5; (try simp at hc5 hf5 hz5))
        refine bodyPost_ret (v := .tuple #[.agg #[.slice (ak) m5 c5, .slice (ab) m5 d5], .int .i64 z5]) (by simp [results, Tryd.results22, go_sem, ↓IntWalk.iteOmega, *]) rfl ?_
        exact hst _ rfl
end Go.Proofs.YtglkikdjchpmjaaDoor

/- Slopes: by the reference. -/

namespace Go.Proofs.YtglkikdjchpmjaaDoor
set_option linter.unusedSimpArgs false
set_option linter.unusedVariables false
open Go.RowKit
attribute [local go_sem] Oper.semAt_some

theorem inL_succ (px py rise x y : Int) (k : Nat) : inL px py ((k : Int) + 1) rise x y = (inL px py k rise x y || decide (x = px + k ∧ y = py + rise * k)) := by
  unfold inL
  by_cases h : x - px = (k : Int)
  · have e : x = px + k := by omega
    subst e
    rw [h]
    generalize rise * (k : Int) = z
    rw [Bool.eq_iff_iff]
    simp
    omega
  · generalize rise * (x - px) = z
    generalize rise * (k : Int) = z2
    rw [Bool.eq_iff_iff]
    simp
    omega
theorem sl_on {W : Nat} {px py rise kd : Int} {k x y : Nat} (hx : (x : Int) = px + k) (hy : (y : Int) = py + rise * k) (hxl : x < W) (j : Nat) :
    shpS W (inL px py ((k : Int) + 1) rise) (fun _ _ => kd) j = if j = x + W * y then kd else shpS W (inL px py k rise) (fun _ _ => kd) j := by
  unfold shpS
  rw [inL_succ, ← hx, ← hy]
  by_cases h : j = x + W * y
  · have h1 : j % W = x := by rw [h, Nat.add_mul_mod_self_left, Nat.mod_eq_of_lt hxl]
    have h2 : j / W = y := by rw [h, Nat.add_mul_div_left _ _ (by omega), Nat.div_eq_of_lt hxl, Nat.zero_add]
    rw [if_pos h, h1, h2]
    simp
  · have h3 : ¬ (((j % W : Nat) : Int) = (x : Int) ∧ ((j / W : Nat) : Int) = (y : Int)) := fun hh => h (by
      have e1 : j % W = x := by omega
      have e2 : j / W = y := by omega
      have := Nat.mod_add_div j W
      rw [e1, e2] at this
      exact this.symm)
    rw [decide_eq_false h3, Bool.or_false, if_neg h]
theorem sl_off {W H : Nat} {px py rise kd : Int} {k : Nat} (h : ¬ OnG W H (px + k) (py + rise * k)) {j : Nat} (hj : j < W * H) (hW : 0 < W) :
    shpS W (inL px py ((k : Int) + 1) rise) (fun _ _ => kd) j = shpS W (inL px py k rise) (fun _ _ => kd) j := by
  unfold shpS
  rw [inL_succ]
  have h3 : ¬ (((j % W : Nat) : Int) = px + k ∧ ((j / W : Nat) : Int) = py + rise * k) := fun hh => h (by
    rw [← hh.1, ← hh.2]
    have h1 := Nat.mod_lt j hW
    have h2 := Nat.div_lt_of_lt_mul hj
    exact ⟨⟨Int.natCast_nonneg _, by exact_mod_cast h1⟩, Int.natCast_nonneg _, by exact_mod_cast h2⟩)
  rw [decide_eq_false h3, Bool.or_false]
theorem sl_zero (W : Nat) (px py rise kd : Int) (j : Nat) : shpS W (inL px py 0 rise) (fun _ _ => kd) j = 0 := by
  unfold shpS inL
  have : ¬ ((0 ≤ ((j % W : Nat) : Int) - px ∧ ((j % W : Nat) : Int) - px < 0) ∧ ((j / W : Nat) : Int) = py + rise * (((j % W : Nat) : Int) - px)) := fun h => by omega
  rw [decide_eq_false this]
  rfl
/-- What stands while a slope's list is filled. -/
structure SlI (w1 : World) (P n W : Nat) (px py rise kd : Int) (k : Nat) (wr : World) : Prop where
  row : RowI wr P n (shpS W (inL px py k rise) (fun _ _ => kd))
  below : Below w1.heap.size w1 wr
theorem slI_skip {w1 wr X : World} {P n W H k : Nat} {px py rise kd : Int} (h : SlI w1 P n W px py rise kd k wr) (hb : Below wr.heap.size wr X) (hn : n = W * H) (hW : 0 < W) (ho : ¬ OnG W H (px + k) (py + rise * k)) : SlI w1 P n W px py rise kd (k + 1) X :=
  ⟨rowI_congr (h.row.below hb h.row.1) (fun j hj => by
    have := sl_off (kd := kd) ho (hn ▸ hj) hW
    rw [← this]
    rfl), h.below.trans (hb.mono h.below.size)⟩
theorem slI_step {w1 wr X : World} {P n W k x y i : Nat} {px py rise kd : Int} (h : SlI w1 P n W px py rise kd k wr) (hb : Below wr.heap.size wr X) (hx : (x : Int) = px + k) (hy : (y : Int) = py + rise * k) (hxl : x < W) (hi : i = x + W * y) (hin : i < n) (hP : w1.heap.size ≤ P) : SlI w1 P n W px py rise kd (k + 1) (X.setCell ⟨P, i, none⟩ (.int .i64 kd)) :=
  ⟨(h.row.below hb h.row.1).setHere hin (fun j => by
    have := sl_on (kd := kd) hx hy hxl j
    rw [hi]
    exact this), (h.below.trans (hb.mono h.below.size)).setCell (p := ⟨P, i, none⟩) hP _⟩

set_option maxRecDepth 100000 in
set_option maxHeartbeats 16000000 in
theorem rslopeU_ok (W H n cap : Nat) (ao : Option Addr) (bk ok ck bb ob cb : Nat) (K B : Nat → Int) (px py m b : Int) (w : World) (s : Sides W H n) (hp : OnG W H px py) (m0 : 1 ≤ m) (m1 : m ≤ 64) (b0 : 1 ≤ b) (b1 : b ≤ 9)
    (lbk : bk < w.heap.size) (hNK : NumsAt w bk ok n K) (lbb : bb < w.heap.size) (hNB : NumsAt w bb ob n B)
    (V : ∀ wx, Below w.heap.size w wx → Calls Tryd.prog 147 #[.agg #[.int .i64 W, .int .i64 H, .slice (ao) n cap], .agg #[.slice (some ⟨bk, ok, none⟩) n ck, .slice (some ⟨bb, ob, none⟩) n cb]] wx fun e w' => e = .returned (.bool true) ∧ Below wx.heap.size wx w') :
    Calls Tryd.prog 24 #[.agg #[.int .i64 W, .int .i64 H, .slice (ao) n cap], .agg #[.slice (some ⟨bk, ok, none⟩) n ck, .slice (some ⟨bb, ob, none⟩) n cb], .agg #[.int .i64 px, .int .i64 py], .int .i64 m, .bool true, .int .i64 b] w (PutR n (shpS W (inL px py m 1) (fun _ _ => 2)) K B b w) := by
  have n1 := s.n1
  have sw0 := s.w0
  have sw1 := s.w1
  have sh0 := s.h0
  have sh1 := s.h1
  have SE := Lib.hid (fun wx (bp cp : Nat) (hb : Below w.heap.size w wx) (lp : bp < wx.heap.size) (c0 : wx.cell? ⟨bp, 0, none⟩ = some (.int .i64 px)) (c1 : wx.cell? ⟨bp, 1, none⟩ = some (.int .i64 py)) =>
    (rShErr_any W H ao n cap (some ⟨bk, ok, none⟩) n ck (some ⟨bb, ob, none⟩) n cb (fun _ => px) (fun _ => py) b bp 1 cp true true wx (by omega) lp (pts_one c0 c1) (fun _ => ⟨by omega, by omega, by omega, by omega⟩) (fun wy hy => V wy (hb.trans (hy.mono hb.size)))))
  have e0 : rErr true (true && onA W H (fun _ => px) (fun _ => py) 1) b = 0 := by rw [onA_one, decide_eq_true hp]; simp [rErr, b0, b1]
  rw [e0] at SE
  have eq : decide ((1 : Int) ≤ m ∧ m ≤ 64) = true := decide_eq_true ⟨m0, m1⟩
  have WI := Lib.hid (fun wx => within3_any m 1 64 wx)
  rw [eq] at WI
  obtain ⟨⟨p0, p1⟩, p2, p3⟩ := hp
  obtain ⟨M, rfl⟩ := Int.eq_ofNat_of_zero_le (show 0 ≤ m by omega)
  have CC := Lib.hid (fun wx (hb : Below w.heap.size w wx) => rwCopy_any n bk ok ck K bb ob cb B wx (by rw [s.n0]; exact Nat.mul_le_mul s.w0 s.h0) (by omega) (Nat.lt_of_lt_of_le lbk hb.size) (Nat.lt_of_lt_of_le lbb hb.size) (hNK.below hb lbk) (hNB.below hb lbb))
  have hmk := fun wx => run_zerosS n (by omega) wx
  have HS := Lib.hid s
  clear e0 eq V b0 b1 hNK hNB s
  go_enter Tryd.func24, Tryd.ntmps24
  go_wp2
  obtain ⟨t0, t1, t2, t3, hb0, hs0⟩ := shp_blocks w 24 27 31 27 (.int .i64 W) (.int .i64 H) (.slice ao n cap) (.slice (some ⟨bk, ok, none⟩) n ck) (.slice (some ⟨bb, ob, none⟩) n cb) (.int .i64 px) (.int .i64 py) (.slice none 0 0) (.slice none 0 0)
  obtain ⟨w0, hw0⟩ : ∃ w0, w0 = ((((w.alloc (.cells #[.int .i64 W, .int .i64 H, .slice ao n cap] 24)).alloc (.cells #[.slice (some ⟨bk, ok, none⟩) n ck, .slice (some ⟨bb, ob, none⟩) n cb] 27)).alloc (.cells #[.int .i64 px, .int .i64 py] 31)).alloc (.cells #[.slice none 0 0, .slice none 0 0] 27)) := ⟨_, rfl⟩
  rw [← hw0] at t0 t1 t2 t3 hb0 hs0 ⊢
  have lw0 : w.heap.size + 3 < w0.heap.size := by omega
  clear hw0 hs0
  have T0 := Lib.hid t0
  have T1 := Lib.hid t1
  have T2 := Lib.hid t2
  have T3 := Lib.hid t3
  have g0 := t0.c0
  have g1 := t0.c1
  have g2 := t0.c2
  have k0 := t1.c0
  have k1 := t1.c1
  have q0 := t2.c0
  have q1 := t2.c1
  clear t0 t1 t2 t3
  go_region_held3 (fun w' => w'.cell? ⟨w.heap.size, 0, none⟩ = some (.int .i64 W) ∧ w'.cell? ⟨w.heap.size, 1, none⟩ = some (.int .i64 H) ∧ w'.cell? ⟨w.heap.size, 2, none⟩ = some (.slice ao n cap) ∧ w'.cell? ⟨w.heap.size + 1, 0, none⟩ = some (.slice (some ⟨bk, ok, none⟩) n ck) ∧ w'.cell? ⟨w.heap.size + 1, 1, none⟩ = some (.slice (some ⟨bb, ob, none⟩) n cb) ∧ w'.cell? ⟨w.heap.size + 2, 0, none⟩ = some (.int .i64 px) ∧ w'.cell? ⟨w.heap.size + 2, 1, none⟩ = some (.int .i64 py)) (first | (go_split_ands; (try dsimp only); refine ⟨?_, ?_, ?_, ?_, ?_, ?_, ?_⟩ <;> (first | (with_reducible assumption) | (with_reducible exact keep_cell (by assumption) (by first | omega | (simp; done) | (simp; omega)) (by assumption)) | (with_reducible exact (World.cell?_alloc_past _ _ _ (by show _ < _; omega)).trans (by assumption)) | (with_reducible exact (World.cell?_alloc_past _ _ _ (by show _ < _; omega)).trans ((World.cell?_alloc_past _ _ _ (by show _ < _; omega)).symm.trans (by assumption))) | (simp [go_sem]; with_reducible assumption))) | (simp [go_sem, ↓IntWalk.iteOmega, *]; done)) (first | (go_at_call 78; (with_reducible refine (WI.out _).mono ?_); rintro e w1 ⟨rfl, rfl⟩) | (go_at_call 77; (with_reducible refine (SE.out _ _ _ (by (repeat' (first | (with_reducible exact Below.refl _ _) | (with_reducible refine Below.setCell ?_ (by first | omega | (simp; done) | (simp; omega)) _) | (with_reducible refine Below.alloc ?_ (by first | omega | (simp; done) | (simp; omega)) _) | (with_reducible refine Below.drew ?_) | (with_reducible refine below_drewN ?_ _) | (with_reducible refine Below.trans ?_ (Below.mono (by assumption) (by first | omega | (simp; done) | (simp; omega))))))) (by first | (simp; done) | (simp; omega)) (by simp [go_sem, ↓IntWalk.iteOmega]) (by simp [go_sem, ↓IntWalk.iteOmega])).mono ?_); rintro e w1 ⟨rfl, hb⟩; obtain ⟨hc, hf, hz⟩ := bcall hb; (try simp at hc hf hz)))
  all_goals
    rename_i hX9
    clear hX9
    have HX := Lib.hid (show Below w0.heap.size w0 w1 from by (repeat' (first | (with_reducible exact Below.refl _ _) | (with_reducible refine Below.setCell ?_ (by first | omega | (simp; done) | (simp; omega)) _) | (with_reducible refine Below.alloc ?_ (by first | omega | (simp; done) | (simp; omega)) _) | (with_reducible refine Below.drew ?_) | (with_reducible refine below_drewN ?_ _) | (with_reducible refine Below.trans ?_ (Below.mono (by assumption) (by first | omega | (simp; done) | (simp; omega)))))))
    clear hb hc hf hz g0 g1 g2 k0 k1 q0 q1 SE WI
    have hW := hb0.trans (HX.out.mono (show w.heap.size ≤ w0.heap.size by omega))
    have hsX := HX.out.size
    have t0 := T0.out.below HX.out (show w.heap.size < w0.heap.size by omega)
    have c2 := t0.c2
    have HW := Lib.hid hW
    have lw1 : w.heap.size + 3 < w1.heap.size := by omega
    clear t0 hW
    go_wp2
    have HR0 := Lib.hid (rowI_zeros w1 n)
    have hz0 : Below w1.heap.size w1 (w1.alloc (.cells (zerosI n) 3)) := (Below.refl _ _).alloc (Nat.le_refl _) _
    have HZ0 := Lib.hid hz0
    clear hz0
    go_loopw [18] (fun i wr => ∃ k : Nat, k ≤ M ∧ i = .int .i64 k ∧ Hid (SlI w1 w1.heap.size n W px py 1 2 k wr)) (fun i _ => M - (intOf i).toNat)
    case atStart => exact ⟨0, Nat.zero_le _, rfl, Lib.hid ⟨rowI_congr HR0.out (fun j hj => (sl_zero W px py 1 2 j).symm), HZ0.out⟩⟩
    case round =>
      obtain ⟨k, hk, rfl, HH⟩ := hrel
      have hBr := HH.out.below
      have hXr := HX.out.trans (hBr.mono hsX)
      have t0 := T0.out.below hXr (by omega)
      have t1 := T1.out.below hXr (by omega)
      have t2 := T2.out.below hXr (by omega)
      have t3 := T3.out.below hXr (by omega)
      have g0 := t0.c0
      have g1 := t0.c1
      have g2 := t0.c2
      have q0 := t2.c0
      have q1 := t2.c1
      have lwr : w.heap.size + 3 < wr.heap.size := t3.lt
      have HBr := Lib.hid hBr
      have ROW := HH.out.row
      by_cases hlk : k < M
      · obtain ⟨x, hx⟩ : ∃ x, x = px + (k : Int) := ⟨_, rfl⟩
        obtain ⟨y, hy⟩ : ∃ y, y = py + 1 * (k : Int) := ⟨_, rfl⟩
        have s1 : IntKind.i64.wrap (px + (k : Int)) = x := by rw [hx]; exact IntWalk.i64_in _ ⟨by omega, by omega⟩
        have s2 : IntKind.i64.wrap (1 * (k : Int)) = 1 * (k : Int) := IntWalk.i64_in _ ⟨by omega, by omega⟩
        have s3 : IntKind.i64.wrap (py + 1 * (k : Int)) = y := by rw [hy]; exact IntWalk.i64_in _ ⟨by omega, by omega⟩
        have s2b : IntKind.i64.wrap ((k : Int)) = (k : Int) := IntWalk.i64_in _ ⟨by omega, by omega⟩
        have s3b : IntKind.i64.wrap (py + (k : Int)) = y := by rw [hy]; rw [show py + 1 * (k : Int) = py + (k : Int) by omega]; exact IntWalk.i64_in _ ⟨by omega, by omega⟩
        have HX2 := Lib.hid hx
        have HY2 := Lib.hid hy
        have q0' : (0 : Int) ≤ (k : Int) := by omega
        have q1' : (k : Int) < (M : Int) := by omega
        by_cases ho : OnG W H x y
        · have ON := Lib.hid (fun wx => rOnG_yes W H x y ao n cap wx (by omega) (by omega) (by omega) (by omega) ho)
          obtain ⟨⟨o0, o1⟩, o2, o3⟩ := ho
          obtain ⟨X, rfl⟩ := Int.eq_ofNat_of_zero_le o0
          obtain ⟨Y, rfl⟩ := Int.eq_ofNat_of_zero_le o2
          have hXl : X < W := by omega
          have hYl : Y < H := by omega
          obtain ⟨i, hi⟩ : ∃ i, i = X + W * Y := ⟨_, rfl⟩
          have hin : i < n := by
            rw [hi, HS.out.n0]
            have := Nat.mul_le_mul_left W (show Y + 1 ≤ H by omega)
            rw [Nat.mul_add, Nat.mul_one] at this
            omega
          have hWY : ((W : Int) * (Y : Int)) = ((W * Y : Nat) : Int) := by rw [Int.natCast_mul]
          have hwy : W * Y ≤ i := by omega
          have s4 : IntKind.i64.wrap ((W : Int) * (Y : Int)) = (W : Int) * (Y : Int) := by rw [hWY]; exact IntWalk.i64_in _ ⟨by omega, by omega⟩
          have s5 : IntKind.i64.wrap ((X : Int) + (W : Int) * (Y : Int)) = (i : Int) := by rw [hWY, hi]; exact IntWalk.i64_in _ ⟨by omega, by omega⟩
          have p0 : (0 : Int) ≤ (i : Int) := by omega
          have p1 : (i : Int) < (n : Int) := by omega
          have cR := (ROW.2 i hin).1
          have fR := (ROW.2 i hin).2
          have lP := ROW.1
          have HI := Lib.hid hi
          clear t0 t1 t2 t3 hx hy hi hBr hXr ROW hWY hwy
          go_wp2_with (go_at_call 82; (with_reducible refine (ON.out _).mono ?_); rintro e w1 ⟨rfl, hb⟩; obtain ⟨hc, hf, hz⟩ := bcall hb; (try simp at hc hf hz))
          go_roundw
          case rel => exact ⟨k + 1, by omega, by go_num, Lib.hid (slI_step HH.out (show Below wr.heap.size wr w1 from by (repeat' (first | (with_reducible exact Below.refl _ _) | (with_reducible refine Below.setCell ?_ (by first | omega | (simp; done) | (simp; omega)) _) | (with_reducible refine Below.alloc ?_ (by first | omega | (simp; done) | (simp; omega)) _) | (with_reducible refine Below.drew ?_) | (with_reducible refine below_drewN ?_ _) | (with_reducible refine Below.trans ?_ (Below.mono (by assumption) (by first | omega | (simp; done) | (simp; omega))))))) HX2.out HY2.out hXl HI.out hin (Nat.le_refl _))⟩
          case measure => simp [intOf]; omega
        · have ON := Lib.hid (fun wx => rOnG_no W H x y ao n cap wx (by omega) (by omega) (by omega) (by omega) ho)
          have HO := Lib.hid ho
          clear t0 t1 t2 t3 hx hy hBr hXr ROW ho
          go_wp2_with (go_at_call 82; (with_reducible refine (ON.out _).mono ?_); rintro e w1 ⟨rfl, hb⟩; obtain ⟨hc, hf, hz⟩ := bcall hb; (try simp at hc hf hz))
          go_roundw
          case rel => exact ⟨k + 1, by omega, by go_num, Lib.hid (slI_skip HH.out (show Below wr.heap.size wr w1 from by (repeat' (first | (with_reducible exact Below.refl _ _) | (with_reducible refine Below.setCell ?_ (by first | omega | (simp; done) | (simp; omega)) _) | (with_reducible refine Below.alloc ?_ (by first | omega | (simp; done) | (simp; omega)) _) | (with_reducible refine Below.drew ?_) | (with_reducible refine below_drewN ?_ _) | (with_reducible refine Below.trans ?_ (Below.mono (by assumption) (by first | omega | (simp; done) | (simp; omega))))))) HS.out.n0 (by omega) (by rw [← HX2.out, ← HY2.out]; exact HO.out))⟩
          case measure => simp [intOf]; omega
      · obtain rfl : M = k := by omega
        have k0 := t1.c0
        have k1 := t1.c1
        have r0 := t3.c0
        have r1 := t3.c1
        have rf0 := t3.f0 0
        have rf1 := t3.f0 1
        have hWr := HW.out.trans (hBr.mono HW.out.size)
        have HWr := Lib.hid hWr
        have lP := ROW.1
        clear t0 t1 t2 t3 g0 g1 g2 q0 q1 hBr hXr hWr c2
        go_wp2_with (go_at_call 80; refine (rput_any n w1.heap.size 0 n (shpS W (inL px py (M : Int) 1) (fun _ _ => 2)) bk ok ck K bb ob cb B b _ (by rw [HS.out.n0]; exact Nat.mul_le_mul HS.out.w0 HS.out.h0) (by omega) lP (Nat.lt_of_lt_of_le lbk HWr.out.size) (Nat.lt_of_lt_of_le lbb HWr.out.size) HH.out.row.nums (fun wx hx => CC.out wx (HWr.out.trans (hx.mono HWr.out.size)))).mono ?_; intro e w5 hP5; obtain ⟨ak, ab, m5, c5, d5, z5, rfl, hb5, hst⟩ := putR_store (R := w.heap.size + 3) hP5 HWr.out (by omega) (by omega); clear hP5; obtain ⟨hc5, hf5, hz5⟩ := bcall hb5; (try simp at hc5 hf5 hz5))
        refine bodyPost_ret (v := .tuple #[.agg #[.slice (ak) m5 c5, .slice (ab) m5 d5], .int .i64 z5]) (by simp [results, Tryd.results24, go_sem, ↓IntWalk.iteOmega, *]) rfl ?_
        exact hst _ rfl

set_option maxRecDepth 100000 in
set_option maxHeartbeats 16000000 in
theorem rslopeD_ok (W H n cap : Nat) (ao : Option Addr) (bk ok ck bb ob cb : Nat) (K B : Nat → Int) (px py m b : Int) (w : World) (s : Sides W H n) (hp : OnG W H px py) (m0 : 1 ≤ m) (m1 : m ≤ 64) (b0 : 1 ≤ b) (b1 : b ≤ 9)
    (lbk : bk < w.heap.size) (hNK : NumsAt w bk ok n K) (lbb : bb < w.heap.size) (hNB : NumsAt w bb ob n B)
    (V : ∀ wx, Below w.heap.size w wx → Calls Tryd.prog 147 #[.agg #[.int .i64 W, .int .i64 H, .slice (ao) n cap], .agg #[.slice (some ⟨bk, ok, none⟩) n ck, .slice (some ⟨bb, ob, none⟩) n cb]] wx fun e w' => e = .returned (.bool true) ∧ Below wx.heap.size wx w') :
    Calls Tryd.prog 24 #[.agg #[.int .i64 W, .int .i64 H, .slice (ao) n cap], .agg #[.slice (some ⟨bk, ok, none⟩) n ck, .slice (some ⟨bb, ob, none⟩) n cb], .agg #[.int .i64 px, .int .i64 py], .int .i64 m, .bool false, .int .i64 b] w (PutR n (shpS W (inL px py m (-1)) (fun _ _ => 3)) K B b w) := by
  have n1 := s.n1
  have sw0 := s.w0
  have sw1 := s.w1
  have sh0 := s.h0
  have sh1 := s.h1
  have SE := Lib.hid (fun wx (bp cp : Nat) (hb : Below w.heap.size w wx) (lp : bp < wx.heap.size) (c0 : wx.cell? ⟨bp, 0, none⟩ = some (.int .i64 px)) (c1 : wx.cell? ⟨bp, 1, none⟩ = some (.int .i64 py)) =>
    (rShErr_any W H ao n cap (some ⟨bk, ok, none⟩) n ck (some ⟨bb, ob, none⟩) n cb (fun _ => px) (fun _ => py) b bp 1 cp true true wx (by omega) lp (pts_one c0 c1) (fun _ => ⟨by omega, by omega, by omega, by omega⟩) (fun wy hy => V wy (hb.trans (hy.mono hb.size)))))
  have e0 : rErr true (true && onA W H (fun _ => px) (fun _ => py) 1) b = 0 := by rw [onA_one, decide_eq_true hp]; simp [rErr, b0, b1]
  rw [e0] at SE
  have eq : decide ((1 : Int) ≤ m ∧ m ≤ 64) = true := decide_eq_true ⟨m0, m1⟩
  have WI := Lib.hid (fun wx => within3_any m 1 64 wx)
  rw [eq] at WI
  obtain ⟨⟨p0, p1⟩, p2, p3⟩ := hp
  obtain ⟨M, rfl⟩ := Int.eq_ofNat_of_zero_le (show 0 ≤ m by omega)
  have CC := Lib.hid (fun wx (hb : Below w.heap.size w wx) => rwCopy_any n bk ok ck K bb ob cb B wx (by rw [s.n0]; exact Nat.mul_le_mul s.w0 s.h0) (by omega) (Nat.lt_of_lt_of_le lbk hb.size) (Nat.lt_of_lt_of_le lbb hb.size) (hNK.below hb lbk) (hNB.below hb lbb))
  have hmk := fun wx => run_zerosS n (by omega) wx
  have HS := Lib.hid s
  clear e0 eq V b0 b1 hNK hNB s
  go_enter Tryd.func24, Tryd.ntmps24
  go_wp2
  obtain ⟨t0, t1, t2, t3, hb0, hs0⟩ := shp_blocks w 24 27 31 27 (.int .i64 W) (.int .i64 H) (.slice ao n cap) (.slice (some ⟨bk, ok, none⟩) n ck) (.slice (some ⟨bb, ob, none⟩) n cb) (.int .i64 px) (.int .i64 py) (.slice none 0 0) (.slice none 0 0)
  obtain ⟨w0, hw0⟩ : ∃ w0, w0 = ((((w.alloc (.cells #[.int .i64 W, .int .i64 H, .slice ao n cap] 24)).alloc (.cells #[.slice (some ⟨bk, ok, none⟩) n ck, .slice (some ⟨bb, ob, none⟩) n cb] 27)).alloc (.cells #[.int .i64 px, .int .i64 py] 31)).alloc (.cells #[.slice none 0 0, .slice none 0 0] 27)) := ⟨_, rfl⟩
  rw [← hw0] at t0 t1 t2 t3 hb0 hs0 ⊢
  have lw0 : w.heap.size + 3 < w0.heap.size := by omega
  clear hw0 hs0
  have T0 := Lib.hid t0
  have T1 := Lib.hid t1
  have T2 := Lib.hid t2
  have T3 := Lib.hid t3
  have g0 := t0.c0
  have g1 := t0.c1
  have g2 := t0.c2
  have k0 := t1.c0
  have k1 := t1.c1
  have q0 := t2.c0
  have q1 := t2.c1
  clear t0 t1 t2 t3
  go_region_held3 (fun w' => w'.cell? ⟨w.heap.size, 0, none⟩ = some (.int .i64 W) ∧ w'.cell? ⟨w.heap.size, 1, none⟩ = some (.int .i64 H) ∧ w'.cell? ⟨w.heap.size, 2, none⟩ = some (.slice ao n cap) ∧ w'.cell? ⟨w.heap.size + 1, 0, none⟩ = some (.slice (some ⟨bk, ok, none⟩) n ck) ∧ w'.cell? ⟨w.heap.size + 1, 1, none⟩ = some (.slice (some ⟨bb, ob, none⟩) n cb) ∧ w'.cell? ⟨w.heap.size + 2, 0, none⟩ = some (.int .i64 px) ∧ w'.cell? ⟨w.heap.size + 2, 1, none⟩ = some (.int .i64 py)) (first | (go_split_ands; (try dsimp only); refine ⟨?_, ?_, ?_, ?_, ?_, ?_, ?_⟩ <;> (first | (with_reducible assumption) | (with_reducible exact keep_cell (by assumption) (by first | omega | (simp; done) | (simp; omega)) (by assumption)) | (with_reducible exact (World.cell?_alloc_past _ _ _ (by show _ < _; omega)).trans (by assumption)) | (with_reducible exact (World.cell?_alloc_past _ _ _ (by show _ < _; omega)).trans ((World.cell?_alloc_past _ _ _ (by show _ < _; omega)).symm.trans (by assumption))) | (simp [go_sem]; with_reducible assumption))) | (simp [go_sem, ↓IntWalk.iteOmega, *]; done)) (first | (go_at_call 78; (with_reducible refine (WI.out _).mono ?_); rintro e w1 ⟨rfl, rfl⟩) | (go_at_call 77; (with_reducible refine (SE.out _ _ _ (by (repeat' (first | (with_reducible exact Below.refl _ _) | (with_reducible refine Below.setCell ?_ (by first | omega | (simp; done) | (simp; omega)) _) | (with_reducible refine Below.alloc ?_ (by first | omega | (simp; done) | (simp; omega)) _) | (with_reducible refine Below.drew ?_) | (with_reducible refine below_drewN ?_ _) | (with_reducible refine Below.trans ?_ (Below.mono (by assumption) (by first | omega | (simp; done) | (simp; omega))))))) (by first | (simp; done) | (simp; omega)) (by simp [go_sem, ↓IntWalk.iteOmega]) (by simp [go_sem, ↓IntWalk.iteOmega])).mono ?_); rintro e w1 ⟨rfl, hb⟩; obtain ⟨hc, hf, hz⟩ := bcall hb; (try simp at hc hf hz)))
  all_goals
    rename_i hX9
    clear hX9
    have HX := Lib.hid (show Below w0.heap.size w0 w1 from by (repeat' (first | (with_reducible exact Below.refl _ _) | (with_reducible refine Below.setCell ?_ (by first | omega | (simp; done) | (simp; omega)) _) | (with_reducible refine Below.alloc ?_ (by first | omega | (simp; done) | (simp; omega)) _) | (with_reducible refine Below.drew ?_) | (with_reducible refine below_drewN ?_ _) | (with_reducible refine Below.trans ?_ (Below.mono (by assumption) (by first | omega | (simp; done) | (simp; omega)))))))
    clear hb hc hf hz g0 g1 g2 k0 k1 q0 q1 SE WI
    have hW := hb0.trans (HX.out.mono (show w.heap.size ≤ w0.heap.size by omega))
    have hsX := HX.out.size
    have t0 := T0.out.below HX.out (show w.heap.size < w0.heap.size by omega)
    have c2 := t0.c2
    have HW := Lib.hid hW
    have lw1 : w.heap.size + 3 < w1.heap.size := by omega
    clear t0 hW
    go_wp2
    have HR0 := Lib.hid (rowI_zeros w1 n)
    have hz0 : Below w1.heap.size w1 (w1.alloc (.cells (zerosI n) 3)) := (Below.refl _ _).alloc (Nat.le_refl _) _
    have HZ0 := Lib.hid hz0
    clear hz0
    go_loopw [18] (fun i wr => ∃ k : Nat, k ≤ M ∧ i = .int .i64 k ∧ Hid (SlI w1 w1.heap.size n W px py (-1) 3 k wr)) (fun i _ => M - (intOf i).toNat)
    case atStart => exact ⟨0, Nat.zero_le _, rfl, Lib.hid ⟨rowI_congr HR0.out (fun j hj => (sl_zero W px py (-1) 3 j).symm), HZ0.out⟩⟩
    case round =>
      obtain ⟨k, hk, rfl, HH⟩ := hrel
      have hBr := HH.out.below
      have hXr := HX.out.trans (hBr.mono hsX)
      have t0 := T0.out.below hXr (by omega)
      have t1 := T1.out.below hXr (by omega)
      have t2 := T2.out.below hXr (by omega)
      have t3 := T3.out.below hXr (by omega)
      have g0 := t0.c0
      have g1 := t0.c1
      have g2 := t0.c2
      have q0 := t2.c0
      have q1 := t2.c1
      have lwr : w.heap.size + 3 < wr.heap.size := t3.lt
      have HBr := Lib.hid hBr
      have ROW := HH.out.row
      by_cases hlk : k < M
      · obtain ⟨x, hx⟩ : ∃ x, x = px + (k : Int) := ⟨_, rfl⟩
        obtain ⟨y, hy⟩ : ∃ y, y = py + (-1) * (k : Int) := ⟨_, rfl⟩
        have s1 : IntKind.i64.wrap (px + (k : Int)) = x := by rw [hx]; exact IntWalk.i64_in _ ⟨by omega, by omega⟩
        have s2 : IntKind.i64.wrap ((-1) * (k : Int)) = (-1) * (k : Int) := IntWalk.i64_in _ ⟨by omega, by omega⟩
        have s3 : IntKind.i64.wrap (py + (-1) * (k : Int)) = y := by rw [hy]; exact IntWalk.i64_in _ ⟨by omega, by omega⟩
        have s2b : IntKind.i64.wrap (-(k : Int)) = -(k : Int) := IntWalk.i64_in _ ⟨by omega, by omega⟩
        have s3b : IntKind.i64.wrap (py + -(k : Int)) = y := by rw [hy]; rw [show py + (-1) * (k : Int) = py + -(k : Int) by omega]; exact IntWalk.i64_in _ ⟨by omega, by omega⟩
        have HX2 := Lib.hid hx
        have HY2 := Lib.hid hy
        have q0' : (0 : Int) ≤ (k : Int) := by omega
        have q1' : (k : Int) < (M : Int) := by omega
        by_cases ho : OnG W H x y
        · have ON := Lib.hid (fun wx => rOnG_yes W H x y ao n cap wx (by omega) (by omega) (by omega) (by omega) ho)
          obtain ⟨⟨o0, o1⟩, o2, o3⟩ := ho
          obtain ⟨X, rfl⟩ := Int.eq_ofNat_of_zero_le o0
          obtain ⟨Y, rfl⟩ := Int.eq_ofNat_of_zero_le o2
          have hXl : X < W := by omega
          have hYl : Y < H := by omega
          obtain ⟨i, hi⟩ : ∃ i, i = X + W * Y := ⟨_, rfl⟩
          have hin : i < n := by
            rw [hi, HS.out.n0]
            have := Nat.mul_le_mul_left W (show Y + 1 ≤ H by omega)
            rw [Nat.mul_add, Nat.mul_one] at this
            omega
          have hWY : ((W : Int) * (Y : Int)) = ((W * Y : Nat) : Int) := by rw [Int.natCast_mul]
          have hwy : W * Y ≤ i := by omega
          have s4 : IntKind.i64.wrap ((W : Int) * (Y : Int)) = (W : Int) * (Y : Int) := by rw [hWY]; exact IntWalk.i64_in _ ⟨by omega, by omega⟩
          have s5 : IntKind.i64.wrap ((X : Int) + (W : Int) * (Y : Int)) = (i : Int) := by rw [hWY, hi]; exact IntWalk.i64_in _ ⟨by omega, by omega⟩
          have p0 : (0 : Int) ≤ (i : Int) := by omega
          have p1 : (i : Int) < (n : Int) := by omega
          have cR := (ROW.2 i hin).1
          have fR := (ROW.2 i hin).2
          have lP := ROW.1
          have HI := Lib.hid hi
          clear t0 t1 t2 t3 hx hy hi hBr hXr ROW hWY hwy
          go_wp2_with (go_at_call 82; (with_reducible refine (ON.out _).mono ?_); rintro e w1 ⟨rfl, hb⟩; obtain ⟨hc, hf, hz⟩ := bcall hb; (try simp at hc hf hz))
          go_roundw
          case rel => exact ⟨k + 1, by omega, by go_num, Lib.hid (slI_step HH.out (show Below wr.heap.size wr w1 from by (repeat' (first | (with_reducible exact Below.refl _ _) | (with_reducible refine Below.setCell ?_ (by first | omega | (simp; done) | (simp; omega)) _) | (with_reducible refine Below.alloc ?_ (by first | omega | (simp; done) | (simp; omega)) _) | (with_reducible refine Below.drew ?_) | (with_reducible refine below_drewN ?_ _) | (with_reducible refine Below.trans ?_ (Below.mono (by assumption) (by first | omega | (simp; done) | (simp; omega))))))) HX2.out HY2.out hXl HI.out hin (Nat.le_refl _))⟩
          case measure => simp [intOf]; omega
        · have ON := Lib.hid (fun wx => rOnG_no W H x y ao n cap wx (by omega) (by omega) (by omega) (by omega) ho)
          have HO := Lib.hid ho
          clear t0 t1 t2 t3 hx hy hBr hXr ROW ho
          go_wp2_with (go_at_call 82; (with_reducible refine (ON.out _).mono ?_); rintro e w1 ⟨rfl, hb⟩; obtain ⟨hc, hf, hz⟩ := bcall hb; (try simp at hc hf hz))
          go_roundw
          case rel => exact ⟨k + 1, by omega, by go_num, Lib.hid (slI_skip HH.out (show Below wr.heap.size wr w1 from by (repeat' (first | (with_reducible exact Below.refl _ _) | (with_reducible refine Below.setCell ?_ (by first | omega | (simp; done) | (simp; omega)) _) | (with_reducible refine Below.alloc ?_ (by first | omega | (simp; done) | (simp; omega)) _) | (with_reducible refine Below.drew ?_) | (with_reducible refine below_drewN ?_ _) | (with_reducible refine Below.trans ?_ (Below.mono (by assumption) (by first | omega | (simp; done) | (simp; omega))))))) HS.out.n0 (by omega) (by rw [← HX2.out, ← HY2.out]; exact HO.out))⟩
          case measure => simp [intOf]; omega
      · obtain rfl : M = k := by omega
        have k0 := t1.c0
        have k1 := t1.c1
        have r0 := t3.c0
        have r1 := t3.c1
        have rf0 := t3.f0 0
        have rf1 := t3.f0 1
        have hWr := HW.out.trans (hBr.mono HW.out.size)
        have HWr := Lib.hid hWr
        have lP := ROW.1
        clear t0 t1 t2 t3 g0 g1 g2 q0 q1 hBr hXr hWr c2
        go_wp2_with (go_at_call 80; refine (rput_any n w1.heap.size 0 n (shpS W (inL px py (M : Int) (-1)) (fun _ _ => 3)) bk ok ck K bb ob cb B b _ (by rw [HS.out.n0]; exact Nat.mul_le_mul HS.out.w0 HS.out.h0) (by omega) lP (Nat.lt_of_lt_of_le lbk HWr.out.size) (Nat.lt_of_lt_of_le lbb HWr.out.size) HH.out.row.nums (fun wx hx => CC.out wx (HWr.out.trans (hx.mono HWr.out.size)))).mono ?_; intro e w5 hP5; obtain ⟨ak, ab, m5, c5, d5, z5, rfl, hb5, hst⟩ := putR_store (R := w.heap.size + 3) hP5 HWr.out (by omega) (by omega); clear hP5; obtain ⟨hc5, hf5, hz5⟩ := bcall hb5; (try simp at hc5 hf5 hz5))
        refine bodyPost_ret (v := .tuple #[.agg #[.slice (ak) m5 c5, .slice (ab) m5 d5], .int .i64 z5]) (by simp [results, Tryd.results24, go_sem, ↓IntWalk.iteOmega, *]) rfl ?_
        exact hst _ rfl
end Go.Proofs.YtglkikdjchpmjaaDoor

/- What shapes refuse, by both sides; Disc and Smooth by the reference. -/

namespace Go.Proofs.YtglkikdjchpmjaaDoor
set_option linter.unusedSimpArgs false
set_option linter.unusedVariables false
open Go.RowKit
attribute [local go_sem] Oper.semAt_some

set_option maxRecDepth 100000 in
set_option maxHeartbeats 2000000 in
theorem wdisc_chk (W H : Int) (ao : Option Addr) (n cap : Nat) (ak : Option Addr) (nk ck : Nat) (ab : Option Addr) (nb cb : Nat) (px py q b z : Int) (w : World) (hz : z ≠ 0) 
    (CK : ∀ wx, Below w.heap.size w wx → Calls Tryd.prog 67 #[.agg #[.int .i64 W, .int .i64 H, .slice (ao) n cap], .agg #[.slice (ak) nk ck, .slice (ab) nb cb], .agg #[.int .i64 px, .int .i64 py], .int .i64 q, .int .i64 b] wx fun e w' => e = .returned (.int .i64 z) ∧ Below wx.heap.size wx w') :
    Calls Tryd.prog 15 #[.agg #[.int .i64 W, .int .i64 H, .slice (ao) n cap], .agg #[.slice (ak) nk ck, .slice (ab) nb cb], .agg #[.int .i64 px, .int .i64 py], .int .i64 q, .int .i64 b] w fun e w' => e = .returned (.tuple #[.agg #[.slice (none) 0 0, .slice (none) 0 0], .int .i64 z]) ∧ Below w.heap.size w w' := by
  have CK := Lib.hid CK
  have e1 : (z == 0) = false := beq_eq_false_iff_ne.2 hz
  have e2 : (z != 0) = true := by simp [bne, e1]
  clear hz
  go_enter Tryd.func15, Tryd.ntmps15
  go_wp2_with (first | (go_at_call 67; (with_reducible refine (CK.out _ (by (repeat' (first | (with_reducible exact Below.refl _ _) | (with_reducible refine Below.setCell ?_ (by first | omega | (simp; done) | (simp; omega)) _) | (with_reducible refine Below.alloc ?_ (by first | omega | (simp; done) | (simp; omega)) _) | (with_reducible refine Below.drew ?_) | (with_reducible refine below_drewN ?_ _) | (with_reducible refine Below.trans ?_ (Below.mono (by assumption) (by first | omega | (simp; done) | (simp; omega)))))))).mono ?_); rintro e w1 ⟨rfl, hb⟩; obtain ⟨hc, hf, hz⟩ := bcall hb; (try simp at hc hf hz)))
  refine bodyPost_ret (v := .tuple #[.agg #[.slice (none) 0 0, .slice (none) 0 0], .int .i64 z]) (by simp [results, Tryd.results15, go_sem, ↓IntWalk.iteOmega, *]) rfl ⟨rfl, ?_⟩
  (repeat' (first | (with_reducible exact Below.refl _ _) | (with_reducible refine Below.setCell ?_ (by first | omega | (simp; done) | (simp; omega)) _) | (with_reducible refine Below.alloc ?_ (by first | omega | (simp; done) | (simp; omega)) _) | (with_reducible refine Below.drew ?_) | (with_reducible refine below_drewN ?_ _) | (with_reducible refine Below.trans ?_ (Below.mono (by assumption) (by first | omega | (simp; done) | (simp; omega))))))
set_option maxRecDepth 100000 in
set_option maxHeartbeats 2000000 in
theorem wsmooth_chk (W H : Int) (ao : Option Addr) (n cap : Nat) (ak : Option Addr) (nk ck : Nat) (ab : Option Addr) (nb cb : Nat) (px py q b z : Int) (w : World) (hz : z ≠ 0) 
    (CK : ∀ wx, Below w.heap.size w wx → Calls Tryd.prog 67 #[.agg #[.int .i64 W, .int .i64 H, .slice (ao) n cap], .agg #[.slice (ak) nk ck, .slice (ab) nb cb], .agg #[.int .i64 px, .int .i64 py], .int .i64 q, .int .i64 b] wx fun e w' => e = .returned (.int .i64 z) ∧ Below wx.heap.size wx w') :
    Calls Tryd.prog 18 #[.agg #[.int .i64 W, .int .i64 H, .slice (ao) n cap], .agg #[.slice (ak) nk ck, .slice (ab) nb cb], .agg #[.int .i64 px, .int .i64 py], .int .i64 q, .int .i64 b] w fun e w' => e = .returned (.tuple #[.agg #[.slice (none) 0 0, .slice (none) 0 0], .int .i64 z]) ∧ Below w.heap.size w w' := by
  have CK := Lib.hid CK
  have e1 : (z == 0) = false := beq_eq_false_iff_ne.2 hz
  have e2 : (z != 0) = true := by simp [bne, e1]
  clear hz
  go_enter Tryd.func18, Tryd.ntmps18
  go_wp2_with (first | (go_at_call 67; (with_reducible refine (CK.out _ (by (repeat' (first | (with_reducible exact Below.refl _ _) | (with_reducible refine Below.setCell ?_ (by first | omega | (simp; done) | (simp; omega)) _) | (with_reducible refine Below.alloc ?_ (by first | omega | (simp; done) | (simp; omega)) _) | (with_reducible refine Below.drew ?_) | (with_reducible refine below_drewN ?_ _) | (with_reducible refine Below.trans ?_ (Below.mono (by assumption) (by first | omega | (simp; done) | (simp; omega)))))))).mono ?_); rintro e w1 ⟨rfl, hb⟩; obtain ⟨hc, hf, hz⟩ := bcall hb; (try simp at hc hf hz)))
  refine bodyPost_ret (v := .tuple #[.agg #[.slice (none) 0 0, .slice (none) 0 0], .int .i64 z]) (by simp [results, Tryd.results18, go_sem, ↓IntWalk.iteOmega, *]) rfl ⟨rfl, ?_⟩
  (repeat' (first | (with_reducible exact Below.refl _ _) | (with_reducible refine Below.setCell ?_ (by first | omega | (simp; done) | (simp; omega)) _) | (with_reducible refine Below.alloc ?_ (by first | omega | (simp; done) | (simp; omega)) _) | (with_reducible refine Below.drew ?_) | (with_reducible refine below_drewN ?_ _) | (with_reducible refine Below.trans ?_ (Below.mono (by assumption) (by first | omega | (simp; done) | (simp; omega))))))
set_option maxRecDepth 100000 in
set_option maxHeartbeats 2000000 in
theorem wbox_chk (W H : Int) (ao : Option Addr) (n cap : Nat) (ak : Option Addr) (nk ck : Nat) (ab : Option Addr) (nb cb : Nat) (px py rx ry kind b z : Int) (w : World) (hz : z ≠ 0) 
    (CK : ∀ wx, Below w.heap.size w wx → Calls Tryd.prog 73 #[.agg #[.int .i64 W, .int .i64 H, .slice (ao) n cap], .agg #[.slice (ak) nk ck, .slice (ab) nb cb], .agg #[.int .i64 px, .int .i64 py], .int .i64 b] wx fun e w' => e = .returned (.int .i64 z) ∧ Below wx.heap.size wx w') :
    Calls Tryd.prog 21 #[.agg #[.int .i64 W, .int .i64 H, .slice (ao) n cap], .agg #[.slice (ak) nk ck, .slice (ab) nb cb], .agg #[.int .i64 px, .int .i64 py], .agg #[.int .i64 rx, .int .i64 ry], .int .i64 kind, .int .i64 b] w fun e w' => e = .returned (.tuple #[.agg #[.slice (none) 0 0, .slice (none) 0 0], .int .i64 z]) ∧ Below w.heap.size w w' := by
  have CK := Lib.hid CK
  have e1 : (z == 0) = false := beq_eq_false_iff_ne.2 hz
  have e2 : (z != 0) = true := by simp [bne, e1]
  clear hz
  go_enter Tryd.func21, Tryd.ntmps21
  go_wp2_with (first | (go_at_call 73; (with_reducible refine (CK.out _ (by (repeat' (first | (with_reducible exact Below.refl _ _) | (with_reducible refine Below.setCell ?_ (by first | omega | (simp; done) | (simp; omega)) _) | (with_reducible refine Below.alloc ?_ (by first | omega | (simp; done) | (simp; omega)) _) | (with_reducible refine Below.drew ?_) | (with_reducible refine below_drewN ?_ _) | (with_reducible refine Below.trans ?_ (Below.mono (by assumption) (by first | omega | (simp; done) | (simp; omega)))))))).mono ?_); rintro e w1 ⟨rfl, hb⟩; obtain ⟨hc, hf, hz⟩ := bcall hb; (try simp at hc hf hz)))
  refine bodyPost_ret (v := .tuple #[.agg #[.slice (none) 0 0, .slice (none) 0 0], .int .i64 z]) (by simp [results, Tryd.results21, go_sem, ↓IntWalk.iteOmega, *]) rfl ⟨rfl, ?_⟩
  (repeat' (first | (with_reducible exact Below.refl _ _) | (with_reducible refine Below.setCell ?_ (by first | omega | (simp; done) | (simp; omega)) _) | (with_reducible refine Below.alloc ?_ (by first | omega | (simp; done) | (simp; omega)) _) | (with_reducible refine Below.drew ?_) | (with_reducible refine below_drewN ?_ _) | (with_reducible refine Below.trans ?_ (Below.mono (by assumption) (by first | omega | (simp; done) | (simp; omega))))))
set_option maxRecDepth 100000 in
set_option maxHeartbeats 2000000 in
theorem wslope_chk (W H : Int) (ao : Option Addr) (n cap : Nat) (ak : Option Addr) (nk ck : Nat) (ab : Option Addr) (nb cb : Nat) (px py m b z : Int) (up : Bool) (w : World) (hz : z ≠ 0) 
    (CK : ∀ wx, Below w.heap.size w wx → Calls Tryd.prog 73 #[.agg #[.int .i64 W, .int .i64 H, .slice (ao) n cap], .agg #[.slice (ak) nk ck, .slice (ab) nb cb], .agg #[.int .i64 px, .int .i64 py], .int .i64 b] wx fun e w' => e = .returned (.int .i64 z) ∧ Below wx.heap.size wx w') :
    Calls Tryd.prog 23 #[.agg #[.int .i64 W, .int .i64 H, .slice (ao) n cap], .agg #[.slice (ak) nk ck, .slice (ab) nb cb], .agg #[.int .i64 px, .int .i64 py], .int .i64 m, .bool up, .int .i64 b] w fun e w' => e = .returned (.tuple #[.agg #[.slice (none) 0 0, .slice (none) 0 0], .int .i64 z]) ∧ Below w.heap.size w w' := by
  have CK := Lib.hid CK
  have e1 : (z == 0) = false := beq_eq_false_iff_ne.2 hz
  have e2 : (z != 0) = true := by simp [bne, e1]
  clear hz
  go_enter Tryd.func23, Tryd.ntmps23
  go_wp2_with (first | (go_at_call 73; (with_reducible refine (CK.out _ (by (repeat' (first | (with_reducible exact Below.refl _ _) | (with_reducible refine Below.setCell ?_ (by first | omega | (simp; done) | (simp; omega)) _) | (with_reducible refine Below.alloc ?_ (by first | omega | (simp; done) | (simp; omega)) _) | (with_reducible refine Below.drew ?_) | (with_reducible refine below_drewN ?_ _) | (with_reducible refine Below.trans ?_ (Below.mono (by assumption) (by first | omega | (simp; done) | (simp; omega)))))))).mono ?_); rintro e w1 ⟨rfl, hb⟩; obtain ⟨hc, hf, hz⟩ := bcall hb; (try simp at hc hf hz)))
  refine bodyPost_ret (v := .tuple #[.agg #[.slice (none) 0 0, .slice (none) 0 0], .int .i64 z]) (by simp [results, Tryd.results23, go_sem, ↓IntWalk.iteOmega, *]) rfl ⟨rfl, ?_⟩
  (repeat' (first | (with_reducible exact Below.refl _ _) | (with_reducible refine Below.setCell ?_ (by first | omega | (simp; done) | (simp; omega)) _) | (with_reducible refine Below.alloc ?_ (by first | omega | (simp; done) | (simp; omega)) _) | (with_reducible refine Below.drew ?_) | (with_reducible refine below_drewN ?_ _) | (with_reducible refine Below.trans ?_ (Below.mono (by assumption) (by first | omega | (simp; done) | (simp; omega))))))
set_option maxRecDepth 100000 in
set_option maxHeartbeats 2000000 in
theorem wbox_on (W H : Int) (ao : Option Addr) (n cap : Nat) (ak : Option Addr) (nk ck : Nat) (ab : Option Addr) (nb cb : Nat) (px py rx ry kind b : Int) (w : World) (hr : ¬ OnG W H rx ry)
    (CK : ∀ wx, Below w.heap.size w wx → Calls Tryd.prog 73 #[.agg #[.int .i64 W, .int .i64 H, .slice (ao) n cap], .agg #[.slice (ak) nk ck, .slice (ab) nb cb], .agg #[.int .i64 px, .int .i64 py], .int .i64 b] wx fun e w' => e = .returned (.int .i64 0) ∧ Below wx.heap.size wx w') :
    Calls Tryd.prog 21 #[.agg #[.int .i64 W, .int .i64 H, .slice (ao) n cap], .agg #[.slice (ak) nk ck, .slice (ab) nb cb], .agg #[.int .i64 px, .int .i64 py], .agg #[.int .i64 rx, .int .i64 ry], .int .i64 kind, .int .i64 b] w fun e w' => e = .returned (.tuple #[.agg #[.slice (none) 0 0, .slice (none) 0 0], .int .i64 7]) ∧ Below w.heap.size w w' := by
  have CK := Lib.hid CK
  have HR := Lib.hid hr
  clear hr
  go_enter Tryd.func21, Tryd.ntmps21
  go_wp2_with (first | (go_at_call 73; (with_reducible refine (CK.out _ (by (repeat' (first | (with_reducible exact Below.refl _ _) | (with_reducible refine Below.setCell ?_ (by first | omega | (simp; done) | (simp; omega)) _) | (with_reducible refine Below.alloc ?_ (by first | omega | (simp; done) | (simp; omega)) _) | (with_reducible refine Below.drew ?_) | (with_reducible refine below_drewN ?_ _) | (with_reducible refine Below.trans ?_ (Below.mono (by assumption) (by first | omega | (simp; done) | (simp; omega)))))))).mono ?_); rintro e w1 ⟨rfl, hb⟩; obtain ⟨hc, hf, hz⟩ := bcall hb; (try simp at hc hf hz)) | (go_at_call 74; (with_reducible refine (isOn_no W H rx ry ao n cap _ HR.out).mono ?_); rintro e w1 ⟨rfl, hb⟩; obtain ⟨hc, hf, hz⟩ := bcall hb; (try simp at hc hf hz)))
  refine bodyPost_ret (v := .tuple #[.agg #[.slice (none) 0 0, .slice (none) 0 0], .int .i64 7]) (by simp [results, Tryd.results21, go_sem, ↓IntWalk.iteOmega, *]) rfl ⟨rfl, ?_⟩
  (repeat' (first | (with_reducible exact Below.refl _ _) | (with_reducible refine Below.setCell ?_ (by first | omega | (simp; done) | (simp; omega)) _) | (with_reducible refine Below.alloc ?_ (by first | omega | (simp; done) | (simp; omega)) _) | (with_reducible refine Below.drew ?_) | (with_reducible refine below_drewN ?_ _) | (with_reducible refine Below.trans ?_ (Below.mono (by assumption) (by first | omega | (simp; done) | (simp; omega))))))
set_option maxRecDepth 100000 in
set_option maxHeartbeats 2000000 in
theorem wbox_kind (W H : Int) (ao : Option Addr) (n cap : Nat) (ak : Option Addr) (nk ck : Nat) (ab : Option Addr) (nb cb : Nat) (px py rx ry kind b : Int) (w : World) (hr : OnG W H rx ry) (hk : kind < 1 ∨ 3 < kind)
    (CK : ∀ wx, Below w.heap.size w wx → Calls Tryd.prog 73 #[.agg #[.int .i64 W, .int .i64 H, .slice (ao) n cap], .agg #[.slice (ak) nk ck, .slice (ab) nb cb], .agg #[.int .i64 px, .int .i64 py], .int .i64 b] wx fun e w' => e = .returned (.int .i64 0) ∧ Below wx.heap.size wx w') :
    Calls Tryd.prog 21 #[.agg #[.int .i64 W, .int .i64 H, .slice (ao) n cap], .agg #[.slice (ak) nk ck, .slice (ab) nb cb], .agg #[.int .i64 px, .int .i64 py], .agg #[.int .i64 rx, .int .i64 ry], .int .i64 kind, .int .i64 b] w fun e w' => e = .returned (.tuple #[.agg #[.slice (none) 0 0, .slice (none) 0 0], .int .i64 7]) ∧ Below w.heap.size w w' := by
  have CK := Lib.hid CK
  have HR := Lib.hid hr
  have HK := Lib.hid hk
  clear hr hk
  go_enter Tryd.func21, Tryd.ntmps21
  go_wp2_with (first | (go_at_call 73; (with_reducible refine (CK.out _ (by (repeat' (first | (with_reducible exact Below.refl _ _) | (with_reducible refine Below.setCell ?_ (by first | omega | (simp; done) | (simp; omega)) _) | (with_reducible refine Below.alloc ?_ (by first | omega | (simp; done) | (simp; omega)) _) | (with_reducible refine Below.drew ?_) | (with_reducible refine below_drewN ?_ _) | (with_reducible refine Below.trans ?_ (Below.mono (by assumption) (by first | omega | (simp; done) | (simp; omega)))))))).mono ?_); rintro e w1 ⟨rfl, hb⟩; obtain ⟨hc, hf, hz⟩ := bcall hb; (try simp at hc hf hz)) | (go_at_call 74; (with_reducible refine (isOn_yes W H rx ry ao n cap _ HR.out).mono ?_); rintro e w1 ⟨rfl, hb⟩; obtain ⟨hc, hf, hz⟩ := bcall hb; (try simp at hc hf hz)) | (go_at_call 75; (with_reducible refine (isWall_no kind _ HK.out).mono ?_); rintro e w1 ⟨rfl, rfl⟩))
  refine bodyPost_ret (v := .tuple #[.agg #[.slice (none) 0 0, .slice (none) 0 0], .int .i64 7]) (by simp [results, Tryd.results21, go_sem, ↓IntWalk.iteOmega, *]) rfl ⟨rfl, ?_⟩
  (repeat' (first | (with_reducible exact Below.refl _ _) | (with_reducible refine Below.setCell ?_ (by first | omega | (simp; done) | (simp; omega)) _) | (with_reducible refine Below.alloc ?_ (by first | omega | (simp; done) | (simp; omega)) _) | (with_reducible refine Below.drew ?_) | (with_reducible refine below_drewN ?_ _) | (with_reducible refine Below.trans ?_ (Below.mono (by assumption) (by first | omega | (simp; done) | (simp; omega))))))
set_option maxRecDepth 100000 in
set_option maxHeartbeats 2000000 in
theorem wslope_lo (W H : Int) (ao : Option Addr) (n cap : Nat) (ak : Option Addr) (nk ck : Nat) (ab : Option Addr) (nb cb : Nat) (px py m b : Int) (up : Bool) (w : World) (hm : m < 1)
    (CK : ∀ wx, Below w.heap.size w wx → Calls Tryd.prog 73 #[.agg #[.int .i64 W, .int .i64 H, .slice (ao) n cap], .agg #[.slice (ak) nk ck, .slice (ab) nb cb], .agg #[.int .i64 px, .int .i64 py], .int .i64 b] wx fun e w' => e = .returned (.int .i64 0) ∧ Below wx.heap.size wx w') :
    Calls Tryd.prog 23 #[.agg #[.int .i64 W, .int .i64 H, .slice (ao) n cap], .agg #[.slice (ak) nk ck, .slice (ab) nb cb], .agg #[.int .i64 px, .int .i64 py], .int .i64 m, .bool up, .int .i64 b] w fun e w' => e = .returned (.tuple #[.agg #[.slice (none) 0 0, .slice (none) 0 0], .int .i64 7]) ∧ Below w.heap.size w w' := by
  have CK := Lib.hid CK
  go_enter Tryd.func23, Tryd.ntmps23
  go_wp2_with (first | (go_at_call 73; (with_reducible refine (CK.out _ (by (repeat' (first | (with_reducible exact Below.refl _ _) | (with_reducible refine Below.setCell ?_ (by first | omega | (simp; done) | (simp; omega)) _) | (with_reducible refine Below.alloc ?_ (by first | omega | (simp; done) | (simp; omega)) _) | (with_reducible refine Below.drew ?_) | (with_reducible refine below_drewN ?_ _) | (with_reducible refine Below.trans ?_ (Below.mono (by assumption) (by first | omega | (simp; done) | (simp; omega)))))))).mono ?_); rintro e w1 ⟨rfl, hb⟩; obtain ⟨hc, hf, hz⟩ := bcall hb; (try simp at hc hf hz)))
  refine bodyPost_ret (v := .tuple #[.agg #[.slice (none) 0 0, .slice (none) 0 0], .int .i64 7]) (by simp [results, Tryd.results23, go_sem, ↓IntWalk.iteOmega, *]) rfl ⟨rfl, ?_⟩
  (repeat' (first | (with_reducible exact Below.refl _ _) | (with_reducible refine Below.setCell ?_ (by first | omega | (simp; done) | (simp; omega)) _) | (with_reducible refine Below.alloc ?_ (by first | omega | (simp; done) | (simp; omega)) _) | (with_reducible refine Below.drew ?_) | (with_reducible refine below_drewN ?_ _) | (with_reducible refine Below.trans ?_ (Below.mono (by assumption) (by first | omega | (simp; done) | (simp; omega))))))
set_option maxRecDepth 100000 in
set_option maxHeartbeats 2000000 in
theorem wslope_hi (W H : Int) (ao : Option Addr) (n cap : Nat) (ak : Option Addr) (nk ck : Nat) (ab : Option Addr) (nb cb : Nat) (px py m b : Int) (up : Bool) (w : World) (hm0 : 1 ≤ m) (hm : 64 < m)
    (CK : ∀ wx, Below w.heap.size w wx → Calls Tryd.prog 73 #[.agg #[.int .i64 W, .int .i64 H, .slice (ao) n cap], .agg #[.slice (ak) nk ck, .slice (ab) nb cb], .agg #[.int .i64 px, .int .i64 py], .int .i64 b] wx fun e w' => e = .returned (.int .i64 0) ∧ Below wx.heap.size wx w') :
    Calls Tryd.prog 23 #[.agg #[.int .i64 W, .int .i64 H, .slice (ao) n cap], .agg #[.slice (ak) nk ck, .slice (ab) nb cb], .agg #[.int .i64 px, .int .i64 py], .int .i64 m, .bool up, .int .i64 b] w fun e w' => e = .returned (.tuple #[.agg #[.slice (none) 0 0, .slice (none) 0 0], .int .i64 7]) ∧ Below w.heap.size w w' := by
  have CK := Lib.hid CK
  go_enter Tryd.func23, Tryd.ntmps23
  go_wp2_with (first | (go_at_call 73; (with_reducible refine (CK.out _ (by (repeat' (first | (with_reducible exact Below.refl _ _) | (with_reducible refine Below.setCell ?_ (by first | omega | (simp; done) | (simp; omega)) _) | (with_reducible refine Below.alloc ?_ (by first | omega | (simp; done) | (simp; omega)) _) | (with_reducible refine Below.drew ?_) | (with_reducible refine below_drewN ?_ _) | (with_reducible refine Below.trans ?_ (Below.mono (by assumption) (by first | omega | (simp; done) | (simp; omega)))))))).mono ?_); rintro e w1 ⟨rfl, hb⟩; obtain ⟨hc, hf, hz⟩ := bcall hb; (try simp at hc hf hz)))
  refine bodyPost_ret (v := .tuple #[.agg #[.slice (none) 0 0, .slice (none) 0 0], .int .i64 7]) (by simp [results, Tryd.results23, go_sem, ↓IntWalk.iteOmega, *]) rfl ⟨rfl, ?_⟩
  (repeat' (first | (with_reducible exact Below.refl _ _) | (with_reducible refine Below.setCell ?_ (by first | omega | (simp; done) | (simp; omega)) _) | (with_reducible refine Below.alloc ?_ (by first | omega | (simp; done) | (simp; omega)) _) | (with_reducible refine Below.drew ?_) | (with_reducible refine below_drewN ?_ _) | (with_reducible refine Below.trans ?_ (Below.mono (by assumption) (by first | omega | (simp; done) | (simp; omega))))))
set_option maxRecDepth 100000 in
set_option maxHeartbeats 8000000 in
theorem rdisc_err (W H : Int) (ao : Option Addr) (n cap : Nat) (ak : Option Addr) (nk ck : Nat) (ab : Option Addr) (nb cb : Nat) (px py q b z : Int) (sm : Bool) (t : Bool) (w : World) (hs : t = true → 1 ≤ W ∧ W ≤ 64 ∧ 1 ≤ H ∧ H ≤ 64)
    (V : ∀ wx, Below w.heap.size w wx → Calls Tryd.prog 147 #[.agg #[.int .i64 W, .int .i64 H, .slice (ao) n cap], .agg #[.slice (ak) nk ck, .slice (ab) nb cb]] wx fun e w' => e = .returned (.bool t) ∧ Below wx.heap.size wx w')
    (hz : rErr t (decide ((0 : Int) ≤ q ∧ q ≤ 10000) && onA W H (fun _ => px) (fun _ => py) 1) b = z) (hne : z ≠ 0) :
    Calls Tryd.prog 71 #[.agg #[.int .i64 W, .int .i64 H, .slice (ao) n cap], .agg #[.slice (ak) nk ck, .slice (ab) nb cb], .agg #[.int .i64 px, .int .i64 py], .int .i64 q, .int .i64 b, .bool sm] w fun e w' => e = .returned (.tuple #[.agg #[.slice (none) 0 0, .slice (none) 0 0], .int .i64 z]) ∧ Below w.heap.size w w' := by
  have WI := Lib.hid (fun wx => within3_any q 0 10000 wx)
  obtain ⟨r, hr⟩ : ∃ r, r = decide ((0 : Int) ≤ q ∧ q ≤ 10000) := ⟨_, rfl⟩
  rw [← hr] at WI hz
  have SE := Lib.hid (fun wx (bp cp : Nat) (hb : Below w.heap.size w wx) (lp : bp < wx.heap.size) (c0 : wx.cell? ⟨bp, 0, none⟩ = some (.int .i64 px)) (c1 : wx.cell? ⟨bp, 1, none⟩ = some (.int .i64 py)) =>
    (rShErr_any W H ao n cap ak nk ck ab nb cb (fun _ => px) (fun _ => py) b bp 1 cp t r wx (by omega) lp (pts_one c0 c1) hs (fun wy hy => V wy (hb.trans (hy.mono hb.size)))))
  rw [hz] at SE
  have e1 : (z == 0) = false := beq_eq_false_iff_ne.2 hne
  have e2 : (z != 0) = true := by simp [bne, e1]
  clear hr hz hne V hs
  go_enter Tryd.func71, Tryd.ntmps71
  go_wp2
  obtain ⟨t0, t1, t2, t3, hb0, hs0⟩ := shp_blocks w 24 27 31 27 (.int .i64 W) (.int .i64 H) (.slice ao n cap) (.slice ak nk ck) (.slice ab nb cb) (.int .i64 px) (.int .i64 py) (.slice none 0 0) (.slice none 0 0)
  obtain ⟨w0, hw0⟩ : ∃ w0, w0 = ((((w.alloc (.cells #[.int .i64 W, .int .i64 H, .slice ao n cap] 24)).alloc (.cells #[.slice ak nk ck, .slice ab nb cb] 27)).alloc (.cells #[.int .i64 px, .int .i64 py] 31)).alloc (.cells #[.slice none 0 0, .slice none 0 0] 27)) := ⟨_, rfl⟩
  rw [← hw0] at t0 t1 t2 t3 hb0 hs0 ⊢
  have lw0 : w.heap.size + 3 < w0.heap.size := by omega
  clear hw0 hs0
  have g0 := t0.c0
  have g1 := t0.c1
  have g2 := t0.c2
  have k0 := t1.c0
  have k1 := t1.c1
  have q0 := t2.c0
  have q1 := t2.c1
  have r0 := t3.c0
  have r1 := t3.c1
  have rf0 := t3.f0 0
  have rf1 := t3.f0 1
  clear t0 t1 t2 t3
  go_region_held3 (fun w' => w'.cell? ⟨w.heap.size, 0, none⟩ = some (.int .i64 W) ∧ w'.cell? ⟨w.heap.size, 1, none⟩ = some (.int .i64 H) ∧ w'.cell? ⟨w.heap.size, 2, none⟩ = some (.slice ao n cap) ∧ w'.cell? ⟨w.heap.size + 1, 0, none⟩ = some (.slice ak nk ck) ∧ w'.cell? ⟨w.heap.size + 1, 1, none⟩ = some (.slice ab nb cb) ∧ w'.cell? ⟨w.heap.size + 2, 0, none⟩ = some (.int .i64 px) ∧ w'.cell? ⟨w.heap.size + 2, 1, none⟩ = some (.int .i64 py)) (first | (go_split_ands; (try dsimp only); refine ⟨?_, ?_, ?_, ?_, ?_, ?_, ?_⟩ <;> (first | (with_reducible assumption) | (with_reducible exact keep_cell (by assumption) (by first | omega | (simp; done) | (simp; omega)) (by assumption)) | (with_reducible exact (World.cell?_alloc_past _ _ _ (by show _ < _; omega)).trans (by assumption)) | (with_reducible exact (World.cell?_alloc_past _ _ _ (by show _ < _; omega)).trans ((World.cell?_alloc_past _ _ _ (by show _ < _; omega)).symm.trans (by assumption))) | (simp [go_sem]; with_reducible assumption))) | (simp [go_sem, ↓IntWalk.iteOmega, *]; done)) (first | (go_at_call 78; (with_reducible refine (WI.out _).mono ?_); rintro e w1 ⟨rfl, rfl⟩) | (go_at_call 77; (with_reducible refine (SE.out _ _ _ (by (repeat' (first | (with_reducible exact Below.refl _ _) | (with_reducible refine Below.setCell ?_ (by first | omega | (simp; done) | (simp; omega)) _) | (with_reducible refine Below.alloc ?_ (by first | omega | (simp; done) | (simp; omega)) _) | (with_reducible refine Below.drew ?_) | (with_reducible refine below_drewN ?_ _) | (with_reducible refine Below.trans ?_ (Below.mono (by assumption) (by first | omega | (simp; done) | (simp; omega))))))) (by first | (simp; done) | (simp; omega)) (by simp [go_sem, ↓IntWalk.iteOmega]) (by simp [go_sem, ↓IntWalk.iteOmega])).mono ?_); rintro e w1 ⟨rfl, hb⟩; obtain ⟨hc, hf, hz⟩ := bcall hb; (try simp at hc hf hz)))
  all_goals
    rename_i hX9
    clear hX9
    go_wp2
    refine bodyPost_ret (v := .tuple #[.agg #[.slice (none) 0 0, .slice (none) 0 0], .int .i64 z]) (by simp [results, Tryd.results71, go_sem, ↓IntWalk.iteOmega, *]) rfl ⟨rfl, ?_⟩
    (repeat' (first | (with_reducible exact Below.refl _ _) | (with_reducible refine Below.setCell ?_ (by first | omega | (simp; done) | (simp; omega)) _) | (with_reducible refine Below.alloc ?_ (by first | omega | (simp; done) | (simp; omega)) _) | (with_reducible refine Below.drew ?_) | (with_reducible refine below_drewN ?_ _) | (with_reducible refine Below.trans ?_ (Below.mono (by assumption) (by first | omega | (simp; done) | (simp; omega))))))
set_option maxRecDepth 100000 in
set_option maxHeartbeats 8000000 in
theorem rbox_err (W H : Int) (ao : Option Addr) (n cap : Nat) (ak : Option Addr) (nk ck : Nat) (ab : Option Addr) (nb cb : Nat) (px py rx ry kind b z : Int) (t : Bool) (w : World) (hs : t = true → 1 ≤ W ∧ W ≤ 64 ∧ 1 ≤ H ∧ H ≤ 64)
    (V : ∀ wx, Below w.heap.size w wx → Calls Tryd.prog 147 #[.agg #[.int .i64 W, .int .i64 H, .slice (ao) n cap], .agg #[.slice (ak) nk ck, .slice (ab) nb cb]] wx fun e w' => e = .returned (.bool t) ∧ Below wx.heap.size wx w')
    (hz : rErr t (decide ((1 : Int) ≤ kind ∧ kind ≤ 3) && onA W H (pt2 px rx) (pt2 py ry) 2) b = z) (hne : z ≠ 0) :
    Calls Tryd.prog 22 #[.agg #[.int .i64 W, .int .i64 H, .slice (ao) n cap], .agg #[.slice (ak) nk ck, .slice (ab) nb cb], .agg #[.int .i64 px, .int .i64 py], .agg #[.int .i64 rx, .int .i64 ry], .int .i64 kind, .int .i64 b] w fun e w' => e = .returned (.tuple #[.agg #[.slice (none) 0 0, .slice (none) 0 0], .int .i64 z]) ∧ Below w.heap.size w w' := by
  have WI := Lib.hid (fun wx => within3_any kind 1 3 wx)
  obtain ⟨r, hr⟩ : ∃ r, r = decide ((1 : Int) ≤ kind ∧ kind ≤ 3) := ⟨_, rfl⟩
  rw [← hr] at WI hz
  have SE := Lib.hid (fun wx (bp cp : Nat) (hb : Below w.heap.size w wx) (lp : bp < wx.heap.size) (c0 : wx.cell? ⟨bp, 0, none⟩ = some (.int .i64 px)) (c1 : wx.cell? ⟨bp, 1, none⟩ = some (.int .i64 py)) (c2 : wx.cell? ⟨bp, 2, none⟩ = some (.int .i64 rx)) (c3 : wx.cell? ⟨bp, 3, none⟩ = some (.int .i64 ry)) =>
    (rShErr_any W H ao n cap ak nk ck ab nb cb (pt2 px rx) (pt2 py ry) b bp 2 cp t r wx (by omega) lp (pts_two c0 c1 c2 c3) hs (fun wy hy => V wy (hb.trans (hy.mono hb.size)))))
  rw [hz] at SE
  have e1 : (z == 0) = false := beq_eq_false_iff_ne.2 hne
  have e2 : (z != 0) = true := by simp [bne, e1]
  clear hr hz hne V hs
  go_enter Tryd.func22, Tryd.ntmps22
  go_wp2
  obtain ⟨t0, t1, t2, t5, t3, hb0, hs0⟩ := shp_blocks5 w 24 27 31 31 27 (.int .i64 W) (.int .i64 H) (.slice ao n cap) (.slice ak nk ck) (.slice ab nb cb) (.int .i64 px) (.int .i64 py) (.int .i64 rx) (.int .i64 ry) (.slice none 0 0) (.slice none 0 0)
  obtain ⟨w0, hw0⟩ : ∃ w0, w0 = (((((w.alloc (.cells #[.int .i64 W, .int .i64 H, .slice ao n cap] 24)).alloc (.cells #[.slice ak nk ck, .slice ab nb cb] 27)).alloc (.cells #[.int .i64 px, .int .i64 py] 31)).alloc (.cells #[.int .i64 rx, .int .i64 ry] 31)).alloc (.cells #[.slice none 0 0, .slice none 0 0] 27)) := ⟨_, rfl⟩
  rw [← hw0] at t0 t1 t2 t5 t3 hb0 hs0 ⊢
  have lw0 : w.heap.size + 4 < w0.heap.size := by omega
  clear hw0 hs0
  have g0 := t0.c0
  have g1 := t0.c1
  have g2 := t0.c2
  have k0 := t1.c0
  have k1 := t1.c1
  have q0 := t2.c0
  have q1 := t2.c1
  have r0 := t3.c0
  have r1 := t3.c1
  have rf0 := t3.f0 0
  have rf1 := t3.f0 1
  have u0 := t5.c0
  have u1 := t5.c1
  clear t0 t1 t2 t5 t3
  go_region_held3 (fun w' => w'.cell? ⟨w.heap.size, 0, none⟩ = some (.int .i64 W) ∧ w'.cell? ⟨w.heap.size, 1, none⟩ = some (.int .i64 H) ∧ w'.cell? ⟨w.heap.size, 2, none⟩ = some (.slice ao n cap) ∧ w'.cell? ⟨w.heap.size + 1, 0, none⟩ = some (.slice ak nk ck) ∧ w'.cell? ⟨w.heap.size + 1, 1, none⟩ = some (.slice ab nb cb) ∧ w'.cell? ⟨w.heap.size + 2, 0, none⟩ = some (.int .i64 px) ∧ w'.cell? ⟨w.heap.size + 2, 1, none⟩ = some (.int .i64 py) ∧ w'.cell? ⟨w.heap.size + 3, 0, none⟩ = some (.int .i64 rx) ∧ w'.cell? ⟨w.heap.size + 3, 1, none⟩ = some (.int .i64 ry)) (first | (go_split_ands; (try dsimp only); refine ⟨?_, ?_, ?_, ?_, ?_, ?_, ?_, ?_, ?_⟩ <;> (first | (with_reducible assumption) | (with_reducible exact keep_cell (by assumption) (by first | omega | (simp; done) | (simp; omega)) (by assumption)) | (with_reducible exact (World.cell?_alloc_past _ _ _ (by show _ < _; omega)).trans (by assumption)) | (with_reducible exact (World.cell?_alloc_past _ _ _ (by show _ < _; omega)).trans ((World.cell?_alloc_past _ _ _ (by show _ < _; omega)).symm.trans (by assumption))) | (simp [go_sem]; with_reducible assumption))) | (simp [go_sem, ↓IntWalk.iteOmega, *]; done)) (first | (go_at_call 78; (with_reducible refine (WI.out _).mono ?_); rintro e w1 ⟨rfl, rfl⟩) | (go_at_call 77; (with_reducible refine (SE.out _ _ _ (by (repeat' (first | (with_reducible exact Below.refl _ _) | (with_reducible refine Below.setCell ?_ (by first | omega | (simp; done) | (simp; omega)) _) | (with_reducible refine Below.alloc ?_ (by first | omega | (simp; done) | (simp; omega)) _) | (with_reducible refine Below.drew ?_) | (with_reducible refine below_drewN ?_ _) | (with_reducible refine Below.trans ?_ (Below.mono (by assumption) (by first | omega | (simp; done) | (simp; omega))))))) (by first | (simp; done) | (simp; omega)) (by simp [go_sem, ↓IntWalk.iteOmega]) (by simp [go_sem, ↓IntWalk.iteOmega]) (by simp [go_sem, ↓IntWalk.iteOmega]) (by simp [go_sem, ↓IntWalk.iteOmega])).mono ?_); rintro e w1 ⟨rfl, hb⟩; obtain ⟨hc, hf, hz⟩ := bcall hb; (try simp at hc hf hz)))
  all_goals
    rename_i hX9
    clear hX9
    go_wp2
    refine bodyPost_ret (v := .tuple #[.agg #[.slice (none) 0 0, .slice (none) 0 0], .int .i64 z]) (by simp [results, Tryd.results22, go_sem, ↓IntWalk.iteOmega, *]) rfl ⟨rfl, ?_⟩
    (repeat' (first | (with_reducible exact Below.refl _ _) | (with_reducible refine Below.setCell ?_ (by first | omega | (simp; done) | (simp; omega)) _) | (with_reducible refine Below.alloc ?_ (by first | omega | (simp; done) | (simp; omega)) _) | (with_reducible refine Below.drew ?_) | (with_reducible refine below_drewN ?_ _) | (with_reducible refine Below.trans ?_ (Below.mono (by assumption) (by first | omega | (simp; done) | (simp; omega))))))
set_option maxRecDepth 100000 in
set_option maxHeartbeats 8000000 in
theorem rslope_err (W H : Int) (ao : Option Addr) (n cap : Nat) (ak : Option Addr) (nk ck : Nat) (ab : Option Addr) (nb cb : Nat) (px py m b z : Int) (up : Bool) (t : Bool) (w : World) (hs : t = true → 1 ≤ W ∧ W ≤ 64 ∧ 1 ≤ H ∧ H ≤ 64)
    (V : ∀ wx, Below w.heap.size w wx → Calls Tryd.prog 147 #[.agg #[.int .i64 W, .int .i64 H, .slice (ao) n cap], .agg #[.slice (ak) nk ck, .slice (ab) nb cb]] wx fun e w' => e = .returned (.bool t) ∧ Below wx.heap.size wx w')
    (hz : rErr t (decide ((1 : Int) ≤ m ∧ m ≤ 64) && onA W H (fun _ => px) (fun _ => py) 1) b = z) (hne : z ≠ 0) :
    Calls Tryd.prog 24 #[.agg #[.int .i64 W, .int .i64 H, .slice (ao) n cap], .agg #[.slice (ak) nk ck, .slice (ab) nb cb], .agg #[.int .i64 px, .int .i64 py], .int .i64 m, .bool up, .int .i64 b] w fun e w' => e = .returned (.tuple #[.agg #[.slice (none) 0 0, .slice (none) 0 0], .int .i64 z]) ∧ Below w.heap.size w w' := by
  have WI := Lib.hid (fun wx => within3_any m 1 64 wx)
  obtain ⟨r, hr⟩ : ∃ r, r = decide ((1 : Int) ≤ m ∧ m ≤ 64) := ⟨_, rfl⟩
  rw [← hr] at WI hz
  have SE := Lib.hid (fun wx (bp cp : Nat) (hb : Below w.heap.size w wx) (lp : bp < wx.heap.size) (c0 : wx.cell? ⟨bp, 0, none⟩ = some (.int .i64 px)) (c1 : wx.cell? ⟨bp, 1, none⟩ = some (.int .i64 py)) =>
    (rShErr_any W H ao n cap ak nk ck ab nb cb (fun _ => px) (fun _ => py) b bp 1 cp t r wx (by omega) lp (pts_one c0 c1) hs (fun wy hy => V wy (hb.trans (hy.mono hb.size)))))
  rw [hz] at SE
  have e1 : (z == 0) = false := beq_eq_false_iff_ne.2 hne
  have e2 : (z != 0) = true := by simp [bne, e1]
  clear hr hz hne V hs
  go_enter Tryd.func24, Tryd.ntmps24
  go_wp2
  obtain ⟨t0, t1, t2, t3, hb0, hs0⟩ := shp_blocks w 24 27 31 27 (.int .i64 W) (.int .i64 H) (.slice ao n cap) (.slice ak nk ck) (.slice ab nb cb) (.int .i64 px) (.int .i64 py) (.slice none 0 0) (.slice none 0 0)
  obtain ⟨w0, hw0⟩ : ∃ w0, w0 = ((((w.alloc (.cells #[.int .i64 W, .int .i64 H, .slice ao n cap] 24)).alloc (.cells #[.slice ak nk ck, .slice ab nb cb] 27)).alloc (.cells #[.int .i64 px, .int .i64 py] 31)).alloc (.cells #[.slice none 0 0, .slice none 0 0] 27)) := ⟨_, rfl⟩
  rw [← hw0] at t0 t1 t2 t3 hb0 hs0 ⊢
  have lw0 : w.heap.size + 3 < w0.heap.size := by omega
  clear hw0 hs0
  have g0 := t0.c0
  have g1 := t0.c1
  have g2 := t0.c2
  have k0 := t1.c0
  have k1 := t1.c1
  have q0 := t2.c0
  have q1 := t2.c1
  have r0 := t3.c0
  have r1 := t3.c1
  have rf0 := t3.f0 0
  have rf1 := t3.f0 1
  clear t0 t1 t2 t3
  go_region_held3 (fun w' => w'.cell? ⟨w.heap.size, 0, none⟩ = some (.int .i64 W) ∧ w'.cell? ⟨w.heap.size, 1, none⟩ = some (.int .i64 H) ∧ w'.cell? ⟨w.heap.size, 2, none⟩ = some (.slice ao n cap) ∧ w'.cell? ⟨w.heap.size + 1, 0, none⟩ = some (.slice ak nk ck) ∧ w'.cell? ⟨w.heap.size + 1, 1, none⟩ = some (.slice ab nb cb) ∧ w'.cell? ⟨w.heap.size + 2, 0, none⟩ = some (.int .i64 px) ∧ w'.cell? ⟨w.heap.size + 2, 1, none⟩ = some (.int .i64 py)) (first | (go_split_ands; (try dsimp only); refine ⟨?_, ?_, ?_, ?_, ?_, ?_, ?_⟩ <;> (first | (with_reducible assumption) | (with_reducible exact keep_cell (by assumption) (by first | omega | (simp; done) | (simp; omega)) (by assumption)) | (with_reducible exact (World.cell?_alloc_past _ _ _ (by show _ < _; omega)).trans (by assumption)) | (with_reducible exact (World.cell?_alloc_past _ _ _ (by show _ < _; omega)).trans ((World.cell?_alloc_past _ _ _ (by show _ < _; omega)).symm.trans (by assumption))) | (simp [go_sem]; with_reducible assumption))) | (simp [go_sem, ↓IntWalk.iteOmega, *]; done)) (first | (go_at_call 78; (with_reducible refine (WI.out _).mono ?_); rintro e w1 ⟨rfl, rfl⟩) | (go_at_call 77; (with_reducible refine (SE.out _ _ _ (by (repeat' (first | (with_reducible exact Below.refl _ _) | (with_reducible refine Below.setCell ?_ (by first | omega | (simp; done) | (simp; omega)) _) | (with_reducible refine Below.alloc ?_ (by first | omega | (simp; done) | (simp; omega)) _) | (with_reducible refine Below.drew ?_) | (with_reducible refine below_drewN ?_ _) | (with_reducible refine Below.trans ?_ (Below.mono (by assumption) (by first | omega | (simp; done) | (simp; omega))))))) (by first | (simp; done) | (simp; omega)) (by simp [go_sem, ↓IntWalk.iteOmega]) (by simp [go_sem, ↓IntWalk.iteOmega])).mono ?_); rintro e w1 ⟨rfl, hb⟩; obtain ⟨hc, hf, hz⟩ := bcall hb; (try simp at hc hf hz)))
  all_goals
    rename_i hX9
    clear hX9
    go_wp2
    refine bodyPost_ret (v := .tuple #[.agg #[.slice (none) 0 0, .slice (none) 0 0], .int .i64 z]) (by simp [results, Tryd.results24, go_sem, ↓IntWalk.iteOmega, *]) rfl ⟨rfl, ?_⟩
    (repeat' (first | (with_reducible exact Below.refl _ _) | (with_reducible refine Below.setCell ?_ (by first | omega | (simp; done) | (simp; omega)) _) | (with_reducible refine Below.alloc ?_ (by first | omega | (simp; done) | (simp; omega)) _) | (with_reducible refine Below.drew ?_) | (with_reducible refine below_drewN ?_ _) | (with_reducible refine Below.trans ?_ (Below.mono (by assumption) (by first | omega | (simp; done) | (simp; omega))))))
set_option maxRecDepth 100000 in
set_option maxHeartbeats 4000000 in
theorem rDisc_err (W H : Int) (ao : Option Addr) (n cap : Nat) (ak : Option Addr) (nk ck : Nat) (ab : Option Addr) (nb cb : Nat) (px py q b z : Int) (w : World) (DC : ∀ wx, Below w.heap.size w wx → Calls Tryd.prog 71 #[.agg #[.int .i64 W, .int .i64 H, .slice (ao) n cap], .agg #[.slice (ak) nk ck, .slice (ab) nb cb], .agg #[.int .i64 px, .int .i64 py], .int .i64 q, .int .i64 b, .bool false] wx fun e w' => e = .returned (.tuple #[.agg #[.slice (none) 0 0, .slice (none) 0 0], .int .i64 z]) ∧ Below wx.heap.size wx w') :
    Calls Tryd.prog 16 #[.agg #[.int .i64 W, .int .i64 H, .slice (ao) n cap], .agg #[.slice (ak) nk ck, .slice (ab) nb cb], .agg #[.int .i64 px, .int .i64 py], .int .i64 q, .int .i64 b] w fun e w' => e = .returned (.tuple #[.agg #[.slice (none) 0 0, .slice (none) 0 0], .int .i64 z]) ∧ Below w.heap.size w w' := by
  have DC := Lib.hid DC
  go_enter Tryd.func16, Tryd.ntmps16
  go_wp2_with (go_at_call 71; (with_reducible refine (DC.out _ (by (repeat' (first | (with_reducible exact Below.refl _ _) | (with_reducible refine Below.setCell ?_ (by first | omega | (simp; done) | (simp; omega)) _) | (with_reducible refine Below.alloc ?_ (by first | omega | (simp; done) | (simp; omega)) _) | (with_reducible refine Below.drew ?_) | (with_reducible refine below_drewN ?_ _) | (with_reducible refine Below.trans ?_ (Below.mono (by assumption) (by first | omega | (simp; done) | (simp; omega)))))))).mono ?_); rintro e w1 ⟨rfl, hb⟩; obtain ⟨hc, hf, hz⟩ := bcall hb; (try simp at hc hf hz))
  refine bodyPost_ret (v := .tuple #[.agg #[.slice (none) 0 0, .slice (none) 0 0], .int .i64 z]) (by simp [results, Tryd.results16, go_sem, ↓IntWalk.iteOmega, *]) rfl ⟨rfl, ?_⟩
  (repeat' (first | (with_reducible exact Below.refl _ _) | (with_reducible refine Below.setCell ?_ (by first | omega | (simp; done) | (simp; omega)) _) | (with_reducible refine Below.alloc ?_ (by first | omega | (simp; done) | (simp; omega)) _) | (with_reducible refine Below.drew ?_) | (with_reducible refine below_drewN ?_ _) | (with_reducible refine Below.trans ?_ (Below.mono (by assumption) (by first | omega | (simp; done) | (simp; omega))))))
set_option maxRecDepth 100000 in
set_option maxHeartbeats 4000000 in
theorem rDisc_put (W H : Int) (ao : Option Addr) (n cap : Nat) (ak : Option Addr) (nk ck : Nat) (ab : Option Addr) (nb cb : Nat) (px py q b : Int) (N : Nat) (S K B : Nat → Int) (w : World) (DC : ∀ wx, Below w.heap.size w wx → Calls Tryd.prog 71 #[.agg #[.int .i64 W, .int .i64 H, .slice (ao) n cap], .agg #[.slice (ak) nk ck, .slice (ab) nb cb], .agg #[.int .i64 px, .int .i64 py], .int .i64 q, .int .i64 b, .bool false] wx (PutR N S K B b wx)) :
    Calls Tryd.prog 16 #[.agg #[.int .i64 W, .int .i64 H, .slice (ao) n cap], .agg #[.slice (ak) nk ck, .slice (ab) nb cb], .agg #[.int .i64 px, .int .i64 py], .int .i64 q, .int .i64 b] w (PutR N S K B b w) := by
  have DC := Lib.hid DC
  go_enter Tryd.func16, Tryd.ntmps16
  go_wp2_with (go_at_call 71; (with_reducible refine (DC.out _ (by (repeat' (first | (with_reducible exact Below.refl _ _) | (with_reducible refine Below.setCell ?_ (by first | omega | (simp; done) | (simp; omega)) _) | (with_reducible refine Below.alloc ?_ (by first | omega | (simp; done) | (simp; omega)) _) | (with_reducible refine Below.drew ?_) | (with_reducible refine below_drewN ?_ _) | (with_reducible refine Below.trans ?_ (Below.mono (by assumption) (by first | omega | (simp; done) | (simp; omega)))))))).mono ?_); intro e w5 hP5; obtain ⟨a5, b5, m5, c5, d5, z5, rfl, hb5, hst⟩ := putR_store (w := w) (R := w.heap.size + 1 + 1 + 1) hP5 (show Below w.heap.size w _ from by (repeat' (first | (with_reducible exact Below.refl _ _) | (with_reducible refine Below.setCell ?_ (by first | omega | (simp; done) | (simp; omega)) _) | (with_reducible refine Below.alloc ?_ (by first | omega | (simp; done) | (simp; omega)) _) | (with_reducible refine Below.drew ?_) | (with_reducible refine below_drewN ?_ _) | (with_reducible refine Below.trans ?_ (Below.mono (by assumption) (by first | omega | (simp; done) | (simp; omega))))))) (by omega) (by simp); clear hP5; have HST := Lib.hid hst; clear hst; obtain ⟨hc5, hf5, hz5⟩ := bcall hb5; (try simp at hc5 hf5 hz5))
  refine bodyPost_ret (v := .tuple #[.agg #[.slice (a5) m5 c5, .slice (b5) m5 d5], .int .i64 z5]) (by simp [results, Tryd.results16, go_sem, ↓IntWalk.iteOmega, *]) rfl ?_
  exact HST.out _ rfl
set_option maxRecDepth 100000 in
set_option maxHeartbeats 4000000 in
theorem rSmooth_err (W H : Int) (ao : Option Addr) (n cap : Nat) (ak : Option Addr) (nk ck : Nat) (ab : Option Addr) (nb cb : Nat) (px py q b z : Int) (w : World) (DC : ∀ wx, Below w.heap.size w wx → Calls Tryd.prog 71 #[.agg #[.int .i64 W, .int .i64 H, .slice (ao) n cap], .agg #[.slice (ak) nk ck, .slice (ab) nb cb], .agg #[.int .i64 px, .int .i64 py], .int .i64 q, .int .i64 b, .bool true] wx fun e w' => e = .returned (.tuple #[.agg #[.slice (none) 0 0, .slice (none) 0 0], .int .i64 z]) ∧ Below wx.heap.size wx w') :
    Calls Tryd.prog 19 #[.agg #[.int .i64 W, .int .i64 H, .slice (ao) n cap], .agg #[.slice (ak) nk ck, .slice (ab) nb cb], .agg #[.int .i64 px, .int .i64 py], .int .i64 q, .int .i64 b] w fun e w' => e = .returned (.tuple #[.agg #[.slice (none) 0 0, .slice (none) 0 0], .int .i64 z]) ∧ Below w.heap.size w w' := by
  have DC := Lib.hid DC
  go_enter Tryd.func19, Tryd.ntmps19
  go_wp2_with (go_at_call 71; (with_reducible refine (DC.out _ (by (repeat' (first | (with_reducible exact Below.refl _ _) | (with_reducible refine Below.setCell ?_ (by first | omega | (simp; done) | (simp; omega)) _) | (with_reducible refine Below.alloc ?_ (by first | omega | (simp; done) | (simp; omega)) _) | (with_reducible refine Below.drew ?_) | (with_reducible refine below_drewN ?_ _) | (with_reducible refine Below.trans ?_ (Below.mono (by assumption) (by first | omega | (simp; done) | (simp; omega)))))))).mono ?_); rintro e w1 ⟨rfl, hb⟩; obtain ⟨hc, hf, hz⟩ := bcall hb; (try simp at hc hf hz))
  refine bodyPost_ret (v := .tuple #[.agg #[.slice (none) 0 0, .slice (none) 0 0], .int .i64 z]) (by simp [results, Tryd.results19, go_sem, ↓IntWalk.iteOmega, *]) rfl ⟨rfl, ?_⟩
  (repeat' (first | (with_reducible exact Below.refl _ _) | (with_reducible refine Below.setCell ?_ (by first | omega | (simp; done) | (simp; omega)) _) | (with_reducible refine Below.alloc ?_ (by first | omega | (simp; done) | (simp; omega)) _) | (with_reducible refine Below.drew ?_) | (with_reducible refine below_drewN ?_ _) | (with_reducible refine Below.trans ?_ (Below.mono (by assumption) (by first | omega | (simp; done) | (simp; omega))))))
set_option maxRecDepth 100000 in
set_option maxHeartbeats 4000000 in
theorem rSmooth_put (W H : Int) (ao : Option Addr) (n cap : Nat) (ak : Option Addr) (nk ck : Nat) (ab : Option Addr) (nb cb : Nat) (px py q b : Int) (N : Nat) (S K B : Nat → Int) (w : World) (DC : ∀ wx, Below w.heap.size w wx → Calls Tryd.prog 71 #[.agg #[.int .i64 W, .int .i64 H, .slice (ao) n cap], .agg #[.slice (ak) nk ck, .slice (ab) nb cb], .agg #[.int .i64 px, .int .i64 py], .int .i64 q, .int .i64 b, .bool true] wx (PutR N S K B b wx)) :
    Calls Tryd.prog 19 #[.agg #[.int .i64 W, .int .i64 H, .slice (ao) n cap], .agg #[.slice (ak) nk ck, .slice (ab) nb cb], .agg #[.int .i64 px, .int .i64 py], .int .i64 q, .int .i64 b] w (PutR N S K B b w) := by
  have DC := Lib.hid DC
  go_enter Tryd.func19, Tryd.ntmps19
  go_wp2_with (go_at_call 71; (with_reducible refine (DC.out _ (by (repeat' (first | (with_reducible exact Below.refl _ _) | (with_reducible refine Below.setCell ?_ (by first | omega | (simp; done) | (simp; omega)) _) | (with_reducible refine Below.alloc ?_ (by first | omega | (simp; done) | (simp; omega)) _) | (with_reducible refine Below.drew ?_) | (with_reducible refine below_drewN ?_ _) | (with_reducible refine Below.trans ?_ (Below.mono (by assumption) (by first | omega | (simp; done) | (simp; omega)))))))).mono ?_); intro e w5 hP5; obtain ⟨a5, b5, m5, c5, d5, z5, rfl, hb5, hst⟩ := putR_store (w := w) (R := w.heap.size + 1 + 1 + 1) hP5 (show Below w.heap.size w _ from by (repeat' (first | (with_reducible exact Below.refl _ _) | (with_reducible refine Below.setCell ?_ (by first | omega | (simp; done) | (simp; omega)) _) | (with_reducible refine Below.alloc ?_ (by first | omega | (simp; done) | (simp; omega)) _) | (with_reducible refine Below.drew ?_) | (with_reducible refine below_drewN ?_ _) | (with_reducible refine Below.trans ?_ (Below.mono (by assumption) (by first | omega | (simp; done) | (simp; omega))))))) (by omega) (by simp); clear hP5; have HST := Lib.hid hst; clear hst; obtain ⟨hc5, hf5, hz5⟩ := bcall hb5; (try simp at hc5 hf5 hz5))
  refine bodyPost_ret (v := .tuple #[.agg #[.slice (a5) m5 c5, .slice (b5) m5 d5], .int .i64 z5]) (by simp [results, Tryd.results19, go_sem, ↓IntWalk.iteOmega, *]) rfl ?_
  exact HST.out _ rfl
end Go.Proofs.YtglkikdjchpmjaaDoor

/- Shapes: one form for what both sides give. -/

namespace Go.Proofs.YtglkikdjchpmjaaDoor
set_option linter.unusedSimpArgs false
set_option linter.unusedVariables false
open Go.RowKit

/-- A wall and an error, whatever they are. -/
def WZ (n : Nat) (K B : Nat → Int) (z : Int) (w : World) (e : Ending) (w' : World) : Prop := ∃ (ak ab : Option Addr) (ck cb : Nat), e = .returned (.tuple #[.agg #[.slice (ak) n ck, .slice (ab) n cb], .int .i64 z]) ∧ Hid (NumsIn w' ak n K ∧ NumsIn w' ab n B) ∧ ((∀ p, ak = some p → w.heap.size ≤ p.block) ∧ ∀ p, ab = some p → w.heap.size ≤ p.block) ∧ Below w.heap.size w w'
theorem NumsIn.setOther {w : World} {ao : Option Addr} {n b i : Nat} {K : Nat → Int} {v : Value} (h : NumsIn w ao n K) (hs : ∀ p, ao = some p → p.block ≠ b) : NumsIn (w.setCell ⟨b, i, none⟩ v) ao n K := by
  rcases h with h | ⟨g, off, rfl, hlt, hN⟩
  · exact .inl h
  · have hg : g ≠ b := hs _ rfl
    refine .inr ⟨g, off, rfl, by simpa [World.setCell] using hlt, fun j hj => ?_⟩
    have x : Ex (fun k => k = b) w (w.setCell ⟨b, i, none⟩ v) := by
      refine Ex.setCell (Ex.refl _ w) ?_ _
      rfl
    exact (x.cell hlt hg).trans (hN j hj)
theorem wz_nil {K B : Nat → Int} {z : Int} {w : World} {e : Ending} {w' : World} (h : e = .returned (.tuple #[.agg #[.slice (none) 0 0, .slice (none) 0 0], .int .i64 z]) ∧ Below w.heap.size w w') : WZ 0 K B z w e w' := ⟨none, none, 0, 0, h.1, Lib.hid ⟨.inl rfl, .inl rfl⟩, ⟨fun p hp => (by cases hp), fun p hp => (by cases hp)⟩, h.2⟩
theorem rowI_numsIn {w : World} {b n : Nat} {K : Nat → Int} (h : RowI w b n K) : NumsIn w (some ⟨b, 0, none⟩) n K := .inr ⟨b, 0, rfl, h.1, h.nums⟩
theorem wz_put {n : Nat} {S K B : Nat → Int} {b : Int} {w : World} {e : Ending} {w' : World} (h : PutR n S K B b w e w') (hf : freeS S B b n) : WZ n (putK S K n) (putB S B b n) 0 w e w' := by
  rcases h with ⟨_, bk, bb, ck, cb, he, hO, l0, l1, hy⟩ | ⟨h, _⟩
  · exact ⟨_, _, ck, cb, he, Lib.hid ⟨rowI_numsIn hO.out.1, rowI_numsIn hO.out.2.1⟩, ⟨fun p hp => (by cases hp; exact l0), fun p hp => (by cases hp; exact l1)⟩, hy⟩
  · exact absurd hf h
theorem wz_bad {n : Nat} {S K B K' B' : Nat → Int} {b : Int} {w : World} {e : Ending} {w' : World} (h : PutR n S K B b w e w') (hf : ¬ freeS S B b n) : WZ 0 K' B' 11 w e w' := by
  rcases h with ⟨h, _⟩ | ⟨_, he, hy⟩
  · exact absurd h hf
  · exact wz_nil ⟨he, hy⟩
theorem sup_free {S S' B : Nat → Int} {b : Int} {n : Nat} (h : ∀ i, S i ≠ 0 ↔ S' i ≠ 0) : freeS S B b n ↔ freeS S' B b n := ⟨fun hf i hi hs => hf i hi ((h i).2 hs), fun hf i hi hs => hf i hi ((h i).1 hs)⟩
theorem sup_putB {S S' B : Nat → Int} {b : Int} {n : Nat} (h : ∀ i, S i ≠ 0 ↔ S' i ≠ 0) : putB S B b n = putB S' B b n := funext fun i => by
  unfold putB
  by_cases e : S i = 0
  · have e' : S' i = 0 := Classical.byContradiction fun h2 => (h i).2 h2 e
    simp [e, e']
  · have e' : S' i ≠ 0 := (h i).1 e
    simp [e, e']

section
variable (W H : Int) (ao : Option Addr) (n cap : Nat) (G : Nat → Nat → Int) (ak : Option Addr) (nk ck : Nat) (K : Nat → Int) (ab : Option Addr) (nb cb : Nat) (B : Nat → Int) (w : World)
theorem wvalid_both (hG : CellsIn w ao n G) (hK : NumsIn w ak nk K) (hB : NumsIn w ab nb B) : ∃ t : Bool, (t = true ↔ WV W H n G nk K nb B) ∧
    (∀ wx, Below w.heap.size w wx → Calls Tryd.prog 85 #[.agg #[.int .i64 W, .int .i64 H, .slice (ao) n cap], .agg #[.slice (ak) nk ck, .slice (ab) nb cb]] wx fun e w' => e = .returned (.bool t) ∧ Below wx.heap.size wx w') ∧
    (∀ wx, Below w.heap.size w wx → Calls Tryd.prog 147 #[.agg #[.int .i64 W, .int .i64 H, .slice (ao) n cap], .agg #[.slice (ak) nk ck, .slice (ab) nb cb]] wx fun e w' => e = .returned (.bool t) ∧ Below wx.heap.size wx w') := by
  by_cases hv : WV W H n G nk K nb B
  · exact ⟨true, ⟨fun _ => hv, fun _ => rfl⟩, fun wx hb => wValid_yes W H ao n cap G ak nk ck K ab nb cb B wx hv (hG.below hb) (hK.below hb) (hB.below hb), fun wx hb => rwValid_yes W H ao n cap G ak nk ck K ab nb cb B wx hv (hG.below hb) (hK.below hb) (hB.below hb)⟩
  · exact ⟨false, ⟨fun h => (by cases h), fun h => absurd h hv⟩, fun wx hb => wValid_no W H ao n cap G ak nk ck K ab nb cb B wx hv (hG.below hb) (hK.below hb) (hB.below hb), fun wx hb => rwValid_no W H ao n cap G ak nk ck K ab nb cb B wx hv (hG.below hb) (hK.below hb) (hB.below hb)⟩

theorem box_wz (px py rx ry kind b : Int) (hG : CellsIn w ao n G) (hK : NumsIn w ak nk K) (hB : NumsIn w ab nb B) : ∃ (m : Nat) (K' B' : Nat → Int) (z : Int), m ≤ 1000000 ∧
    (∀ wx, Below w.heap.size w wx → Calls Tryd.prog 21 #[.agg #[.int .i64 W, .int .i64 H, .slice (ao) n cap], .agg #[.slice (ak) nk ck, .slice (ab) nb cb], .agg #[.int .i64 px, .int .i64 py], .agg #[.int .i64 rx, .int .i64 ry], .int .i64 kind, .int .i64 b] wx (WZ m K' B' z wx)) ∧
    (∀ wx, Below w.heap.size w wx → Calls Tryd.prog 22 #[.agg #[.int .i64 W, .int .i64 H, .slice (ao) n cap], .agg #[.slice (ak) nk ck, .slice (ab) nb cb], .agg #[.int .i64 px, .int .i64 py], .agg #[.int .i64 rx, .int .i64 ry], .int .i64 kind, .int .i64 b] wx (WZ m K' B' z wx)) := by
  obtain ⟨t, ht, v1, v2⟩ := wvalid_both W H ao n cap G ak nk ck K ab nb cb B w hG hK hB
  have CS : ∀ wx, Below w.heap.size w wx → Calls Tryd.prog 73 #[.agg #[.int .i64 W, .int .i64 H, .slice (ao) n cap], .agg #[.slice (ak) nk ck, .slice (ab) nb cb], .agg #[.int .i64 px, .int .i64 py], .int .i64 b] wx fun e w' => e = .returned (.int .i64 (sErr t b W H px py)) ∧ Below wx.heap.size wx w' := fun wx hb =>
    checkShape_any W H ao n cap ak nk ck ab nb cb wx t b px py (fun wy hy => v1 wy (hb.trans (hy.mono hb.size)))
  have V2 : ∀ wx, Below w.heap.size w wx → ∀ wy, Below wx.heap.size wx wy → Calls Tryd.prog 147 #[.agg #[.int .i64 W, .int .i64 H, .slice (ao) n cap], .agg #[.slice (ak) nk ck, .slice (ab) nb cb]] wy fun e w' => e = .returned (.bool t) ∧ Below wy.heap.size wy w' := fun wx hb wy hy => v2 wy (hb.trans (hy.mono hb.size))
  have CS2 : ∀ wx, Below w.heap.size w wx → ∀ wy, Below wx.heap.size wx wy → Calls Tryd.prog 73 #[.agg #[.int .i64 W, .int .i64 H, .slice (ao) n cap], .agg #[.slice (ak) nk ck, .slice (ab) nb cb], .agg #[.int .i64 px, .int .i64 py], .int .i64 b] wy fun e w' => e = .returned (.int .i64 (sErr t b W H px py)) ∧ Below wy.heap.size wy w' := fun wx hb wy hy => CS wy (hb.trans (hy.mono hb.size))
  by_cases hv : WV W H n G nk K nb B
  · obtain rfl : t = true := ht.2 hv
    obtain ⟨h1, rfl, rfl, h2⟩ := hv
    have hp := vg_pos h1
    obtain ⟨W', H', rfl, rfl, s, _⟩ := Sides.vg h1
    have w0 := s.w0
    have w1 := s.w1
    have h0 := s.h0
    have h1' := s.h1
    by_cases hall : OnG W' H' px py ∧ OnG W' H' rx ry ∧ (1 ≤ kind ∧ kind ≤ 3) ∧ 1 ≤ b ∧ b ≤ 9
    · obtain ⟨op, oq, ⟨kd1, kd2⟩, b1, b2⟩ := hall
      have es : sErr true b W' H' px py = 0 := by simp [sErr, bErr, op, b1, b2]
      rw [es] at CS2
      obtain ⟨bk, ok, rfl, lk, hk⟩ := numsAt_of hK hp.1
      obtain ⟨bb, ob, rfl, lb, hb2⟩ := numsAt_of hB hp.1
      have P1 := fun wx (hb : Below w.heap.size w wx) => wbox_ok W' H' nb cap ao bk ok ck bb ob cb K B px py rx ry kind b wx s op oq kd1 kd2 (Nat.lt_of_lt_of_le lk hb.size) (hk.below hb lk) (Nat.lt_of_lt_of_le lb hb.size) (hb2.below hb lb) (CS2 wx hb)
      have P2 := fun wx (hb : Below w.heap.size w wx) => rbox_ok W' H' nb cap ao bk ok ck bb ob cb K B px py rx ry kind b wx s op oq kd1 kd2 b1 b2 (Nat.lt_of_lt_of_le lk hb.size) (hk.below hb lk) (Nat.lt_of_lt_of_le lb hb.size) (hb2.below hb lb) (V2 wx hb)
      by_cases hf : freeS (shpS W' (inB px py rx ry) (fun _ _ => kind)) B b nb
      · exact ⟨nb, _, _, 0, by omega, fun wx hb => (P1 wx hb).mono fun _ _ h => wz_put h hf, fun wx hb => (P2 wx hb).mono fun _ _ h => wz_put h hf⟩
      · exact ⟨0, fun _ => 0, fun _ => 0, 11, by omega, fun wx hb => (P1 wx hb).mono fun _ _ h => wz_bad h hf, fun wx hb => (P2 wx hb).mono fun _ _ h => wz_bad h hf⟩
    · refine ⟨0, fun _ => 0, fun _ => 0, 7, by omega, fun wx hb => ?_, fun wx hb => ?_⟩
      · by_cases hs : (1 ≤ b ∧ b ≤ 9) ∧ OnG W' H' px py
        · have es : sErr true b W' H' px py = 0 := by simp [sErr, bErr, hs]
          rw [es] at CS2
          by_cases oq : OnG W' H' rx ry
          · have hk3 : kind < 1 ∨ 3 < kind := Classical.byContradiction fun h => hall ⟨hs.2, oq, ⟨by omega, by omega⟩, hs.1⟩
            exact (wbox_kind W' H' ao nb cap ak nb ck ab nb cb px py rx ry kind b wx oq hk3 (CS2 wx hb)).mono fun _ _ h => wz_nil h
          · exact (wbox_on W' H' ao nb cap ak nb ck ab nb cb px py rx ry kind b wx oq (CS2 wx hb)).mono fun _ _ h => wz_nil h
        · have es : sErr true b W' H' px py = 7 := by
            by_cases h9 : 1 ≤ b ∧ b ≤ 9
            · have h8 : ¬ OnG W' H' px py := fun h => hs ⟨h9, h⟩
              simp [sErr, bErr, h9, h8]
            · simp [sErr, bErr, h9]
          rw [es] at CS2
          exact (wbox_chk W' H' ao nb cap ak nb ck ab nb cb px py rx ry kind b 7 wx (by omega) (CS2 wx hb)).mono fun _ _ h => wz_nil h
      · refine (rbox_err W' H' ao nb cap ak nb ck ab nb cb px py rx ry kind b 7 true wx (fun _ => ⟨by omega, by omega, by omega, by omega⟩) (V2 wx hb) ?_ (by omega)).mono fun _ _ h => wz_nil h
        rw [onA_two]
        unfold rErr
        rw [if_pos rfl, if_neg]
        intro h
        simp only [Bool.and_eq_true, decide_eq_true_eq] at h
        exact hall ⟨h.1.2.1, h.1.2.2, h.1.1, h.2⟩
  · obtain rfl : t = false := by cases t <;> simp_all
    have es : sErr false b W H px py = 1 := by simp [sErr, bErr]
    rw [es] at CS2
    exact ⟨0, fun _ => 0, fun _ => 0, 1, by omega, fun wx hb => (wbox_chk W H ao n cap ak nk ck ab nb cb px py rx ry kind b 1 wx (by omega) (CS2 wx hb)).mono fun _ _ h => wz_nil h, fun wx hb => (rbox_err W H ao n cap ak nk ck ab nb cb px py rx ry kind b 1 false wx (fun h => by cases h) (V2 wx hb) (by simp [rErr]) (by omega)).mono fun _ _ h => wz_nil h⟩
theorem slope_wz (px py m b : Int) (up : Bool) (hG : CellsIn w ao n G) (hK : NumsIn w ak nk K) (hB : NumsIn w ab nb B) : ∃ (m' : Nat) (K' B' : Nat → Int) (z : Int), m' ≤ 1000000 ∧
    (∀ wx, Below w.heap.size w wx → Calls Tryd.prog 23 #[.agg #[.int .i64 W, .int .i64 H, .slice (ao) n cap], .agg #[.slice (ak) nk ck, .slice (ab) nb cb], .agg #[.int .i64 px, .int .i64 py], .int .i64 m, .bool up, .int .i64 b] wx (WZ m' K' B' z wx)) ∧
    (∀ wx, Below w.heap.size w wx → Calls Tryd.prog 24 #[.agg #[.int .i64 W, .int .i64 H, .slice (ao) n cap], .agg #[.slice (ak) nk ck, .slice (ab) nb cb], .agg #[.int .i64 px, .int .i64 py], .int .i64 m, .bool up, .int .i64 b] wx (WZ m' K' B' z wx)) := by
  obtain ⟨t, ht, v1, v2⟩ := wvalid_both W H ao n cap G ak nk ck K ab nb cb B w hG hK hB
  have CS : ∀ wx, Below w.heap.size w wx → Calls Tryd.prog 73 #[.agg #[.int .i64 W, .int .i64 H, .slice (ao) n cap], .agg #[.slice (ak) nk ck, .slice (ab) nb cb], .agg #[.int .i64 px, .int .i64 py], .int .i64 b] wx fun e w' => e = .returned (.int .i64 (sErr t b W H px py)) ∧ Below wx.heap.size wx w' := fun wx hb =>
    checkShape_any W H ao n cap ak nk ck ab nb cb wx t b px py (fun wy hy => v1 wy (hb.trans (hy.mono hb.size)))
  have V2 : ∀ wx, Below w.heap.size w wx → ∀ wy, Below wx.heap.size wx wy → Calls Tryd.prog 147 #[.agg #[.int .i64 W, .int .i64 H, .slice (ao) n cap], .agg #[.slice (ak) nk ck, .slice (ab) nb cb]] wy fun e w' => e = .returned (.bool t) ∧ Below wy.heap.size wy w' := fun wx hb wy hy => v2 wy (hb.trans (hy.mono hb.size))
  have CS2 : ∀ wx, Below w.heap.size w wx → ∀ wy, Below wx.heap.size wx wy → Calls Tryd.prog 73 #[.agg #[.int .i64 W, .int .i64 H, .slice (ao) n cap], .agg #[.slice (ak) nk ck, .slice (ab) nb cb], .agg #[.int .i64 px, .int .i64 py], .int .i64 b] wy fun e w' => e = .returned (.int .i64 (sErr t b W H px py)) ∧ Below wy.heap.size wy w' := fun wx hb wy hy => CS wy (hb.trans (hy.mono hb.size))
  by_cases hv : WV W H n G nk K nb B
  · obtain rfl : t = true := ht.2 hv
    obtain ⟨h1, rfl, rfl, h2⟩ := hv
    have hp := vg_pos h1
    obtain ⟨W', H', rfl, rfl, s, _⟩ := Sides.vg h1
    have w0 := s.w0
    have w1 := s.w1
    have h0 := s.h0
    have h1' := s.h1
    by_cases hall : OnG W' H' px py ∧ (1 ≤ m ∧ m ≤ 64) ∧ 1 ≤ b ∧ b ≤ 9
    · obtain ⟨op, ⟨m1, m2⟩, b1, b2⟩ := hall
      have es : sErr true b W' H' px py = 0 := by simp [sErr, bErr, op, b1, b2]
      rw [es] at CS2
      obtain ⟨bk, ok, rfl, lk, hk⟩ := numsAt_of hK hp.1
      obtain ⟨bb, ob, rfl, lb, hb2⟩ := numsAt_of hB hp.1
      cases up
      · have P1 := fun wx (hb : Below w.heap.size w wx) => wslopeD_ok W' H' nb cap ao bk ok ck bb ob cb K B px py m b wx s op m1 m2 (Nat.lt_of_lt_of_le lk hb.size) (hk.below hb lk) (Nat.lt_of_lt_of_le lb hb.size) (hb2.below hb lb) (CS2 wx hb)
        have P2 := fun wx (hb : Below w.heap.size w wx) => rslopeD_ok W' H' nb cap ao bk ok ck bb ob cb K B px py m b wx s op m1 m2 b1 b2 (Nat.lt_of_lt_of_le lk hb.size) (hk.below hb lk) (Nat.lt_of_lt_of_le lb hb.size) (hb2.below hb lb) (V2 wx hb)
        by_cases hf : freeS (shpS W' (inL px py m (-1)) (fun _ _ => 3)) B b nb
        · exact ⟨nb, _, _, 0, by omega, fun wx hb => (P1 wx hb).mono fun _ _ h => wz_put h hf, fun wx hb => (P2 wx hb).mono fun _ _ h => wz_put h hf⟩
        · exact ⟨0, fun _ => 0, fun _ => 0, 11, by omega, fun wx hb => (P1 wx hb).mono fun _ _ h => wz_bad h hf, fun wx hb => (P2 wx hb).mono fun _ _ h => wz_bad h hf⟩
      · have P1 := fun wx (hb : Below w.heap.size w wx) => wslopeU_ok W' H' nb cap ao bk ok ck bb ob cb K B px py m b wx s op m1 m2 (Nat.lt_of_lt_of_le lk hb.size) (hk.below hb lk) (Nat.lt_of_lt_of_le lb hb.size) (hb2.below hb lb) (CS2 wx hb)
        have P2 := fun wx (hb : Below w.heap.size w wx) => rslopeU_ok W' H' nb cap ao bk ok ck bb ob cb K B px py m b wx s op m1 m2 b1 b2 (Nat.lt_of_lt_of_le lk hb.size) (hk.below hb lk) (Nat.lt_of_lt_of_le lb hb.size) (hb2.below hb lb) (V2 wx hb)
        by_cases hf : freeS (shpS W' (inL px py m 1) (fun _ _ => 2)) B b nb
        · exact ⟨nb, _, _, 0, by omega, fun wx hb => (P1 wx hb).mono fun _ _ h => wz_put h hf, fun wx hb => (P2 wx hb).mono fun _ _ h => wz_put h hf⟩
        · exact ⟨0, fun _ => 0, fun _ => 0, 11, by omega, fun wx hb => (P1 wx hb).mono fun _ _ h => wz_bad h hf, fun wx hb => (P2 wx hb).mono fun _ _ h => wz_bad h hf⟩
    · refine ⟨0, fun _ => 0, fun _ => 0, 7, by omega, fun wx hb => ?_, fun wx hb => ?_⟩
      · by_cases hs : (1 ≤ b ∧ b ≤ 9) ∧ OnG W' H' px py
        · have es : sErr true b W' H' px py = 0 := by simp [sErr, bErr, hs]
          rw [es] at CS2
          by_cases hm : m < 1
          · exact (wslope_lo W' H' ao nb cap ak nb ck ab nb cb px py m b up wx hm (CS2 wx hb)).mono fun _ _ h => wz_nil h
          · have hm2 : 64 < m := Classical.byContradiction fun h => hall ⟨hs.2, ⟨by omega, by omega⟩, hs.1⟩
            exact (wslope_hi W' H' ao nb cap ak nb ck ab nb cb px py m b up wx (by omega) hm2 (CS2 wx hb)).mono fun _ _ h => wz_nil h
        · have es : sErr true b W' H' px py = 7 := by
            by_cases h9 : 1 ≤ b ∧ b ≤ 9
            · have h8 : ¬ OnG W' H' px py := fun h => hs ⟨h9, h⟩
              simp [sErr, bErr, h9, h8]
            · simp [sErr, bErr, h9]
          rw [es] at CS2
          exact (wslope_chk W' H' ao nb cap ak nb ck ab nb cb px py m b 7 up wx (by omega) (CS2 wx hb)).mono fun _ _ h => wz_nil h
      · refine (rslope_err W' H' ao nb cap ak nb ck ab nb cb px py m b 7 up true wx (fun _ => ⟨by omega, by omega, by omega, by omega⟩) (V2 wx hb) ?_ (by omega)).mono fun _ _ h => wz_nil h
        rw [onA_one]
        unfold rErr
        rw [if_pos rfl, if_neg]
        intro h
        simp only [Bool.and_eq_true, decide_eq_true_eq] at h
        exact hall ⟨h.1.2, h.1.1, h.2⟩
  · obtain rfl : t = false := by cases t <;> simp_all
    have es : sErr false b W H px py = 1 := by simp [sErr, bErr]
    rw [es] at CS2
    exact ⟨0, fun _ => 0, fun _ => 0, 1, by omega, fun wx hb => (wslope_chk W H ao n cap ak nk ck ab nb cb px py m b 1 up wx (by omega) (CS2 wx hb)).mono fun _ _ h => wz_nil h, fun wx hb => (rslope_err W H ao n cap ak nk ck ab nb cb px py m b 1 up false wx (fun h => by cases h) (V2 wx hb) (by simp [rErr]) (by omega)).mono fun _ _ h => wz_nil h⟩

/-- What both discs give: the same cells. -/
theorem disc_wz (px py q b : Int) (hG : CellsIn w ao n G) (hK : NumsIn w ak nk K) (hB : NumsIn w ab nb B) : ∃ (m : Nat) (K1 K2 B' : Nat → Int) (z : Int), m ≤ 1000000 ∧
    ((∀ wx, Below w.heap.size w wx → Calls Tryd.prog 15 #[.agg #[.int .i64 W, .int .i64 H, .slice (ao) n cap], .agg #[.slice (ak) nk ck, .slice (ab) nb cb], .agg #[.int .i64 px, .int .i64 py], .int .i64 q, .int .i64 b] wx (WZ m K1 B' z wx)) ∧
    (∀ wx, Below w.heap.size w wx → Calls Tryd.prog 16 #[.agg #[.int .i64 W, .int .i64 H, .slice (ao) n cap], .agg #[.slice (ak) nk ck, .slice (ab) nb cb], .agg #[.int .i64 px, .int .i64 py], .int .i64 q, .int .i64 b] wx (WZ m K1 B' z wx))) ∧
    ((∀ wx, Below w.heap.size w wx → Calls Tryd.prog 18 #[.agg #[.int .i64 W, .int .i64 H, .slice (ao) n cap], .agg #[.slice (ak) nk ck, .slice (ab) nb cb], .agg #[.int .i64 px, .int .i64 py], .int .i64 q, .int .i64 b] wx (WZ m K2 B' z wx)) ∧
    (∀ wx, Below w.heap.size w wx → Calls Tryd.prog 19 #[.agg #[.int .i64 W, .int .i64 H, .slice (ao) n cap], .agg #[.slice (ak) nk ck, .slice (ab) nb cb], .agg #[.int .i64 px, .int .i64 py], .int .i64 q, .int .i64 b] wx (WZ m K2 B' z wx))) := by
  obtain ⟨t, ht, v1, v2⟩ := wvalid_both W H ao n cap G ak nk ck K ab nb cb B w hG hK hB
  have CS : ∀ wx, Below w.heap.size w wx → Calls Tryd.prog 67 #[.agg #[.int .i64 W, .int .i64 H, .slice (ao) n cap], .agg #[.slice (ak) nk ck, .slice (ab) nb cb], .agg #[.int .i64 px, .int .i64 py], .int .i64 q, .int .i64 b] wx fun e w' => e = .returned (.int .i64 (dErr t b W H px py q)) ∧ Below wx.heap.size wx w' := fun wx hb =>
    checkDisc_any W H ao n cap ak nk ck ab nb cb wx t b px py q (fun wy hy => v1 wy (hb.trans (hy.mono hb.size)))
  have V2 : ∀ wx, Below w.heap.size w wx → ∀ wy, Below wx.heap.size wx wy → Calls Tryd.prog 147 #[.agg #[.int .i64 W, .int .i64 H, .slice (ao) n cap], .agg #[.slice (ak) nk ck, .slice (ab) nb cb]] wy fun e w' => e = .returned (.bool t) ∧ Below wy.heap.size wy w' := fun wx hb wy hy => v2 wy (hb.trans (hy.mono hb.size))
  have CS2 : ∀ wx, Below w.heap.size w wx → ∀ wy, Below wx.heap.size wx wy → Calls Tryd.prog 67 #[.agg #[.int .i64 W, .int .i64 H, .slice (ao) n cap], .agg #[.slice (ak) nk ck, .slice (ab) nb cb], .agg #[.int .i64 px, .int .i64 py], .int .i64 q, .int .i64 b] wy fun e w' => e = .returned (.int .i64 (dErr t b W H px py q)) ∧ Below wy.heap.size wy w' := fun wx hb wy hy => CS wy (hb.trans (hy.mono hb.size))
  by_cases hv : WV W H n G nk K nb B
  · obtain rfl : t = true := ht.2 hv
    obtain ⟨h1, rfl, rfl, h2⟩ := hv
    have hp := vg_pos h1
    obtain ⟨W', H', rfl, rfl, s, _⟩ := Sides.vg h1
    have w0 := s.w0
    have w1 := s.w1
    have h0 := s.h0
    have h1' := s.h1
    by_cases hall : OnG W' H' px py ∧ (0 ≤ q ∧ q ≤ 10000) ∧ 1 ≤ b ∧ b ≤ 9
    · obtain ⟨op, ⟨m1, m2⟩, b1, b2⟩ := hall
      have es : dErr true b W' H' px py q = 0 := by simp [dErr, sErr, bErr, op, b1, b2, m1, m2]
      rw [es] at CS2
      obtain ⟨bk, ok, rfl, lk, hk⟩ := numsAt_of hK hp.1
      obtain ⟨bb, ob, rfl, lb, hb2⟩ := numsAt_of hB hp.1
      have P1 := fun wx (hb : Below w.heap.size w wx) => wdisc_ok W' H' nb cap ao bk ok ck bb ob cb K B px py q b wx s op (Nat.lt_of_lt_of_le lk hb.size) (hk.below hb lk) (Nat.lt_of_lt_of_le lb hb.size) (hb2.below hb lb) (CS2 wx hb)
      have P3 := fun wx (hb : Below w.heap.size w wx) => wsmooth_ok W' H' nb cap ao bk ok ck bb ob cb K B px py q b wx s op (Nat.lt_of_lt_of_le lk hb.size) (hk.below hb lk) (Nat.lt_of_lt_of_le lb hb.size) (hb2.below hb lb) (CS2 wx hb)
      have P2 := fun wx (hb : Below w.heap.size w wx) => rDisc_put W' H' ao nb cap (some ⟨bk, ok, none⟩) nb ck (some ⟨bb, ob, none⟩) nb cb px py q b nb _ K B wx (fun wy hy => rdisc_ok W' H' nb cap ao bk ok ck bb ob cb K B px py q b wy s op m1 m2 b1 b2 (Nat.lt_of_lt_of_le lk (hb.trans (hy.mono hb.size)).size) (hk.below (hb.trans (hy.mono hb.size)) lk) (Nat.lt_of_lt_of_le lb (hb.trans (hy.mono hb.size)).size) (hb2.below (hb.trans (hy.mono hb.size)) lb) (V2 wy (hb.trans (hy.mono hb.size))))
      have P4 := fun wx (hb : Below w.heap.size w wx) => rSmooth_put W' H' ao nb cap (some ⟨bk, ok, none⟩) nb ck (some ⟨bb, ob, none⟩) nb cb px py q b nb _ K B wx (fun wy hy => rsmooth_ok W' H' nb cap ao bk ok ck bb ob cb K B px py q b wy s op m1 m2 b1 b2 (Nat.lt_of_lt_of_le lk (hb.trans (hy.mono hb.size)).size) (hk.below (hb.trans (hy.mono hb.size)) lk) (Nat.lt_of_lt_of_le lb (hb.trans (hy.mono hb.size)).size) (hb2.below (hb.trans (hy.mono hb.size)) lb) (V2 wy (hb.trans (hy.mono hb.size))))
      have hsup : ∀ i, shpS W' (inD px py q) (fun _ _ => 1) i ≠ 0 ↔ shpS W' (inD px py q) (smoK W' H' (inD px py q)) i ≠ 0 := fun i =>
        (shpS_ne (fun _ _ => by simp) i).trans (shpS_ne (fun x y => by have := smoK_rng W' H' (inD px py q) x y; omega) i).symm
      by_cases hf : freeS (shpS W' (inD px py q) (fun _ _ => 1)) B b nb
      · refine ⟨nb, putK (shpS W' (inD px py q) (fun _ _ => 1)) K nb, putK (shpS W' (inD px py q) (smoK W' H' (inD px py q))) K nb, putB (shpS W' (inD px py q) (fun _ _ => 1)) B b nb, 0, by omega, ⟨fun wx hb => (P1 wx hb).mono fun _ _ h => wz_put h hf, fun wx hb => (P2 wx hb).mono fun _ _ h => wz_put h hf⟩, ⟨fun wx hb => (P3 wx hb).mono fun _ _ h => ?_, fun wx hb => (P4 wx hb).mono fun _ _ h => ?_⟩⟩
        · rw [sup_putB hsup]
          exact wz_put h ((sup_free hsup).1 hf)
        · rw [sup_putB hsup]
          exact wz_put h ((sup_free hsup).1 hf)
      · have hf2 := fun h => hf ((sup_free hsup).2 h)
        exact ⟨0, fun _ => 0, fun _ => 0, fun _ => 0, 11, by omega, ⟨fun wx hb => (P1 wx hb).mono fun _ _ h => wz_bad h hf, fun wx hb => (P2 wx hb).mono fun _ _ h => wz_bad h hf⟩, ⟨fun wx hb => (P3 wx hb).mono fun _ _ h => wz_bad h hf2, fun wx hb => (P4 wx hb).mono fun _ _ h => wz_bad h hf2⟩⟩
    · have es : dErr true b W' H' px py q = 7 := by
        by_cases h9 : 1 ≤ b ∧ b ≤ 9
        · by_cases h8 : OnG W' H' px py
          · have h7 : ¬ (0 ≤ q ∧ q ≤ 10000) := fun h => hall ⟨h8, h, h9⟩
            simp [dErr, sErr, bErr, h9, h8, h7]
          · simp [dErr, sErr, bErr, h9, h8]
        · simp [dErr, sErr, bErr, h9]
      rw [es] at CS2
      have er : rErr true (decide ((0 : Int) ≤ q ∧ q ≤ 10000) && onA W' H' (fun _ => px) (fun _ => py) 1) b = 7 := by
        rw [onA_one]
        unfold rErr
        rw [if_pos rfl, if_neg]
        intro h
        simp only [Bool.and_eq_true, decide_eq_true_eq] at h
        exact hall ⟨h.1.2, h.1.1, h.2⟩
      have DE := fun (sm : Bool) wx (hb : Below w.heap.size w wx) => rdisc_err W' H' ao nb cap ak nb ck ab nb cb px py q b 7 sm true wx (fun _ => ⟨by omega, by omega, by omega, by omega⟩) (V2 wx hb) er (by omega)
      refine ⟨0, fun _ => 0, fun _ => 0, fun _ => 0, 7, by omega, ⟨fun wx hb => ?_, fun wx hb => ?_⟩, ⟨fun wx hb => ?_, fun wx hb => ?_⟩⟩
      · exact (wdisc_chk W' H' ao nb cap ak nb ck ab nb cb px py q b 7 wx (by omega) (CS2 wx hb)).mono fun _ _ h => wz_nil h
      · exact (rDisc_err W' H' ao nb cap ak nb ck ab nb cb px py q b 7 wx (fun wy hy => DE false wy (hb.trans (hy.mono hb.size)))).mono fun _ _ h => wz_nil h
      · exact (wsmooth_chk W' H' ao nb cap ak nb ck ab nb cb px py q b 7 wx (by omega) (CS2 wx hb)).mono fun _ _ h => wz_nil h
      · exact (rSmooth_err W' H' ao nb cap ak nb ck ab nb cb px py q b 7 wx (fun wy hy => DE true wy (hb.trans (hy.mono hb.size)))).mono fun _ _ h => wz_nil h
  · obtain rfl : t = false := by cases t <;> simp_all
    have es : dErr false b W H px py q = 1 := by simp [dErr, sErr, bErr]
    rw [es] at CS2
    have DE := fun (sm : Bool) wx (hb : Below w.heap.size w wx) => rdisc_err W H ao n cap ak nk ck ab nb cb px py q b 1 sm false wx (fun h => by cases h) (V2 wx hb) (by simp [rErr]) (by omega)
    refine ⟨0, fun _ => 0, fun _ => 0, fun _ => 0, 1, by omega, ⟨fun wx hb => ?_, fun wx hb => ?_⟩, ⟨fun wx hb => ?_, fun wx hb => ?_⟩⟩
    · exact (wdisc_chk W H ao n cap ak nk ck ab nb cb px py q b 1 wx (by omega) (CS2 wx hb)).mono fun _ _ h => wz_nil h
    · exact (rDisc_err W H ao n cap ak nk ck ab nb cb px py q b 1 wx (fun wy hy => DE false wy (hb.trans (hy.mono hb.size)))).mono fun _ _ h => wz_nil h
    · exact (wsmooth_chk W H ao n cap ak nk ck ab nb cb px py q b 1 wx (by omega) (CS2 wx hb)).mono fun _ _ h => wz_nil h
    · exact (rSmooth_err W H ao n cap ak nk ck ab nb cb px py q b 1 wx (fun wy hy => DE true wy (hb.trans (hy.mono hb.size)))).mono fun _ _ h => wz_nil h
end
end Go.Proofs.YtglkikdjchpmjaaDoor
