/- The reference's class of a cell, the cell at a place, and what a rule makes of pairs. -/
import Derived.Test.YtnkehlankidlnaaDoorColl
import Derived.StillTailTactics
import Derived.BigRegion
namespace Go.Proofs.YtnkehlankidlnaaDoor
set_option linter.unusedSimpArgs false
set_option linter.unusedVariables false
open Go.RowKit

def absI (n : Int) : Int := max n (-n)

set_option maxHeartbeats 400000 in
theorem size_any (n : Int) (w : World) (h0 : -4000000000 ≤ n) (h1 : n ≤ 4000000000) :
    Calls Tryd.prog 227 #[.int .i64 n] w fun e w' => e = .returned (.int .i64 (absI n)) ∧ w = w' := by
  by_cases h : n < 0
  · go_enter Tryd.func227, Tryd.ntmps227
    go_wp2
    go_ret
    exact ⟨ret_i (by unfold absI; omega), rfl⟩
  · go_enter Tryd.func227, Tryd.ntmps227
    go_wp2
    go_ret
    exact ⟨ret_i (by unfold absI; omega), rfl⟩

set_option maxHeartbeats 400000 in
theorem least_any (a b : Int) (w : World) :
    Calls Tryd.prog 207 #[.int .i64 a, .int .i64 b] w fun e w' => e = .returned (.int .i64 (min a b)) ∧ w = w' := by
  by_cases h : a < b
  · go_enter Tryd.func207, Tryd.ntmps207
    go_wp2
    go_ret
    exact ⟨ret_i (by omega), rfl⟩
  · go_enter Tryd.func207, Tryd.ntmps207
    go_wp2
    go_ret
    exact ⟨ret_i (by omega), rfl⟩

set_option maxHeartbeats 400000 in
theorem refModulo_any (n m : Int) (w : World) (h0 : -4000000000 ≤ n) (h1 : n ≤ 4000000000) (hm : 0 < m) (hm' : m ≤ 4000000000) :
    Calls Tryd.prog 228 #[.int .i64 n, .int .i64 m] w fun e w' => e = .returned (.int .i64 (n % m)) ∧ w = w' := by
  have q0 := Int.emod_nonneg n (show m ≠ 0 by omega)
  have q1 := Int.emod_lt_of_pos n hm
  by_cases hn : 0 ≤ n
  · go_enter Tryd.func228, Tryd.ntmps228
    go_wp2
    go_ret
    exact ⟨rfl, rfl⟩
  · rcases tmod_neg (n := n) (m := m) (by omega) hm with ⟨t0, t1⟩ | ⟨t0, t1⟩
    · have T := Lib.hid t1; clear t1
      have t2 : -4000000000 ≤ n.tmod m := by have := T.out; omega
      have t3 : n.tmod m + m ≤ 4000000000 := by have := T.out; omega
      go_enter Tryd.func228, Tryd.ntmps228
      go_wp2
      go_ret
      exact ⟨ret_i T.out, rfl⟩
    · have T := Lib.hid t1; clear t1
      have T0 := Lib.hid t0
      have t2 : 0 ≤ n.tmod m := by omega
      have t3 : n.tmod m ≤ 0 := by omega
      clear t0
      go_enter Tryd.func228, Tryd.ntmps228
      go_wp2
      go_ret
      exact ⟨ret_i (by rw [T.out, T0.out]), rfl⟩

set_option maxHeartbeats 400000 in
theorem refTurn_any (k y h p : Int) (w : World) (hr : OkR k y) (h0 : 0 ≤ h) (h1 : h ≤ p) (h2 : p ≤ 1000000000) :
    Calls Tryd.prog 206 #[.agg #[.int .i64 k, .int .i64 y], .int .i64 h, .int .i64 p] w fun e w' => e = .returned (.int .i64 (turnTo k y h p)) ∧ Below w.heap.size w w' := by
  rcases hr with ⟨rfl | rfl, rfl⟩ | ⟨rfl, h3, h4⟩
  · have e : turnTo 0 0 h p = h := by simp [turnTo]
    rw [e]; clear e
    go_enter Tryd.func206, Tryd.ntmps206
    go_wp2
    go_ret
    refine ⟨rfl, ?_⟩
    (repeat' (first | (with_reducible exact Below.refl _ _) | (with_reducible refine Below.setCell ?_ (by first | omega | (simp; done) | (simp; omega)) _) | (with_reducible refine Below.alloc ?_ (by first | omega | (simp; done) | (simp; omega)) _) | (with_reducible refine Below.drew ?_) | (with_reducible refine below_drewN ?_ _) | (with_reducible refine Below.trans ?_ (Below.mono (by assumption) (by first | omega | (simp; done) | (simp; omega))))))
  · have e : turnTo 1 0 h p = p - h := by simp [turnTo]
    rw [e]; clear e
    go_enter Tryd.func206, Tryd.ntmps206
    go_wp2
    go_ret
    refine ⟨rfl, ?_⟩
    (repeat' (first | (with_reducible exact Below.refl _ _) | (with_reducible refine Below.setCell ?_ (by first | omega | (simp; done) | (simp; omega)) _) | (with_reducible refine Below.alloc ?_ (by first | omega | (simp; done) | (simp; omega)) _) | (with_reducible refine Below.drew ?_) | (with_reducible refine below_drewN ?_ _) | (with_reducible refine Below.trans ?_ (Below.mono (by assumption) (by first | omega | (simp; done) | (simp; omega))))))
  · have e : turnTo 2 y h p = (h + y) % (p + 1) := by simp [turnTo]
    rw [e]; clear e
    go_enter Tryd.func206, Tryd.ntmps206
    go_wp2_with (go_at_call 228; (with_reducible refine (refModulo_any _ _ _ (by omega) (by omega) (by omega) (by omega)).mono ?_); rintro e w1 ⟨rfl, rfl⟩)
    go_ret
    refine ⟨rfl, ?_⟩
    (repeat' (first | (with_reducible exact Below.refl _ _) | (with_reducible refine Below.setCell ?_ (by first | omega | (simp; done) | (simp; omega)) _) | (with_reducible refine Below.alloc ?_ (by first | omega | (simp; done) | (simp; omega)) _) | (with_reducible refine Below.drew ?_) | (with_reducible refine below_drewN ?_ _) | (with_reducible refine Below.trans ?_ (Below.mono (by assumption) (by first | omega | (simp; done) | (simp; omega))))))

set_option maxHeartbeats 400000 in
theorem of_ok (a b c d : Int) (w : World) (h : Ok4 a b c d) :
    Calls Tryd.prog 204 #[.agg #[.int .i64 a, .int .i64 b, .int .i64 c, .int .i64 d]] w fun e w' => e = .returned (.agg #[.int .i64 (a + b + c + d), .int .i64 (a - c), .int .i64 (b - d), .int .i64 (min a c + min b d)]) ∧ Below w.heap.size w w' := by
  have H := Lib.hid h
  obtain ⟨p0, p1, p2, p3, p4⟩ := h
  have e : min a c + min b d = (a + b + c + d - absI (a - c) - absI (b - d)) / 2 := by unfold absI; omega
  rw [e]
  have q0 : 0 ≤ absI (a - c) := by unfold absI; omega
  have q1 : absI (a - c) ≤ 1000000000 := by unfold absI; omega
  have q2 : 0 ≤ absI (b - d) := by unfold absI; omega
  have q3 : absI (b - d) ≤ 1000000000 := by unfold absI; omega
  have q4 : 0 ≤ a + b + c + d - absI (a - c) - absI (b - d) := by unfold absI; omega
  clear e
  have s1 : IntKind.i64.wrap (a + b + c + d - absI (a - c)) = a + b + c + d - absI (a - c) := IntWalk.i64_in _ ⟨by omega, by omega⟩
  have s2 : IntKind.i64.wrap (a + b + c + d - absI (a - c) - absI (b - d)) = a + b + c + d - absI (a - c) - absI (b - d) := IntWalk.i64_in _ ⟨by omega, by omega⟩
  have s3 : IntKind.i64.wrap ((a + b + c + d - absI (a - c) - absI (b - d)).tdiv 2) = (a + b + c + d - absI (a - c) - absI (b - d)) / 2 := by rw [Int.tdiv_eq_ediv_of_nonneg q4]; exact IntWalk.i64_in _ ⟨by omega, by omega⟩
  go_enter Tryd.func204, Tryd.ntmps204
  go_wp2
  go_region_held3 (fun w' => w'.cell? ⟨w.heap.size + 2, 0, none⟩ = some (.int .i64 (a + b + c + d)) ∧ w'.cell? ⟨w.heap.size + 2, 1, none⟩ = some (.int .i64 (a - c)) ∧ w'.cell? ⟨w.heap.size + 2, 2, none⟩ = some (.int .i64 (b - d))) (first | (go_split_ands; (try dsimp only); refine ⟨?_, ?_, ?_⟩ <;> (first | (with_reducible assumption) | (with_reducible exact keep_cell (by assumption) (by first | omega | (simp; done) | (simp; omega)) (by assumption)) | (simp [go_sem]; with_reducible assumption))) | (simp [go_sem, ↓IntWalk.iteOmega, *]; done))
    ((go_at_call 227; (with_reducible refine (size_any _ _ (by omega) (by omega)).mono ?_); rintro e w1 ⟨rfl, rfl⟩))
  go_wp2
  refine bodyPost_ret (v := .agg #[.int .i64 (a + b + c + d), .int .i64 (a - c), .int .i64 (b - d), .int .i64 ((a + b + c + d - absI (a - c) - absI (b - d)) / 2)]) (by simp [results, Tryd.results204, go_sem, ↓IntWalk.iteOmega, *]) rfl ⟨rfl, ?_⟩
  (repeat' (first | (with_reducible exact Below.refl _ _) | (with_reducible refine Below.setCell ?_ (by first | omega | (simp; done) | (simp; omega)) _) | (with_reducible refine Below.alloc ?_ (by first | omega | (simp; done) | (simp; omega)) _) | (with_reducible refine Below.drew ?_) | (with_reducible refine below_drewN ?_ _) | (with_reducible refine Below.trans ?_ (Below.mono (by assumption) (by first | omega | (simp; done) | (simp; omega))))))

set_option maxHeartbeats 400000 in
theorem at_any (m x y p h : Int) (w : World) (hp : 0 ≤ p) (hp' : p ≤ 1000000000) (h0 : 0 ≤ h) (h1 : h ≤ p) (x0 : -1000000000 ≤ x) (x1 : x ≤ 1000000000) (y0 : -1000000000 ≤ y) (y1 : y ≤ 1000000000) :
    Calls Tryd.prog 205 #[.agg #[.int .i64 m, .int .i64 x, .int .i64 y, .int .i64 p], .int .i64 h] w fun e w' => e = .returned (.agg #[.int .i64 (h + max x 0), .int .i64 (p - h + max y 0), .int .i64 (h + max (-x) 0), .int .i64 (p - h + max (-y) 0)]) ∧ Below w.heap.size w w' := by
  have s1 : IntKind.i64.wrap (p - h) = p - h := IntWalk.i64_in _ ⟨by omega, by omega⟩
  by_cases hx : 0 < x
  · by_cases hy : 0 < y
    · have e : (.agg #[.int .i64 (h + max x 0), .int .i64 (p - h + max y 0), .int .i64 (h + max (-x) 0), .int .i64 (p - h + max (-y) 0)] : Value) = .agg #[.int .i64 (h + x), .int .i64 (p - h + y), .int .i64 h, .int .i64 (p - h)] := c4_eq (by omega) (by omega) (by omega) (by omega)
      rw [e]; clear e
      go_enter Tryd.func205, Tryd.ntmps205
      go_wp2
      go_region_held3 (fun w' => w'.cell? ⟨w.heap.size, 3, none⟩ = some (.int .i64 p)) (first | (go_split_ands; (try dsimp only); (first | (with_reducible assumption) | (with_reducible exact keep_cell (by assumption) (by first | omega | (simp; done) | (simp; omega)) (by assumption)) | (simp [go_sem]; with_reducible assumption))) | (simp [go_sem, ↓IntWalk.iteOmega, *]; done)) (fail)
      go_wp2
      refine bodyPost_ret (v := .agg #[.int .i64 (h + x), .int .i64 (p - h + y), .int .i64 h, .int .i64 (p - h)]) (by simp [results, Tryd.results205, go_sem, ↓IntWalk.iteOmega, *]) rfl ⟨rfl, ?_⟩
      (repeat' (first | (with_reducible exact Below.refl _ _) | (with_reducible refine Below.setCell ?_ (by first | omega | (simp; done) | (simp; omega)) _) | (with_reducible refine Below.alloc ?_ (by first | omega | (simp; done) | (simp; omega)) _) | (with_reducible refine Below.drew ?_) | (with_reducible refine below_drewN ?_ _) | (with_reducible refine Below.trans ?_ (Below.mono (by assumption) (by first | omega | (simp; done) | (simp; omega))))))
    · have e : (.agg #[.int .i64 (h + max x 0), .int .i64 (p - h + max y 0), .int .i64 (h + max (-x) 0), .int .i64 (p - h + max (-y) 0)] : Value) = .agg #[.int .i64 (h + x), .int .i64 (p - h), .int .i64 h, .int .i64 (p - h - y)] := c4_eq (by omega) (by omega) (by omega) (by omega)
      rw [e]; clear e
      go_enter Tryd.func205, Tryd.ntmps205
      go_wp2
      go_region_held3 (fun w' => w'.cell? ⟨w.heap.size, 3, none⟩ = some (.int .i64 p)) (first | (go_split_ands; (try dsimp only); (first | (with_reducible assumption) | (with_reducible exact keep_cell (by assumption) (by first | omega | (simp; done) | (simp; omega)) (by assumption)) | (simp [go_sem]; with_reducible assumption))) | (simp [go_sem, ↓IntWalk.iteOmega, *]; done)) (fail)
      go_wp2
      refine bodyPost_ret (v := .agg #[.int .i64 (h + x), .int .i64 (p - h), .int .i64 h, .int .i64 (p - h - y)]) (by simp [results, Tryd.results205, go_sem, ↓IntWalk.iteOmega, *]) rfl ⟨rfl, ?_⟩
      (repeat' (first | (with_reducible exact Below.refl _ _) | (with_reducible refine Below.setCell ?_ (by first | omega | (simp; done) | (simp; omega)) _) | (with_reducible refine Below.alloc ?_ (by first | omega | (simp; done) | (simp; omega)) _) | (with_reducible refine Below.drew ?_) | (with_reducible refine below_drewN ?_ _) | (with_reducible refine Below.trans ?_ (Below.mono (by assumption) (by first | omega | (simp; done) | (simp; omega))))))
  · by_cases hy : 0 < y
    · have e : (.agg #[.int .i64 (h + max x 0), .int .i64 (p - h + max y 0), .int .i64 (h + max (-x) 0), .int .i64 (p - h + max (-y) 0)] : Value) = .agg #[.int .i64 h, .int .i64 (p - h + y), .int .i64 (h - x), .int .i64 (p - h)] := c4_eq (by omega) (by omega) (by omega) (by omega)
      rw [e]; clear e
      go_enter Tryd.func205, Tryd.ntmps205
      go_wp2
      go_region_held3 (fun w' => w'.cell? ⟨w.heap.size, 3, none⟩ = some (.int .i64 p)) (first | (go_split_ands; (try dsimp only); (first | (with_reducible assumption) | (with_reducible exact keep_cell (by assumption) (by first | omega | (simp; done) | (simp; omega)) (by assumption)) | (simp [go_sem]; with_reducible assumption))) | (simp [go_sem, ↓IntWalk.iteOmega, *]; done)) (fail)
      go_wp2
      refine bodyPost_ret (v := .agg #[.int .i64 h, .int .i64 (p - h + y), .int .i64 (h - x), .int .i64 (p - h)]) (by simp [results, Tryd.results205, go_sem, ↓IntWalk.iteOmega, *]) rfl ⟨rfl, ?_⟩
      (repeat' (first | (with_reducible exact Below.refl _ _) | (with_reducible refine Below.setCell ?_ (by first | omega | (simp; done) | (simp; omega)) _) | (with_reducible refine Below.alloc ?_ (by first | omega | (simp; done) | (simp; omega)) _) | (with_reducible refine Below.drew ?_) | (with_reducible refine below_drewN ?_ _) | (with_reducible refine Below.trans ?_ (Below.mono (by assumption) (by first | omega | (simp; done) | (simp; omega))))))
    · have e : (.agg #[.int .i64 (h + max x 0), .int .i64 (p - h + max y 0), .int .i64 (h + max (-x) 0), .int .i64 (p - h + max (-y) 0)] : Value) = .agg #[.int .i64 h, .int .i64 (p - h), .int .i64 (h - x), .int .i64 (p - h - y)] := c4_eq (by omega) (by omega) (by omega) (by omega)
      rw [e]; clear e
      go_enter Tryd.func205, Tryd.ntmps205
      go_wp2
      go_region_held3 (fun w' => w'.cell? ⟨w.heap.size, 3, none⟩ = some (.int .i64 p)) (first | (go_split_ands; (try dsimp only); (first | (with_reducible assumption) | (with_reducible exact keep_cell (by assumption) (by first | omega | (simp; done) | (simp; omega)) (by assumption)) | (simp [go_sem]; with_reducible assumption))) | (simp [go_sem, ↓IntWalk.iteOmega, *]; done)) (fail)
      go_wp2
      refine bodyPost_ret (v := .agg #[.int .i64 h, .int .i64 (p - h), .int .i64 (h - x), .int .i64 (p - h - y)]) (by simp [results, Tryd.results205, go_sem, ↓IntWalk.iteOmega, *]) rfl ⟨rfl, ?_⟩
      (repeat' (first | (with_reducible exact Below.refl _ _) | (with_reducible refine Below.setCell ?_ (by first | omega | (simp; done) | (simp; omega)) _) | (with_reducible refine Below.alloc ?_ (by first | omega | (simp; done) | (simp; omega)) _) | (with_reducible refine Below.drew ?_) | (with_reducible refine below_drewN ?_ _) | (with_reducible refine Below.trans ?_ (Below.mono (by assumption) (by first | omega | (simp; done) | (simp; omega))))))
end Go.Proofs.YtnkehlankidlnaaDoor
