/- The reference's class of a cell, the cell at a place, and what a rule makes of pairs. -/
import Derived.Test.YtnpmlbhlchoolaaDoorKColl
import Derived.StillTailTactics
import Derived.BigRegion
import Derived.Test.YtnpmlbhlchoolaaDoorKBase
import Derived.Laws.BitsAllLaws
import Derived.Laws.BitsLemmas
namespace Go.Proofs.YtnpmlbhlchoolaaDoor
set_option linter.unusedSimpArgs false
set_option linter.unusedVariables false
open Go.RowKit

def absI (n : Int) : Int := max n (-n)

set_option maxHeartbeats 400000 in
theorem size_any (n : Int) (w : World) (h0 : -4000000000 ≤ n) (h1 : n ≤ 4000000000) :
    Calls Tryd.prog 149 #[.int .i64 n] w fun e w' => e = .returned (.int .i64 (absI n)) ∧ w = w' := by
  by_cases h : n < 0
  · go_enter Tryd.func149, Tryd.ntmps149
    go_wp2
    go_ret
    exact ⟨ret_i (by unfold absI; omega), rfl⟩
  · go_enter Tryd.func149, Tryd.ntmps149
    go_wp2
    go_ret
    exact ⟨ret_i (by unfold absI; omega), rfl⟩

set_option maxHeartbeats 400000 in
theorem least_any (a b : Int) (w : World) :
    Calls Tryd.prog 131 #[.int .i64 a, .int .i64 b] w fun e w' => e = .returned (.int .i64 (min a b)) ∧ w = w' := by
  by_cases h : a < b
  · go_enter Tryd.func131, Tryd.ntmps131
    go_wp2
    go_ret
    exact ⟨ret_i (by omega), rfl⟩
  · go_enter Tryd.func131, Tryd.ntmps131
    go_wp2
    go_ret
    exact ⟨ret_i (by omega), rfl⟩

set_option maxHeartbeats 400000 in
theorem refModulo_any (n m : Int) (w : World) (h0 : -4000000000 ≤ n) (h1 : n ≤ 4000000000) (hm : 0 < m) (hm' : m ≤ 4000000000) :
    Calls Tryd.prog 150 #[.int .i64 n, .int .i64 m] w fun e w' => e = .returned (.int .i64 (n % m)) ∧ w = w' := by
  have q0 := Int.emod_nonneg n (show m ≠ 0 by omega)
  have q1 := Int.emod_lt_of_pos n hm
  by_cases hn : 0 ≤ n
  · go_enter Tryd.func150, Tryd.ntmps150
    go_wp2
    go_ret
    exact ⟨rfl, rfl⟩
  · rcases tmod_neg (n := n) (m := m) (by omega) hm with ⟨t0, t1⟩ | ⟨t0, t1⟩
    · have T := Lib.hid t1; clear t1
      have t2 : -4000000000 ≤ n.tmod m := by have := T.out; omega
      have t3 : n.tmod m + m ≤ 4000000000 := by have := T.out; omega
      go_enter Tryd.func150, Tryd.ntmps150
      go_wp2
      go_ret
      exact ⟨ret_i T.out, rfl⟩
    · have T := Lib.hid t1; clear t1
      have T0 := Lib.hid t0
      have t2 : 0 ≤ n.tmod m := by omega
      have t3 : n.tmod m ≤ 0 := by omega
      clear t0
      go_enter Tryd.func150, Tryd.ntmps150
      go_wp2
      go_ret
      exact ⟨ret_i (by rw [T.out, T0.out]), rfl⟩

set_option maxHeartbeats 400000 in
theorem refTurn_any (k y h p : Int) (w : World) (hr : OkR k y) (h0 : 0 ≤ h) (h1 : h ≤ p) (h2 : p ≤ 1000000000) :
    Calls Tryd.prog 130 #[.agg #[.int .i64 k, .int .i64 y], .int .i64 h, .int .i64 p] w fun e w' => e = .returned (.int .i64 (turnTo k y h p)) ∧ Below w.heap.size w w' := by
  rcases hr with ⟨rfl | rfl, rfl⟩ | ⟨rfl, h3, h4⟩
  · have e : turnTo 0 0 h p = h := by simp [turnTo]
    rw [e]; clear e
    go_enter Tryd.func130, Tryd.ntmps130
    go_wp2
    go_ret
    refine ⟨rfl, ?_⟩
    (repeat' (first | (with_reducible exact Below.refl _ _) | (with_reducible refine Below.setCell ?_ (by first | omega | (simp; done) | (simp; omega)) _) | (with_reducible refine Below.alloc ?_ (by first | omega | (simp; done) | (simp; omega)) _) | (with_reducible refine Below.drew ?_) | (with_reducible refine below_drewN ?_ _) | (with_reducible refine Below.trans ?_ (Below.mono (by assumption) (by first | omega | (simp; done) | (simp; omega))))))
  · have e : turnTo 1 0 h p = p - h := by simp [turnTo]
    rw [e]; clear e
    go_enter Tryd.func130, Tryd.ntmps130
    go_wp2
    go_ret
    refine ⟨rfl, ?_⟩
    (repeat' (first | (with_reducible exact Below.refl _ _) | (with_reducible refine Below.setCell ?_ (by first | omega | (simp; done) | (simp; omega)) _) | (with_reducible refine Below.alloc ?_ (by first | omega | (simp; done) | (simp; omega)) _) | (with_reducible refine Below.drew ?_) | (with_reducible refine below_drewN ?_ _) | (with_reducible refine Below.trans ?_ (Below.mono (by assumption) (by first | omega | (simp; done) | (simp; omega))))))
  · have e : turnTo 2 y h p = (h + y) % (p + 1) := by simp [turnTo]
    rw [e]; clear e
    go_enter Tryd.func130, Tryd.ntmps130
    go_wp2_with (go_at_call 150; (with_reducible refine (refModulo_any _ _ _ (by omega) (by omega) (by omega) (by omega)).mono ?_); rintro e w1 ⟨rfl, rfl⟩)
    go_ret
    refine ⟨rfl, ?_⟩
    (repeat' (first | (with_reducible exact Below.refl _ _) | (with_reducible refine Below.setCell ?_ (by first | omega | (simp; done) | (simp; omega)) _) | (with_reducible refine Below.alloc ?_ (by first | omega | (simp; done) | (simp; omega)) _) | (with_reducible refine Below.drew ?_) | (with_reducible refine below_drewN ?_ _) | (with_reducible refine Below.trans ?_ (Below.mono (by assumption) (by first | omega | (simp; done) | (simp; omega))))))

set_option maxHeartbeats 400000 in
theorem of_ok (a b c d : Int) (w : World) (h : Ok4 a b c d) :
    Calls Tryd.prog 128 #[.agg #[.int .i64 a, .int .i64 b, .int .i64 c, .int .i64 d]] w fun e w' => e = .returned (.agg #[.int .i64 (a + b + c + d), .int .i64 (a - c), .int .i64 (b - d), .int .i64 (min a c + min b d)]) ∧ Below w.heap.size w w' := by
  have H := Lib.hid h
  obtain ⟨p0, p1, p2, p3, p4⟩ := h
  have e : min a c + min b d = (a + b + c + d - absI (a - c) - absI (b - d)) / 2 := by unfold absI; omega
  rw [e]
  have q0 : 0 ≤ absI (a - c) := by unfold absI; omega
  have q1 : absI (a - c) ≤ 1000000000 := by unfold absI; omega
  have q2 : 0 ≤ absI (b - d) := by unfold absI; omega
  have q3 : absI (b - d) ≤ 1000000000 := by unfold absI; omega
  have q4 : 0 ≤ a + b + c + d - absI (a - c) - absI (b - d) := by unfold absI; omega
  clear e
  have s1 : IntKind.i64.wrap (a + b + c + d - absI (a - c)) = a + b + c + d - absI (a - c) := IntWalk.i64_in _ ⟨by omega, by omega⟩
  have s2 : IntKind.i64.wrap (a + b + c + d - absI (a - c) - absI (b - d)) = a + b + c + d - absI (a - c) - absI (b - d) := IntWalk.i64_in _ ⟨by omega, by omega⟩
  have s3 : IntKind.i64.wrap ((a + b + c + d - absI (a - c) - absI (b - d)).tdiv 2) = (a + b + c + d - absI (a - c) - absI (b - d)) / 2 := by rw [Int.tdiv_eq_ediv_of_nonneg q4]; exact IntWalk.i64_in _ ⟨by omega, by omega⟩
  go_enter Tryd.func128, Tryd.ntmps128
  go_wp2
  go_region_held3 (fun w' => w'.cell? ⟨w.heap.size + 2, 0, none⟩ = some (.int .i64 (a + b + c + d)) ∧ w'.cell? ⟨w.heap.size + 2, 1, none⟩ = some (.int .i64 (a - c)) ∧ w'.cell? ⟨w.heap.size + 2, 2, none⟩ = some (.int .i64 (b - d))) (first | (go_split_ands; (try dsimp only); refine ⟨?_, ?_, ?_⟩ <;> (first | (with_reducible assumption) | (with_reducible exact keep_cell (by assumption) (by first | omega | (simp; done) | (simp; omega)) (by assumption)) | (with_reducible exact (World.cell?_alloc_past _ _ _ (by show _ < _; omega)).trans (by assumption)) | (with_reducible exact (World.cell?_alloc_past _ _ _ (by show _ < _; omega)).trans ((World.cell?_alloc_past _ _ _ (by show _ < _; omega)).symm.trans (by assumption))) | (simp [go_sem]; with_reducible assumption))) | (simp [go_sem, ↓IntWalk.iteOmega, *]; done))
    ((go_at_call 149; (with_reducible refine (size_any _ _ (by omega) (by omega)).mono ?_); rintro e w1 ⟨rfl, rfl⟩))
  go_wp2
  refine bodyPost_ret (v := .agg #[.int .i64 (a + b + c + d), .int .i64 (a - c), .int .i64 (b - d), .int .i64 ((a + b + c + d - absI (a - c) - absI (b - d)) / 2)]) (by simp [results, Tryd.results128, go_sem, ↓IntWalk.iteOmega, *]) rfl ⟨rfl, ?_⟩
  (repeat' (first | (with_reducible exact Below.refl _ _) | (with_reducible refine Below.setCell ?_ (by first | omega | (simp; done) | (simp; omega)) _) | (with_reducible refine Below.alloc ?_ (by first | omega | (simp; done) | (simp; omega)) _) | (with_reducible refine Below.drew ?_) | (with_reducible refine below_drewN ?_ _) | (with_reducible refine Below.trans ?_ (Below.mono (by assumption) (by first | omega | (simp; done) | (simp; omega))))))

set_option maxHeartbeats 400000 in
theorem at_any (m x y p h : Int) (w : World) (hp : 0 ≤ p) (hp' : p ≤ 1000000000) (h0 : 0 ≤ h) (h1 : h ≤ p) (x0 : -1000000000 ≤ x) (x1 : x ≤ 1000000000) (y0 : -1000000000 ≤ y) (y1 : y ≤ 1000000000) :
    Calls Tryd.prog 129 #[.agg #[.int .i64 m, .int .i64 x, .int .i64 y, .int .i64 p], .int .i64 h] w fun e w' => e = .returned (.agg #[.int .i64 (h + max x 0), .int .i64 (p - h + max y 0), .int .i64 (h + max (-x) 0), .int .i64 (p - h + max (-y) 0)]) ∧ Below w.heap.size w w' := by
  have s1 : IntKind.i64.wrap (p - h) = p - h := IntWalk.i64_in _ ⟨by omega, by omega⟩
  by_cases hx : 0 < x
  · by_cases hy : 0 < y
    · have e : (.agg #[.int .i64 (h + max x 0), .int .i64 (p - h + max y 0), .int .i64 (h + max (-x) 0), .int .i64 (p - h + max (-y) 0)] : Value) = .agg #[.int .i64 (h + x), .int .i64 (p - h + y), .int .i64 h, .int .i64 (p - h)] := c4_eq (by omega) (by omega) (by omega) (by omega)
      rw [e]; clear e
      go_enter Tryd.func129, Tryd.ntmps129
      go_wp2
      go_region_held3 (fun w' => w'.cell? ⟨w.heap.size, 3, none⟩ = some (.int .i64 p)) (first | (go_split_ands; (try dsimp only); (first | (with_reducible assumption) | (with_reducible exact keep_cell (by assumption) (by first | omega | (simp; done) | (simp; omega)) (by assumption)) | (with_reducible exact (World.cell?_alloc_past _ _ _ (by show _ < _; omega)).trans (by assumption)) | (with_reducible exact (World.cell?_alloc_past _ _ _ (by show _ < _; omega)).trans ((World.cell?_alloc_past _ _ _ (by show _ < _; omega)).symm.trans (by assumption))) | (simp [go_sem]; with_reducible assumption))) | (simp [go_sem, ↓IntWalk.iteOmega, *]; done)) (fail)
      go_wp2
      refine bodyPost_ret (v := .agg #[.int .i64 (h + x), .int .i64 (p - h + y), .int .i64 h, .int .i64 (p - h)]) (by simp [results, Tryd.results129, go_sem, ↓IntWalk.iteOmega, *]) rfl ⟨rfl, ?_⟩
      (repeat' (first | (with_reducible exact Below.refl _ _) | (with_reducible refine Below.setCell ?_ (by first | omega | (simp; done) | (simp; omega)) _) | (with_reducible refine Below.alloc ?_ (by first | omega | (simp; done) | (simp; omega)) _) | (with_reducible refine Below.drew ?_) | (with_reducible refine below_drewN ?_ _) | (with_reducible refine Below.trans ?_ (Below.mono (by assumption) (by first | omega | (simp; done) | (simp; omega))))))
    · have e : (.agg #[.int .i64 (h + max x 0), .int .i64 (p - h + max y 0), .int .i64 (h + max (-x) 0), .int .i64 (p - h + max (-y) 0)] : Value) = .agg #[.int .i64 (h + x), .int .i64 (p - h), .int .i64 h, .int .i64 (p - h - y)] := c4_eq (by omega) (by omega) (by omega) (by omega)
      rw [e]; clear e
      go_enter Tryd.func129, Tryd.ntmps129
      go_wp2
      go_region_held3 (fun w' => w'.cell? ⟨w.heap.size, 3, none⟩ = some (.int .i64 p)) (first | (go_split_ands; (try dsimp only); (first | (with_reducible assumption) | (with_reducible exact keep_cell (by assumption) (by first | omega | (simp; done) | (simp; omega)) (by assumption)) | (with_reducible exact (World.cell?_alloc_past _ _ _ (by show _ < _; omega)).trans (by assumption)) | (with_reducible exact (World.cell?_alloc_past _ _ _ (by show _ < _; omega)).trans ((World.cell?_alloc_past _ _ _ (by show _ < _; omega)).symm.trans (by assumption))) | (simp [go_sem]; with_reducible assumption))) | (simp [go_sem, ↓IntWalk.iteOmega, *]; done)) (fail)
      go_wp2
      refine bodyPost_ret (v := .agg #[.int .i64 (h + x), .int .i64 (p - h), .int .i64 h, .int .i64 (p - h - y)]) (by simp [results, Tryd.results129, go_sem, ↓IntWalk.iteOmega, *]) rfl ⟨rfl, ?_⟩
      (repeat' (first | (with_reducible exact Below.refl _ _) | (with_reducible refine Below.setCell ?_ (by first | omega | (simp; done) | (simp; omega)) _) | (with_reducible refine Below.alloc ?_ (by first | omega | (simp; done) | (simp; omega)) _) | (with_reducible refine Below.drew ?_) | (with_reducible refine below_drewN ?_ _) | (with_reducible refine Below.trans ?_ (Below.mono (by assumption) (by first | omega | (simp; done) | (simp; omega))))))
  · by_cases hy : 0 < y
    · have e : (.agg #[.int .i64 (h + max x 0), .int .i64 (p - h + max y 0), .int .i64 (h + max (-x) 0), .int .i64 (p - h + max (-y) 0)] : Value) = .agg #[.int .i64 h, .int .i64 (p - h + y), .int .i64 (h - x), .int .i64 (p - h)] := c4_eq (by omega) (by omega) (by omega) (by omega)
      rw [e]; clear e
      go_enter Tryd.func129, Tryd.ntmps129
      go_wp2
      go_region_held3 (fun w' => w'.cell? ⟨w.heap.size, 3, none⟩ = some (.int .i64 p)) (first | (go_split_ands; (try dsimp only); (first | (with_reducible assumption) | (with_reducible exact keep_cell (by assumption) (by first | omega | (simp; done) | (simp; omega)) (by assumption)) | (with_reducible exact (World.cell?_alloc_past _ _ _ (by show _ < _; omega)).trans (by assumption)) | (with_reducible exact (World.cell?_alloc_past _ _ _ (by show _ < _; omega)).trans ((World.cell?_alloc_past _ _ _ (by show _ < _; omega)).symm.trans (by assumption))) | (simp [go_sem]; with_reducible assumption))) | (simp [go_sem, ↓IntWalk.iteOmega, *]; done)) (fail)
      go_wp2
      refine bodyPost_ret (v := .agg #[.int .i64 h, .int .i64 (p - h + y), .int .i64 (h - x), .int .i64 (p - h)]) (by simp [results, Tryd.results129, go_sem, ↓IntWalk.iteOmega, *]) rfl ⟨rfl, ?_⟩
      (repeat' (first | (with_reducible exact Below.refl _ _) | (with_reducible refine Below.setCell ?_ (by first | omega | (simp; done) | (simp; omega)) _) | (with_reducible refine Below.alloc ?_ (by first | omega | (simp; done) | (simp; omega)) _) | (with_reducible refine Below.drew ?_) | (with_reducible refine below_drewN ?_ _) | (with_reducible refine Below.trans ?_ (Below.mono (by assumption) (by first | omega | (simp; done) | (simp; omega))))))
    · have e : (.agg #[.int .i64 (h + max x 0), .int .i64 (p - h + max y 0), .int .i64 (h + max (-x) 0), .int .i64 (p - h + max (-y) 0)] : Value) = .agg #[.int .i64 h, .int .i64 (p - h), .int .i64 (h - x), .int .i64 (p - h - y)] := c4_eq (by omega) (by omega) (by omega) (by omega)
      rw [e]; clear e
      go_enter Tryd.func129, Tryd.ntmps129
      go_wp2
      go_region_held3 (fun w' => w'.cell? ⟨w.heap.size, 3, none⟩ = some (.int .i64 p)) (first | (go_split_ands; (try dsimp only); (first | (with_reducible assumption) | (with_reducible exact keep_cell (by assumption) (by first | omega | (simp; done) | (simp; omega)) (by assumption)) | (with_reducible exact (World.cell?_alloc_past _ _ _ (by show _ < _; omega)).trans (by assumption)) | (with_reducible exact (World.cell?_alloc_past _ _ _ (by show _ < _; omega)).trans ((World.cell?_alloc_past _ _ _ (by show _ < _; omega)).symm.trans (by assumption))) | (simp [go_sem]; with_reducible assumption))) | (simp [go_sem, ↓IntWalk.iteOmega, *]; done)) (fail)
      go_wp2
      refine bodyPost_ret (v := .agg #[.int .i64 h, .int .i64 (p - h), .int .i64 (h - x), .int .i64 (p - h - y)]) (by simp [results, Tryd.results129, go_sem, ↓IntWalk.iteOmega, *]) rfl ⟨rfl, ?_⟩
      (repeat' (first | (with_reducible exact Below.refl _ _) | (with_reducible refine Below.setCell ?_ (by first | omega | (simp; done) | (simp; omega)) _) | (with_reducible refine Below.alloc ?_ (by first | omega | (simp; done) | (simp; omega)) _) | (with_reducible refine Below.drew ?_) | (with_reducible refine below_drewN ?_ _) | (with_reducible refine Below.trans ?_ (Below.mono (by assumption) (by first | omega | (simp; done) | (simp; omega))))))
end Go.Proofs.YtnpmlbhlchoolaaDoor

/- The reference's collisions. -/

namespace Go.Proofs.YtnpmlbhlchoolaaDoor
set_option linter.unusedSimpArgs false
set_option linter.unusedVariables false
open Go.RowKit

theorem after_eq {a b c d : Int} (k y : Int) (h : Ok4 a b c d) : (.agg #[.int .i64 (turnTo k y (min a c) (min a c + min b d) + max (a - c) 0), .int .i64 (min a c + min b d - turnTo k y (min a c) (min a c + min b d) + max (b - d) 0), .int .i64 (turnTo k y (min a c) (min a c + min b d) + max (-(a - c)) 0), .int .i64 (min a c + min b d - turnTo k y (min a c) (min a c + min b d) + max (-(b - d)) 0)] : Value) =
    .agg #[.int .i64 (a + more a b c d k y), .int .i64 (b - more a b c d k y), .int .i64 (c + more a b c d k y), .int .i64 (d - more a b c d k y)] := by
  obtain ⟨_, _, _, _, _⟩ := h
  unfold more
  exact c4_eq (by omega) (by omega) (by omega) (by omega)

set_option maxHeartbeats 1000000 in
theorem after_ok (a b c d k y : Int) (w : World) (h : Ok4 a b c d) (hr : OkR k y) :
    Calls Tryd.prog 106 #[.agg #[.int .i64 a, .int .i64 b, .int .i64 c, .int .i64 d], .agg #[.int .i64 k, .int .i64 y]] w fun e w' => e = .returned (.agg #[.int .i64 (a + more a b c d k y), .int .i64 (b - more a b c d k y), .int .i64 (c + more a b c d k y), .int .i64 (d - more a b c d k y)]) ∧ Below w.heap.size w w' := by
  rw [← after_eq k y h]
  have H := Lib.hid h
  have HR := Lib.hid hr; clear hr
  obtain ⟨p0, p1, p2, p3, p4⟩ := h
  have m0 : 0 ≤ min a c := by omega
  have m1 : min a c ≤ min a c + min b d := by omega
  have m2 : min a c + min b d ≤ 1000000000 := by omega
  obtain ⟨t0, t1⟩ := @turnTo_bd k y (min a c) (min a c + min b d) m0 m1
  go_enter Tryd.func106, Tryd.ntmps106
  go_wp2_with (go_at_call 128; (with_reducible refine (of_ok _ _ _ _ _ H.out).mono ?_); rintro e w1 ⟨rfl, hb⟩; obtain ⟨hc, hf, hz⟩ := bcall hb; (try simp at hc hf hz))
  go_region_held3 (fun w' => w'.cell? ⟨w1.heap.size, 0, none⟩ = some (.int .i64 (a + b + c + d)) ∧ w'.cell? ⟨w1.heap.size, 1, none⟩ = some (.int .i64 (a - c)) ∧ w'.cell? ⟨w1.heap.size, 2, none⟩ = some (.int .i64 (b - d)) ∧ w'.cell? ⟨w1.heap.size, 3, none⟩ = some (.int .i64 (min a c + min b d)) ∧ w'.cell? ⟨w.heap.size + 1, 0, none⟩ = some (.int .i64 k) ∧ w'.cell? ⟨w.heap.size + 1, 1, none⟩ = some (.int .i64 y) ∧ w'.cell? ⟨w.heap.size, 0, none⟩ = some (.int .i64 a) ∧ w'.cell? ⟨w.heap.size, 2, none⟩ = some (.int .i64 c)) (first | (go_split_ands; (try dsimp only); refine ⟨?_, ?_, ?_, ?_, ?_, ?_, ?_, ?_⟩ <;> (first | (with_reducible assumption) | (with_reducible exact keep_cell (by assumption) (by first | omega | (simp; done) | (simp; omega)) (by assumption)) | (with_reducible exact (World.cell?_alloc_past _ _ _ (by show _ < _; omega)).trans (by assumption)) | (with_reducible exact (World.cell?_alloc_past _ _ _ (by show _ < _; omega)).trans ((World.cell?_alloc_past _ _ _ (by show _ < _; omega)).symm.trans (by assumption))) | (simp [go_sem]; with_reducible assumption))) | (simp [go_sem, ↓IntWalk.iteOmega, *]; done))
    (first | (go_at_call 131; (with_reducible refine (least_any _ _ _).mono ?_); rintro e w1 ⟨rfl, rfl⟩) | (go_at_call 130; (with_reducible refine (refTurn_any _ _ _ _ _ HR.out m0 m1 m2).mono ?_); rintro e w1 ⟨rfl, hb⟩; obtain ⟨hc, hf, hz⟩ := bcall hb; (try simp at hc hf hz)) | (go_at_call 129; (with_reducible refine (at_any _ _ _ _ _ _ (by omega) (by omega) t0 t1 (by omega) (by omega) (by omega) (by omega)).mono ?_); rintro e w1 ⟨rfl, hb⟩; obtain ⟨hc, hf, hz⟩ := bcall hb; (try simp at hc hf hz)))
  go_wp2
  refine bodyPost_ret (v := .agg #[.int .i64 (turnTo k y (min a c) (min a c + min b d) + max (a - c) 0), .int .i64 (min a c + min b d - turnTo k y (min a c) (min a c + min b d) + max (b - d) 0), .int .i64 (turnTo k y (min a c) (min a c + min b d) + max (-(a - c)) 0), .int .i64 (min a c + min b d - turnTo k y (min a c) (min a c + min b d) + max (-(b - d)) 0)]) (by simp [results, Tryd.results106, go_sem, ↓IntWalk.iteOmega, *]) rfl ⟨rfl, ?_⟩
  (repeat' (first | (with_reducible exact Below.refl _ _) | (with_reducible refine Below.setCell ?_ (by first | omega | (simp; done) | (simp; omega)) _) | (with_reducible refine Below.alloc ?_ (by first | omega | (simp; done) | (simp; omega)) _) | (with_reducible refine Below.drew ?_) | (with_reducible refine below_drewN ?_ _) | (with_reducible refine Below.trans ?_ (Below.mono (by assumption) (by first | omega | (simp; done) | (simp; omega))))))

set_option maxHeartbeats 400000 in
theorem opposite_any (k y : Int) (w : World) (h : OkR k y) :
    Calls Tryd.prog 77 #[.agg #[.int .i64 k, .int .i64 y]] w fun e w' => e = .returned (.agg #[.int .i64 k, .int .i64 (-y)]) ∧ Below w.heap.size w w' := by
  have hb : -1000000000 ≤ y ∧ y ≤ 1000000000 := by unfold OkR at h; omega
  obtain ⟨h1, h2⟩ := hb
  clear h
  go_enter Tryd.func77, Tryd.ntmps77
  go_wp2
  refine bodyPost_ret (v := .agg #[.int .i64 k, .int .i64 (-y)]) (by simp [results, Tryd.results77, go_sem, ↓IntWalk.iteOmega, *]) rfl ⟨rfl, ?_⟩
  (repeat' (first | (with_reducible exact Below.refl _ _) | (with_reducible refine Below.setCell ?_ (by first | omega | (simp; done) | (simp; omega)) _) | (with_reducible refine Below.alloc ?_ (by first | omega | (simp; done) | (simp; omega)) _) | (with_reducible refine Below.drew ?_) | (with_reducible refine below_drewN ?_ _) | (with_reducible refine Below.trans ?_ (Below.mono (by assumption) (by first | omega | (simp; done) | (simp; omega))))))

end Go.Proofs.YtnpmlbhlchoolaaDoor

/- Undo, by the program. -/

namespace Go.Proofs.YtnpmlbhlchoolaaDoor
set_option linter.unusedSimpArgs false
set_option linter.unusedVariables false
open Go.RowKit

theorem okR_neg {k y : Int} (h : OkR k y) : OkR k (-y) := by unfold OkR at *; omega

set_option maxHeartbeats 400000 in
theorem undo_ok (a b c d k y : Int) (w : World) (h : Ok4 a b c d) (hr : OkR k y) :
    Calls Tryd.prog 84 #[.agg #[.int .i64 a, .int .i64 b, .int .i64 c, .int .i64 d], .agg #[.int .i64 k, .int .i64 y]] w fun e w' => e = .returned (.tuple #[.agg #[.int .i64 (a + more a b c d k (-y)), .int .i64 (b - more a b c d k (-y)), .int .i64 (c + more a b c d k (-y)), .int .i64 (d - more a b c d k (-y))], .int .i64 0]) ∧ Below w.heap.size w w' := by
  have H := Lib.hid h; clear h
  have HR := Lib.hid hr; clear hr
  go_enter Tryd.func84, Tryd.ntmps84
  go_wp2_with (first | (go_at_call 114; (with_reducible refine (inverse_ok _ _ _ HR.out).mono ?_); rintro e w1 ⟨rfl, hb⟩; obtain ⟨hc, hf, hz⟩ := bcall hb; (try simp at hc hf hz)) | (go_at_call 81; (with_reducible refine (collide_ok _ _ _ _ _ _ _ H.out (okR_neg HR.out)).mono ?_); rintro e w1 ⟨rfl, hb⟩; obtain ⟨hc, hf, hz⟩ := bcall hb; (try simp at hc hf hz)))
  refine bodyPost_ret (v := .tuple #[.agg #[.int .i64 (a + more a b c d k (-y)), .int .i64 (b - more a b c d k (-y)), .int .i64 (c + more a b c d k (-y)), .int .i64 (d - more a b c d k (-y))], .int .i64 0]) (by simp [results, Tryd.results84, go_sem, ↓IntWalk.iteOmega, *]) rfl ⟨rfl, ?_⟩
  (repeat' (first | (with_reducible exact Below.refl _ _) | (with_reducible refine Below.setCell ?_ (by first | omega | (simp; done) | (simp; omega)) _) | (with_reducible refine Below.alloc ?_ (by first | omega | (simp; done) | (simp; omega)) _) | (with_reducible refine Below.drew ?_) | (with_reducible refine below_drewN ?_ _) | (with_reducible refine Below.trans ?_ (Below.mono (by assumption) (by first | omega | (simp; done) | (simp; omega))))))

set_option maxHeartbeats 400000 in
theorem undo_bad (a b c d k y : Int) (w : World) (h : ¬ (Ok4 a b c d ∧ OkR k y)) :
    Calls Tryd.prog 84 #[.agg #[.int .i64 a, .int .i64 b, .int .i64 c, .int .i64 d], .agg #[.int .i64 k, .int .i64 y]] w fun e w' => e = .returned (.tuple #[.agg #[.int .i64 0, .int .i64 0, .int .i64 0, .int .i64 0], .int .i64 1]) ∧ Below w.heap.size w w' := by
  have H := Lib.hid h; clear h
  by_cases hr : OkR k y
  · have HR := Lib.hid hr; clear hr
    have HB := Lib.hid (show ¬ (Ok4 a b c d ∧ OkR k (-y)) from fun h => H.out ⟨h.1, HR.out⟩)
    go_enter Tryd.func84, Tryd.ntmps84
    go_wp2_with (first | (go_at_call 114; (with_reducible refine (inverse_ok _ _ _ HR.out).mono ?_); rintro e w1 ⟨rfl, hb⟩; obtain ⟨hc, hf, hz⟩ := bcall hb; (try simp at hc hf hz)) | (go_at_call 81; (with_reducible refine (collide_bad _ _ _ _ _ _ _ HB.out).mono ?_); rintro e w1 ⟨rfl, hb⟩; obtain ⟨hc, hf, hz⟩ := bcall hb; (try simp at hc hf hz)))
    refine bodyPost_ret (v := .tuple #[.agg #[.int .i64 0, .int .i64 0, .int .i64 0, .int .i64 0], .int .i64 1]) (by simp [results, Tryd.results84, go_sem, ↓IntWalk.iteOmega, *]) rfl ⟨rfl, ?_⟩
    (repeat' (first | (with_reducible exact Below.refl _ _) | (with_reducible refine Below.setCell ?_ (by first | omega | (simp; done) | (simp; omega)) _) | (with_reducible refine Below.alloc ?_ (by first | omega | (simp; done) | (simp; omega)) _) | (with_reducible refine Below.drew ?_) | (with_reducible refine below_drewN ?_ _) | (with_reducible refine Below.trans ?_ (Below.mono (by assumption) (by first | omega | (simp; done) | (simp; omega))))))
  · have HR := Lib.hid hr; clear hr
    go_enter Tryd.func84, Tryd.ntmps84
    go_wp2_with (first | (go_at_call 114; (with_reducible refine (inverse_bad _ _ _ HR.out).mono ?_); rintro e w1 ⟨rfl, hb⟩; obtain ⟨hc, hf, hz⟩ := bcall hb; (try simp at hc hf hz)))
    refine bodyPost_ret (v := .tuple #[.agg #[.int .i64 0, .int .i64 0, .int .i64 0, .int .i64 0], .int .i64 1]) (by simp [results, Tryd.results84, go_sem, ↓IntWalk.iteOmega, *]) rfl ⟨rfl, ?_⟩
    (repeat' (first | (with_reducible exact Below.refl _ _) | (with_reducible refine Below.setCell ?_ (by first | omega | (simp; done) | (simp; omega)) _) | (with_reducible refine Below.alloc ?_ (by first | omega | (simp; done) | (simp; omega)) _) | (with_reducible refine Below.drew ?_) | (with_reducible refine below_drewN ?_ _) | (with_reducible refine Below.trans ?_ (Below.mono (by assumption) (by first | omega | (simp; done) | (simp; omega))))))
end Go.Proofs.YtnpmlbhlchoolaaDoor

/- The reference's sums and its undoing; the chapter's example. -/



namespace Go.Proofs.YtnpmlbhlchoolaaDoor
set_option linter.unusedSimpArgs false
set_option linter.unusedVariables false
open Go.RowKit

theorem least_quiet (a b : Int) (w : World) :
    Calls Tryd.prog 131 #[.int .i64 a, .int .i64 b] w fun e w' => e = .returned (.int .i64 (min a b)) ∧ w' = w := (least_any a b w).mono fun _ _ h => ⟨h.1, h.2.symm⟩

end Go.Proofs.YtnpmlbhlchoolaaDoor

/- Mirrored and Turned, by the program and by the reference. -/



namespace Go.Proofs.YtnpmlbhlchoolaaDoor
set_option linter.unusedSimpArgs false
set_option linter.unusedVariables false
open Go.RowKit

theorem index_cell0 (w : World) (a b c d : Int) : (Instr.index 63 (.agg #[.int .i64 a, .int .i64 b, .int .i64 c, .int .i64 d]) (.int .i64 0)).run Tryd.prog w = .ok (.int .i64 a) w := by kernel_rfl
theorem index_cell1 (w : World) (a b c d : Int) : (Instr.index 63 (.agg #[.int .i64 a, .int .i64 b, .int .i64 c, .int .i64 d]) (.int .i64 1)).run Tryd.prog w = .ok (.int .i64 b) w := by kernel_rfl
theorem index_cell2 (w : World) (a b c d : Int) : (Instr.index 63 (.agg #[.int .i64 a, .int .i64 b, .int .i64 c, .int .i64 d]) (.int .i64 2)).run Tryd.prog w = .ok (.int .i64 c) w := by kernel_rfl
theorem index_cell3 (w : World) (a b c d : Int) : (Instr.index 63 (.agg #[.int .i64 a, .int .i64 b, .int .i64 c, .int .i64 d]) (.int .i64 3)).run Tryd.prog w = .ok (.int .i64 d) w := by kernel_rfl
attribute [go_sem] index_cell0 index_cell1 index_cell2 index_cell3

set_option maxHeartbeats 400000 in
theorem mirrored_ok (a b c d : Int) (w : World) (h : Ok4 a b c d) :
    Calls Tryd.prog 66 #[.agg #[.int .i64 a, .int .i64 b, .int .i64 c, .int .i64 d]] w fun e w' => e = .returned (.tuple #[.agg #[.int .i64 c, .int .i64 b, .int .i64 a, .int .i64 d], .int .i64 0]) ∧ Below w.heap.size w w' := by
  have H := Lib.hid h; clear h
  go_enter Tryd.func66, Tryd.ntmps66
  go_wp2_with (go_at_call 69; (with_reducible refine (valid_ok _ _ _ _ _ H.out).mono ?_); rintro e w1 ⟨rfl, hb⟩; obtain ⟨hc, hf, hz⟩ := bcall hb; (try simp at hc hf hz))
  refine bodyPost_ret (v := .tuple #[.agg #[.int .i64 c, .int .i64 b, .int .i64 a, .int .i64 d], .int .i64 0]) (by simp [results, Tryd.results66, go_sem, ↓IntWalk.iteOmega, *]) rfl ⟨rfl, ?_⟩
  (repeat' (first | (with_reducible exact Below.refl _ _) | (with_reducible refine Below.setCell ?_ (by first | omega | (simp; done) | (simp; omega)) _) | (with_reducible refine Below.alloc ?_ (by first | omega | (simp; done) | (simp; omega)) _) | (with_reducible refine Below.drew ?_) | (with_reducible refine below_drewN ?_ _) | (with_reducible refine Below.trans ?_ (Below.mono (by assumption) (by first | omega | (simp; done) | (simp; omega))))))

set_option maxHeartbeats 400000 in
theorem mirrored_bad (a b c d : Int) (w : World) (h : ¬ Ok4 a b c d) :
    Calls Tryd.prog 66 #[.agg #[.int .i64 a, .int .i64 b, .int .i64 c, .int .i64 d]] w fun e w' => e = .returned (.tuple #[.agg #[.int .i64 0, .int .i64 0, .int .i64 0, .int .i64 0], .int .i64 1]) ∧ Below w.heap.size w w' := by
  have H := Lib.hid h; clear h
  go_enter Tryd.func66, Tryd.ntmps66
  go_wp2_with (go_at_call 69; (with_reducible refine (valid_bad _ _ _ _ _ H.out).mono ?_); rintro e w1 ⟨rfl, hb⟩; obtain ⟨hc, hf, hz⟩ := bcall hb; (try simp at hc hf hz))
  refine bodyPost_ret (v := .tuple #[.agg #[.int .i64 0, .int .i64 0, .int .i64 0, .int .i64 0], .int .i64 1]) (by simp [results, Tryd.results66, go_sem, ↓IntWalk.iteOmega, *]) rfl ⟨rfl, ?_⟩
  (repeat' (first | (with_reducible exact Below.refl _ _) | (with_reducible refine Below.setCell ?_ (by first | omega | (simp; done) | (simp; omega)) _) | (with_reducible refine Below.alloc ?_ (by first | omega | (simp; done) | (simp; omega)) _) | (with_reducible refine Below.drew ?_) | (with_reducible refine below_drewN ?_ _) | (with_reducible refine Below.trans ?_ (Below.mono (by assumption) (by first | omega | (simp; done) | (simp; omega))))))

/-- Modulo 4, of any number. -/
theorem modulo4 (n r : Int) (w : World) (h : n % 4 = r) :
    Calls Tryd.prog 136 #[.int .i64 n, .int .i64 4] w fun e w' => e = .returned (.int .i64 r) ∧ w = w' := by
  subst h
  have q0 := Int.emod_nonneg n (show (4 : Int) ≠ 0 by omega)
  have q1 := Int.emod_lt_of_pos n (show (0 : Int) < 4 by omega)
  by_cases hn : 0 ≤ n
  · go_enter Tryd.func136, Tryd.ntmps136
    go_wp2
    go_ret
    exact ⟨rfl, rfl⟩
  · rcases tmod_neg (n := n) (m := 4) (by omega) (by omega) with ⟨t0, t1⟩ | ⟨t0, t1⟩
    · have T := Lib.hid t1; clear t1
      have t2 : -4 ≤ n.tmod 4 := by have := T.out; omega
      go_enter Tryd.func136, Tryd.ntmps136
      go_wp2
      go_ret
      exact ⟨ret_i T.out, rfl⟩
    · have T := Lib.hid t1; clear t1
      have T0 := Lib.hid t0
      have t2 : 0 ≤ n.tmod 4 := by omega
      have t3 : n.tmod 4 ≤ 0 := by omega
      clear t0
      go_enter Tryd.func136, Tryd.ntmps136
      go_wp2
      go_ret
      exact ⟨ret_i (by rw [T.out, T0.out]), rfl⟩

theorem and3 (n : Int) : bits .and .i64 n 3 = n % 4 := by
  show IntKind.i64.wrap ((BitVec.ofInt 64 n &&& BitVec.ofInt 64 3).toNat : Int) = _
  have e : (BitVec.ofInt 64 3 : BitVec 64).toNat = 2 ^ 2 - 1 := by decide
  rw [BitVec.toNat_and, e, Nat.and_two_pow_sub_one_eq_mod, BitVec.toNat_ofInt]
  rw [IntKind.wrap_i64]
  omega

end Go.Proofs.YtnpmlbhlchoolaaDoor
