/- What walls do to a cell: by the program and by the reference. -/
import Derived.Test.YtmdeooflgkjbbaaDoorKTable
import Derived.Test.YtmdeooflgkjbbaaDoorKRef
namespace Go.Proofs.YtmdeooflgkjbbaaDoor
set_option linter.unusedSimpArgs false
set_option linter.unusedVariables false
open Go.RowKit
attribute [local go_sem] index_cell0 index_cell1 index_cell2 index_cell3

/-- A cell after a kind of wall. -/
def sn (k d : Nat) (a b c e : Int) : Int := if exch k d = 0 then a else if exch k d = 1 then b else if exch k d = 2 then c else e

set_option maxHeartbeats 1000000 in
theorem wsent0 (a b c e : Int) (w : World) (hT : Tbl w) : Calls Tryd.prog 151 #[.agg #[.int .i64 a, .int .i64 b, .int .i64 c, .int .i64 e], .int .i64 0] w fun e' w' => e' = .returned (.agg #[.int .i64 a, .int .i64 b, .int .i64 c, .int .i64 e]) ∧ Below w.heap.size w w' := by
  have t0 : w.cell? ⟨2, 0, none⟩ = some (.int .i64 0) := hT 0 (by decide) 0 (by decide)
  have t1 : w.cell? ⟨2, 1, none⟩ = some (.int .i64 1) := hT 0 (by decide) 1 (by decide)
  have t2 : w.cell? ⟨2, 2, none⟩ = some (.int .i64 2) := hT 0 (by decide) 2 (by decide)
  have t3 : w.cell? ⟨2, 3, none⟩ = some (.int .i64 3) := hT 0 (by decide) 3 (by decide)
  have hg := block_lt t0
  clear hT
  go_enter Tryd.func151, Tryd.ntmps151
  go_wp2
  refine wp_loop_rounds 5 ?_
  rw [rounds_succ]
  go_wp2
  rw [rounds_succ]
  go_wp2
  rw [rounds_succ]
  go_wp2
  rw [rounds_succ]
  go_wp2
  rw [rounds_succ]
  go_wp2
  refine bodyPost_ret (v := .agg #[.int .i64 a, .int .i64 b, .int .i64 c, .int .i64 e]) (by simp [results, Tryd.results151, go_sem, ↓IntWalk.iteOmega, *]) rfl ⟨rfl, ?_⟩
  (repeat' (first | (with_reducible exact Below.refl _ _) | (with_reducible refine Below.setCell ?_ (by first | omega | (simp; done) | (simp; omega)) _) | (with_reducible refine Below.alloc ?_ (by first | omega | (simp; done) | (simp; omega)) _) | (with_reducible refine Below.drew ?_) | (with_reducible refine below_drewN ?_ _) | (with_reducible refine Below.trans ?_ (Below.mono (by assumption) (by first | omega | (simp; done) | (simp; omega))))))

set_option maxHeartbeats 1000000 in
theorem wsent1 (a b c e : Int) (w : World) (hT : Tbl w) : Calls Tryd.prog 151 #[.agg #[.int .i64 a, .int .i64 b, .int .i64 c, .int .i64 e], .int .i64 1] w fun e' w' => e' = .returned (.agg #[.int .i64 c, .int .i64 e, .int .i64 a, .int .i64 b]) ∧ Below w.heap.size w w' := by
  have t0 : w.cell? ⟨2, 4, none⟩ = some (.int .i64 2) := hT 1 (by decide) 0 (by decide)
  have t1 : w.cell? ⟨2, 5, none⟩ = some (.int .i64 3) := hT 1 (by decide) 1 (by decide)
  have t2 : w.cell? ⟨2, 6, none⟩ = some (.int .i64 0) := hT 1 (by decide) 2 (by decide)
  have t3 : w.cell? ⟨2, 7, none⟩ = some (.int .i64 1) := hT 1 (by decide) 3 (by decide)
  have hg := block_lt t0
  clear hT
  go_enter Tryd.func151, Tryd.ntmps151
  go_wp2
  refine wp_loop_rounds 5 ?_
  rw [rounds_succ]
  go_wp2
  rw [rounds_succ]
  go_wp2
  rw [rounds_succ]
  go_wp2
  rw [rounds_succ]
  go_wp2
  rw [rounds_succ]
  go_wp2
  refine bodyPost_ret (v := .agg #[.int .i64 c, .int .i64 e, .int .i64 a, .int .i64 b]) (by simp [results, Tryd.results151, go_sem, ↓IntWalk.iteOmega, *]) rfl ⟨rfl, ?_⟩
  (repeat' (first | (with_reducible exact Below.refl _ _) | (with_reducible refine Below.setCell ?_ (by first | omega | (simp; done) | (simp; omega)) _) | (with_reducible refine Below.alloc ?_ (by first | omega | (simp; done) | (simp; omega)) _) | (with_reducible refine Below.drew ?_) | (with_reducible refine below_drewN ?_ _) | (with_reducible refine Below.trans ?_ (Below.mono (by assumption) (by first | omega | (simp; done) | (simp; omega))))))

set_option maxHeartbeats 1000000 in
theorem wsent2 (a b c e : Int) (w : World) (hT : Tbl w) : Calls Tryd.prog 151 #[.agg #[.int .i64 a, .int .i64 b, .int .i64 c, .int .i64 e], .int .i64 2] w fun e' w' => e' = .returned (.agg #[.int .i64 b, .int .i64 a, .int .i64 e, .int .i64 c]) ∧ Below w.heap.size w w' := by
  have t0 : w.cell? ⟨2, 8, none⟩ = some (.int .i64 1) := hT 2 (by decide) 0 (by decide)
  have t1 : w.cell? ⟨2, 9, none⟩ = some (.int .i64 0) := hT 2 (by decide) 1 (by decide)
  have t2 : w.cell? ⟨2, 10, none⟩ = some (.int .i64 3) := hT 2 (by decide) 2 (by decide)
  have t3 : w.cell? ⟨2, 11, none⟩ = some (.int .i64 2) := hT 2 (by decide) 3 (by decide)
  have hg := block_lt t0
  clear hT
  go_enter Tryd.func151, Tryd.ntmps151
  go_wp2
  refine wp_loop_rounds 5 ?_
  rw [rounds_succ]
  go_wp2
  rw [rounds_succ]
  go_wp2
  rw [rounds_succ]
  go_wp2
  rw [rounds_succ]
  go_wp2
  rw [rounds_succ]
  go_wp2
  refine bodyPost_ret (v := .agg #[.int .i64 b, .int .i64 a, .int .i64 e, .int .i64 c]) (by simp [results, Tryd.results151, go_sem, ↓IntWalk.iteOmega, *]) rfl ⟨rfl, ?_⟩
  (repeat' (first | (with_reducible exact Below.refl _ _) | (with_reducible refine Below.setCell ?_ (by first | omega | (simp; done) | (simp; omega)) _) | (with_reducible refine Below.alloc ?_ (by first | omega | (simp; done) | (simp; omega)) _) | (with_reducible refine Below.drew ?_) | (with_reducible refine below_drewN ?_ _) | (with_reducible refine Below.trans ?_ (Below.mono (by assumption) (by first | omega | (simp; done) | (simp; omega))))))

set_option maxHeartbeats 1000000 in
theorem wsent3 (a b c e : Int) (w : World) (hT : Tbl w) : Calls Tryd.prog 151 #[.agg #[.int .i64 a, .int .i64 b, .int .i64 c, .int .i64 e], .int .i64 3] w fun e' w' => e' = .returned (.agg #[.int .i64 e, .int .i64 c, .int .i64 b, .int .i64 a]) ∧ Below w.heap.size w w' := by
  have t0 : w.cell? ⟨2, 12, none⟩ = some (.int .i64 3) := hT 3 (by decide) 0 (by decide)
  have t1 : w.cell? ⟨2, 13, none⟩ = some (.int .i64 2) := hT 3 (by decide) 1 (by decide)
  have t2 : w.cell? ⟨2, 14, none⟩ = some (.int .i64 1) := hT 3 (by decide) 2 (by decide)
  have t3 : w.cell? ⟨2, 15, none⟩ = some (.int .i64 0) := hT 3 (by decide) 3 (by decide)
  have hg := block_lt t0
  clear hT
  go_enter Tryd.func151, Tryd.ntmps151
  go_wp2
  refine wp_loop_rounds 5 ?_
  rw [rounds_succ]
  go_wp2
  rw [rounds_succ]
  go_wp2
  rw [rounds_succ]
  go_wp2
  rw [rounds_succ]
  go_wp2
  rw [rounds_succ]
  go_wp2
  refine bodyPost_ret (v := .agg #[.int .i64 e, .int .i64 c, .int .i64 b, .int .i64 a]) (by simp [results, Tryd.results151, go_sem, ↓IntWalk.iteOmega, *]) rfl ⟨rfl, ?_⟩
  (repeat' (first | (with_reducible exact Below.refl _ _) | (with_reducible refine Below.setCell ?_ (by first | omega | (simp; done) | (simp; omega)) _) | (with_reducible refine Below.alloc ?_ (by first | omega | (simp; done) | (simp; omega)) _) | (with_reducible refine Below.drew ?_) | (with_reducible refine below_drewN ?_ _) | (with_reducible refine Below.trans ?_ (Below.mono (by assumption) (by first | omega | (simp; done) | (simp; omega))))))

theorem wsent_any (k : Nat) (a b c e : Int) (w : World) (hk : k < 4) (hT : Tbl w) : Calls Tryd.prog 151 #[.agg #[.int .i64 a, .int .i64 b, .int .i64 c, .int .i64 e], .int .i64 k] w fun e' w' => e' = .returned (.agg #[.int .i64 (sn k 0 a b c e), .int .i64 (sn k 1 a b c e), .int .i64 (sn k 2 a b c e), .int .i64 (sn k 3 a b c e)]) ∧ Below w.heap.size w w' := by
  match k, hk with
  | 0, _ => exact wsent0 a b c e w hT
  | 1, _ => exact wsent1 a b c e w hT
  | 2, _ => exact wsent2 a b c e w hT
  | 3, _ => exact wsent3 a b c e w hT
theorem sn_sn (k : Nat) (a b c e : Int) (hk : k < 4) : sn k 0 (sn k 0 a b c e) (sn k 1 a b c e) (sn k 2 a b c e) (sn k 3 a b c e) = a ∧ sn k 1 (sn k 0 a b c e) (sn k 1 a b c e) (sn k 2 a b c e) (sn k 3 a b c e) = b ∧ sn k 2 (sn k 0 a b c e) (sn k 1 a b c e) (sn k 2 a b c e) (sn k 3 a b c e) = c ∧ sn k 3 (sn k 0 a b c e) (sn k 1 a b c e) (sn k 2 a b c e) (sn k 3 a b c e) = e := by
  match k, hk with
  | 0, _ => exact ⟨rfl, rfl, rfl, rfl⟩
  | 1, _ => exact ⟨rfl, rfl, rfl, rfl⟩
  | 2, _ => exact ⟨rfl, rfl, rfl, rfl⟩
  | 3, _ => exact ⟨rfl, rfl, rfl, rfl⟩
theorem sn_ok {k : Nat} {a b c e : Int} (hk : k < 4) (h : Ok4 a b c e) : Ok4 (sn k 0 a b c e) (sn k 1 a b c e) (sn k 2 a b c e) (sn k 3 a b c e) := by
  unfold Ok4 at *
  match k, hk with
  | 0, _ => simp [sn, exch]; omega
  | 1, _ => simp [sn, exch]; omega
  | 2, _ => simp [sn, exch]; omega
  | 3, _ => simp [sn, exch]; omega

theorem isWall_yes (n : Int) (w : World) (h1 : 1 ≤ n) (h2 : n ≤ 3) : Calls Tryd.prog 150 #[.int .i64 n] w fun e w' => e = .returned (.bool true) ∧ w = w' := by
  go_enter Tryd.func150, Tryd.ntmps150
  go_wp2
  go_ret
  exact ⟨rfl, rfl⟩
theorem isWall_no (n : Int) (w : World) (h : n < 1 ∨ 3 < n) : Calls Tryd.prog 150 #[.int .i64 n] w fun e w' => e = .returned (.bool false) ∧ w = w' := by
  by_cases h1 : 1 ≤ n
  · have h2 : ¬ n ≤ 3 := by omega
    clear h
    go_enter Tryd.func150, Tryd.ntmps150
    go_wp2
    go_ret
    exact ⟨rfl, rfl⟩
  · clear h
    go_enter Tryd.func150, Tryd.ntmps150
    go_wp2
    go_ret
    exact ⟨rfl, rfl⟩

set_option maxHeartbeats 1000000 in
theorem gsent_ok0 (a b c e : Int) (w : World) (h : Ok4 a b c e) (hT : Tbl w) : Calls Tryd.prog 100 #[.agg #[.int .i64 a, .int .i64 b, .int .i64 c, .int .i64 e], .int .i64 0] w fun e' w' => e' = .returned (.tuple #[.agg #[.int .i64 a, .int .i64 b, .int .i64 c, .int .i64 e], .int .i64 0]) ∧ Below w.heap.size w w' := by
  have H := Lib.hid h; clear h
  have T := Lib.hid hT; clear hT
  go_enter Tryd.func100, Tryd.ntmps100
  go_wp2_with (first | (go_at_call 140; (with_reducible refine (valid_ok _ _ _ _ _ H.out).mono ?_); rintro e w1 ⟨rfl, hb⟩; obtain ⟨hc, hf, hz⟩ := bcall hb; (try simp at hc hf hz)) | (go_at_call 151; (with_reducible refine (wsent0 _ _ _ _ _ (T.out.below (by (repeat' (first | (with_reducible exact Below.refl _ _) | (with_reducible refine Below.setCell ?_ (by first | omega | (simp; done) | (simp; omega)) _) | (with_reducible refine Below.alloc ?_ (by first | omega | (simp; done) | (simp; omega)) _) | (with_reducible refine Below.drew ?_) | (with_reducible refine below_drewN ?_ _) | (with_reducible refine Below.trans ?_ (Below.mono (by assumption) (by first | omega | (simp; done) | (simp; omega))))))))).mono ?_); rintro e w1 ⟨rfl, hb⟩; obtain ⟨hc, hf, hz⟩ := bcall hb; (try simp at hc hf hz)))
  refine bodyPost_ret (v := .tuple #[.agg #[.int .i64 a, .int .i64 b, .int .i64 c, .int .i64 e], .int .i64 0]) (by simp [results, Tryd.results100, go_sem, ↓IntWalk.iteOmega, *]) rfl ⟨rfl, ?_⟩
  (repeat' (first | (with_reducible exact Below.refl _ _) | (with_reducible refine Below.setCell ?_ (by first | omega | (simp; done) | (simp; omega)) _) | (with_reducible refine Below.alloc ?_ (by first | omega | (simp; done) | (simp; omega)) _) | (with_reducible refine Below.drew ?_) | (with_reducible refine below_drewN ?_ _) | (with_reducible refine Below.trans ?_ (Below.mono (by assumption) (by first | omega | (simp; done) | (simp; omega))))))
set_option maxHeartbeats 1000000 in
theorem gsent_ok1 (k : Nat) (a b c e : Int) (w : World) (h : Ok4 a b c e) (hk : 1 ≤ k) (hk' : k < 4) (hT : Tbl w) : Calls Tryd.prog 100 #[.agg #[.int .i64 a, .int .i64 b, .int .i64 c, .int .i64 e], .int .i64 k] w fun e' w' => e' = .returned (.tuple #[.agg #[.int .i64 (sn k 0 a b c e), .int .i64 (sn k 1 a b c e), .int .i64 (sn k 2 a b c e), .int .i64 (sn k 3 a b c e)], .int .i64 0]) ∧ Below w.heap.size w w' := by
  have H := Lib.hid h; clear h
  have T := Lib.hid hT; clear hT
  go_enter Tryd.func100, Tryd.ntmps100
  go_wp2_with (first | (go_at_call 140; (with_reducible refine (valid_ok _ _ _ _ _ H.out).mono ?_); rintro e w1 ⟨rfl, hb⟩; obtain ⟨hc, hf, hz⟩ := bcall hb; (try simp at hc hf hz)) | (go_at_call 150; (with_reducible refine (isWall_yes _ _ (by omega) (by omega)).mono ?_); rintro e w1 ⟨rfl, rfl⟩) | (go_at_call 151; (with_reducible refine (wsent_any k _ _ _ _ _ hk' (T.out.below (by (repeat' (first | (with_reducible exact Below.refl _ _) | (with_reducible refine Below.setCell ?_ (by first | omega | (simp; done) | (simp; omega)) _) | (with_reducible refine Below.alloc ?_ (by first | omega | (simp; done) | (simp; omega)) _) | (with_reducible refine Below.drew ?_) | (with_reducible refine below_drewN ?_ _) | (with_reducible refine Below.trans ?_ (Below.mono (by assumption) (by first | omega | (simp; done) | (simp; omega))))))))).mono ?_); rintro e w1 ⟨rfl, hb⟩; obtain ⟨hc, hf, hz⟩ := bcall hb; (try simp at hc hf hz)))
  refine bodyPost_ret (v := .tuple #[.agg #[.int .i64 (sn k 0 a b c e), .int .i64 (sn k 1 a b c e), .int .i64 (sn k 2 a b c e), .int .i64 (sn k 3 a b c e)], .int .i64 0]) (by simp [results, Tryd.results100, go_sem, ↓IntWalk.iteOmega, *]) rfl ⟨rfl, ?_⟩
  (repeat' (first | (with_reducible exact Below.refl _ _) | (with_reducible refine Below.setCell ?_ (by first | omega | (simp; done) | (simp; omega)) _) | (with_reducible refine Below.alloc ?_ (by first | omega | (simp; done) | (simp; omega)) _) | (with_reducible refine Below.drew ?_) | (with_reducible refine below_drewN ?_ _) | (with_reducible refine Below.trans ?_ (Below.mono (by assumption) (by first | omega | (simp; done) | (simp; omega))))))
theorem gSent_ok (k : Nat) (a b c e : Int) (w : World) (h : Ok4 a b c e) (hk : k < 4) (hT : Tbl w) : Calls Tryd.prog 100 #[.agg #[.int .i64 a, .int .i64 b, .int .i64 c, .int .i64 e], .int .i64 k] w fun e' w' => e' = .returned (.tuple #[.agg #[.int .i64 (sn k 0 a b c e), .int .i64 (sn k 1 a b c e), .int .i64 (sn k 2 a b c e), .int .i64 (sn k 3 a b c e)], .int .i64 0]) ∧ Below w.heap.size w w' := by
  rcases Nat.eq_zero_or_pos k with rfl | hp
  · exact gsent_ok0 a b c e w h hT
  · exact gsent_ok1 k a b c e w h hp hk hT
theorem gSent_bad (k a b c e : Int) (w : World) (h : ¬ Ok4 a b c e) : Calls Tryd.prog 100 #[.agg #[.int .i64 a, .int .i64 b, .int .i64 c, .int .i64 e], .int .i64 k] w fun e' w' => e' = .returned (.tuple #[.agg #[.int .i64 0, .int .i64 0, .int .i64 0, .int .i64 0], .int .i64 1]) ∧ Below w.heap.size w w' := by
  have H := Lib.hid h; clear h
  go_enter Tryd.func100, Tryd.ntmps100
  go_wp2_with (first | (go_at_call 140; (with_reducible refine (valid_bad _ _ _ _ _ H.out).mono ?_); rintro e w1 ⟨rfl, hb⟩; obtain ⟨hc, hf, hz⟩ := bcall hb; (try simp at hc hf hz)))
  refine bodyPost_ret (v := .tuple #[.agg #[.int .i64 0, .int .i64 0, .int .i64 0, .int .i64 0], .int .i64 1]) (by simp [results, Tryd.results100, go_sem, ↓IntWalk.iteOmega, *]) rfl ⟨rfl, ?_⟩
  (repeat' (first | (with_reducible exact Below.refl _ _) | (with_reducible refine Below.setCell ?_ (by first | omega | (simp; done) | (simp; omega)) _) | (with_reducible refine Below.alloc ?_ (by first | omega | (simp; done) | (simp; omega)) _) | (with_reducible refine Below.drew ?_) | (with_reducible refine below_drewN ?_ _) | (with_reducible refine Below.trans ?_ (Below.mono (by assumption) (by first | omega | (simp; done) | (simp; omega))))))
theorem gSent_range (k a b c e : Int) (w : World) (h : Ok4 a b c e) (hk : k < 0 ∨ 3 < k) : Calls Tryd.prog 100 #[.agg #[.int .i64 a, .int .i64 b, .int .i64 c, .int .i64 e], .int .i64 k] w fun e' w' => e' = .returned (.tuple #[.agg #[.int .i64 0, .int .i64 0, .int .i64 0, .int .i64 0], .int .i64 7]) ∧ Below w.heap.size w w' := by
  have H := Lib.hid h; clear h
  have hk0 : k ≠ 0 := by omega
  go_enter Tryd.func100, Tryd.ntmps100
  go_wp2_with (first | (go_at_call 140; (with_reducible refine (valid_ok _ _ _ _ _ H.out).mono ?_); rintro e w1 ⟨rfl, hb⟩; obtain ⟨hc, hf, hz⟩ := bcall hb; (try simp at hc hf hz)) | (go_at_call 150; (with_reducible refine (isWall_no _ _ (by omega)).mono ?_); rintro e w1 ⟨rfl, rfl⟩))
  refine bodyPost_ret (v := .tuple #[.agg #[.int .i64 0, .int .i64 0, .int .i64 0, .int .i64 0], .int .i64 7]) (by simp [results, Tryd.results100, go_sem, ↓IntWalk.iteOmega, *]) rfl ⟨rfl, ?_⟩
  (repeat' (first | (with_reducible exact Below.refl _ _) | (with_reducible refine Below.setCell ?_ (by first | omega | (simp; done) | (simp; omega)) _) | (with_reducible refine Below.alloc ?_ (by first | omega | (simp; done) | (simp; omega)) _) | (with_reducible refine Below.drew ?_) | (with_reducible refine below_drewN ?_ _) | (with_reducible refine Below.trans ?_ (Below.mono (by assumption) (by first | omega | (simp; done) | (simp; omega))))))

theorem gSent_east (w : World) (hT : Tbl w) : Calls Tryd.prog 100 #[.agg #[.int .i64 1, .int .i64 0, .int .i64 2, .int .i64 0], .int .i64 2] w fun e' w' => e' = .returned (.tuple #[.agg #[.int .i64 0, .int .i64 1, .int .i64 0, .int .i64 2], .int .i64 0]) ∧ Below w.heap.size w w' := gSent_ok 2 1 0 2 0 w ⟨by omega, by omega, by omega, by omega, by omega⟩ (by omega) hT
set_option maxHeartbeats 1000000 in
theorem awake3_any (w : World) (hT : Tbl w) : Calls Tryd.prog 41 #[] w fun e w' => e = .returned (.bool true) ∧ Below w.heap.size w w' := by
  have T := Lib.hid hT; clear hT
  go_enter Tryd.func41, Tryd.ntmps41
  go_wp2_with (go_at_call 100; (with_reducible refine (gSent_east _ (T.out.below (by (repeat' (first | (with_reducible exact Below.refl _ _) | (with_reducible refine Below.setCell ?_ (by first | omega | (simp; done) | (simp; omega)) _) | (with_reducible refine Below.alloc ?_ (by first | omega | (simp; done) | (simp; omega)) _) | (with_reducible refine Below.drew ?_) | (with_reducible refine below_drewN ?_ _) | (with_reducible refine Below.trans ?_ (Below.mono (by assumption) (by first | omega | (simp; done) | (simp; omega))))))))).mono ?_); rintro e w1 ⟨rfl, hb⟩; obtain ⟨hc, hf, hz⟩ := bcall hb; (try simp at hc hf hz))
  go_ret
  refine ⟨rfl, ?_⟩
  (repeat' (first | (with_reducible exact Below.refl _ _) | (with_reducible refine Below.setCell ?_ (by first | omega | (simp; done) | (simp; omega)) _) | (with_reducible refine Below.alloc ?_ (by first | omega | (simp; done) | (simp; omega)) _) | (with_reducible refine Below.drew ?_) | (with_reducible refine below_drewN ?_ _) | (with_reducible refine Below.trans ?_ (Below.mono (by assumption) (by first | omega | (simp; done) | (simp; omega))))))

theorem within3_yes (n lo hi : Int) (w : World) (h1 : lo ≤ n) (h2 : n ≤ hi) : Calls Tryd.prog 156 #[.int .i64 n, .int .i64 lo, .int .i64 hi] w fun e w' => e = .returned (.bool true) ∧ w = w' := by
  go_enter Tryd.func156, Tryd.ntmps156
  go_wp2
  go_ret
  exact ⟨rfl, rfl⟩
theorem within3_no (n lo hi : Int) (w : World) (h : n < lo ∨ hi < n) : Calls Tryd.prog 156 #[.int .i64 n, .int .i64 lo, .int .i64 hi] w fun e w' => e = .returned (.bool false) ∧ w = w' := by
  by_cases h1 : lo ≤ n
  · have h2 : ¬ n ≤ hi := by omega
    clear h
    go_enter Tryd.func156, Tryd.ntmps156
    go_wp2
    go_ret
    exact ⟨rfl, rfl⟩
  · clear h
    go_enter Tryd.func156, Tryd.ntmps156
    go_wp2
    go_ret
    exact ⟨rfl, rfl⟩

end Go.Proofs.YtmdeooflgkjbbaaDoor
