/- Exchanges, by the reference; the errors of both. -/
import Derived.Test.YtmkhbkkhoemkoaaGreatDoorKExchC
import Derived.Test.YtmkhbkkhoemkoaaGreatDoorKExchU
import Derived.Test.YtmkhbkkhoemkoaaGreatDoorKRef
namespace Go.Proofs.YtmkhbkkhoemkoaaGreatDoor
set_option linter.unusedSimpArgs false
set_option linter.unusedVariables false
open Go.RowKit

theorem opp2_any (d : Nat) (hd : d < 4) (w : World) : Calls Tryz.prog 84 #[.int .i64 d] w fun e w' => e = .returned (.int .i64 (((d + 2) % 4 : Nat))) ∧ w = w' := by
  match d, hd with
  | 0, _ => go_enter Tryz.func84, Tryz.ntmps84; go_wp2; go_ret; exact ⟨rfl, rfl⟩
  | 1, _ => go_enter Tryz.func84, Tryz.ntmps84; go_wp2; go_ret; exact ⟨rfl, rfl⟩
  | 2, _ => go_enter Tryz.func84, Tryz.ntmps84; go_wp2; go_ret; exact ⟨rfl, rfl⟩
  | 3, _ => go_enter Tryz.func84, Tryz.ntmps84; go_wp2; go_ret; exact ⟨rfl, rfl⟩
theorem opp2_0 (w : World) : Calls Tryz.prog 84 #[.int .i64 0] w fun e w' => e = .returned (.int .i64 2) ∧ w = w' := opp2_any 0 (by omega) w
theorem opp2_1 (w : World) : Calls Tryz.prog 84 #[.int .i64 1] w fun e w' => e = .returned (.int .i64 3) ∧ w = w' := opp2_any 1 (by omega) w
theorem least4_any (a b : Int) (w : World) : Calls Tryz.prog 85 #[.int .i64 a, .int .i64 b] w fun e w' => e = .returned (.int .i64 (min a b)) ∧ w = w' := by
  by_cases h : a < b
  · go_enter Tryz.func85, Tryz.ntmps85
    go_wp2
    go_ret
    exact ⟨ret_i (by omega), rfl⟩
  · go_enter Tryz.func85, Tryz.ntmps85
    go_wp2
    go_ret
    exact ⟨ret_i (by omega), rfl⟩
set_option maxRecDepth 100000 in
set_option maxHeartbeats 4000000 in
theorem rexch0 (a b c d a' b' c' d' k y t : Int) (w : World) (h : Ok4 a b c d) (g : Ok4 a' b' c' d') (hr : OkR k y) (ht : t = em a c a' c' k y) :
    Calls Tryz.prog 52 #[.agg #[.int .i64 a, .int .i64 b, .int .i64 c, .int .i64 d], .agg #[.int .i64 a', .int .i64 b', .int .i64 c', .int .i64 d'], .agg #[.int .i64 k, .int .i64 y], .int .i64 0] w fun e w' => e = .returned (.tuple #[.agg #[.int .i64 (a + t), .int .i64 b, .int .i64 (c - t), .int .i64 d], .agg #[.int .i64 (a' - t), .int .i64 b', .int .i64 (c' + t), .int .i64 d']]) ∧ Below w.heap.size w w' := by
  have HR := Lib.hid hr; clear hr
  have h' := h
  have g' := g
  obtain ⟨_, _, _, _, _⟩ := h
  obtain ⟨_, _, _, _, _⟩ := g
  obtain ⟨t1, t2⟩ := @em_bd a c a' c' k y (by omega) (by omega) (by omega) (by omega)
  rw [← ht] at t1 t2
  obtain ⟨x, hx⟩ : ∃ x, x = min a c' := ⟨_, rfl⟩
  obtain ⟨z, hz⟩ : ∃ z, z = min c a' := ⟨_, rfl⟩
  have x0 : 0 ≤ x := by omega
  have z0 : 0 ≤ z := by omega
  have x1 : x + z ≤ 1000000000 := by omega
  have t3 : -x ≤ t := by omega
  have t4 : t ≤ z := by omega
  have ht' : turnTo k y x (x + z) = x + t := by rw [ht, hx, hz]; unfold em; omega
  have tt : x + t - x = t := by omega
  have HT := Lib.hid (fun wx => refTurn_any k y x (x + z) wx HR.out x0 (by omega) x1)
  rw [ht'] at HT
  have LS := Lib.hid (fun wx => least4_any a c' wx)
  have LU := Lib.hid (fun wx => least4_any c a' wx)
  rw [← hx] at LS
  rw [← hz] at LU
  clear ht ht' t1 t2 h' g' hx hz
  go_enter Tryz.func52, Tryz.ntmps52
  go_wp2_with (go_at_call 84; (with_reducible refine (opp2_0 _).mono ?_); rintro e w1 ⟨rfl, rfl⟩)
  go_region_held3 (fun w' => w'.cell? ⟨w.heap.size, 0, none⟩ = some (.int .i64 a) ∧ w'.cell? ⟨w.heap.size, 2, none⟩ = some (.int .i64 c) ∧ w'.cell? ⟨w.heap.size + 1, 0, none⟩ = some (.int .i64 a') ∧ w'.cell? ⟨w.heap.size + 1, 2, none⟩ = some (.int .i64 c')) (first | (go_split_ands; (try dsimp only); refine ⟨?_, ?_, ?_, ?_⟩ <;> (first | (with_reducible assumption) | (with_reducible exact keep_cell (by assumption) (by first | omega | (simp; done) | (simp; omega)) (by assumption)) | (with_reducible exact (World.cell?_alloc_past _ _ _ (by show _ < _; omega)).trans (by assumption)) | (with_reducible exact (World.cell?_alloc_past _ _ _ (by show _ < _; omega)).trans ((World.cell?_alloc_past _ _ _ (by show _ < _; omega)).symm.trans (by assumption))) | (simp [go_sem]; with_reducible assumption))) | (simp [go_sem, ↓IntWalk.iteOmega, *]; done)) (first | (go_at_call 85; (with_reducible refine (LS.out _).mono ?_); rintro e w1 ⟨rfl, rfl⟩) | (go_at_call 85; (with_reducible refine (LU.out _).mono ?_); rintro e w1 ⟨rfl, rfl⟩))
  go_wp2_with (go_at_call 82; (with_reducible refine (HT.out _).mono ?_); rintro e w1 ⟨rfl, hb⟩; obtain ⟨hc, hf, hz⟩ := bcall hb; (try simp at hc hf hz))
  go_region
  go_wp2
  go_region
  go_wp2
  go_region
  go_wp2
  refine bodyPost_ret (v := .tuple #[.agg #[.int .i64 (a + t), .int .i64 b, .int .i64 (c - t), .int .i64 d], .agg #[.int .i64 (a' - t), .int .i64 b', .int .i64 (c' + t), .int .i64 d']]) (by simp [results, Tryz.results52, go_sem, ↓IntWalk.iteOmega, *]) rfl ⟨rfl, ?_⟩
  (repeat' (first | (with_reducible exact Below.refl _ _) | (with_reducible refine Below.setCell ?_ (by first | omega | (simp; done) | (simp; omega)) _) | (with_reducible refine Below.alloc ?_ (by first | omega | (simp; done) | (simp; omega)) _) | (with_reducible refine Below.drew ?_) | (with_reducible refine below_drewN ?_ _) | (with_reducible refine Below.trans ?_ (Below.mono (by assumption) (by first | omega | (simp; done) | (simp; omega))))))

set_option maxRecDepth 100000 in
set_option maxHeartbeats 4000000 in
theorem rexch1 (a b c d a' b' c' d' k y t : Int) (w : World) (h : Ok4 a b c d) (g : Ok4 a' b' c' d') (hr : OkR k y) (ht : t = em b d b' d' k y) :
    Calls Tryz.prog 52 #[.agg #[.int .i64 a, .int .i64 b, .int .i64 c, .int .i64 d], .agg #[.int .i64 a', .int .i64 b', .int .i64 c', .int .i64 d'], .agg #[.int .i64 k, .int .i64 y], .int .i64 1] w fun e w' => e = .returned (.tuple #[.agg #[.int .i64 a, .int .i64 (b + t), .int .i64 c, .int .i64 (d - t)], .agg #[.int .i64 a', .int .i64 (b' - t), .int .i64 c', .int .i64 (d' + t)]]) ∧ Below w.heap.size w w' := by
  have HR := Lib.hid hr; clear hr
  have h' := h
  have g' := g
  obtain ⟨_, _, _, _, _⟩ := h
  obtain ⟨_, _, _, _, _⟩ := g
  obtain ⟨t1, t2⟩ := @em_bd b d b' d' k y (by omega) (by omega) (by omega) (by omega)
  rw [← ht] at t1 t2
  obtain ⟨x, hx⟩ : ∃ x, x = min b d' := ⟨_, rfl⟩
  obtain ⟨z, hz⟩ : ∃ z, z = min d b' := ⟨_, rfl⟩
  have x0 : 0 ≤ x := by omega
  have z0 : 0 ≤ z := by omega
  have x1 : x + z ≤ 1000000000 := by omega
  have t3 : -x ≤ t := by omega
  have t4 : t ≤ z := by omega
  have ht' : turnTo k y x (x + z) = x + t := by rw [ht, hx, hz]; unfold em; omega
  have tt : x + t - x = t := by omega
  have HT := Lib.hid (fun wx => refTurn_any k y x (x + z) wx HR.out x0 (by omega) x1)
  rw [ht'] at HT
  have LS := Lib.hid (fun wx => least4_any b d' wx)
  have LU := Lib.hid (fun wx => least4_any d b' wx)
  rw [← hx] at LS
  rw [← hz] at LU
  clear ht ht' t1 t2 h' g' hx hz
  go_enter Tryz.func52, Tryz.ntmps52
  go_wp2_with (go_at_call 84; (with_reducible refine (opp2_1 _).mono ?_); rintro e w1 ⟨rfl, rfl⟩)
  go_region_held3 (fun w' => w'.cell? ⟨w.heap.size, 1, none⟩ = some (.int .i64 b) ∧ w'.cell? ⟨w.heap.size, 3, none⟩ = some (.int .i64 d) ∧ w'.cell? ⟨w.heap.size + 1, 1, none⟩ = some (.int .i64 b') ∧ w'.cell? ⟨w.heap.size + 1, 3, none⟩ = some (.int .i64 d')) (first | (go_split_ands; (try dsimp only); refine ⟨?_, ?_, ?_, ?_⟩ <;> (first | (with_reducible assumption) | (with_reducible exact keep_cell (by assumption) (by first | omega | (simp; done) | (simp; omega)) (by assumption)) | (with_reducible exact (World.cell?_alloc_past _ _ _ (by show _ < _; omega)).trans (by assumption)) | (with_reducible exact (World.cell?_alloc_past _ _ _ (by show _ < _; omega)).trans ((World.cell?_alloc_past _ _ _ (by show _ < _; omega)).symm.trans (by assumption))) | (simp [go_sem]; with_reducible assumption))) | (simp [go_sem, ↓IntWalk.iteOmega, *]; done)) (first | (go_at_call 85; (with_reducible refine (LS.out _).mono ?_); rintro e w1 ⟨rfl, rfl⟩) | (go_at_call 85; (with_reducible refine (LU.out _).mono ?_); rintro e w1 ⟨rfl, rfl⟩))
  go_wp2_with (go_at_call 82; (with_reducible refine (HT.out _).mono ?_); rintro e w1 ⟨rfl, hb⟩; obtain ⟨hc, hf, hz⟩ := bcall hb; (try simp at hc hf hz))
  go_region
  go_wp2
  go_region
  go_wp2
  go_region
  go_wp2
  refine bodyPost_ret (v := .tuple #[.agg #[.int .i64 a, .int .i64 (b + t), .int .i64 c, .int .i64 (d - t)], .agg #[.int .i64 a', .int .i64 (b' - t), .int .i64 c', .int .i64 (d' + t)]]) (by simp [results, Tryz.results52, go_sem, ↓IntWalk.iteOmega, *]) rfl ⟨rfl, ?_⟩
  (repeat' (first | (with_reducible exact Below.refl _ _) | (with_reducible refine Below.setCell ?_ (by first | omega | (simp; done) | (simp; omega)) _) | (with_reducible refine Below.alloc ?_ (by first | omega | (simp; done) | (simp; omega)) _) | (with_reducible refine Below.drew ?_) | (with_reducible refine below_drewN ?_ _) | (with_reducible refine Below.trans ?_ (Below.mono (by assumption) (by first | omega | (simp; done) | (simp; omega))))))

end Go.Proofs.YtmkhbkkhoemkoaaGreatDoor
