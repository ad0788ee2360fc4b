/- The reference's collisions. -/
import Derived.Test.YtnkehlankidlnaaDoorRef
namespace Go.Proofs.YtnkehlankidlnaaDoor
set_option linter.unusedSimpArgs false
set_option linter.unusedVariables false
open Go.RowKit

theorem after_eq {a b c d : Int} (k y : Int) (h : Ok4 a b c d) : (.agg #[.int .i64 (turnTo k y (min a c) (min a c + min b d) + max (a - c) 0), .int .i64 (min a c + min b d - turnTo k y (min a c) (min a c + min b d) + max (b - d) 0), .int .i64 (turnTo k y (min a c) (min a c + min b d) + max (-(a - c)) 0), .int .i64 (min a c + min b d - turnTo k y (min a c) (min a c + min b d) + max (-(b - d)) 0)] : Value) =
    .agg #[.int .i64 (a + more a b c d k y), .int .i64 (b - more a b c d k y), .int .i64 (c + more a b c d k y), .int .i64 (d - more a b c d k y)] := by
  obtain ⟨_, _, _, _, _⟩ := h
  unfold more
  exact c4_eq (by omega) (by omega) (by omega) (by omega)

set_option maxHeartbeats 1000000 in
theorem after_ok (a b c d k y : Int) (w : World) (h : Ok4 a b c d) (hr : OkR k y) :
    Calls Tryd.prog 189 #[.agg #[.int .i64 a, .int .i64 b, .int .i64 c, .int .i64 d], .agg #[.int .i64 k, .int .i64 y]] w fun e w' => e = .returned (.agg #[.int .i64 (a + more a b c d k y), .int .i64 (b - more a b c d k y), .int .i64 (c + more a b c d k y), .int .i64 (d - more a b c d k y)]) ∧ Below w.heap.size w w' := by
  rw [← after_eq k y h]
  have H := Lib.hid h
  have HR := Lib.hid hr; clear hr
  obtain ⟨p0, p1, p2, p3, p4⟩ := h
  have m0 : 0 ≤ min a c := by omega
  have m1 : min a c ≤ min a c + min b d := by omega
  have m2 : min a c + min b d ≤ 1000000000 := by omega
  obtain ⟨t0, t1⟩ := @turnTo_bd k y (min a c) (min a c + min b d) m0 m1
  go_enter Tryd.func189, Tryd.ntmps189
  go_wp2_with (go_at_call 204; (with_reducible refine (of_ok _ _ _ _ _ H.out).mono ?_); rintro e w1 ⟨rfl, hb⟩; obtain ⟨hc, hf, hz⟩ := bcall hb; (try simp at hc hf hz))
  go_region_held3 (fun w' => w'.cell? ⟨w1.heap.size, 0, none⟩ = some (.int .i64 (a + b + c + d)) ∧ w'.cell? ⟨w1.heap.size, 1, none⟩ = some (.int .i64 (a - c)) ∧ w'.cell? ⟨w1.heap.size, 2, none⟩ = some (.int .i64 (b - d)) ∧ w'.cell? ⟨w1.heap.size, 3, none⟩ = some (.int .i64 (min a c + min b d)) ∧ w'.cell? ⟨w.heap.size + 1, 0, none⟩ = some (.int .i64 k) ∧ w'.cell? ⟨w.heap.size + 1, 1, none⟩ = some (.int .i64 y) ∧ w'.cell? ⟨w.heap.size, 0, none⟩ = some (.int .i64 a) ∧ w'.cell? ⟨w.heap.size, 2, none⟩ = some (.int .i64 c)) (first | (go_split_ands; (try dsimp only); refine ⟨?_, ?_, ?_, ?_, ?_, ?_, ?_, ?_⟩ <;> (first | (with_reducible assumption) | (with_reducible exact keep_cell (by assumption) (by first | omega | (simp; done) | (simp; omega)) (by assumption)) | (simp [go_sem]; with_reducible assumption))) | (simp [go_sem, ↓IntWalk.iteOmega, *]; done))
    (first | (go_at_call 207; (with_reducible refine (least_any _ _ _).mono ?_); rintro e w1 ⟨rfl, rfl⟩) | (go_at_call 206; (with_reducible refine (refTurn_any _ _ _ _ _ HR.out m0 m1 m2).mono ?_); rintro e w1 ⟨rfl, hb⟩; obtain ⟨hc, hf, hz⟩ := bcall hb; (try simp at hc hf hz)) | (go_at_call 205; (with_reducible refine (at_any _ _ _ _ _ _ (by omega) (by omega) t0 t1 (by omega) (by omega) (by omega) (by omega)).mono ?_); rintro e w1 ⟨rfl, hb⟩; obtain ⟨hc, hf, hz⟩ := bcall hb; (try simp at hc hf hz)))
  go_wp2
  refine bodyPost_ret (v := .agg #[.int .i64 (turnTo k y (min a c) (min a c + min b d) + max (a - c) 0), .int .i64 (min a c + min b d - turnTo k y (min a c) (min a c + min b d) + max (b - d) 0), .int .i64 (turnTo k y (min a c) (min a c + min b d) + max (-(a - c)) 0), .int .i64 (min a c + min b d - turnTo k y (min a c) (min a c + min b d) + max (-(b - d)) 0)]) (by simp [results, Tryd.results189, go_sem, ↓IntWalk.iteOmega, *]) rfl ⟨rfl, ?_⟩
  (repeat' (first | (with_reducible exact Below.refl _ _) | (with_reducible refine Below.setCell ?_ (by first | omega | (simp; done) | (simp; omega)) _) | (with_reducible refine Below.alloc ?_ (by first | omega | (simp; done) | (simp; omega)) _) | (with_reducible refine Below.drew ?_) | (with_reducible refine below_drewN ?_ _) | (with_reducible refine Below.trans ?_ (Below.mono (by assumption) (by first | omega | (simp; done) | (simp; omega))))))

set_option maxHeartbeats 400000 in
theorem opposite_any (k y : Int) (w : World) (h : OkR k y) :
    Calls Tryd.prog 152 #[.agg #[.int .i64 k, .int .i64 y]] w fun e w' => e = .returned (.agg #[.int .i64 k, .int .i64 (-y)]) ∧ Below w.heap.size w w' := by
  have hb : -1000000000 ≤ y ∧ y ≤ 1000000000 := by unfold OkR at h; omega
  obtain ⟨h1, h2⟩ := hb
  clear h
  go_enter Tryd.func152, Tryd.ntmps152
  go_wp2
  refine bodyPost_ret (v := .agg #[.int .i64 k, .int .i64 (-y)]) (by simp [results, Tryd.results152, go_sem, ↓IntWalk.iteOmega, *]) rfl ⟨rfl, ?_⟩
  (repeat' (first | (with_reducible exact Below.refl _ _) | (with_reducible refine Below.setCell ?_ (by first | omega | (simp; done) | (simp; omega)) _) | (with_reducible refine Below.alloc ?_ (by first | omega | (simp; done) | (simp; omega)) _) | (with_reducible refine Below.drew ?_) | (with_reducible refine below_drewN ?_ _) | (with_reducible refine Below.trans ?_ (Below.mono (by assumption) (by first | omega | (simp; done) | (simp; omega))))))

end Go.Proofs.YtnkehlankidlnaaDoor
