/- The law CellSame: the walk. -/
import Derived.Test.YtpgheijgfjpdjaaSame
import Derived.Test.YtpgheijgfjpdjaaMath2
import Derived.StillTailTactics
namespace Go.Proofs.Ytpgheijgfjpdjaa
set_option linter.unusedSimpArgs false
set_option linter.unusedVariables false
open Go.RowKit
attribute [local irreducible] wpStill

theorem more_inj {a b c d a' b' c' d' k y : Int} (h : Ok4 a b c d) (g : Ok4 a' b' c' d') (r : OkR k y) (s : OneC a b c d a' b' c' d')
    (e0 : a + more a b c d k y = a' + more a' b' c' d' k y) (e2 : c + more a b c d k y = c' + more a' b' c' d' k y) : min a c = min a' c' := by
  obtain ⟨_, _, _, _, _⟩ := h
  obtain ⟨_, _, _, _, _⟩ := g
  obtain ⟨_, _, _⟩ := s
  have p : min a c + min b d = min a' c' + min b' d' := by omega
  have q : min a c + more a b c d k y = min a' c' + more a' b' c' d' k y := by omega
  have t : min a c + more a b c d k y = turnTo k y (min a c) (min a c + min b d) := by unfold more; omega
  have t' : min a' c' + more a' b' c' d' k y = turnTo k y (min a' c') (min a' c' + min b' d') := by unfold more; omega
  have x := turnTo_back r (show 0 ≤ min a c by omega) (show min a c ≤ min a c + min b d by omega)
  have x' := turnTo_back r (show 0 ≤ min a' c' by omega) (show min a' c' ≤ min a' c' + min b' d' by omega)
  rw [← t, q] at x
  rw [← t', ← p] at x'
  omega

/-- Of one class, and not the same cell. -/
theorem place_two {a b c d a' b' c' d' : Int} (s : OneC a b c d a' b' c' d') (n : ¬ (a = a' ∧ b = b' ∧ c = c' ∧ d = d')) : min a c ≠ min a' c' := by
  obtain ⟨_, _, _⟩ := s
  omega

theorem cell_two {a b c d a' b' c' d' : Int} (n : ¬ (a = a' ∧ b = b' ∧ c = c' ∧ d = d')) : (a == a' && (b == b' && (c == c' && d == d'))) = false := by
  rw [Bool.eq_false_iff]
  intro q
  simp only [Bool.and_eq_true, beq_iff_eq] at q
  exact n q

theorem more_two {a b c d a' b' c' d' k y : Int} (h : Ok4 a b c d) (g : Ok4 a' b' c' d') (r : OkR k y) (s : OneC a b c d a' b' c' d') (n : ¬ (a = a' ∧ b = b' ∧ c = c' ∧ d = d')) :
    (a + more a b c d k y == a' + more a' b' c' d' k y && (b - more a b c d k y == b' - more a' b' c' d' k y && (c + more a b c d k y == c' + more a' b' c' d' k y && d - more a b c d k y == d' - more a' b' c' d' k y))) = false := by
  rw [Bool.eq_false_iff]
  intro q
  simp only [Bool.and_eq_true, beq_iff_eq] at q
  obtain ⟨q0, _, q2, _⟩ := q
  exact place_two s n (more_inj h g r s q0 q2)

set_option maxHeartbeats 2000000 in
theorem cellSame_bad0 (a b c d a' b' c' d' k y : Int) (w : World) (h : ¬ Ok4 a b c d) :
    Calls Try.prog 8 #[.agg #[.int .i64 a, .int .i64 b, .int .i64 c, .int .i64 d], .agg #[.int .i64 a', .int .i64 b', .int .i64 c', .int .i64 d'], .agg #[.int .i64 k, .int .i64 y]] w fun e w' => e = .returned (.bool true) ∧ Below w.heap.size w w' := by
  have Z := Lib.hid (show ¬ (Ok4 a b c d ∧ Ok4 a' b' c' d') from fun q => h q.1)
  have H := Lib.hid h; clear h
  by_cases g : Ok4 a' b' c' d'
  · have G := Lib.hid g; clear g
    go_enter Try.func8, Try.ntmps8
    go_wp2_with (first | (go_at_call 37; (with_reducible refine (same_bad a b c d a' b' c' d' _ Z.out).mono ?_); rintro e w1 ⟨rfl, hb⟩; obtain ⟨hc, hf, hz⟩ := bcall hb; (try simp at hc hf hz)) | (go_at_call 38; (with_reducible refine (refSame_bad a b c d a' b' c' d' _ Z.out).mono ?_); rintro e w1 ⟨rfl, hb⟩; obtain ⟨hc, hf, hz⟩ := bcall hb; (try simp at hc hf hz)) | (go_at_call 31; (with_reducible refine (norm_bad a b c d _ H.out).mono ?_); rintro e w1 ⟨rfl, hb⟩; obtain ⟨hc, hf, hz⟩ := bcall hb; (try simp at hc hf hz)) | (go_at_call 31; (with_reducible refine (norm_ok a' b' c' d' _ G.out).mono ?_); rintro e w1 ⟨rfl, hb⟩; obtain ⟨hc, hf, hz⟩ := bcall hb; (try simp at hc hf hz)) | (go_at_call 22; (with_reducible refine (awake_any _).mono ?_); rintro e w1 ⟨rfl, hb⟩; obtain ⟨hc, hf, hz⟩ := bcall hb; (try simp at hc hf hz)))
    go_ret
    refine ⟨by simp, ?_⟩
    (repeat' (first | exact Below.refl _ _ | refine Below.setCell ?_ (by first | omega | (simp; done) | (simp; omega)) _ | refine Below.alloc ?_ (by first | omega | (simp; done) | (simp; omega)) _ | refine Below.drew ?_ | refine below_drewN ?_ _ | (refine Below.trans ?_ (Below.mono (by assumption) (by first | omega | (simp; done) | (simp; omega))))))
  have G := Lib.hid g; clear g
  go_enter Try.func8, Try.ntmps8
  go_wp2_with (first | (go_at_call 37; (with_reducible refine (same_bad a b c d a' b' c' d' _ Z.out).mono ?_); rintro e w1 ⟨rfl, hb⟩; obtain ⟨hc, hf, hz⟩ := bcall hb; (try simp at hc hf hz)) | (go_at_call 38; (with_reducible refine (refSame_bad a b c d a' b' c' d' _ Z.out).mono ?_); rintro e w1 ⟨rfl, hb⟩; obtain ⟨hc, hf, hz⟩ := bcall hb; (try simp at hc hf hz)) | (go_at_call 31; (with_reducible refine (norm_bad a b c d _ H.out).mono ?_); rintro e w1 ⟨rfl, hb⟩; obtain ⟨hc, hf, hz⟩ := bcall hb; (try simp at hc hf hz)) | (go_at_call 31; (with_reducible refine (norm_bad a' b' c' d' _ G.out).mono ?_); rintro e w1 ⟨rfl, hb⟩; obtain ⟨hc, hf, hz⟩ := bcall hb; (try simp at hc hf hz)) | (go_at_call 22; (with_reducible refine (awake_any _).mono ?_); rintro e w1 ⟨rfl, hb⟩; obtain ⟨hc, hf, hz⟩ := bcall hb; (try simp at hc hf hz)))
  all_goals
    go_ret
    refine ⟨by simp, ?_⟩
    (repeat' (first | exact Below.refl _ _ | refine Below.setCell ?_ (by first | omega | (simp; done) | (simp; omega)) _ | refine Below.alloc ?_ (by first | omega | (simp; done) | (simp; omega)) _ | refine Below.drew ?_ | refine below_drewN ?_ _ | (refine Below.trans ?_ (Below.mono (by assumption) (by first | omega | (simp; done) | (simp; omega))))))

set_option maxHeartbeats 2000000 in
theorem cellSame_bad1 (a b c d a' b' c' d' k y : Int) (w : World) (h : Ok4 a b c d) (g : ¬ Ok4 a' b' c' d') :
    Calls Try.prog 8 #[.agg #[.int .i64 a, .int .i64 b, .int .i64 c, .int .i64 d], .agg #[.int .i64 a', .int .i64 b', .int .i64 c', .int .i64 d'], .agg #[.int .i64 k, .int .i64 y]] w fun e w' => e = .returned (.bool true) ∧ Below w.heap.size w w' := by
  have Z := Lib.hid (show ¬ (Ok4 a b c d ∧ Ok4 a' b' c' d') from fun q => g q.2)
  have H := Lib.hid h; clear h
  have G := Lib.hid g; clear g
  go_enter Try.func8, Try.ntmps8
  go_wp2_with (first | (go_at_call 37; (with_reducible refine (same_bad a b c d a' b' c' d' _ Z.out).mono ?_); rintro e w1 ⟨rfl, hb⟩; obtain ⟨hc, hf, hz⟩ := bcall hb; (try simp at hc hf hz)) | (go_at_call 38; (with_reducible refine (refSame_bad a b c d a' b' c' d' _ Z.out).mono ?_); rintro e w1 ⟨rfl, hb⟩; obtain ⟨hc, hf, hz⟩ := bcall hb; (try simp at hc hf hz)) | (go_at_call 31; (with_reducible refine (norm_ok a b c d _ H.out).mono ?_); rintro e w1 ⟨rfl, hb⟩; obtain ⟨hc, hf, hz⟩ := bcall hb; (try simp at hc hf hz)) | (go_at_call 31; (with_reducible refine (norm_bad a' b' c' d' _ G.out).mono ?_); rintro e w1 ⟨rfl, hb⟩; obtain ⟨hc, hf, hz⟩ := bcall hb; (try simp at hc hf hz)) | (go_at_call 22; (with_reducible refine (awake_any _).mono ?_); rintro e w1 ⟨rfl, hb⟩; obtain ⟨hc, hf, hz⟩ := bcall hb; (try simp at hc hf hz)))
  all_goals
    go_ret
    refine ⟨by simp, ?_⟩
    (repeat' (first | exact Below.refl _ _ | refine Below.setCell ?_ (by first | omega | (simp; done) | (simp; omega)) _ | refine Below.alloc ?_ (by first | omega | (simp; done) | (simp; omega)) _ | refine Below.drew ?_ | refine below_drewN ?_ _ | (refine Below.trans ?_ (Below.mono (by assumption) (by first | omega | (simp; done) | (simp; omega))))))

set_option maxHeartbeats 2000000 in
theorem cellSame_no_ok (a b c d a' b' c' d' k y : Int) (w : World) (h : Ok4 a b c d) (g : Ok4 a' b' c' d') (s : ¬ OneC a b c d a' b' c' d') (r : OkR k y) :
    Calls Try.prog 8 #[.agg #[.int .i64 a, .int .i64 b, .int .i64 c, .int .i64 d], .agg #[.int .i64 a', .int .i64 b', .int .i64 c', .int .i64 d'], .agg #[.int .i64 k, .int .i64 y]] w fun e w' => e = .returned (.bool true) ∧ Below w.heap.size w w' := by
  have E0 := fun W => equalIn_cell_max W (a - min a c) (b + min a c) (c - min a c) (d + min a c) (a' - min a' c') (b' + min a' c') (c' - min a' c') (d' + min a' c')
  rw [norm_two h g s] at E0
  have H := Lib.hid h; clear h
  have G := Lib.hid g; clear g
  have S := Lib.hid s; clear s
  have R := Lib.hid r; clear r
  go_enter Try.func8, Try.ntmps8
  go_wp2_with (first | (go_at_call 37; (with_reducible refine (same_no a b c d a' b' c' d' _ H.out G.out S.out).mono ?_); rintro e w1 ⟨rfl, hb⟩; obtain ⟨hc, hf, hz⟩ := bcall hb; (try simp at hc hf hz)) | (go_at_call 38; (with_reducible refine (refSame_no a b c d a' b' c' d' _ H.out G.out S.out).mono ?_); rintro e w1 ⟨rfl, hb⟩; obtain ⟨hc, hf, hz⟩ := bcall hb; (try simp at hc hf hz)) | (go_at_call 31; (with_reducible refine (norm_ok a b c d _ H.out).mono ?_); rintro e w1 ⟨rfl, hb⟩; obtain ⟨hc, hf, hz⟩ := bcall hb; (try simp at hc hf hz)) | (go_at_call 31; (with_reducible refine (norm_ok a' b' c' d' _ G.out).mono ?_); rintro e w1 ⟨rfl, hb⟩; obtain ⟨hc, hf, hz⟩ := bcall hb; (try simp at hc hf hz)) | (go_at_call 33; (with_reducible refine (place_ok a b c d _ H.out).mono ?_); rintro e w1 ⟨rfl, hb⟩; obtain ⟨hc, hf, hz⟩ := bcall hb; (try simp at hc hf hz)) | (go_at_call 33; (with_reducible refine (place_ok a' b' c' d' _ G.out).mono ?_); rintro e w1 ⟨rfl, hb⟩; obtain ⟨hc, hf, hz⟩ := bcall hb; (try simp at hc hf hz)) | (go_at_call 23; (with_reducible refine (collide_ok a b c d k y _ H.out R.out).mono ?_); rintro e w1 ⟨rfl, hb⟩; obtain ⟨hc, hf, hz⟩ := bcall hb; (try simp at hc hf hz)) | (go_at_call 23; (with_reducible refine (collide_ok a' b' c' d' k y _ G.out R.out).mono ?_); rintro e w1 ⟨rfl, hb⟩; obtain ⟨hc, hf, hz⟩ := bcall hb; (try simp at hc hf hz)))
  refine wp_region_still_tail 21 (by kernel_rfl) (by kernel_rfl) ?_
  simp only [List.take_succ_cons, List.take_zero, List.drop_succ_cons, List.drop_zero]
  iterate 21 still_step
  refine wpStill_nil ?_
  go_wp2_with (go_at_call 22; (with_reducible refine (awake_any _).mono ?_); rintro e w1 ⟨rfl, hb⟩; obtain ⟨hc, hf, hz⟩ := bcall hb; (try simp at hc hf hz))
  all_goals
    go_ret
    refine ⟨by simp, ?_⟩
    (repeat' (first | exact Below.refl _ _ | refine Below.setCell ?_ (by first | omega | (simp; done) | (simp; omega)) _ | refine Below.alloc ?_ (by first | omega | (simp; done) | (simp; omega)) _ | refine Below.drew ?_ | refine below_drewN ?_ _ | (refine Below.trans ?_ (Below.mono (by assumption) (by first | omega | (simp; done) | (simp; omega))))))

set_option maxHeartbeats 2000000 in
theorem cellSame_yes_ok (a b c d a' b' c' d' k y : Int) (w : World) (h : Ok4 a b c d) (g : Ok4 a' b' c' d') (s : OneC a b c d a' b' c' d') (n : ¬ (a = a' ∧ b = b' ∧ c = c' ∧ d = d')) (r : OkR k y) :
    Calls Try.prog 8 #[.agg #[.int .i64 a, .int .i64 b, .int .i64 c, .int .i64 d], .agg #[.int .i64 a', .int .i64 b', .int .i64 c', .int .i64 d'], .agg #[.int .i64 k, .int .i64 y]] w fun e w' => e = .returned (.bool true) ∧ Below w.heap.size w w' := by
  have P := place_two s n
  have P0 : (min a c == min a' c') = false := beq_eq_false_iff_ne.2 P
  have E1 := fun W => equalIn_cell_max W a b c d a' b' c' d'
  rw [cell_two n] at E1
  have E2 := fun W => equalIn_cell_max W (a + more a b c d k y) (b - more a b c d k y) (c + more a b c d k y) (d - more a b c d k y) (a' + more a' b' c' d' k y) (b' - more a' b' c' d' k y) (c' + more a' b' c' d' k y) (d' - more a' b' c' d' k y)
  rw [more_two h g r s n] at E2
  clear P n
  have H := Lib.hid h; clear h
  have G := Lib.hid g; clear g
  have S := Lib.hid s; clear s
  have R := Lib.hid r; clear r
  go_enter Try.func8, Try.ntmps8
  have tok1 : True := trivial
  have tok2 : True := trivial
  go_wp2_with (first | (go_at_call 37; (with_reducible refine (same_yes a b c d a' b' c' d' _ H.out G.out S.out).mono ?_); rintro e w1 ⟨rfl, hb⟩; obtain ⟨hc, hf, hz⟩ := bcall hb; (try simp at hc hf hz)) | (go_at_call 38; (with_reducible refine (refSame_yes a b c d a' b' c' d' _ H.out G.out S.out).mono ?_); rintro e w1 ⟨rfl, hb⟩; obtain ⟨hc, hf, hz⟩ := bcall hb; (try simp at hc hf hz)) | (go_at_call 31; (with_reducible refine (norm_ok a b c d _ H.out).mono ?_); rintro e w1 ⟨rfl, hb⟩; obtain ⟨hc, hf, hz⟩ := bcall hb; (try simp at hc hf hz)) | (go_at_call 31; (with_reducible refine (normB a b c d a' b' c' d' _ H.out G.out S.out).mono ?_); rintro e w1 ⟨rfl, hb⟩; obtain ⟨hc, hf, hz⟩ := bcall hb; (try simp at hc hf hz)) | (go_at_call 33; (with_reducible refine (place_ok a b c d _ H.out).mono ?_); rintro e w1 ⟨rfl, hb⟩; obtain ⟨hc, hf, hz⟩ := bcall hb; (try simp at hc hf hz)) | (go_at_call 33; (with_reducible refine (place_ok a' b' c' d' _ G.out).mono ?_); rintro e w1 ⟨rfl, hb⟩; obtain ⟨hc, hf, hz⟩ := bcall hb; (try simp at hc hf hz)) | (have _t := tok1; go_at_call 23; (with_reducible refine (collide_ok a b c d k y _ H.out R.out).mono ?_); rintro e wu ⟨rfl, hb⟩; obtain ⟨hc, hf, hz⟩ := bcall hb; (try simp at hc hf hz); clear _t tok1) | (have _t := tok2; go_at_call 23; (with_reducible refine (collide_ok a' b' c' d' k y _ G.out R.out).mono ?_); rintro e wv ⟨rfl, hb⟩; obtain ⟨hc, hf, hz⟩ := bcall hb; (try simp at hc hf hz); clear _t tok2))
  go_region_held3 (fun w' => w'.cell? ⟨wu.heap.size, 0, none⟩ = some (.int .i64 (a + more a b c d k y)) ∧ w'.cell? ⟨wu.heap.size, 1, none⟩ = some (.int .i64 (b - more a b c d k y)) ∧ w'.cell? ⟨wu.heap.size, 2, none⟩ = some (.int .i64 (c + more a b c d k y)) ∧ w'.cell? ⟨wu.heap.size, 3, none⟩ = some (.int .i64 (d - more a b c d k y)) ∧ w'.cell? ⟨wv.heap.size, 0, none⟩ = some (.int .i64 (a' + more a' b' c' d' k y)) ∧ w'.cell? ⟨wv.heap.size, 1, none⟩ = some (.int .i64 (b' - more a' b' c' d' k y)) ∧ w'.cell? ⟨wv.heap.size, 2, none⟩ = some (.int .i64 (c' + more a' b' c' d' k y)) ∧ w'.cell? ⟨wv.heap.size, 3, none⟩ = some (.int .i64 (d' - more a' b' c' d' k y)) ∧ w'.cell? ⟨w.heap.size, 0, none⟩ = some (.int .i64 a) ∧ w'.cell? ⟨w.heap.size, 1, none⟩ = some (.int .i64 b) ∧ w'.cell? ⟨w.heap.size, 2, none⟩ = some (.int .i64 c) ∧ w'.cell? ⟨w.heap.size, 3, none⟩ = some (.int .i64 d) ∧ w'.cell? ⟨w.heap.size + 1, 0, none⟩ = some (.int .i64 a') ∧ w'.cell? ⟨w.heap.size + 1, 1, none⟩ = some (.int .i64 b') ∧ w'.cell? ⟨w.heap.size + 1, 2, none⟩ = some (.int .i64 c') ∧ w'.cell? ⟨w.heap.size + 1, 3, none⟩ = some (.int .i64 d')) (first | (go_split_ands; (try dsimp only); refine ⟨?_, ?_, ?_, ?_, ?_, ?_, ?_, ?_, ?_, ?_, ?_, ?_, ?_, ?_, ?_, ?_⟩ <;> (first | (with_reducible assumption) | (with_reducible exact keep_cell (by assumption) (by first | omega | (simp; done) | (simp; omega)) (by assumption)) | (simp [go_sem]; with_reducible assumption))) | (simp [go_sem, ↓IntWalk.iteOmega, *]; done))
    (first | (go_at_call 22; (with_reducible refine (awake_any _).mono ?_); rintro e w1 ⟨rfl, hb⟩; obtain ⟨hc, hf, hz⟩ := bcall hb; (try simp at hc hf hz)))
  go_wp2
  all_goals
    go_ret
    refine ⟨by simp, ?_⟩
    (repeat' (first | exact Below.refl _ _ | refine Below.setCell ?_ (by first | omega | (simp; done) | (simp; omega)) _ | refine Below.alloc ?_ (by first | omega | (simp; done) | (simp; omega)) _ | refine Below.drew ?_ | refine below_drewN ?_ _ | (refine Below.trans ?_ (Below.mono (by assumption) (by first | omega | (simp; done) | (simp; omega))))))

set_option maxHeartbeats 2000000 in
theorem cellSame_one_ok (a b c d k y : Int) (w : World) (h : Ok4 a b c d) (r : OkR k y) :
    Calls Try.prog 8 #[.agg #[.int .i64 a, .int .i64 b, .int .i64 c, .int .i64 d], .agg #[.int .i64 a, .int .i64 b, .int .i64 c, .int .i64 d], .agg #[.int .i64 k, .int .i64 y]] w fun e w' => e = .returned (.bool true) ∧ Below w.heap.size w w' := by
  have s : OneC a b c d a b c d := ⟨rfl, rfl, rfl⟩
  have H := Lib.hid h; clear h
  have S := Lib.hid s; clear s
  have R := Lib.hid r; clear r
  go_enter Try.func8, Try.ntmps8
  have tok1 : True := trivial
  have tok2 : True := trivial
  go_wp2_with (first | (go_at_call 37; (with_reducible refine (same_yes a b c d a b c d _ H.out H.out S.out).mono ?_); rintro e w1 ⟨rfl, hb⟩; obtain ⟨hc, hf, hz⟩ := bcall hb; (try simp at hc hf hz)) | (go_at_call 38; (with_reducible refine (refSame_yes a b c d a b c d _ H.out H.out S.out).mono ?_); rintro e w1 ⟨rfl, hb⟩; obtain ⟨hc, hf, hz⟩ := bcall hb; (try simp at hc hf hz)) | (go_at_call 31; (with_reducible refine (norm_ok a b c d _ H.out).mono ?_); rintro e w1 ⟨rfl, hb⟩; obtain ⟨hc, hf, hz⟩ := bcall hb; (try simp at hc hf hz)) | (go_at_call 31; (with_reducible refine (normB a b c d a b c d _ H.out H.out S.out).mono ?_); rintro e w1 ⟨rfl, hb⟩; obtain ⟨hc, hf, hz⟩ := bcall hb; (try simp at hc hf hz)) | (go_at_call 33; (with_reducible refine (place_ok a b c d _ H.out).mono ?_); rintro e w1 ⟨rfl, hb⟩; obtain ⟨hc, hf, hz⟩ := bcall hb; (try simp at hc hf hz)) | (go_at_call 33; (with_reducible refine (place_ok a b c d _ H.out).mono ?_); rintro e w1 ⟨rfl, hb⟩; obtain ⟨hc, hf, hz⟩ := bcall hb; (try simp at hc hf hz)) | (have _t := tok1; go_at_call 23; (with_reducible refine (collide_ok a b c d k y _ H.out R.out).mono ?_); rintro e wu ⟨rfl, hb⟩; obtain ⟨hc, hf, hz⟩ := bcall hb; (try simp at hc hf hz); clear _t tok1) | (have _t := tok2; go_at_call 23; (with_reducible refine (collide_ok a b c d k y _ H.out R.out).mono ?_); rintro e wv ⟨rfl, hb⟩; obtain ⟨hc, hf, hz⟩ := bcall hb; (try simp at hc hf hz); clear _t tok2))
  go_region_held3 (fun w' => w'.cell? ⟨wu.heap.size, 0, none⟩ = some (.int .i64 (a + more a b c d k y)) ∧ w'.cell? ⟨wu.heap.size, 1, none⟩ = some (.int .i64 (b - more a b c d k y)) ∧ w'.cell? ⟨wu.heap.size, 2, none⟩ = some (.int .i64 (c + more a b c d k y)) ∧ w'.cell? ⟨wu.heap.size, 3, none⟩ = some (.int .i64 (d - more a b c d k y)) ∧ w'.cell? ⟨wv.heap.size, 0, none⟩ = some (.int .i64 (a + more a b c d k y)) ∧ w'.cell? ⟨wv.heap.size, 1, none⟩ = some (.int .i64 (b - more a b c d k y)) ∧ w'.cell? ⟨wv.heap.size, 2, none⟩ = some (.int .i64 (c + more a b c d k y)) ∧ w'.cell? ⟨wv.heap.size, 3, none⟩ = some (.int .i64 (d - more a b c d k y)) ∧ w'.cell? ⟨w.heap.size, 0, none⟩ = some (.int .i64 a) ∧ w'.cell? ⟨w.heap.size, 1, none⟩ = some (.int .i64 b) ∧ w'.cell? ⟨w.heap.size, 2, none⟩ = some (.int .i64 c) ∧ w'.cell? ⟨w.heap.size, 3, none⟩ = some (.int .i64 d) ∧ w'.cell? ⟨w.heap.size + 1, 0, none⟩ = some (.int .i64 a) ∧ w'.cell? ⟨w.heap.size + 1, 1, none⟩ = some (.int .i64 b) ∧ w'.cell? ⟨w.heap.size + 1, 2, none⟩ = some (.int .i64 c) ∧ w'.cell? ⟨w.heap.size + 1, 3, none⟩ = some (.int .i64 d)) (first | (go_split_ands; (try dsimp only); refine ⟨?_, ?_, ?_, ?_, ?_, ?_, ?_, ?_, ?_, ?_, ?_, ?_, ?_, ?_, ?_, ?_⟩ <;> (first | (with_reducible assumption) | (with_reducible exact keep_cell (by assumption) (by first | omega | (simp; done) | (simp; omega)) (by assumption)) | (simp [go_sem]; with_reducible assumption))) | (simp [go_sem, ↓IntWalk.iteOmega, *]; done))
    (first | (go_at_call 22; (with_reducible refine (awake_any _).mono ?_); rintro e w1 ⟨rfl, hb⟩; obtain ⟨hc, hf, hz⟩ := bcall hb; (try simp at hc hf hz)))
  go_wp2
  all_goals
    go_ret
    refine ⟨by simp, ?_⟩
    (repeat' (first | exact Below.refl _ _ | refine Below.setCell ?_ (by first | omega | (simp; done) | (simp; omega)) _ | refine Below.alloc ?_ (by first | omega | (simp; done) | (simp; omega)) _ | refine Below.drew ?_ | refine below_drewN ?_ _ | (refine Below.trans ?_ (Below.mono (by assumption) (by first | omega | (simp; done) | (simp; omega))))))

set_option maxHeartbeats 2000000 in
theorem cellSame_no_bad (a b c d a' b' c' d' k y : Int) (w : World) (h : Ok4 a b c d) (g : Ok4 a' b' c' d') (s : ¬ OneC a b c d a' b' c' d') (r : ¬ OkR k y) :
    Calls Try.prog 8 #[.agg #[.int .i64 a, .int .i64 b, .int .i64 c, .int .i64 d], .agg #[.int .i64 a', .int .i64 b', .int .i64 c', .int .i64 d'], .agg #[.int .i64 k, .int .i64 y]] w fun e w' => e = .returned (.bool true) ∧ Below w.heap.size w w' := by
  have E0 := fun W => equalIn_cell_max W (a - min a c) (b + min a c) (c - min a c) (d + min a c) (a' - min a' c') (b' + min a' c') (c' - min a' c') (d' + min a' c')
  rw [norm_two h g s] at E0
  have ZR := Lib.hid (show ¬ (Ok4 a b c d ∧ OkR k y) from fun q => r q.2)
  have ZR' := Lib.hid (show ¬ (Ok4 a' b' c' d' ∧ OkR k y) from fun q => r q.2)
  have H := Lib.hid h; clear h
  have G := Lib.hid g; clear g
  have S := Lib.hid s; clear s
  have R := Lib.hid r; clear r
  go_enter Try.func8, Try.ntmps8
  go_wp2_with (first | (go_at_call 37; (with_reducible refine (same_no a b c d a' b' c' d' _ H.out G.out S.out).mono ?_); rintro e w1 ⟨rfl, hb⟩; obtain ⟨hc, hf, hz⟩ := bcall hb; (try simp at hc hf hz)) | (go_at_call 38; (with_reducible refine (refSame_no a b c d a' b' c' d' _ H.out G.out S.out).mono ?_); rintro e w1 ⟨rfl, hb⟩; obtain ⟨hc, hf, hz⟩ := bcall hb; (try simp at hc hf hz)) | (go_at_call 31; (with_reducible refine (norm_ok a b c d _ H.out).mono ?_); rintro e w1 ⟨rfl, hb⟩; obtain ⟨hc, hf, hz⟩ := bcall hb; (try simp at hc hf hz)) | (go_at_call 31; (with_reducible refine (norm_ok a' b' c' d' _ G.out).mono ?_); rintro e w1 ⟨rfl, hb⟩; obtain ⟨hc, hf, hz⟩ := bcall hb; (try simp at hc hf hz)) | (go_at_call 33; (with_reducible refine (place_ok a b c d _ H.out).mono ?_); rintro e w1 ⟨rfl, hb⟩; obtain ⟨hc, hf, hz⟩ := bcall hb; (try simp at hc hf hz)) | (go_at_call 33; (with_reducible refine (place_ok a' b' c' d' _ G.out).mono ?_); rintro e w1 ⟨rfl, hb⟩; obtain ⟨hc, hf, hz⟩ := bcall hb; (try simp at hc hf hz)) | (go_at_call 23; (with_reducible refine (collide_bad a b c d k y _ ZR.out).mono ?_); rintro e w1 ⟨rfl, hb⟩; obtain ⟨hc, hf, hz⟩ := bcall hb; (try simp at hc hf hz)) | (go_at_call 23; (with_reducible refine (collide_bad a' b' c' d' k y _ ZR'.out).mono ?_); rintro e w1 ⟨rfl, hb⟩; obtain ⟨hc, hf, hz⟩ := bcall hb; (try simp at hc hf hz)))
  refine wp_region_still_tail 21 (by kernel_rfl) (by kernel_rfl) ?_
  simp only [List.take_succ_cons, List.take_zero, List.drop_succ_cons, List.drop_zero]
  iterate 21 still_step
  refine wpStill_nil ?_
  go_wp2_with (go_at_call 22; (with_reducible refine (awake_any _).mono ?_); rintro e w1 ⟨rfl, hb⟩; obtain ⟨hc, hf, hz⟩ := bcall hb; (try simp at hc hf hz))
  all_goals
    go_ret
    refine ⟨by simp, ?_⟩
    (repeat' (first | exact Below.refl _ _ | refine Below.setCell ?_ (by first | omega | (simp; done) | (simp; omega)) _ | refine Below.alloc ?_ (by first | omega | (simp; done) | (simp; omega)) _ | refine Below.drew ?_ | refine below_drewN ?_ _ | (refine Below.trans ?_ (Below.mono (by assumption) (by first | omega | (simp; done) | (simp; omega))))))

set_option maxHeartbeats 2000000 in
theorem cellSame_yes_bad (a b c d a' b' c' d' k y : Int) (w : World) (h : Ok4 a b c d) (g : Ok4 a' b' c' d') (s : OneC a b c d a' b' c' d') (n : ¬ (a = a' ∧ b = b' ∧ c = c' ∧ d = d')) (r : ¬ OkR k y) :
    Calls Try.prog 8 #[.agg #[.int .i64 a, .int .i64 b, .int .i64 c, .int .i64 d], .agg #[.int .i64 a', .int .i64 b', .int .i64 c', .int .i64 d'], .agg #[.int .i64 k, .int .i64 y]] w fun e w' => e = .returned (.bool true) ∧ Below w.heap.size w w' := by
  have P := place_two s n
  have P0 : (min a c == min a' c') = false := beq_eq_false_iff_ne.2 P
  have E1 := fun W => equalIn_cell_max W a b c d a' b' c' d'
  rw [cell_two n] at E1
  clear P n
  have ZR := Lib.hid (show ¬ (Ok4 a b c d ∧ OkR k y) from fun q => r q.2)
  have ZR' := Lib.hid (show ¬ (Ok4 a' b' c' d' ∧ OkR k y) from fun q => r q.2)
  have H := Lib.hid h; clear h
  have G := Lib.hid g; clear g
  have S := Lib.hid s; clear s
  have R := Lib.hid r; clear r
  go_enter Try.func8, Try.ntmps8
  go_wp2_with (first | (go_at_call 37; (with_reducible refine (same_yes a b c d a' b' c' d' _ H.out G.out S.out).mono ?_); rintro e w1 ⟨rfl, hb⟩; obtain ⟨hc, hf, hz⟩ := bcall hb; (try simp at hc hf hz)) | (go_at_call 38; (with_reducible refine (refSame_yes a b c d a' b' c' d' _ H.out G.out S.out).mono ?_); rintro e w1 ⟨rfl, hb⟩; obtain ⟨hc, hf, hz⟩ := bcall hb; (try simp at hc hf hz)) | (go_at_call 31; (with_reducible refine (norm_ok a b c d _ H.out).mono ?_); rintro e w1 ⟨rfl, hb⟩; obtain ⟨hc, hf, hz⟩ := bcall hb; (try simp at hc hf hz)) | (go_at_call 31; (with_reducible refine (normB a b c d a' b' c' d' _ H.out G.out S.out).mono ?_); rintro e w1 ⟨rfl, hb⟩; obtain ⟨hc, hf, hz⟩ := bcall hb; (try simp at hc hf hz)) | (go_at_call 33; (with_reducible refine (place_ok a b c d _ H.out).mono ?_); rintro e w1 ⟨rfl, hb⟩; obtain ⟨hc, hf, hz⟩ := bcall hb; (try simp at hc hf hz)) | (go_at_call 33; (with_reducible refine (place_ok a' b' c' d' _ G.out).mono ?_); rintro e w1 ⟨rfl, hb⟩; obtain ⟨hc, hf, hz⟩ := bcall hb; (try simp at hc hf hz)) | (go_at_call 23; (with_reducible refine (collide_bad a b c d k y _ ZR.out).mono ?_); rintro e w1 ⟨rfl, hb⟩; obtain ⟨hc, hf, hz⟩ := bcall hb; (try simp at hc hf hz)) | (go_at_call 23; (with_reducible refine (collide_bad a' b' c' d' k y _ ZR'.out).mono ?_); rintro e w1 ⟨rfl, hb⟩; obtain ⟨hc, hf, hz⟩ := bcall hb; (try simp at hc hf hz)))
  refine wp_region_still_tail 21 (by kernel_rfl) (by kernel_rfl) ?_
  simp only [List.take_succ_cons, List.take_zero, List.drop_succ_cons, List.drop_zero]
  iterate 21 still_step
  refine wpStill_nil ?_
  go_wp2_with (go_at_call 22; (with_reducible refine (awake_any _).mono ?_); rintro e w1 ⟨rfl, hb⟩; obtain ⟨hc, hf, hz⟩ := bcall hb; (try simp at hc hf hz))
  all_goals
    go_ret
    refine ⟨by simp, ?_⟩
    (repeat' (first | exact Below.refl _ _ | refine Below.setCell ?_ (by first | omega | (simp; done) | (simp; omega)) _ | refine Below.alloc ?_ (by first | omega | (simp; done) | (simp; omega)) _ | refine Below.drew ?_ | refine below_drewN ?_ _ | (refine Below.trans ?_ (Below.mono (by assumption) (by first | omega | (simp; done) | (simp; omega))))))

set_option maxHeartbeats 2000000 in
theorem cellSame_one_bad (a b c d k y : Int) (w : World) (h : Ok4 a b c d) (r : ¬ OkR k y) :
    Calls Try.prog 8 #[.agg #[.int .i64 a, .int .i64 b, .int .i64 c, .int .i64 d], .agg #[.int .i64 a, .int .i64 b, .int .i64 c, .int .i64 d], .agg #[.int .i64 k, .int .i64 y]] w fun e w' => e = .returned (.bool true) ∧ Below w.heap.size w w' := by
  have ZR := Lib.hid (show ¬ (Ok4 a b c d ∧ OkR k y) from fun q => r q.2)
  have ZR2 := Lib.hid (show ¬ (Ok4 a b c d ∧ OkR k y) from fun q => r q.2)
  have s : OneC a b c d a b c d := ⟨rfl, rfl, rfl⟩
  have H := Lib.hid h; clear h
  have S := Lib.hid s; clear s
  have R := Lib.hid r; clear r
  go_enter Try.func8, Try.ntmps8
  go_wp2_with (first | (go_at_call 37; (with_reducible refine (same_yes a b c d a b c d _ H.out H.out S.out).mono ?_); rintro e w1 ⟨rfl, hb⟩; obtain ⟨hc, hf, hz⟩ := bcall hb; (try simp at hc hf hz)) | (go_at_call 38; (with_reducible refine (refSame_yes a b c d a b c d _ H.out H.out S.out).mono ?_); rintro e w1 ⟨rfl, hb⟩; obtain ⟨hc, hf, hz⟩ := bcall hb; (try simp at hc hf hz)) | (go_at_call 31; (with_reducible refine (norm_ok a b c d _ H.out).mono ?_); rintro e w1 ⟨rfl, hb⟩; obtain ⟨hc, hf, hz⟩ := bcall hb; (try simp at hc hf hz)) | (go_at_call 31; (with_reducible refine (normB a b c d a b c d _ H.out H.out S.out).mono ?_); rintro e w1 ⟨rfl, hb⟩; obtain ⟨hc, hf, hz⟩ := bcall hb; (try simp at hc hf hz)) | (go_at_call 33; (with_reducible refine (place_ok a b c d _ H.out).mono ?_); rintro e w1 ⟨rfl, hb⟩; obtain ⟨hc, hf, hz⟩ := bcall hb; (try simp at hc hf hz)) | (go_at_call 33; (with_reducible refine (place_ok a b c d _ H.out).mono ?_); rintro e w1 ⟨rfl, hb⟩; obtain ⟨hc, hf, hz⟩ := bcall hb; (try simp at hc hf hz)) | (go_at_call 23; (with_reducible refine (collide_bad a b c d k y _ ZR.out).mono ?_); rintro e w1 ⟨rfl, hb⟩; obtain ⟨hc, hf, hz⟩ := bcall hb; (try simp at hc hf hz)) | (go_at_call 23; (with_reducible refine (collide_bad a b c d k y _ ZR.out).mono ?_); rintro e w1 ⟨rfl, hb⟩; obtain ⟨hc, hf, hz⟩ := bcall hb; (try simp at hc hf hz)))
  refine wp_region_still_tail 21 (by kernel_rfl) (by kernel_rfl) ?_
  simp only [List.take_succ_cons, List.take_zero, List.drop_succ_cons, List.drop_zero]
  iterate 21 still_step
  refine wpStill_nil ?_
  go_wp2_with (go_at_call 22; (with_reducible refine (awake_any _).mono ?_); rintro e w1 ⟨rfl, hb⟩; obtain ⟨hc, hf, hz⟩ := bcall hb; (try simp at hc hf hz))
  all_goals
    go_ret
    refine ⟨by simp, ?_⟩
    (repeat' (first | exact Below.refl _ _ | refine Below.setCell ?_ (by first | omega | (simp; done) | (simp; omega)) _ | refine Below.alloc ?_ (by first | omega | (simp; done) | (simp; omega)) _ | refine Below.drew ?_ | refine below_drewN ?_ _ | (refine Below.trans ?_ (Below.mono (by assumption) (by first | omega | (simp; done) | (simp; omega))))))

theorem cellSame_any (a b c d a' b' c' d' k y : Int) (w : World) :
    Calls Try.prog 8 #[.agg #[.int .i64 a, .int .i64 b, .int .i64 c, .int .i64 d], .agg #[.int .i64 a', .int .i64 b', .int .i64 c', .int .i64 d'], .agg #[.int .i64 k, .int .i64 y]] w fun e w' => e = .returned (.bool true) ∧ Below w.heap.size w w' := by
  by_cases h : Ok4 a b c d
  · by_cases g : Ok4 a' b' c' d'
    · by_cases s : OneC a b c d a' b' c' d'
      · by_cases n : a = a' ∧ b = b' ∧ c = c' ∧ d = d'
        · obtain ⟨rfl, rfl, rfl, rfl⟩ := n
          by_cases r : OkR k y
          · exact cellSame_one_ok a b c d k y w h r
          · exact cellSame_one_bad a b c d k y w h r
        · by_cases r : OkR k y
          · exact cellSame_yes_ok a b c d a' b' c' d' k y w h g s n r
          · exact cellSame_yes_bad a b c d a' b' c' d' k y w h g s n r
      · by_cases r : OkR k y
        · exact cellSame_no_ok a b c d a' b' c' d' k y w h g s r
        · exact cellSame_no_bad a b c d a' b' c' d' k y w h g s r
    · exact cellSame_bad1 a b c d a' b' c' d' k y w h g
  · exact cellSame_bad0 a b c d a' b' c' d' k y w h
end Go.Proofs.Ytpgheijgfjpdjaa
