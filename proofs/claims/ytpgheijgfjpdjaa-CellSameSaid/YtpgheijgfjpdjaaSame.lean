/- Same: whether two cells are of one class, by the program and by the reference. -/
import Derived.Test.YtpgheijgfjpdjaaClass
import Derived.Test.YtpgheijgfjpdjaaAwake
import Derived.Deep.RegionWith
namespace Go.Proofs.Ytpgheijgfjpdjaa
set_option linter.unusedSimpArgs false
set_option linter.unusedVariables false
open Go.RowKit

theorem equalIn_class_max (w : World) (a b c e a' b' c' e' : Int) :
    (Op.equalIn 10000 59 (.agg #[.int .i64 a, .int .i64 b, .int .i64 c, .int .i64 e]) (.agg #[.int .i64 a', .int .i64 b', .int .i64 c', .int .i64 e'])).run Try.prog w = .ok (a == a' && (b == b' && (c == c' && e == e'))) w := by
  by_cases h0 : a = a' <;> by_cases h1 : b = b' <;> by_cases h2 : c = c' <;> by_cases h3 : e = e' <;> simp [go_sem, h0, h1, h2, h3]

/-- Two cells of one class. -/
def OneC (a b c d a' b' c' d' : Int) : Prop := a + b + c + d = a' + b' + c' + d' ∧ a - c = a' - c' ∧ b - d = b' - d'

theorem norm_one {a b c d a' b' c' d' : Int} (_h : Ok4 a b c d) (_k : Ok4 a' b' c' d') (s : OneC a b c d a' b' c' d') : (.agg #[.int .i64 (a' - min a' c'), .int .i64 (b' + min a' c'), .int .i64 (c' - min a' c'), .int .i64 (d' + min a' c')] : Value) = .agg #[.int .i64 (a - min a c), .int .i64 (b + min a c), .int .i64 (c - min a c), .int .i64 (d + min a c)] := by
  obtain ⟨_, _, _, _, _⟩ := _h
  obtain ⟨_, _, _, _, _⟩ := _k
  obtain ⟨_, _, _⟩ := s
  exact c4_eq (by omega) (by omega) (by omega) (by omega)

theorem norm_two {a b c d a' b' c' d' : Int} (_h : Ok4 a b c d) (_k : Ok4 a' b' c' d') (s : ¬ OneC a b c d a' b' c' d') : (a - min a c == a' - min a' c' && (b + min a c == b' + min a' c' && (c - min a c == c' - min a' c' && d + min a c == d' + min a' c'))) = false := by
  rw [Bool.eq_false_iff]
  intro q
  simp only [Bool.and_eq_true, beq_iff_eq] at q
  obtain ⟨_, _, _, _⟩ := q
  exact s ⟨by omega, by omega, by omega⟩

theorem class_two {a b c d a' b' c' d' : Int} (s : ¬ OneC a b c d a' b' c' d') : (a + b + c + d == a' + b' + c' + d' && (a - c == a' - c' && (b - d == b' - d' && min a c + min b d == min a' c' + min b' d'))) = false := by
  rw [Bool.eq_false_iff]
  intro q
  simp only [Bool.and_eq_true, beq_iff_eq] at q
  obtain ⟨_, _, _, _⟩ := q
  exact s ⟨by omega, by omega, by omega⟩

theorem normB (a b c d a' b' c' d' : Int) (w : World) (h : Ok4 a b c d) (k : Ok4 a' b' c' d') (s : OneC a b c d a' b' c' d') :
    Calls Try.prog 31 #[.agg #[.int .i64 a', .int .i64 b', .int .i64 c', .int .i64 d']] w fun e w' => e = .returned (.tuple #[.agg #[.int .i64 (a - min a c), .int .i64 (b + min a c), .int .i64 (c - min a c), .int .i64 (d + min a c)], .int .i64 0]) ∧ Below w.heap.size w w' := by
  have q := norm_ok a' b' c' d' w k
  rw [norm_one h k s] at q
  exact q

theorem ofB (a b c d a' b' c' d' : Int) (w : World) (h : Ok4 a b c d) (k : Ok4 a' b' c' d') (s : OneC a b c d a' b' c' d') :
    Calls Try.prog 52 #[.agg #[.int .i64 a', .int .i64 b', .int .i64 c', .int .i64 d']] w fun e w' => e = .returned (.agg #[.int .i64 (a + b + c + d), .int .i64 (a - c), .int .i64 (b - d), .int .i64 (min a c + min b d)]) ∧ Below w.heap.size w w' := by
  have q := of_ok a' b' c' d' w k
  obtain ⟨s0, s1, s2⟩ := s
  obtain ⟨_, _, _, _, _⟩ := h
  obtain ⟨_, _, _, _, _⟩ := k
  rw [← s0, ← s1, ← s2, show min a' c' + min b' d' = min a c + min b d by omega] at q
  exact q

set_option maxHeartbeats 400000 in
theorem same_yes (a b c d a' b' c' d' : Int) (w : World) (h : Ok4 a b c d) (k : Ok4 a' b' c' d') (s : OneC a b c d a' b' c' d') :
    Calls Try.prog 37 #[.agg #[.int .i64 a, .int .i64 b, .int .i64 c, .int .i64 d], .agg #[.int .i64 a', .int .i64 b', .int .i64 c', .int .i64 d']] w fun e w' => e = .returned (.bool true) ∧ Below w.heap.size w w' := by
  have H := Lib.hid h; clear h
  have K := Lib.hid k; clear k
  have S := Lib.hid s; clear s
  go_enter Try.func37, Try.ntmps37
  go_wp2_with (first | (go_at_call 31; (with_reducible refine (norm_ok a b c d _ H.out).mono ?_); rintro e w1 ⟨rfl, hb⟩; obtain ⟨hc, hf, hz⟩ := bcall hb; (try simp at hc hf hz)) | (go_at_call 31; (with_reducible refine (normB a b c d a' b' c' d' _ H.out K.out S.out).mono ?_); rintro e w1 ⟨rfl, hb⟩; obtain ⟨hc, hf, hz⟩ := bcall hb; (try simp at hc hf hz)))
  go_ret
  refine ⟨by simp, ?_⟩
  (repeat' (first | exact Below.refl _ _ | refine Below.setCell ?_ (by first | omega | (simp; done) | (simp; omega)) _ | refine Below.alloc ?_ (by first | omega | (simp; done) | (simp; omega)) _ | refine Below.drew ?_ | refine below_drewN ?_ _ | (refine Below.trans ?_ (Below.mono (by assumption) (by first | omega | (simp; done) | (simp; omega))))))

set_option maxHeartbeats 400000 in
theorem same_no (a b c d a' b' c' d' : Int) (w : World) (h : Ok4 a b c d) (k : Ok4 a' b' c' d') (s : ¬ OneC a b c d a' b' c' d') :
    Calls Try.prog 37 #[.agg #[.int .i64 a, .int .i64 b, .int .i64 c, .int .i64 d], .agg #[.int .i64 a', .int .i64 b', .int .i64 c', .int .i64 d']] w fun e w' => e = .returned (.bool false) ∧ Below w.heap.size w w' := by
  have N := Lib.hid (norm_two h k s)
  have H := Lib.hid h; clear h
  have K := Lib.hid k; clear k
  go_enter Try.func37, Try.ntmps37
  go_wp2_with (first | (go_at_call 31; (with_reducible refine (norm_ok a b c d _ H.out).mono ?_); rintro e w1 ⟨rfl, hb⟩; obtain ⟨hc, hf, hz⟩ := bcall hb; (try simp at hc hf hz)) | (go_at_call 31; (with_reducible refine (norm_ok a' b' c' d' _ K.out).mono ?_); rintro e w1 ⟨rfl, hb⟩; obtain ⟨hc, hf, hz⟩ := bcall hb; (try simp at hc hf hz)))
  go_ret
  refine ⟨by have q := N.out; simp [q], ?_⟩
  (repeat' (first | exact Below.refl _ _ | refine Below.setCell ?_ (by first | omega | (simp; done) | (simp; omega)) _ | refine Below.alloc ?_ (by first | omega | (simp; done) | (simp; omega)) _ | refine Below.drew ?_ | refine below_drewN ?_ _ | (refine Below.trans ?_ (Below.mono (by assumption) (by first | omega | (simp; done) | (simp; omega))))))

set_option maxHeartbeats 400000 in
theorem same_bad (a b c d a' b' c' d' : Int) (w : World) (h : ¬ (Ok4 a b c d ∧ Ok4 a' b' c' d')) :
    Calls Try.prog 37 #[.agg #[.int .i64 a, .int .i64 b, .int .i64 c, .int .i64 d], .agg #[.int .i64 a', .int .i64 b', .int .i64 c', .int .i64 d']] w fun e w' => e = .returned (.bool false) ∧ Below w.heap.size w w' := by
  by_cases h0 : Ok4 a b c d
  · have K := Lib.hid (show ¬ Ok4 a' b' c' d' from fun k => h ⟨h0, k⟩)
    have H := Lib.hid h0
    clear h h0
    go_enter Try.func37, Try.ntmps37
    go_wp2_with (first | (go_at_call 31; (with_reducible refine (norm_ok a b c d _ H.out).mono ?_); rintro e w1 ⟨rfl, hb⟩; obtain ⟨hc, hf, hz⟩ := bcall hb; (try simp at hc hf hz)) | (go_at_call 31; (with_reducible refine (norm_bad a' b' c' d' _ K.out).mono ?_); rintro e w1 ⟨rfl, hb⟩; obtain ⟨hc, hf, hz⟩ := bcall hb; (try simp at hc hf hz)))
    go_ret
    refine ⟨rfl, ?_⟩
    (repeat' (first | exact Below.refl _ _ | refine Below.setCell ?_ (by first | omega | (simp; done) | (simp; omega)) _ | refine Below.alloc ?_ (by first | omega | (simp; done) | (simp; omega)) _ | refine Below.drew ?_ | refine below_drewN ?_ _ | (refine Below.trans ?_ (Below.mono (by assumption) (by first | omega | (simp; done) | (simp; omega))))))
  · have H := Lib.hid h0
    clear h h0
    go_enter Try.func37, Try.ntmps37
    go_wp2_with (first | (go_at_call 31; (with_reducible refine (norm_bad a b c d _ H.out).mono ?_); rintro e w1 ⟨rfl, hb⟩; obtain ⟨hc, hf, hz⟩ := bcall hb; (try simp at hc hf hz)))
    go_ret
    refine ⟨rfl, ?_⟩
    (repeat' (first | exact Below.refl _ _ | refine Below.setCell ?_ (by first | omega | (simp; done) | (simp; omega)) _ | refine Below.alloc ?_ (by first | omega | (simp; done) | (simp; omega)) _ | refine Below.drew ?_ | refine below_drewN ?_ _ | (refine Below.trans ?_ (Below.mono (by assumption) (by first | omega | (simp; done) | (simp; omega))))))

set_option maxHeartbeats 400000 in
theorem refSame_yes (a b c d a' b' c' d' : Int) (w : World) (h : Ok4 a b c d) (k : Ok4 a' b' c' d') (s : OneC a b c d a' b' c' d') :
    Calls Try.prog 38 #[.agg #[.int .i64 a, .int .i64 b, .int .i64 c, .int .i64 d], .agg #[.int .i64 a', .int .i64 b', .int .i64 c', .int .i64 d']] w fun e w' => e = .returned (.bool true) ∧ Below w.heap.size w w' := by
  have H := Lib.hid h; clear h
  have K := Lib.hid k; clear k
  have S := Lib.hid s; clear s
  go_enter Try.func38, Try.ntmps38
  go_wp2
  go_region_held3 (fun w' => w'.cell? ⟨w.heap.size, 0, none⟩ = some (.int .i64 a) ∧ w'.cell? ⟨w.heap.size, 1, none⟩ = some (.int .i64 b) ∧ w'.cell? ⟨w.heap.size, 2, none⟩ = some (.int .i64 c) ∧ w'.cell? ⟨w.heap.size, 3, none⟩ = some (.int .i64 d) ∧ w'.cell? ⟨w.heap.size + 1, 0, none⟩ = some (.int .i64 a') ∧ w'.cell? ⟨w.heap.size + 1, 1, none⟩ = some (.int .i64 b') ∧ w'.cell? ⟨w.heap.size + 1, 2, none⟩ = some (.int .i64 c') ∧ w'.cell? ⟨w.heap.size + 1, 3, none⟩ = some (.int .i64 d')) (first | (go_split_ands; (try dsimp only); refine ⟨?_, ?_, ?_, ?_, ?_, ?_, ?_, ?_⟩ <;> (first | (with_reducible assumption) | (with_reducible exact keep_cell (by assumption) (by first | omega | (simp; done) | (simp; omega)) (by assumption)) | (simp [go_sem]; with_reducible assumption))) | (simp [go_sem, ↓IntWalk.iteOmega, *]; done))
    (first | (go_at_call 15; (with_reducible refine (refValid_ok a b c d _ H.out).mono ?_); rintro e w1 ⟨rfl, hb⟩; obtain ⟨hc, hf, hz⟩ := bcall hb; (try simp at hc hf hz)) | (go_at_call 15; (with_reducible refine (refValid_ok a' b' c' d' _ K.out).mono ?_); rintro e w1 ⟨rfl, hb⟩; obtain ⟨hc, hf, hz⟩ := bcall hb; (try simp at hc hf hz)) | (go_at_call 52; (with_reducible refine (of_ok a b c d _ H.out).mono ?_); rintro e w1 ⟨rfl, hb⟩; obtain ⟨hc, hf, hz⟩ := bcall hb; (try simp at hc hf hz)) | (go_at_call 52; (with_reducible refine (ofB a b c d a' b' c' d' _ H.out K.out S.out).mono ?_); rintro e w1 ⟨rfl, hb⟩; obtain ⟨hc, hf, hz⟩ := bcall hb; (try simp at hc hf hz)))
  go_wp2
  go_ret
  refine ⟨by simp, ?_⟩
  (repeat' (first | exact Below.refl _ _ | refine Below.setCell ?_ (by first | omega | (simp; done) | (simp; omega)) _ | refine Below.alloc ?_ (by first | omega | (simp; done) | (simp; omega)) _ | refine Below.drew ?_ | refine below_drewN ?_ _ | (refine Below.trans ?_ (Below.mono (by assumption) (by first | omega | (simp; done) | (simp; omega))))))

set_option maxHeartbeats 400000 in
theorem refSame_no (a b c d a' b' c' d' : Int) (w : World) (h : Ok4 a b c d) (k : Ok4 a' b' c' d') (s : ¬ OneC a b c d a' b' c' d') :
    Calls Try.prog 38 #[.agg #[.int .i64 a, .int .i64 b, .int .i64 c, .int .i64 d], .agg #[.int .i64 a', .int .i64 b', .int .i64 c', .int .i64 d']] w fun e w' => e = .returned (.bool false) ∧ Below w.heap.size w w' := by
  have N := class_two s
  have E := fun W => equalIn_class_max W (a + b + c + d) (a - c) (b - d) (min a c + min b d) (a' + b' + c' + d') (a' - c') (b' - d') (min a' c' + min b' d')
  rw [N] at E
  clear N
  have H := Lib.hid h; clear h
  have K := Lib.hid k; clear k
  have S := Lib.hid s; clear s
  go_enter Try.func38, Try.ntmps38
  go_wp2
  go_region_held3 (fun w' => w'.cell? ⟨w.heap.size, 0, none⟩ = some (.int .i64 a) ∧ w'.cell? ⟨w.heap.size, 1, none⟩ = some (.int .i64 b) ∧ w'.cell? ⟨w.heap.size, 2, none⟩ = some (.int .i64 c) ∧ w'.cell? ⟨w.heap.size, 3, none⟩ = some (.int .i64 d) ∧ w'.cell? ⟨w.heap.size + 1, 0, none⟩ = some (.int .i64 a') ∧ w'.cell? ⟨w.heap.size + 1, 1, none⟩ = some (.int .i64 b') ∧ w'.cell? ⟨w.heap.size + 1, 2, none⟩ = some (.int .i64 c') ∧ w'.cell? ⟨w.heap.size + 1, 3, none⟩ = some (.int .i64 d')) (first | (go_split_ands; (try dsimp only); refine ⟨?_, ?_, ?_, ?_, ?_, ?_, ?_, ?_⟩ <;> (first | (with_reducible assumption) | (with_reducible exact keep_cell (by assumption) (by first | omega | (simp; done) | (simp; omega)) (by assumption)) | (simp [go_sem]; with_reducible assumption))) | (simp [go_sem, ↓IntWalk.iteOmega, *]; done))
    (first | (go_at_call 15; (with_reducible refine (refValid_ok a b c d _ H.out).mono ?_); rintro e w1 ⟨rfl, hb⟩; obtain ⟨hc, hf, hz⟩ := bcall hb; (try simp at hc hf hz)) | (go_at_call 15; (with_reducible refine (refValid_ok a' b' c' d' _ K.out).mono ?_); rintro e w1 ⟨rfl, hb⟩; obtain ⟨hc, hf, hz⟩ := bcall hb; (try simp at hc hf hz)) | (go_at_call 52; (with_reducible refine (of_ok a b c d _ H.out).mono ?_); rintro e w1 ⟨rfl, hb⟩; obtain ⟨hc, hf, hz⟩ := bcall hb; (try simp at hc hf hz)) | (go_at_call 52; (with_reducible refine (of_ok a' b' c' d' _ K.out).mono ?_); rintro e w1 ⟨rfl, hb⟩; obtain ⟨hc, hf, hz⟩ := bcall hb; (try simp at hc hf hz)))
  go_wp2
  go_ret
  refine ⟨by simp, ?_⟩
  (repeat' (first | exact Below.refl _ _ | refine Below.setCell ?_ (by first | omega | (simp; done) | (simp; omega)) _ | refine Below.alloc ?_ (by first | omega | (simp; done) | (simp; omega)) _ | refine Below.drew ?_ | refine below_drewN ?_ _ | (refine Below.trans ?_ (Below.mono (by assumption) (by first | omega | (simp; done) | (simp; omega))))))

set_option maxHeartbeats 2000000 in
theorem refSame_bad (a b c d a' b' c' d' : Int) (w : World) (h : ¬ (Ok4 a b c d ∧ Ok4 a' b' c' d')) :
    Calls Try.prog 38 #[.agg #[.int .i64 a, .int .i64 b, .int .i64 c, .int .i64 d], .agg #[.int .i64 a', .int .i64 b', .int .i64 c', .int .i64 d']] w fun e w' => e = .returned (.bool false) ∧ Below w.heap.size w w' := by
  by_cases h0 : Ok4 a b c d
  · have K := Lib.hid (show ¬ Ok4 a' b' c' d' from fun k => h ⟨h0, k⟩)
    have H := Lib.hid h0
    clear h h0
    go_enter Try.func38, Try.ntmps38
    go_wp2
    go_region_with (first | (go_at_call 15; (with_reducible refine (refValid_ok a b c d _ H.out).mono ?_); rintro e w1 ⟨rfl, hb⟩; obtain ⟨hc, hf, hz⟩ := bcall hb; (try simp at hc hf hz)) | (go_at_call 15; (with_reducible refine (refValid_bad a' b' c' d' _ K.out).mono ?_); rintro e w1 ⟨rfl, hb⟩; obtain ⟨hc, hf, hz⟩ := bcall hb; (try simp at hc hf hz)))
    all_goals
      go_wp2
      go_ret
      refine ⟨rfl, ?_⟩
      (repeat' (first | exact Below.refl _ _ | refine Below.setCell ?_ (by first | omega | (simp; done) | (simp; omega)) _ | refine Below.alloc ?_ (by first | omega | (simp; done) | (simp; omega)) _ | refine Below.drew ?_ | refine below_drewN ?_ _ | (refine Below.trans ?_ (Below.mono (by assumption) (by first | omega | (simp; done) | (simp; omega))))))
  · have H := Lib.hid h0
    clear h h0
    go_enter Try.func38, Try.ntmps38
    go_wp2
    go_region_with (first | (go_at_call 15; (with_reducible refine (refValid_bad a b c d _ H.out).mono ?_); rintro e w1 ⟨rfl, hb⟩; obtain ⟨hc, hf, hz⟩ := bcall hb; (try simp at hc hf hz)))
    all_goals
      go_wp2
      go_ret
      refine ⟨rfl, ?_⟩
      (repeat' (first | exact Below.refl _ _ | refine Below.setCell ?_ (by first | omega | (simp; done) | (simp; omega)) _ | refine Below.alloc ?_ (by first | omega | (simp; done) | (simp; omega)) _ | refine Below.drew ?_ | refine below_drewN ?_ _ | (refine Below.trans ?_ (Below.mono (by assumption) (by first | omega | (simp; done) | (simp; omega))))))
end Go.Proofs.Ytpgheijgfjpdjaa
