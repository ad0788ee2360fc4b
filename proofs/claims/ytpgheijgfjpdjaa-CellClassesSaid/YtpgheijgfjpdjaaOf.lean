/- Of: the cell of a class at a place, by the program and by the reference. -/
import Derived.Test.YtpgheijgfjpdjaaRef3
namespace Go.Proofs.Ytpgheijgfjpdjaa
set_option linter.unusedSimpArgs false
set_option linter.unusedVariables false
open Go.RowKit

/-- The numbers are in their ranges. -/
def OfR (m x y p : Int) : Prop := 0 ≤ m ∧ m ≤ 1000000000 ∧ -1000000000 ≤ x ∧ x ≤ 1000000000 ∧ -1000000000 ≤ y ∧ y ≤ 1000000000 ∧ 0 ≤ p
/-- There is such a cell. -/
def OfG (m x y p : Int) : Prop := 0 ≤ m - absI x - absI y ∧ (m - absI x - absI y) % 2 = 0 ∧ p ≤ (m - absI x - absI y) / 2

theorem isMomentum_any (n : Int) (w : World) : Calls Try.prog 64 #[.int .i64 n] w fun e w' => e = .returned (.bool (decide (-1000000000 ≤ n ∧ n ≤ 1000000000))) ∧ w = w' := by
  by_cases h0 : -1000000000 ≤ n
  · by_cases h1 : n ≤ 1000000000
    · go_enter Try.func64, Try.ntmps64
      go_wp2
      go_ret
      exact ⟨by simp [h0, h1], rfl⟩
    · go_enter Try.func64, Try.ntmps64
      go_wp2
      go_ret
      exact ⟨by simp [h1], rfl⟩
  · go_enter Try.func64, Try.ntmps64
    go_wp2
    go_ret
    exact ⟨by simp; omega, rfl⟩
theorem isMomentum_yes (n : Int) (w : World) (h0 : -1000000000 ≤ n) (h1 : n ≤ 1000000000) : Calls Try.prog 64 #[.int .i64 n] w fun e w' => e = .returned (.bool true) ∧ w = w' := by
  have q := isMomentum_any n w
  rw [show decide (-1000000000 ≤ n ∧ n ≤ 1000000000) = true from by simp [h0, h1]] at q
  exact q

theorem isMomentum_no (n : Int) (w : World) (h0 : ¬ (-1000000000 ≤ n ∧ n ≤ 1000000000)) : Calls Try.prog 64 #[.int .i64 n] w fun e w' => e = .returned (.bool false) ∧ w = w' := by
  have q := isMomentum_any n w
  rw [show decide (-1000000000 ≤ n ∧ n ≤ 1000000000) = false from by simpa using h0] at q
  exact q

set_option maxHeartbeats 1000000 in
theorem of_range (m x y p : Int) (w : World) (h : ¬ OfR m x y p) :
    Calls Try.prog 35 #[.int .i64 m, .int .i64 x, .int .i64 y, .int .i64 p] w fun e w' => e = .returned (.tuple #[.agg #[.int .i64 0, .int .i64 0, .int .i64 0, .int .i64 0], .int .i64 7]) ∧ Below w.heap.size w w' := by
  by_cases h0 : 0 ≤ m ∧ m ≤ 1000000000
  · obtain ⟨_, _⟩ := h0
    by_cases hx : -1000000000 ≤ x ∧ x ≤ 1000000000
    · obtain ⟨_, _⟩ := hx
      by_cases hy : -1000000000 ≤ y ∧ y ≤ 1000000000
      · obtain ⟨_, _⟩ := hy
        have hp : ¬ 0 ≤ p := fun hp => h ⟨by omega, by omega, by omega, by omega, by omega, by omega, hp⟩
        clear h
        go_enter Try.func35, Try.ntmps35
        go_wp2_with (go_at_call 64; (with_reducible refine (isMomentum_yes _ _ (by omega) (by omega)).mono ?_); rintro e w1 ⟨rfl, rfl⟩)
        refine bodyPost_ret (v := .tuple #[.agg #[.int .i64 0, .int .i64 0, .int .i64 0, .int .i64 0], .int .i64 7]) (by simp [results, Try.results35, go_sem, ↓IntWalk.iteOmega, *]) rfl ⟨rfl, ?_⟩
        (repeat' (first | exact Below.refl _ _ | refine Below.setCell ?_ (by first | omega | (simp; done) | (simp; omega)) _ | refine Below.alloc ?_ (by first | omega | (simp; done) | (simp; omega)) _ | refine Below.drew ?_ | refine below_drewN ?_ _ | (refine Below.trans ?_ (Below.mono (by assumption) (by first | omega | (simp; done) | (simp; omega))))))
      · have HY := Lib.hid hy; clear hy h
        go_enter Try.func35, Try.ntmps35
        go_wp2_with (first | (go_at_call 64; (with_reducible refine (isMomentum_yes x _ (by omega) (by omega)).mono ?_); rintro e w1 ⟨rfl, rfl⟩) | (go_at_call 64; (with_reducible refine (isMomentum_no y _ HY.out).mono ?_); rintro e w1 ⟨rfl, rfl⟩))
        refine bodyPost_ret (v := .tuple #[.agg #[.int .i64 0, .int .i64 0, .int .i64 0, .int .i64 0], .int .i64 7]) (by simp [results, Try.results35, go_sem, ↓IntWalk.iteOmega, *]) rfl ⟨rfl, ?_⟩
        (repeat' (first | exact Below.refl _ _ | refine Below.setCell ?_ (by first | omega | (simp; done) | (simp; omega)) _ | refine Below.alloc ?_ (by first | omega | (simp; done) | (simp; omega)) _ | refine Below.drew ?_ | refine below_drewN ?_ _ | (refine Below.trans ?_ (Below.mono (by assumption) (by first | omega | (simp; done) | (simp; omega))))))
    · have HX := Lib.hid hx; clear hx h
      go_enter Try.func35, Try.ntmps35
      go_wp2_with (go_at_call 64; (with_reducible refine (isMomentum_no x _ HX.out).mono ?_); rintro e w1 ⟨rfl, rfl⟩)
      refine bodyPost_ret (v := .tuple #[.agg #[.int .i64 0, .int .i64 0, .int .i64 0, .int .i64 0], .int .i64 7]) (by simp [results, Try.results35, go_sem, ↓IntWalk.iteOmega, *]) rfl ⟨rfl, ?_⟩
      (repeat' (first | exact Below.refl _ _ | refine Below.setCell ?_ (by first | omega | (simp; done) | (simp; omega)) _ | refine Below.alloc ?_ (by first | omega | (simp; done) | (simp; omega)) _ | refine Below.drew ?_ | refine below_drewN ?_ _ | (refine Below.trans ?_ (Below.mono (by assumption) (by first | omega | (simp; done) | (simp; omega))))))
  · clear h
    by_cases h1 : 0 ≤ m
    · have h2 : ¬ m ≤ 1000000000 := fun h2 => h0 ⟨h1, h2⟩
      clear h0
      go_enter Try.func35, Try.ntmps35
      go_wp2
      refine bodyPost_ret (v := .tuple #[.agg #[.int .i64 0, .int .i64 0, .int .i64 0, .int .i64 0], .int .i64 7]) (by simp [results, Try.results35, go_sem, ↓IntWalk.iteOmega, *]) rfl ⟨rfl, ?_⟩
      (repeat' (first | exact Below.refl _ _ | refine Below.setCell ?_ (by first | omega | (simp; done) | (simp; omega)) _ | refine Below.alloc ?_ (by first | omega | (simp; done) | (simp; omega)) _ | refine Below.drew ?_ | refine below_drewN ?_ _ | (refine Below.trans ?_ (Below.mono (by assumption) (by first | omega | (simp; done) | (simp; omega))))))
    · clear h0
      go_enter Try.func35, Try.ntmps35
      go_wp2
      refine bodyPost_ret (v := .tuple #[.agg #[.int .i64 0, .int .i64 0, .int .i64 0, .int .i64 0], .int .i64 7]) (by simp [results, Try.results35, go_sem, ↓IntWalk.iteOmega, *]) rfl ⟨rfl, ?_⟩
      (repeat' (first | exact Below.refl _ _ | refine Below.setCell ?_ (by first | omega | (simp; done) | (simp; omega)) _ | refine Below.alloc ?_ (by first | omega | (simp; done) | (simp; omega)) _ | refine Below.drew ?_ | refine below_drewN ?_ _ | (refine Below.trans ?_ (Below.mono (by assumption) (by first | omega | (simp; done) | (simp; omega))))))

set_option maxHeartbeats 1000000 in
theorem refOf_range (m x y p : Int) (w : World) (h : ¬ OfR m x y p) :
    Calls Try.prog 36 #[.int .i64 m, .int .i64 x, .int .i64 y, .int .i64 p] w fun e w' => e = .returned (.tuple #[.agg #[.int .i64 0, .int .i64 0, .int .i64 0, .int .i64 0], .int .i64 7]) ∧ Below w.heap.size w w' := by
  by_cases h0 : 0 ≤ m ∧ m ≤ 1000000000
  · obtain ⟨_, _⟩ := h0
    by_cases hx : -1000000000 ≤ x ∧ x ≤ 1000000000
    · obtain ⟨_, _⟩ := hx
      by_cases hy : -1000000000 ≤ y ∧ y ≤ 1000000000
      · obtain ⟨_, _⟩ := hy
        have hp : ¬ 0 ≤ p := fun hp => h ⟨by omega, by omega, by omega, by omega, by omega, by omega, hp⟩
        clear h
        go_enter Try.func36, Try.ntmps36
        go_wp2_with (go_at_call 53; (with_reducible refine (within_yes _ _ _ _ (by omega) (by omega)).mono ?_); rintro e w1 ⟨rfl, rfl⟩)
        refine bodyPost_ret (v := .tuple #[.agg #[.int .i64 0, .int .i64 0, .int .i64 0, .int .i64 0], .int .i64 7]) (by simp [results, Try.results36, go_sem, ↓IntWalk.iteOmega, *]) rfl ⟨rfl, ?_⟩
        (repeat' (first | exact Below.refl _ _ | refine Below.setCell ?_ (by first | omega | (simp; done) | (simp; omega)) _ | refine Below.alloc ?_ (by first | omega | (simp; done) | (simp; omega)) _ | refine Below.drew ?_ | refine below_drewN ?_ _ | (refine Below.trans ?_ (Below.mono (by assumption) (by first | omega | (simp; done) | (simp; omega))))))
      · have HY := Lib.hid hy; clear hy h
        go_enter Try.func36, Try.ntmps36
        go_wp2_with (first | (go_at_call 53; (with_reducible refine (within_yes m _ _ _ (by omega) (by omega)).mono ?_); rintro e w1 ⟨rfl, rfl⟩) | (go_at_call 53; (with_reducible refine (within_yes x _ _ _ (by omega) (by omega)).mono ?_); rintro e w1 ⟨rfl, rfl⟩) | (go_at_call 53; (with_reducible refine (within_no y _ _ _ (by have := HY.out; omega)).mono ?_); rintro e w1 ⟨rfl, rfl⟩))
        refine bodyPost_ret (v := .tuple #[.agg #[.int .i64 0, .int .i64 0, .int .i64 0, .int .i64 0], .int .i64 7]) (by simp [results, Try.results36, go_sem, ↓IntWalk.iteOmega, *]) rfl ⟨rfl, ?_⟩
        (repeat' (first | exact Below.refl _ _ | refine Below.setCell ?_ (by first | omega | (simp; done) | (simp; omega)) _ | refine Below.alloc ?_ (by first | omega | (simp; done) | (simp; omega)) _ | refine Below.drew ?_ | refine below_drewN ?_ _ | (refine Below.trans ?_ (Below.mono (by assumption) (by first | omega | (simp; done) | (simp; omega))))))
    · have HX := Lib.hid hx; clear hx h
      go_enter Try.func36, Try.ntmps36
      go_wp2_with (first | (go_at_call 53; (with_reducible refine (within_yes m _ _ _ (by omega) (by omega)).mono ?_); rintro e w1 ⟨rfl, rfl⟩) | (go_at_call 53; (with_reducible refine (within_no x _ _ _ (by have := HX.out; omega)).mono ?_); rintro e w1 ⟨rfl, rfl⟩))
      refine bodyPost_ret (v := .tuple #[.agg #[.int .i64 0, .int .i64 0, .int .i64 0, .int .i64 0], .int .i64 7]) (by simp [results, Try.results36, go_sem, ↓IntWalk.iteOmega, *]) rfl ⟨rfl, ?_⟩
      (repeat' (first | exact Below.refl _ _ | refine Below.setCell ?_ (by first | omega | (simp; done) | (simp; omega)) _ | refine Below.alloc ?_ (by first | omega | (simp; done) | (simp; omega)) _ | refine Below.drew ?_ | refine below_drewN ?_ _ | (refine Below.trans ?_ (Below.mono (by assumption) (by first | omega | (simp; done) | (simp; omega))))))
  · have H0 := Lib.hid h0; clear h h0
    go_enter Try.func36, Try.ntmps36
    go_wp2_with (go_at_call 53; (with_reducible refine (within_no m _ _ _ (by have := H0.out; omega)).mono ?_); rintro e w1 ⟨rfl, rfl⟩)
    refine bodyPost_ret (v := .tuple #[.agg #[.int .i64 0, .int .i64 0, .int .i64 0, .int .i64 0], .int .i64 7]) (by simp [results, Try.results36, go_sem, ↓IntWalk.iteOmega, *]) rfl ⟨rfl, ?_⟩
    (repeat' (first | exact Below.refl _ _ | refine Below.setCell ?_ (by first | omega | (simp; done) | (simp; omega)) _ | refine Below.alloc ?_ (by first | omega | (simp; done) | (simp; omega)) _ | refine Below.drew ?_ | refine below_drewN ?_ _ | (refine Below.trans ?_ (Below.mono (by assumption) (by first | omega | (simp; done) | (simp; omega))))))

set_option maxHeartbeats 1000000 in
theorem of_none (m x y p : Int) (w : World) (h : OfR m x y p) (g : ¬ OfG m x y p) :
    Calls Try.prog 35 #[.int .i64 m, .int .i64 x, .int .i64 y, .int .i64 p] w fun e w' => e = .returned (.tuple #[.agg #[.int .i64 0, .int .i64 0, .int .i64 0, .int .i64 0], .int .i64 8]) ∧ Below w.heap.size w w' := by
  have G := Lib.hid g; clear g
  obtain ⟨_, _, _, _, _, _, _⟩ := h
  by_cases hx : 0 ≤ x <;> by_cases hy : 0 ≤ y
  all_goals
    go_enter Try.func35, Try.ntmps35
    go_wp2_with (go_at_call 64; (with_reducible refine (isMomentum_yes _ _ (by omega) (by omega)).mono ?_); rintro e w1 ⟨rfl, rfl⟩)
    all_goals first
      | (exfalso; exact G.out ⟨by unfold absI; omega, by unfold absI; omega, by unfold absI; omega⟩)
      | (refine bodyPost_ret (v := .tuple #[.agg #[.int .i64 0, .int .i64 0, .int .i64 0, .int .i64 0], .int .i64 8]) (by simp [results, Try.results35, go_sem, ↓IntWalk.iteOmega, *]) rfl ⟨rfl, ?_⟩; (repeat' (first | exact Below.refl _ _ | refine Below.setCell ?_ (by first | omega | (simp; done) | (simp; omega)) _ | refine Below.alloc ?_ (by first | omega | (simp; done) | (simp; omega)) _ | refine Below.drew ?_ | refine below_drewN ?_ _ | (refine Below.trans ?_ (Below.mono (by assumption) (by first | omega | (simp; done) | (simp; omega)))))))

set_option maxHeartbeats 1000000 in
theorem refOf_none (m x y p : Int) (w : World) (h : OfR m x y p) (g : ¬ OfG m x y p) :
    Calls Try.prog 36 #[.int .i64 m, .int .i64 x, .int .i64 y, .int .i64 p] w fun e w' => e = .returned (.tuple #[.agg #[.int .i64 0, .int .i64 0, .int .i64 0, .int .i64 0], .int .i64 8]) ∧ Below w.heap.size w w' := by
  obtain ⟨_, _, _, _, _, _, _⟩ := h
  have q0 : 0 ≤ absI x := by unfold absI; omega
  have q1 : absI x ≤ 1000000000 := by unfold absI; omega
  have q2 : 0 ≤ absI y := by unfold absI; omega
  have q3 : absI y ≤ 1000000000 := by unfold absI; omega
  by_cases g0 : 0 ≤ m - absI x - absI y
  · by_cases g1 : (m - absI x - absI y) % 2 = 0
    · have g2 : ¬ p ≤ (m - absI x - absI y) / 2 := fun g2 => g ⟨g0, g1, g2⟩
      clear g
      go_enter Try.func36, Try.ntmps36
      go_wp2_with (first | (go_at_call 53; (with_reducible refine (within_yes _ _ _ _ (by omega) (by omega)).mono ?_); rintro e w1 ⟨rfl, rfl⟩) | (go_at_call 65; (with_reducible refine (size_any _ _ (by omega) (by omega)).mono ?_); rintro e w1 ⟨rfl, rfl⟩))
      refine bodyPost_ret (v := .tuple #[.agg #[.int .i64 0, .int .i64 0, .int .i64 0, .int .i64 0], .int .i64 8]) (by simp [results, Try.results36, go_sem, ↓IntWalk.iteOmega, *]) rfl ⟨rfl, ?_⟩
      (repeat' (first | exact Below.refl _ _ | refine Below.setCell ?_ (by first | omega | (simp; done) | (simp; omega)) _ | refine Below.alloc ?_ (by first | omega | (simp; done) | (simp; omega)) _ | refine Below.drew ?_ | refine below_drewN ?_ _ | (refine Below.trans ?_ (Below.mono (by assumption) (by first | omega | (simp; done) | (simp; omega))))))
    · clear g
      have g3 : ((m - absI x - absI y) % 2 == 0) = false := beq_eq_false_iff_ne.2 g1
      have g4 : ((m - absI x - absI y) % 2 != 0) = true := by simp [g1]
      go_enter Try.func36, Try.ntmps36
      go_wp2_with (first | (go_at_call 53; (with_reducible refine (within_yes _ _ _ _ (by omega) (by omega)).mono ?_); rintro e w1 ⟨rfl, rfl⟩) | (go_at_call 65; (with_reducible refine (size_any _ _ (by omega) (by omega)).mono ?_); rintro e w1 ⟨rfl, rfl⟩))
      refine bodyPost_ret (v := .tuple #[.agg #[.int .i64 0, .int .i64 0, .int .i64 0, .int .i64 0], .int .i64 8]) (by simp [results, Try.results36, go_sem, ↓IntWalk.iteOmega, *]) rfl ⟨rfl, ?_⟩
      (repeat' (first | exact Below.refl _ _ | refine Below.setCell ?_ (by first | omega | (simp; done) | (simp; omega)) _ | refine Below.alloc ?_ (by first | omega | (simp; done) | (simp; omega)) _ | refine Below.drew ?_ | refine below_drewN ?_ _ | (refine Below.trans ?_ (Below.mono (by assumption) (by first | omega | (simp; done) | (simp; omega))))))
  · clear g
    go_enter Try.func36, Try.ntmps36
    go_wp2_with (first | (go_at_call 53; (with_reducible refine (within_yes _ _ _ _ (by omega) (by omega)).mono ?_); rintro e w1 ⟨rfl, rfl⟩) | (go_at_call 65; (with_reducible refine (size_any _ _ (by omega) (by omega)).mono ?_); rintro e w1 ⟨rfl, rfl⟩))
    refine bodyPost_ret (v := .tuple #[.agg #[.int .i64 0, .int .i64 0, .int .i64 0, .int .i64 0], .int .i64 8]) (by simp [results, Try.results36, go_sem, ↓IntWalk.iteOmega, *]) rfl ⟨rfl, ?_⟩
    (repeat' (first | exact Below.refl _ _ | refine Below.setCell ?_ (by first | omega | (simp; done) | (simp; omega)) _ | refine Below.alloc ?_ (by first | omega | (simp; done) | (simp; omega)) _ | refine Below.drew ?_ | refine below_drewN ?_ _ | (refine Below.trans ?_ (Below.mono (by assumption) (by first | omega | (simp; done) | (simp; omega))))))

set_option maxHeartbeats 1000000 in
theorem refOf_good (m x y p : Int) (w : World) (h : OfR m x y p) (g : OfG m x y p) :
    Calls Try.prog 36 #[.int .i64 m, .int .i64 x, .int .i64 y, .int .i64 p] w fun e w' => e = .returned (.tuple #[.agg #[.int .i64 (p + max x 0), .int .i64 ((m - absI x - absI y) / 2 - p + max y 0), .int .i64 (p + max (-x) 0), .int .i64 ((m - absI x - absI y) / 2 - p + max (-y) 0)], .int .i64 0]) ∧ Below w.heap.size w w' := by
  obtain ⟨_, _, _, _, _, _, _⟩ := h
  obtain ⟨g0, g1, g2⟩ := g
  have q0 : 0 ≤ absI x := by unfold absI; omega
  have q1 : absI x ≤ 1000000000 := by unfold absI; omega
  have q2 : 0 ≤ absI y := by unfold absI; omega
  have q3 : absI y ≤ 1000000000 := by unfold absI; omega
  go_enter Try.func36, Try.ntmps36
  go_wp2_with (first | (go_at_call 53; (with_reducible refine (within_yes _ _ _ _ (by omega) (by omega)).mono ?_); rintro e w1 ⟨rfl, rfl⟩) | (go_at_call 65; (with_reducible refine (size_any _ _ (by omega) (by omega)).mono ?_); rintro e w1 ⟨rfl, rfl⟩) | (go_at_call 63; (with_reducible refine (at_any _ _ _ _ _ _ (by omega) (by omega) (by omega) (by omega) (by omega) (by omega) (by omega) (by omega)).mono ?_); rintro e w1 ⟨rfl, hb⟩; obtain ⟨hc, hf, hz⟩ := bcall hb; (try simp at hc hf hz)))
  refine bodyPost_ret (v := .tuple #[.agg #[.int .i64 (p + max x 0), .int .i64 ((m - absI x - absI y) / 2 - p + max y 0), .int .i64 (p + max (-x) 0), .int .i64 ((m - absI x - absI y) / 2 - p + max (-y) 0)], .int .i64 0]) (by simp [results, Try.results36, go_sem, ↓IntWalk.iteOmega, *]) rfl ⟨rfl, ?_⟩
  (repeat' (first | exact Below.refl _ _ | refine Below.setCell ?_ (by first | omega | (simp; done) | (simp; omega)) _ | refine Below.alloc ?_ (by first | omega | (simp; done) | (simp; omega)) _ | refine Below.drew ?_ | refine below_drewN ?_ _ | (refine Below.trans ?_ (Below.mono (by assumption) (by first | omega | (simp; done) | (simp; omega))))))

set_option maxHeartbeats 4000000 in
theorem of_good (m x y p : Int) (w : World) (h : OfR m x y p) (g : OfG m x y p) :
    Calls Try.prog 35 #[.int .i64 m, .int .i64 x, .int .i64 y, .int .i64 p] w fun e w' => e = .returned (.tuple #[.agg #[.int .i64 (p + max x 0), .int .i64 ((m - absI x - absI y) / 2 - p + max y 0), .int .i64 (p + max (-x) 0), .int .i64 ((m - absI x - absI y) / 2 - p + max (-y) 0)], .int .i64 0]) ∧ Below w.heap.size w w' := by
  obtain ⟨_, _, _, _, _, _, _⟩ := h
  obtain ⟨g0, g1, g2⟩ := g
  rcases Int.lt_trichotomy x 0 with hx | rfl | hx <;> rcases Int.lt_trichotomy y 0 with hy | rfl | hy
  · have k0 : 0 ≤ m + x + y := by unfold absI at g0; omega
    have k1 : (m + x + y) % 2 = 0 := by unfold absI at g1; omega
    have k2 : p ≤ (m + x + y) / 2 := by unfold absI at g2; omega
    have e : (.agg #[.int .i64 (p + max x 0), .int .i64 ((m - absI x - absI y) / 2 - p + max y 0), .int .i64 (p + max (-x) 0), .int .i64 ((m - absI x - absI y) / 2 - p + max (-y) 0)] : Value) = .agg #[.int .i64 p, .int .i64 ((m + x + y) / 2 - p), .int .i64 (p + -x), .int .i64 ((m + x + y) / 2 - p + -y)] := by unfold absI; exact c4_eq (by omega) (by omega) (by omega) (by omega)
    rw [e]; clear e g0 g1 g2
    go_enter Try.func35, Try.ntmps35
    go_wp2_with (go_at_call 64; (with_reducible refine (isMomentum_yes _ _ (by omega) (by omega)).mono ?_); rintro e w1 ⟨rfl, rfl⟩)
    all_goals first | (exfalso; omega) | skip
    refine bodyPost_ret (v := .tuple #[.agg #[.int .i64 p, .int .i64 ((m + x + y) / 2 - p), .int .i64 (p + -x), .int .i64 ((m + x + y) / 2 - p + -y)], .int .i64 0]) (by simp [results, Try.results35, go_sem, ↓IntWalk.iteOmega, *]) rfl ⟨rfl, ?_⟩
    (repeat' (first | exact Below.refl _ _ | refine Below.setCell ?_ (by first | omega | (simp; done) | (simp; omega)) _ | refine Below.alloc ?_ (by first | omega | (simp; done) | (simp; omega)) _ | refine Below.drew ?_ | refine below_drewN ?_ _ | (refine Below.trans ?_ (Below.mono (by assumption) (by first | omega | (simp; done) | (simp; omega))))))
  · have k0 : 0 ≤ m + x := by unfold absI at g0; omega
    have k1 : (m + x) % 2 = 0 := by unfold absI at g1; omega
    have k2 : p ≤ (m + x) / 2 := by unfold absI at g2; omega
    have e : (.agg #[.int .i64 (p + max x 0), .int .i64 ((m - absI x - absI 0) / 2 - p + max 0 0), .int .i64 (p + max (-x) 0), .int .i64 ((m - absI x - absI 0) / 2 - p + max (-0) 0)] : Value) = .agg #[.int .i64 p, .int .i64 ((m + x) / 2 - p), .int .i64 (p + -x), .int .i64 ((m + x) / 2 - p)] := by unfold absI; exact c4_eq (by omega) (by omega) (by omega) (by omega)
    rw [e]; clear e g0 g1 g2
    go_enter Try.func35, Try.ntmps35
    go_wp2_with (go_at_call 64; (with_reducible refine (isMomentum_yes _ _ (by omega) (by omega)).mono ?_); rintro e w1 ⟨rfl, rfl⟩)
    all_goals first | (exfalso; omega) | skip
    refine bodyPost_ret (v := .tuple #[.agg #[.int .i64 p, .int .i64 ((m + x) / 2 - p), .int .i64 (p + -x), .int .i64 ((m + x) / 2 - p)], .int .i64 0]) (by simp [results, Try.results35, go_sem, ↓IntWalk.iteOmega, *]) rfl ⟨rfl, ?_⟩
    (repeat' (first | exact Below.refl _ _ | refine Below.setCell ?_ (by first | omega | (simp; done) | (simp; omega)) _ | refine Below.alloc ?_ (by first | omega | (simp; done) | (simp; omega)) _ | refine Below.drew ?_ | refine below_drewN ?_ _ | (refine Below.trans ?_ (Below.mono (by assumption) (by first | omega | (simp; done) | (simp; omega))))))
  · have k0 : 0 ≤ m + x - y := by unfold absI at g0; omega
    have k1 : (m + x - y) % 2 = 0 := by unfold absI at g1; omega
    have k2 : p ≤ (m + x - y) / 2 := by unfold absI at g2; omega
    have e : (.agg #[.int .i64 (p + max x 0), .int .i64 ((m - absI x - absI y) / 2 - p + max y 0), .int .i64 (p + max (-x) 0), .int .i64 ((m - absI x - absI y) / 2 - p + max (-y) 0)] : Value) = .agg #[.int .i64 p, .int .i64 ((m + x - y) / 2 - p + y), .int .i64 (p + -x), .int .i64 ((m + x - y) / 2 - p)] := by unfold absI; exact c4_eq (by omega) (by omega) (by omega) (by omega)
    rw [e]; clear e g0 g1 g2
    go_enter Try.func35, Try.ntmps35
    go_wp2_with (go_at_call 64; (with_reducible refine (isMomentum_yes _ _ (by omega) (by omega)).mono ?_); rintro e w1 ⟨rfl, rfl⟩)
    all_goals first | (exfalso; omega) | skip
    refine bodyPost_ret (v := .tuple #[.agg #[.int .i64 p, .int .i64 ((m + x - y) / 2 - p + y), .int .i64 (p + -x), .int .i64 ((m + x - y) / 2 - p)], .int .i64 0]) (by simp [results, Try.results35, go_sem, ↓IntWalk.iteOmega, *]) rfl ⟨rfl, ?_⟩
    (repeat' (first | exact Below.refl _ _ | refine Below.setCell ?_ (by first | omega | (simp; done) | (simp; omega)) _ | refine Below.alloc ?_ (by first | omega | (simp; done) | (simp; omega)) _ | refine Below.drew ?_ | refine below_drewN ?_ _ | (refine Below.trans ?_ (Below.mono (by assumption) (by first | omega | (simp; done) | (simp; omega))))))
  · have k0 : 0 ≤ m + y := by unfold absI at g0; omega
    have k1 : (m + y) % 2 = 0 := by unfold absI at g1; omega
    have k2 : p ≤ (m + y) / 2 := by unfold absI at g2; omega
    have e : (.agg #[.int .i64 (p + max 0 0), .int .i64 ((m - absI 0 - absI y) / 2 - p + max y 0), .int .i64 (p + max (-0) 0), .int .i64 ((m - absI 0 - absI y) / 2 - p + max (-y) 0)] : Value) = .agg #[.int .i64 p, .int .i64 ((m + y) / 2 - p), .int .i64 p, .int .i64 ((m + y) / 2 - p + -y)] := by unfold absI; exact c4_eq (by omega) (by omega) (by omega) (by omega)
    rw [e]; clear e g0 g1 g2
    go_enter Try.func35, Try.ntmps35
    go_wp2_with (go_at_call 64; (with_reducible refine (isMomentum_yes _ _ (by omega) (by omega)).mono ?_); rintro e w1 ⟨rfl, rfl⟩)
    all_goals first | (exfalso; omega) | skip
    refine bodyPost_ret (v := .tuple #[.agg #[.int .i64 p, .int .i64 ((m + y) / 2 - p), .int .i64 p, .int .i64 ((m + y) / 2 - p + -y)], .int .i64 0]) (by simp [results, Try.results35, go_sem, ↓IntWalk.iteOmega, *]) rfl ⟨rfl, ?_⟩
    (repeat' (first | exact Below.refl _ _ | refine Below.setCell ?_ (by first | omega | (simp; done) | (simp; omega)) _ | refine Below.alloc ?_ (by first | omega | (simp; done) | (simp; omega)) _ | refine Below.drew ?_ | refine below_drewN ?_ _ | (refine Below.trans ?_ (Below.mono (by assumption) (by first | omega | (simp; done) | (simp; omega))))))
  · have k0 : 0 ≤ m := by unfold absI at g0; omega
    have k1 : m % 2 = 0 := by unfold absI at g1; omega
    have k2 : p ≤ m / 2 := by unfold absI at g2; omega
    have e : (.agg #[.int .i64 (p + max 0 0), .int .i64 ((m - absI 0 - absI 0) / 2 - p + max 0 0), .int .i64 (p + max (-0) 0), .int .i64 ((m - absI 0 - absI 0) / 2 - p + max (-0) 0)] : Value) = .agg #[.int .i64 p, .int .i64 (m / 2 - p), .int .i64 p, .int .i64 (m / 2 - p)] := by unfold absI; exact c4_eq (by omega) (by omega) (by omega) (by omega)
    rw [e]; clear e g0 g1 g2
    go_enter Try.func35, Try.ntmps35
    go_wp2_with (go_at_call 64; (with_reducible refine (isMomentum_yes _ _ (by omega) (by omega)).mono ?_); rintro e w1 ⟨rfl, rfl⟩)
    all_goals first | (exfalso; omega) | skip
    refine bodyPost_ret (v := .tuple #[.agg #[.int .i64 p, .int .i64 (m / 2 - p), .int .i64 p, .int .i64 (m / 2 - p)], .int .i64 0]) (by simp [results, Try.results35, go_sem, ↓IntWalk.iteOmega, *]) rfl ⟨rfl, ?_⟩
    (repeat' (first | exact Below.refl _ _ | refine Below.setCell ?_ (by first | omega | (simp; done) | (simp; omega)) _ | refine Below.alloc ?_ (by first | omega | (simp; done) | (simp; omega)) _ | refine Below.drew ?_ | refine below_drewN ?_ _ | (refine Below.trans ?_ (Below.mono (by assumption) (by first | omega | (simp; done) | (simp; omega))))))
  · have k0 : 0 ≤ m - y := by unfold absI at g0; omega
    have k1 : (m - y) % 2 = 0 := by unfold absI at g1; omega
    have k2 : p ≤ (m - y) / 2 := by unfold absI at g2; omega
    have e : (.agg #[.int .i64 (p + max 0 0), .int .i64 ((m - absI 0 - absI y) / 2 - p + max y 0), .int .i64 (p + max (-0) 0), .int .i64 ((m - absI 0 - absI y) / 2 - p + max (-y) 0)] : Value) = .agg #[.int .i64 p, .int .i64 ((m - y) / 2 - p + y), .int .i64 p, .int .i64 ((m - y) / 2 - p)] := by unfold absI; exact c4_eq (by omega) (by omega) (by omega) (by omega)
    rw [e]; clear e g0 g1 g2
    go_enter Try.func35, Try.ntmps35
    go_wp2_with (go_at_call 64; (with_reducible refine (isMomentum_yes _ _ (by omega) (by omega)).mono ?_); rintro e w1 ⟨rfl, rfl⟩)
    all_goals first | (exfalso; omega) | skip
    refine bodyPost_ret (v := .tuple #[.agg #[.int .i64 p, .int .i64 ((m - y) / 2 - p + y), .int .i64 p, .int .i64 ((m - y) / 2 - p)], .int .i64 0]) (by simp [results, Try.results35, go_sem, ↓IntWalk.iteOmega, *]) rfl ⟨rfl, ?_⟩
    (repeat' (first | exact Below.refl _ _ | refine Below.setCell ?_ (by first | omega | (simp; done) | (simp; omega)) _ | refine Below.alloc ?_ (by first | omega | (simp; done) | (simp; omega)) _ | refine Below.drew ?_ | refine below_drewN ?_ _ | (refine Below.trans ?_ (Below.mono (by assumption) (by first | omega | (simp; done) | (simp; omega))))))
  · have k0 : 0 ≤ m - x + y := by unfold absI at g0; omega
    have k1 : (m - x + y) % 2 = 0 := by unfold absI at g1; omega
    have k2 : p ≤ (m - x + y) / 2 := by unfold absI at g2; omega
    have e : (.agg #[.int .i64 (p + max x 0), .int .i64 ((m - absI x - absI y) / 2 - p + max y 0), .int .i64 (p + max (-x) 0), .int .i64 ((m - absI x - absI y) / 2 - p + max (-y) 0)] : Value) = .agg #[.int .i64 (p + x), .int .i64 ((m - x + y) / 2 - p), .int .i64 p, .int .i64 ((m - x + y) / 2 - p + -y)] := by unfold absI; exact c4_eq (by omega) (by omega) (by omega) (by omega)
    rw [e]; clear e g0 g1 g2
    go_enter Try.func35, Try.ntmps35
    go_wp2_with (go_at_call 64; (with_reducible refine (isMomentum_yes _ _ (by omega) (by omega)).mono ?_); rintro e w1 ⟨rfl, rfl⟩)
    all_goals first | (exfalso; omega) | skip
    refine bodyPost_ret (v := .tuple #[.agg #[.int .i64 (p + x), .int .i64 ((m - x + y) / 2 - p), .int .i64 p, .int .i64 ((m - x + y) / 2 - p + -y)], .int .i64 0]) (by simp [results, Try.results35, go_sem, ↓IntWalk.iteOmega, *]) rfl ⟨rfl, ?_⟩
    (repeat' (first | exact Below.refl _ _ | refine Below.setCell ?_ (by first | omega | (simp; done) | (simp; omega)) _ | refine Below.alloc ?_ (by first | omega | (simp; done) | (simp; omega)) _ | refine Below.drew ?_ | refine below_drewN ?_ _ | (refine Below.trans ?_ (Below.mono (by assumption) (by first | omega | (simp; done) | (simp; omega))))))
  · have k0 : 0 ≤ m - x := by unfold absI at g0; omega
    have k1 : (m - x) % 2 = 0 := by unfold absI at g1; omega
    have k2 : p ≤ (m - x) / 2 := by unfold absI at g2; omega
    have e : (.agg #[.int .i64 (p + max x 0), .int .i64 ((m - absI x - absI 0) / 2 - p + max 0 0), .int .i64 (p + max (-x) 0), .int .i64 ((m - absI x - absI 0) / 2 - p + max (-0) 0)] : Value) = .agg #[.int .i64 (p + x), .int .i64 ((m - x) / 2 - p), .int .i64 p, .int .i64 ((m - x) / 2 - p)] := by unfold absI; exact c4_eq (by omega) (by omega) (by omega) (by omega)
    rw [e]; clear e g0 g1 g2
    go_enter Try.func35, Try.ntmps35
    go_wp2_with (go_at_call 64; (with_reducible refine (isMomentum_yes _ _ (by omega) (by omega)).mono ?_); rintro e w1 ⟨rfl, rfl⟩)
    all_goals first | (exfalso; omega) | skip
    refine bodyPost_ret (v := .tuple #[.agg #[.int .i64 (p + x), .int .i64 ((m - x) / 2 - p), .int .i64 p, .int .i64 ((m - x) / 2 - p)], .int .i64 0]) (by simp [results, Try.results35, go_sem, ↓IntWalk.iteOmega, *]) rfl ⟨rfl, ?_⟩
    (repeat' (first | exact Below.refl _ _ | refine Below.setCell ?_ (by first | omega | (simp; done) | (simp; omega)) _ | refine Below.alloc ?_ (by first | omega | (simp; done) | (simp; omega)) _ | refine Below.drew ?_ | refine below_drewN ?_ _ | (refine Below.trans ?_ (Below.mono (by assumption) (by first | omega | (simp; done) | (simp; omega))))))
  · have k0 : 0 ≤ m - x - y := by unfold absI at g0; omega
    have k1 : (m - x - y) % 2 = 0 := by unfold absI at g1; omega
    have k2 : p ≤ (m - x - y) / 2 := by unfold absI at g2; omega
    have e : (.agg #[.int .i64 (p + max x 0), .int .i64 ((m - absI x - absI y) / 2 - p + max y 0), .int .i64 (p + max (-x) 0), .int .i64 ((m - absI x - absI y) / 2 - p + max (-y) 0)] : Value) = .agg #[.int .i64 (p + x), .int .i64 ((m - x - y) / 2 - p + y), .int .i64 p, .int .i64 ((m - x - y) / 2 - p)] := by unfold absI; exact c4_eq (by omega) (by omega) (by omega) (by omega)
    rw [e]; clear e g0 g1 g2
    go_enter Try.func35, Try.ntmps35
    go_wp2_with (go_at_call 64; (with_reducible refine (isMomentum_yes _ _ (by omega) (by omega)).mono ?_); rintro e w1 ⟨rfl, rfl⟩)
    all_goals first | (exfalso; omega) | skip
    refine bodyPost_ret (v := .tuple #[.agg #[.int .i64 (p + x), .int .i64 ((m - x - y) / 2 - p + y), .int .i64 p, .int .i64 ((m - x - y) / 2 - p)], .int .i64 0]) (by simp [results, Try.results35, go_sem, ↓IntWalk.iteOmega, *]) rfl ⟨rfl, ?_⟩
    (repeat' (first | exact Below.refl _ _ | refine Below.setCell ?_ (by first | omega | (simp; done) | (simp; omega)) _ | refine Below.alloc ?_ (by first | omega | (simp; done) | (simp; omega)) _ | refine Below.drew ?_ | refine below_drewN ?_ _ | (refine Below.trans ?_ (Below.mono (by assumption) (by first | omega | (simp; done) | (simp; omega))))))
end Go.Proofs.Ytpgheijgfjpdjaa
