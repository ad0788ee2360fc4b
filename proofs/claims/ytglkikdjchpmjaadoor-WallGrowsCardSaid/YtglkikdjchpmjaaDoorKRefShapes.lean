/- Walls, by the reference: the checks ahead of shapes; a shape put into a wall (mathematics). -/
import Derived.Test.YtglkikdjchpmjaaDoorKChecks
import Derived.Test.YtglkikdjchpmjaaDoorKRefWall
namespace Go.Proofs.YtglkikdjchpmjaaDoor
set_option linter.unusedSimpArgs false
set_option linter.unusedVariables false
open Go.RowKit

theorem rIsBody_yes (n : Int) (w : World) (h1 : 1 ≤ n) (h2 : n ≤ 9) : Calls Tryd.prog 148 #[.int .i64 n] w fun e w' => e = .returned (.bool true) ∧ w = w' := by
  go_enter Tryd.func148, Tryd.ntmps148
  go_wp2_with (go_at_call 78; (with_reducible refine (within3_yes _ _ _ _ h1 h2).mono ?_); rintro e w1 ⟨rfl, rfl⟩)
  go_ret
  exact ⟨rfl, rfl⟩
theorem rIsBody_no (n : Int) (w : World) (h : n < 1 ∨ 9 < n) : Calls Tryd.prog 148 #[.int .i64 n] w fun e w' => e = .returned (.bool false) ∧ w = w' := by
  have H := Lib.hid h; clear h
  go_enter Tryd.func148, Tryd.ntmps148
  go_wp2_with (go_at_call 78; (with_reducible refine (within3_no _ _ _ _ H.out).mono ?_); rintro e w1 ⟨rfl, rfl⟩)
  go_ret
  exact ⟨rfl, rfl⟩

/-- A shape (0: not of it) put into the first k cells of a wall. -/
def putK (S K : Nat → Int) (k i : Nat) : Int := if i < k ∧ S i ≠ 0 then S i else K i
def putB (S B : Nat → Int) (b : Int) (k i : Nat) : Int := if i < k ∧ S i ≠ 0 then b else B i
/-- No cell of the shape, below k, belongs to another body. -/
def freeS (S B : Nat → Int) (b : Int) (k : Nat) : Prop := ∀ i, i < k → S i ≠ 0 → B i = 0 ∨ B i = b
theorem putK_zero (S K : Nat → Int) : putK S K 0 = K := funext fun i => by simp [putK]
theorem putB_zero (S B : Nat → Int) (b : Int) : putB S B b 0 = B := funext fun i => by simp [putB]
theorem putK_skip {S K : Nat → Int} {k : Nat} (h : S k = 0) : putK S K (k + 1) = putK S K k := funext fun i => by
  unfold putK
  by_cases e : i = k
  · subst e; simp [h]
  · have : (i < k + 1) = (i < k) := propext (by omega)
    simp only [this]
theorem putB_skip {S B : Nat → Int} {b : Int} {k : Nat} (h : S k = 0) : putB S B b (k + 1) = putB S B b k := funext fun i => by
  unfold putB
  by_cases e : i = k
  · subst e; simp [h]
  · have : (i < k + 1) = (i < k) := propext (by omega)
    simp only [this]
theorem putK_step {S K : Nat → Int} {k i : Nat} (h : S k ≠ 0) : putK S K (k + 1) i = if i = k then S k else putK S K k i := by
  unfold putK
  by_cases e : i = k
  · subst e; simp [h]
  · have : (i < k + 1) = (i < k) := propext (by omega)
    simp only [this, if_neg e]
theorem putB_step {S B : Nat → Int} {b : Int} {k i : Nat} (h : S k ≠ 0) : putB S B b (k + 1) i = if i = k then b else putB S B b k i := by
  unfold putB
  by_cases e : i = k
  · subst e; simp [h]
  · have : (i < k + 1) = (i < k) := propext (by omega)
    simp only [this, if_neg e]
theorem putB_here (S B : Nat → Int) (b : Int) (k : Nat) : putB S B b k k = B k := by simp [putB]
theorem freeS_step {S B : Nat → Int} {b : Int} {k : Nat} (h : freeS S B b k) (h' : S k ≠ 0 → B k = 0 ∨ B k = b) : freeS S B b (k + 1) := fun i hi hs => by
  by_cases e : i = k
  · subst e; exact h' hs
  · exact h i (by omega) hs
/-- What is put in is valid. -/
theorem put_okP {S K B : Nat → Int} {b : Int} {n : Nat} (hb : 1 ≤ b ∧ b ≤ 9) (hS : ∀ i, i < n → 0 ≤ S i ∧ S i ≤ 3) (h : ∀ i, i < n → OkP (K i) (B i)) : ∀ i, i < n → OkP (putK S K n i) (putB S B b n i) := by
  intro i hi
  unfold putK putB
  by_cases e : S i = 0
  · simpa [e] using h i hi
  · simp only [hi, e, ne_eq, not_false_eq_true, and_self, ↓reduceIte]
    have := hS i hi
    exact .inr ⟨by omega, hb⟩
end Go.Proofs.YtglkikdjchpmjaaDoor
