/- Columns of nodes: the mathematics. -/
import Derived.Test.YtmkhbkkhoemkoaaKNumsV
namespace Go.Proofs.Ytmkhbkkhoemkoaa
set_option linter.unusedSimpArgs false
set_option linter.unusedVariables false

/-- A cut is right. -/
def OkCut (Z : Nat → Int) (W : Int) (k : Nat) : Prop := (1 ≤ Z k ∧ Z k ≤ W - 1) ∧ (k = 0 ∨ Z (k - 1) < Z k)
def OkCuts (Z : Nat → Int) (W : Int) (m : Nat) : Prop := ∀ k, k < m → OkCut Z W k
/-- How many of the first k cuts are not right of a column. -/
def colN (Z : Nat → Int) (x : Int) : Nat → Nat
  | 0 => 0
  | k + 1 => if Z k ≤ x then colN Z x k + 1 else colN Z x k
theorem colN_le (Z : Nat → Int) (x : Int) (k : Nat) : colN Z x k ≤ k := by
  induction k with
  | zero => exact Nat.le_refl _
  | succ k ih => simp only [colN]; split <;> omega
/-- The last cut before k. -/
def lastZ (Z : Nat → Int) : Nat → Int
  | 0 => 0
  | k + 1 => Z k
theorem okCut_step {Z : Nat → Int} {W : Int} {k : Nat} (h : OkCuts Z W k) : OkCut Z W k ↔ lastZ Z k < Z k ∧ Z k < W := by
  unfold OkCut
  cases k with
  | zero => simp only [lastZ]; constructor
            · intro h; exact ⟨by omega, by omega⟩
            · intro h; exact ⟨⟨by omega, by omega⟩, .inl (by first | rfl | trivial)⟩
  | succ k =>
    have h1 := (h k (by omega)).1
    simp only [lastZ, Nat.add_sub_cancel]
    constructor
    · intro h; exact ⟨by omega, by omega⟩
    · intro h; exact ⟨⟨by omega, by omega⟩, .inr h.1⟩
theorem okCuts_succ {Z : Nat → Int} {W : Int} {k : Nat} (h : OkCuts Z W k) (g : OkCut Z W k) : OkCuts Z W (k + 1) := fun i hi => by
  by_cases e : i = k
  · subst e; exact g
  · exact h i (by omega)
end Go.Proofs.Ytmkhbkkhoemkoaa
