/- The cells of a patch's rectangle, one after another: by the program. -/
import Derived.Test.YtmdeooflgkjbbaaDoorKRules
import Derived.Test.YtmdeooflgkjbbaaDoorKGMath
namespace Go.Proofs.YtmdeooflgkjbbaaDoor
set_option linter.unusedSimpArgs false
set_option linter.unusedVariables false
open Go.RowKit Go.Shelf
attribute [local go_sem] Oper.semAt_some

/-- The indexes of the first j cells of a row of the rectangle; of its first k rows. -/
def rowN (W x0 y : Nat) : Nat → List Nat
  | 0 => []
  | j + 1 => rowN W x0 y j ++ [x0 + j + W * y]
def recN (W x0 nx y0 : Nat) : Nat → List Nat
  | 0 => []
  | k + 1 => recN W x0 nx y0 k ++ rowN W x0 (y0 + k) nx
theorem rowN_len (W x0 y j : Nat) : (rowN W x0 y j).length = j := by
  induction j with
  | zero => rfl
  | succ j ih => simp [rowN, ih]
theorem recN_len (W x0 nx y0 k : Nat) : (recN W x0 nx y0 k).length = k * nx := by
  induction k with
  | zero => simp [recN]
  | succ k ih => simp [recN, ih, rowN_len, Nat.succ_mul]
theorem rowN_pre (W x0 y : Nat) {i j : Nat} (h : i ≤ j) : rowN W x0 y i <+: rowN W x0 y j := by
  induction j with
  | zero =>
    obtain rfl : i = 0 := by omega
    exact List.prefix_refl _
  | succ j ih =>
    by_cases e : i = j + 1
    · subst e; exact List.prefix_refl _
    · exact (ih (by omega)).trans (List.prefix_append _ _)
theorem recN_pre (W x0 nx y0 : Nat) {i j : Nat} (h : i ≤ j) : recN W x0 nx y0 i <+: recN W x0 nx y0 j := by
  induction j with
  | zero =>
    obtain rfl : i = 0 := by omega
    exact List.prefix_refl _
  | succ j ih =>
    by_cases e : i = j + 1
    · subst e; exact List.prefix_refl _
    · exact (ih (by omega)).trans (List.prefix_append _ _)
theorem rec_pre (W x0 nx y0 : Nat) {k ny j : Nat} (hk : k < ny) (hj : j ≤ nx) : recN W x0 nx y0 k ++ rowN W x0 (y0 + k) j <+: recN W x0 nx y0 ny := by
  refine List.IsPrefix.trans ?_ (recN_pre W x0 nx y0 (show k + 1 ≤ ny by omega))
  simp only [recN]
  exact (List.prefix_append_right_inj _).2 (rowN_pre W x0 (y0 + k) hj)

end Go.Proofs.YtmdeooflgkjbbaaDoor
