/- The cells of a rectangle: which they are. -/
import Derived.Test.YtmdeooflgkjbbaaDoorKRect
namespace Go.Proofs.YtmdeooflgkjbbaaDoor
set_option linter.unusedSimpArgs false
set_option linter.unusedVariables false
open Go.RowKit

theorem rowN_mem {W x0 y j i : Nat} (h : i ∈ rowN W x0 y j) : ∃ a, a < j ∧ i = x0 + a + W * y := by
  induction j with
  | zero => simp [rowN] at h
  | succ j ih =>
    simp only [rowN, List.mem_append, List.mem_singleton] at h
    rcases h with h | h
    · obtain ⟨a, h1, h2⟩ := ih h
      exact ⟨a, by omega, h2⟩
    · exact ⟨j, by omega, h⟩
theorem recN_mem {W x0 nx y0 k i : Nat} (h : i ∈ recN W x0 nx y0 k) : ∃ a b, a < nx ∧ b < k ∧ i = x0 + a + W * (y0 + b) := by
  induction k with
  | zero => simp [recN] at h
  | succ k ih =>
    simp only [recN, List.mem_append] at h
    rcases h with h | h
    · obtain ⟨a, b, h1, h2, h3⟩ := ih h
      exact ⟨a, b, h1, by omega, h3⟩
    · obtain ⟨a, h1, h2⟩ := rowN_mem h
      exact ⟨a, k, h1, by omega, h2⟩
theorem recN_lt {W H x0 nx y0 k i : Nat} (h : i ∈ recN W x0 nx y0 k) (hx : x0 + nx ≤ W) (hy : y0 + k ≤ H) : i < W * H := by
  obtain ⟨a, b, h1, h2, rfl⟩ := recN_mem h
  exact xy_lt (by omega) (by omega)

end Go.Proofs.YtmdeooflgkjbbaaDoor
