/- The interface of two phases: the mathematics. -/
import Derived.Test.YtglkikdjchpmjaaDoorKGMath
namespace Go.Proofs.YtglkikdjchpmjaaDoor
set_option linter.unusedSimpArgs false
set_option linter.unusedVariables false

/-- What a pair of kinds counts. -/
def prK (a b : Int) : Int := if a ≠ 0 ∧ b ≠ 0 ∧ a ≠ b then 1 else 0
/-- The pairs of a cell. -/
def prI (W H : Nat) (k : Nat → Int) (i : Nat) : Int := prK (k i) (k (nb W H 1 i 0)) + prK (k i) (k (nb W H 1 i 1))
theorem prK_rng (a b : Int) : 0 ≤ prK a b ∧ prK a b ≤ 1 := by unfold prK; split <;> omega
theorem prI_rng (W H : Nat) (k : Nat → Int) (i : Nat) : 0 ≤ prI W H k i ∧ prI W H k i ≤ 2 := by
  have h1 := prK_rng (k i) (k (nb W H 1 i 0))
  have h2 := prK_rng (k i) (k (nb W H 1 i 1))
  unfold prI
  omega
theorem pairs_rng (W H : Nat) (k : Nat → Int) (n : Nat) : 0 ≤ sm n (prI W H k) ∧ sm n (prI W H k) ≤ 2 * (n : Int) := by
  induction n with
  | zero => simp [sm]
  | succ n ih =>
    have := prI_rng W H k n
    simp only [sm]
    omega
theorem sm_even (n : Nat) (f : Nat → Int) (h : ∀ i, i < n → f i % 2 = 0) : sm n f % 2 = 0 := by
  induction n with
  | zero => rfl
  | succ n ih =>
    have h1 := ih (fun i hi => h i (by omega))
    have h2 := h n (by omega)
    simp only [sm]
    omega
theorem sm_sub (n : Nat) (f g : Nat → Int) : sm n (fun i => f i - g i) = sm n f - sm n g := by
  induction n with
  | zero => rfl
  | succ n ih => simp only [sm, ih]; omega
/-- Where every cell is of a phase, the pairs are even. -/
theorem pairs_even {W H n : Nat} {k : Nat → Int} (hn : n = W * H) (h : ∀ i, i < n → k i = 1 ∨ k i = 2) : sm n (prI W H k) % 2 = 0 := by
  have e0 : sm n (fun i => k (nb W H 1 i 0)) = sm n k := by simpa [pull] using sm_pull (W := W) (H := H) (n := n) (way := -1) (fun i _ => k i) hn 0
  have e1 : sm n (fun i => k (nb W H 1 i 1)) = sm n k := by simpa [pull] using sm_pull (W := W) (H := H) (n := n) (way := -1) (fun i _ => k i) hn 1
  have ev : sm n (fun i => prI W H k i - (k i + k (nb W H 1 i 0) + (k i + k (nb W H 1 i 1)))) % 2 = 0 := sm_even n _ fun i hi => by
    have a := h i hi
    have b := h _ (nb_lt (way := 1) hn hi 0)
    have c := h _ (nb_lt (way := 1) hn hi 1)
    have q1 : prK (k i) (k (nb W H 1 i 0)) = if k i = k (nb W H 1 i 0) then 0 else 1 := by
      unfold prK
      by_cases e : k i = k (nb W H 1 i 0)
      · simp [e]
      · rw [if_pos ⟨by omega, by omega, e⟩, if_neg e]
    have q2 : prK (k i) (k (nb W H 1 i 1)) = if k i = k (nb W H 1 i 1) then 0 else 1 := by
      unfold prK
      by_cases e : k i = k (nb W H 1 i 1)
      · simp [e]
      · rw [if_pos ⟨by omega, by omega, e⟩, if_neg e]
    show (prI W H k i - _) % 2 = 0
    unfold prI
    rw [q1, q2]
    split <;> split <;> omega
  have es : sm n (fun i => k i + k (nb W H 1 i 0) + (k i + k (nb W H 1 i 1))) = 4 * sm n k := by
    rw [sm_add n (fun i => k i + k (nb W H 1 i 0)) (fun i => k i + k (nb W H 1 i 1)), sm_add, sm_add, e0, e1]
    omega
  rw [sm_sub, es] at ev
  omega
end Go.Proofs.YtglkikdjchpmjaaDoor
