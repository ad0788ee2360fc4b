/- The notes that are due to a node: the mathematics. -/
import Derived.Test.YtmkhbkkhoemkoaaKChartM
namespace Go.Proofs.Ytmkhbkkhoemkoaa
set_option linter.unusedSimpArgs false
set_option linter.unusedVariables false

/-- A due note: the sender, the cell, the direction. -/
abbrev Nt := Nat × Nat × Nat
/-- Those of a cell, of the directions before d. -/
def dueC (o : Nat → Nat) (W H v i : Nat) : Nat → List Nt
  | 0 => []
  | d + 1 => if o (nb W H (-1) i d) = v then dueC o W H v i d else dueC o W H v i d ++ [(o (nb W H (-1) i d), i, d)]
/-- Those of the first k cells of a list. -/
def dueN (o : Nat → Nat) (W H v : Nat) (l : List Nat) : Nat → List Nt
  | 0 => []
  | k + 1 => dueN o W H v l k ++ dueC o W H v (l.getD k 0) 4
theorem dueC_same {o : Nat → Nat} {W H v i d : Nat} (h : o (nb W H (-1) i d) = v) : dueC o W H v i (d + 1) = dueC o W H v i d := by simp [dueC, h]
theorem dueC_more {o : Nat → Nat} {W H v i d : Nat} (h : o (nb W H (-1) i d) ≠ v) : dueC o W H v i (d + 1) = dueC o W H v i d ++ [(o (nb W H (-1) i d), i, d)] := by simp [dueC, h]
theorem dueC_len (o : Nat → Nat) (W H v i d : Nat) : (dueC o W H v i d).length ≤ d := by
  induction d with
  | zero => simp [dueC]
  | succ d ih =>
    simp only [dueC]
    split
    · omega
    · simp; omega
theorem dueN_len (o : Nat → Nat) (W H v : Nat) (l : List Nat) (k : Nat) : (dueN o W H v l k).length ≤ 4 * k := by
  induction k with
  | zero => simp [dueN]
  | succ k ih =>
    have := dueC_len o W H v (l.getD k 0) 4
    simp only [dueN, List.length_append]
    omega
theorem dueC_pre (o : Nat → Nat) (W H v i : Nat) {d e : Nat} (h : d ≤ e) : dueC o W H v i d <+: dueC o W H v i e := by
  induction e with
  | zero => obtain rfl : d = 0 := by omega
            exact List.prefix_refl _
  | succ e ih =>
    by_cases hd : d = e + 1
    · rw [hd]; exact List.prefix_refl _
    · refine (ih (by omega)).trans ?_
      simp only [dueC]
      split
      · exact List.prefix_refl _
      · exact List.prefix_append _ _
theorem dueN_pre (o : Nat → Nat) (W H v : Nat) (l : List Nat) {k m : Nat} (h : k ≤ m) : dueN o W H v l k <+: dueN o W H v l m := by
  induction m with
  | zero => obtain rfl : k = 0 := by omega
            exact List.prefix_refl _
  | succ m ih =>
    by_cases hd : k = m + 1
    · rw [hd]; exact List.prefix_refl _
    · exact (ih (by omega)).trans (List.prefix_append _ _)
theorem due_pre (o : Nat → Nat) (W H v : Nat) (l : List Nat) {k m d : Nat} (h : k < m) (hd : d ≤ 4) : dueN o W H v l k ++ dueC o W H v (l.getD k 0) d <+: dueN o W H v l m :=
  ((List.prefix_append_right_inj _).2 (dueC_pre o W H v _ hd)).trans (dueN_pre o W H v l (k := k + 1) (by omega))
end Go.Proofs.Ytmkhbkkhoemkoaa
