/- The mathematics of a map: the cells of a node, the places of cells, the nodes that own something. -/
import Derived.Test.YtmkhbkkhoemkoaaKGMath
namespace Go.Proofs.Ytmkhbkkhoemkoaa
set_option linter.unusedSimpArgs false
set_option linter.unusedVariables false

/-- The cells before k whose owner is v. -/
def ownL (o : Nat → Nat) : Nat → Nat → List Nat
  | 0, _ => []
  | k + 1, v => if o k = v then ownL o k v ++ [k] else ownL o k v
/-- The place of each cell before k. -/
def plcL (o : Nat → Nat) : Nat → List Nat
  | 0 => []
  | k + 1 => plcL o k ++ [(ownL o k (o k)).length]
/-- The nodes before v that own something. -/
def ndsL (o : Nat → Nat) (n : Nat) : Nat → List Nat
  | 0 => []
  | v + 1 => if 0 < (ownL o n v).length then ndsL o n v ++ [v] else ndsL o n v
theorem ownL_len (o : Nat → Nat) (k v : Nat) : (ownL o k v).length ≤ k := by
  induction k with
  | zero => simp [ownL]
  | succ k ih =>
    simp only [ownL]
    split
    · simp; omega
    · omega
theorem plcL_len (o : Nat → Nat) (k : Nat) : (plcL o k).length = k := by
  induction k with
  | zero => rfl
  | succ k ih => simp [plcL, ih]
theorem ndsL_len (o : Nat → Nat) (n v : Nat) : (ndsL o n v).length ≤ v := by
  induction v with
  | zero => simp [ndsL]
  | succ v ih =>
    simp only [ndsL]
    split
    · simp; omega
    · omega
theorem ownL_same (o : Nat → Nat) (k : Nat) : ownL o (k + 1) (o k) = ownL o k (o k) ++ [k] := by simp [ownL]
theorem ownL_other (o : Nat → Nat) (k v : Nat) (h : o k ≠ v) : ownL o (k + 1) v = ownL o k v := by simp [ownL, h]
/-- The map of a grid: each owner is a node. -/
def OkO (n : Nat) (K : Nat → Int) : Prop := ∀ i, i < n → 0 ≤ K i ∧ K i < 8
/-- Each population is the number of its cell. -/
def idG : Nat → Nat → Int := fun i _ => (i : Int)
theorem idG_wt (n : Nat) : wt idG n = 2 * ((n : Int) * ((n : Int) - 1)) := by
  induction n with
  | zero => rfl
  | succ n ih =>
    show wt idG n + (idG n 0 + idG n 1 + idG n 2 + idG n 3) = _
    rw [ih]
    simp only [idG]
    have : ((n + 1 : Nat) : Int) = (n : Int) + 1 := by omega
    rw [this]
    have e1 : ((n : Int) + 1) * ((n : Int) + 1 - 1) = (n : Int) * ((n : Int) - 1) + 2 * (n : Int) := by
      rw [show (n : Int) + 1 - 1 = (n : Int) by omega, Int.add_mul, Int.mul_sub]
      omega
    rw [e1]
    omega
theorem idG_ok {n : Nat} (hn : n ≤ 1024) : OkG n idG := by
  refine okG_of (fun i hi => ⟨by simp [idG], by simp [idG], by simp [idG], by simp [idG]⟩) ?_
  rw [idG_wt]
  have h1 : (n : Int) * ((n : Int) - 1) ≤ 1024 * 1024 := by
    rcases Nat.eq_zero_or_pos n with h0 | hp
    · subst h0; decide
    · exact Int.le_trans (Int.mul_le_mul_of_nonneg_right (by omega) (by omega)) (Int.mul_le_mul_of_nonneg_left (by omega) (by omega))
  omega
end Go.Proofs.Ytmkhbkkhoemkoaa
