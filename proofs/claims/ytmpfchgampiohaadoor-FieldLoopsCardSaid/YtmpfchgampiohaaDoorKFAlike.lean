/- Cells that are all alike: no circulation. -/
import Derived.Test.YtmpfchgampiohaaDoorKFJoin
namespace Go.Proofs.YtmpfchgampiohaaDoor
set_option linter.unusedSimpArgs false
set_option linter.unusedVariables false
open Go.RowKit Go.Shelf

/-- A grid whose cells are all alike. -/
def cst (d0 d1 d2 d3 : Int) (_ d : Nat) : Int := if d = 0 then d0 else if d = 1 then d1 else if d = 2 then d2 else d3
theorem sumT_const {tv : Nat → Int} {v : Int} (h : ∀ q, tv q = v) (L : List Nat) : sumT tv L = (L.length : Int) * v := by
  induction L with
  | nil => simp [sumT]
  | cons q L ih =>
    simp only [sumT, ih, h q, List.length_cons]
    push_cast
    rw [Int.add_mul]
    omega
theorem blS_const {tv : Nat → Int} {v : Int} (h : ∀ q, tv q = v) (W ax ay bx yb : Nat) : blS tv W ax ay bx yb = (((yb + 1 - ay) * (bx + 1 - ax) : Nat) : Int) * v := by
  unfold blS
  rw [sumT_const h, recN_len]
theorem cirS_const (d0 d1 d2 d3 : Int) (W ax ay bx yb : Nat) : cirS (cst d0 d1 d2 d3) W ax ay bx yb = 0 := by
  have e : ∀ q, eaC (cst d0 d1 d2 d3) q = d0 - d2 := fun q => by simp [eaC, cst]
  have m : ∀ q, noC (cst d0 d1 d2 d3) q = d1 - d3 := fun q => by simp [noC, cst]
  unfold cirS
  rw [blS_const e, blS_const e, blS_const m, blS_const m, show ay + 1 - ay = 1 by omega, show yb + 1 - yb = 1 by omega, show bx + 1 - bx = 1 by omega, show ax + 1 - ax = 1 by omega]
  omega
theorem wt_const (d0 d1 d2 d3 : Int) (n : Nat) : wt (cst d0 d1 d2 d3) n = (n : Int) * (d0 + d1 + d2 + d3) := by
  induction n with
  | zero => simp [wt]
  | succ n ih =>
    simp only [wt, ih]
    push_cast
    rw [Int.add_mul]
    simp [cst]
theorem okG_const {d0 d1 d2 d3 : Int} (h0 : 0 ≤ d0 ∧ d0 < 1000) (h1 : 0 ≤ d1 ∧ d1 < 1000) (h2 : 0 ≤ d2 ∧ d2 < 1000) (h3 : 0 ≤ d3 ∧ d3 < 1000) {n : Nat} (hn : n ≤ 1024) : OkG n (cst d0 d1 d2 d3) := by
  refine ⟨fun i _ => ?_, ?_⟩
  · simp only [cst]
    unfold Ok4
    simp
    omega
  · rw [wt_const]
    have h : (n : Int) * (d0 + d1 + d2 + d3) ≤ (n : Int) * 4000 := Int.mul_le_mul_of_nonneg_left (by omega) (by omega)
    omega
end Go.Proofs.YtmpfchgampiohaaDoor
