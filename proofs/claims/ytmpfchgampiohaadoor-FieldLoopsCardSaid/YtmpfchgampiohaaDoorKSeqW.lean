/- How many cells each body has, and whether one has any: by the program. -/
import Derived.Test.YtmpfchgampiohaaDoorKTunS
import Derived.Maps.OwnOps
import Derived.Maps.Views
import Derived.Test.YtmpfchgampiohaaDoorKRules
namespace Go.Proofs.YtmpfchgampiohaaDoor
set_option linter.unusedSimpArgs false
set_option linter.unusedVariables false
open Go.RowKit Go.Maps

/-- How many of the first k cells are of a body. -/
def cntB (B : Nat → Int) (b : Int) : Nat → Nat
  | 0 => 0
  | k + 1 => cntB B b k + if B k = b then 1 else 0
theorem cntB_le (B : Nat → Int) (b : Int) (k : Nat) : cntB B b k ≤ k := by
  induction k with
  | zero => exact Nat.le_refl _
  | succ k ih => simp only [cntB]; split <;> omega
/-- What the map holds after k cells. -/
def CntD (D : DataW Unit) (k : Nat) (B : Nat → Int) : Prop := Tidy D ∧ (∀ b : Int, b ≠ 0 → D.atKey (.int .i64 b) (.lit (.int .i64 0)) = .lit (.int .i64 (cntB B b k))) ∧ (∀ b : Int, Maps.has D (.int .i64 b) = decide (b ≠ 0 ∧ 0 < cntB B b k))
theorem cntD_zero (B : Nat → Int) : CntD (.map []) 0 B := ⟨tidy_empty, fun b _ => rfl, fun b => by simp [cntB, Maps.has]⟩
theorem cntD_skip {D : DataW Unit} {k : Nat} {B : Nat → Int} (h : CntD D k B) (h0 : B k = 0) : CntD D (k + 1) B := by
  refine ⟨h.1, fun b hb => ?_, fun b => ?_⟩
  · have e : cntB B b (k + 1) = cntB B b k := by simp only [cntB]; rw [if_neg (by omega)]; rfl
    rw [e]
    exact h.2.1 b hb
  · rw [h.2.2 b]
    by_cases hb : b = 0
    · simp [hb]
    · have e : cntB B b (k + 1) = cntB B b k := by simp only [cntB]; rw [if_neg (by omega)]; rfl
      rw [e]
theorem cntD_step {D : DataW Unit} {k : Nat} {B : Nat → Int} (h : CntD D k B) (h0 : B k ≠ 0) {c : Int} (hat : D.atKey (.int .i64 (B k)) (.lit (.int .i64 0)) = .lit (.int .i64 c)) {z : Int} (hz : z = c + 1) : CntD (D.put (.int .i64 (B k)) (.lit (.int .i64 z))) (k + 1) B := by
  have hc : c = cntB B (B k) k := by
    have := (h.2.1 (B k) h0).symm.trans hat
    simp at this
    exact this.symm
  have hk : WideAt.IsKeyLit (.int .i64 (B k)) := trivial
  refine ⟨h.1.put hk _, fun b hb => ?_, fun b => ?_⟩
  · by_cases e : b = B k
    · subst e
      rw [atKey_put_same h.1.isMap hk]
      simp [cntB, hz, hc]
    · rw [atKey_put_other (by simpa using e), h.2.1 b hb]
      have e2 : cntB B b (k + 1) = cntB B b k := by simp only [cntB]; rw [if_neg (fun x => e x.symm)]; rfl
      rw [e2]
  · by_cases e : b = B k
    · subst e
      rw [has_put_same h.1.isMap hk]
      simp [cntB, h0]
    · rw [has_put_other (by simpa using e), h.2.2 b]
      have e2 : cntB B b (k + 1) = cntB B b k := by simp only [cntB]; rw [if_neg (fun x => e x.symm)]; rfl
      rw [e2]

theorem lawI : Keyed Tryd.prog 3 := int_keyed Tryd.underlying3
theorem zeroI (w : World) : (zeroValue 3).run Tryd.prog w = .ok (.int .i64 0) w := by kernel_rfl

end Go.Proofs.YtmpfchgampiohaaDoor

/- The cells of a body, one after another: by the program. -/


namespace Go.Proofs.YtmpfchgampiohaaDoor
set_option linter.unusedSimpArgs false
set_option linter.unusedVariables false
open Go.RowKit Go.Shelf
attribute [local go_sem] Oper.semAt_some

/-- The cells of a body below k. -/
def ownN (B : Nat → Int) (b : Int) : Nat → List Nat
  | 0 => []
  | k + 1 => if B k = b then ownN B b k ++ [k] else ownN B b k
theorem ownN_pre (B : Nat → Int) (b : Int) {i j : Nat} (h : i ≤ j) : ownN B b i <+: ownN B b j := by
  induction j with
  | zero =>
    obtain rfl : i = 0 := by omega
    exact List.prefix_refl _
  | succ j ih =>
    by_cases e : i = j + 1
    · subst e; exact List.prefix_refl _
    · simp only [ownN]
      split
      · exact (ih (by omega)).trans (List.prefix_append _ _)
      · exact ih (by omega)
theorem ownN_mem {B : Nat → Int} {b : Int} {k i : Nat} (h : i ∈ ownN B b k) : i < k ∧ B i = b := by
  induction k with
  | zero => simp [ownN] at h
  | succ k ih =>
    simp only [ownN] at h
    split at h
    · rcases List.mem_append.1 h with h | h
      · have := ih h
        exact ⟨by omega, this.2⟩
      · obtain rfl := List.mem_singleton.1 h
        exact ⟨by omega, by assumption⟩
    · have := ih h
      exact ⟨by omega, this.2⟩
theorem ownN_len (B : Nat → Int) (b : Int) (k : Nat) : (ownN B b k).length = cntB B b k := by
  induction k with
  | zero => rfl
  | succ k ih =>
    simp only [ownN, cntB]
    split <;> simp [ih]

/-- A cell of a grid, by its number. -/
abbrev CelW (N : Nat) := {i : Nat // i < N}
end Go.Proofs.YtmpfchgampiohaaDoor
