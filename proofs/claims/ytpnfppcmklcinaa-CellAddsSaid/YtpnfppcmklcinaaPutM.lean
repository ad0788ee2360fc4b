/- One population is changed; two grids are added: the plain arithmetic. -/
import Derived.Test.YtpnfppcmklcinaaGMath
namespace Go.Proofs.Ytpnfppcmklcinaa
set_option linter.unusedSimpArgs false
set_option linter.unusedVariables false

theorem sm_at (n : Nat) (f g : Nat → Int) (i : Nat) (hi : i < n) (h : ∀ j, j < n → j ≠ i → g j = f j) : sm n g = sm n f + (g i - f i) := by
  have e : sm n g = sm n (fun j => f j + (if j = i then g i - f i else 0)) := by
    apply sm_congr
    intro j hj
    by_cases e : j = i
    · subst e; rw [if_pos rfl]; omega
    · rw [if_neg e, h j hj e]; omega
  rw [e, sm_add, sm_single n i _ hi]
theorem wt_at {G K : Nat → Nat → Int} {n i d : Nat} (hi : i < n) (hd : d < 4) (h : ∀ j, j < n → ∀ e, e < 4 → ¬ (j = i ∧ e = d) → K j e = G j e) : wt K n = wt G n + (K i d - G i d) := by
  rw [wt_sm, wt_sm]
  have q : ∀ e, e < 4 → sm n (fun j => K j e) = sm n (fun j => G j e) + (if e = d then K i d - G i d else 0) := by
    intro e he
    by_cases ed : e = d
    · subst ed
      rw [if_pos rfl]
      exact sm_at n (fun j => G j e) (fun j => K j e) i hi (fun j hj hne => h j hj e he (fun x => hne x.1))
    · rw [if_neg ed, Int.add_zero]
      exact sm_congr n _ _ (fun j hj => h j hj e he (fun x => ed x.2))
  rw [q 0 (by omega), q 1 (by omega), q 2 (by omega), q 3 (by omega)]
  match d, hd with
  | 0, _ => simp; omega
  | 1, _ => simp; omega
  | 2, _ => simp; omega
  | 3, _ => simp; omega
/-- A grid with one population changed is fine if that is not below 0 and the whole not too much. -/
theorem okG_at {G K : Nat → Nat → Int} {n i d : Nat} (hG : OkG n G) (hi : i < n) (hd : d < 4) (h : ∀ j, j < n → ∀ e, e < 4 → ¬ (j = i ∧ e = d) → K j e = G j e) (h0 : 0 ≤ K i d) (h1 : wt G n + (K i d - G i d) ≤ 1000000000) : OkG n K := by
  have p : ∀ j, j < n → ∀ e, e < 4 → 0 ≤ K j e := fun j hj e he => by
    by_cases q : j = i ∧ e = d
    · rw [q.1, q.2]; exact h0
    · rw [h j hj e he q]; exact hG.pos j hj e he
  exact okG_of (fun j hj => ⟨p j hj 0 (by omega), p j hj 1 (by omega), p j hj 2 (by omega), p j hj 3 (by omega)⟩) (by rw [wt_at hi hd h]; exact h1)
theorem pop_le {G : Nat → Nat → Int} {n : Nat} (hG : OkG n G) {i d : Nat} (hi : i < n) (hd : d < 4) : 0 ≤ G i d ∧ G i d ≤ wt G n := by
  obtain ⟨a, b, c, e, _⟩ := hG.1 i hi
  have := part_le G (fun j hj => ⟨hG.pos j hj 0 (by omega), hG.pos j hj 1 (by omega), hG.pos j hj 2 (by omega), hG.pos j hj 3 (by omega)⟩) i hi
  match d, hd with
  | 0, _ => omega
  | 1, _ => omega
  | 2, _ => omega
  | 3, _ => omega

/-- Two grids added. -/
def adG (A B : Nat → Nat → Int) : Nat → Nat → Int := fun i d => A i d + B i d
theorem wt_ad (A B : Nat → Nat → Int) (n : Nat) : wt (adG A B) n = wt A n + wt B n := by
  induction n with
  | zero => rfl
  | succ k ih =>
    simp only [wt, ih]
    unfold adG
    omega
theorem ad_pos {A B : Nat → Nat → Int} {n : Nat} (hA : OkG n A) (hB : OkG n B) (i : Nat) (hi : i < n) : 0 ≤ adG A B i 0 ∧ 0 ≤ adG A B i 1 ∧ 0 ≤ adG A B i 2 ∧ 0 ≤ adG A B i 3 := by
  obtain ⟨a0, a1, a2, a3, _⟩ := hA.1 i hi
  obtain ⟨b0, b1, b2, b3, _⟩ := hB.1 i hi
  unfold adG
  omega
theorem ad_ok {A B : Nat → Nat → Int} {n : Nat} (hA : OkG n A) (hB : OkG n B) : OkG n (adG A B) ↔ wt A n + wt B n ≤ 1000000000 := by
  rw [← wt_ad]
  exact ⟨fun h => h.2, fun h => okG_of (ad_pos hA hB) h⟩
theorem ad_over {A B : Nat → Nat → Int} {n i : Nat} (hA : OkG n A) (hB : OkG n B) (hi : i < n) (h : ¬ Ok4 (adG A B i 0) (adG A B i 1) (adG A B i 2) (adG A B i 3)) : ¬ OkG n (adG A B) := fun k => h (k.1 i hi)

/-- Weighing cells that may be twice too heavy. -/
theorem wt_bd2 {G : Nat → Nat → Int} {n : Nat} (h : ∀ i, i < n → 0 ≤ G i 0 ∧ G i 0 ≤ 2000000000 ∧ 0 ≤ G i 1 ∧ G i 1 ≤ 2000000000 ∧ 0 ≤ G i 2 ∧ G i 2 ≤ 2000000000 ∧ 0 ≤ G i 3 ∧ G i 3 ≤ 2000000000) (k : Nat) (hk : k ≤ n) : 0 ≤ wt G k ∧ wt G k ≤ 8000000000 * k := by
  induction k with
  | zero => exact ⟨Int.le_refl _, by simp [wt]⟩
  | succ j ih =>
    obtain ⟨_, _⟩ := ih (by omega)
    obtain ⟨_, _, _, _, _, _, _, _⟩ := h j (by omega)
    simp only [wt]
    omega
end Go.Proofs.Ytpnfppcmklcinaa
