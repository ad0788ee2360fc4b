/- Shapes on a grid: the mathematics of discs, smooth discs, boxes, slopes. -/
import Derived.Test.YtglkikdjchpmjaaDoorKRefShapes
import Derived.Test.YtglkikdjchpmjaaDoorKWMir
namespace Go.Proofs.YtglkikdjchpmjaaDoor
set_option linter.unusedSimpArgs false
set_option linter.unusedVariables false
open Go.RowKit

/-- A place in a disc. -/
def inD (px py q x y : Int) : Bool := decide ((x - px) * (x - px) + (y - py) * (y - py) ≤ q)
/-- A place in a box. -/
def inB (ax ay bx yb x y : Int) : Bool := decide ((min ax bx ≤ x ∧ x ≤ max ax bx) ∧ min ay yb ≤ y ∧ y ≤ max ay yb)
/-- A place on a slope. -/
def inL (fx fy n rise x y : Int) : Bool := decide ((0 ≤ x - fx ∧ x - fx < n) ∧ y = fy + rise * (x - fx))
/-- A place that is not one of the grid's in the shape. -/
def misS (W H : Int) (f : Int → Int → Bool) (x y : Int) : Bool := !(decide (OnG W H x y)) || !(f x y)
/-- The kind of a cell of a smooth shape. -/
def smoK (W H : Int) (f : Int → Int → Bool) (x y : Int) : Int :=
  if misS W H f (x + 1) y = misS W H f (x - 1) y ∨ misS W H f x (y + 1) = misS W H f x (y - 1) then 1 else if misS W H f (x - 1) y = misS W H f x (y + 1) then 2 else 3
/-- The kinds of a shape on the cells. -/
def shpS (W : Nat) (f : Int → Int → Bool) (kd : Int → Int → Int) (i : Nat) : Int := if f ((i % W : Nat) : Int) ((i / W : Nat) : Int) = true then kd ((i % W : Nat) : Int) ((i / W : Nat) : Int) else 0
theorem smoK_rng (W H : Int) (f : Int → Int → Bool) (x y : Int) : 1 ≤ smoK W H f x y ∧ smoK W H f x y ≤ 3 := by
  unfold smoK
  split
  · omega
  · split <;> omega
theorem shpS_ne {W : Nat} {f : Int → Int → Bool} {kd : Int → Int → Int} (h : ∀ x y, kd x y ≠ 0) (i : Nat) : shpS W f kd i ≠ 0 ↔ f ((i % W : Nat) : Int) ((i / W : Nat) : Int) = true := by
  unfold shpS
  split
  case isTrue h1 => exact ⟨fun _ => h1, fun _ => h _ _⟩
  case isFalse h1 => exact ⟨fun h2 => absurd rfl h2, fun h2 => absurd h2 h1⟩
theorem inD_mono {px py q q' x y : Int} (h : q ≤ q') (hd : inD px py q x y = true) : inD px py q' x y = true := by
  unfold inD at *
  simp only [decide_eq_true_eq] at *
  omega
theorem inD_flip (W px py q x y : Int) (h : 2 * px + 1 = W) : inD px py q (W - 1 - x) y = inD px py q x y := by
  unfold inD
  have e : W - 1 - x - px = -(x - px) := by omega
  rw [e, Int.neg_mul_neg]
theorem misS_flip (W H : Int) (f : Int → Int → Bool) (hf : ∀ x y, f (W - 1 - x) y = f x y) (x y : Int) : misS W H f (W - 1 - x) y = misS W H f x y := by
  unfold misS
  rw [hf]
  have e : OnG W H (W - 1 - x) y ↔ OnG W H x y := by unfold OnG; omega
  rw [decide_eq_decide.2 e]
theorem smoK_flip (W H : Int) (f : Int → Int → Bool) (hf : ∀ x y, f (W - 1 - x) y = f x y) (x y : Int) : smoK W H f (W - 1 - x) y = flipK (smoK W H f x y) := by
  unfold smoK
  rw [show W - 1 - x + 1 = W - 1 - (x - 1) from by omega, show W - 1 - x - 1 = W - 1 - (x + 1) from by omega]
  simp only [misS_flip W H f hf]
  cases misS W H f (x + 1) y <;> cases misS W H f (x - 1) y <;> cases misS W H f x (y + 1) <;> cases misS W H f x (y - 1) <;> rfl
theorem shpS_flip {W H i : Nat} {f : Int → Int → Bool} {kd : Int → Int → Int} (hf : ∀ x y, f ((W : Int) - 1 - x) y = f x y) (hk : ∀ x y, kd ((W : Int) - 1 - x) y = flipK (kd x y)) (h : i < W * H) : flipK (shpS W f kd (mip W i)) = shpS W f kd i := by
  obtain ⟨_, e1, e2⟩ := mip_parts h
  have hW : 0 < W := by
    rcases Nat.eq_zero_or_pos W with h0 | h0
    · subst h0; omega
    · exact h0
  have hm := Nat.mod_lt i hW
  unfold shpS
  rw [e1, e2, show ((W - 1 - i % W : Nat) : Int) = (W : Int) - 1 - ((i % W : Nat) : Int) from by omega, hf, hk]
  split
  · generalize kd _ _ = k
    unfold flipK
    by_cases h2 : k = 2
    · subst h2; rfl
    · by_cases h3 : k = 3
      · subst h3; rfl
      · simp [h2, h3]
  · rfl
/-- A shape put into an open wall. -/
theorem put_open (S : Nat → Int) (n i : Nat) (hi : i < n) : putK S (fun _ => 0) n i = S i := by
  unfold putK
  by_cases h : S i = 0
  · simp [h]
  · simp [h, hi]
theorem put_openB (S : Nat → Int) (b : Int) (n i : Nat) (hi : i < n) : putB S (fun _ => 0) b n i = if S i ≠ 0 then b else 0 := by
  unfold putB
  simp [hi]
theorem flipK_zero {k : Int} : flipK k = 0 ↔ k = 0 := by
  unfold flipK
  split
  · omega
  · split <;> omega
/-- A shape about the middle is its own mirror image. -/
theorem put_flip {W H n : Nat} {f : Int → Int → Bool} {kd : Int → Int → Int} (b : Int) (hn : n = W * H) (hf : ∀ x y, f ((W : Int) - 1 - x) y = f x y) (hk : ∀ x y, kd ((W : Int) - 1 - x) y = flipK (kd x y)) :
    (∀ i, i < n → miK W (putK (shpS W f kd) (fun _ => 0) n) i = putK (shpS W f kd) (fun _ => 0) n i) ∧ (∀ i, i < n → miB W (putB (shpS W f kd) (fun _ => 0) b n) i = putB (shpS W f kd) (fun _ => 0) b n i) := by
  subst hn
  refine ⟨fun i hi => ?_, fun i hi => ?_⟩
  · have hj := (mip_parts hi).1
    show flipK (putK _ _ _ (mip W i)) = _
    rw [put_open _ _ _ hj, put_open _ _ _ hi, shpS_flip hf hk hi]
  · have hj := (mip_parts hi).1
    show putB _ _ _ _ (mip W i) = _
    rw [put_openB _ _ _ _ hj, put_openB _ _ _ _ hi]
    have e := shpS_flip (H := H) hf hk hi
    by_cases h : shpS W f kd i = 0
    · rw [h] at e
      rw [h, flipK_zero.1 e]
    · have h2 : shpS W f kd (mip W i) ≠ 0 := fun h0 => by rw [h0] at e; exact h e.symm
      rw [if_pos h, if_pos h2]
theorem free_open (S : Nat → Int) (b : Int) (n : Nat) : freeS S (fun _ => 0) b n := fun _ _ _ => .inl rfl
end Go.Proofs.YtglkikdjchpmjaaDoor
