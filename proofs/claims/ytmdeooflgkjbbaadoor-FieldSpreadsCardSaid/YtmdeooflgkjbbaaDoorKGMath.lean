/- Grids: sums of cells, places of neighbours, streams and collisions of all cells: the plain arithmetic. -/
import Derived.Test.YtmdeooflgkjbbaaDoorKMath
namespace Go.Proofs.YtmdeooflgkjbbaaDoor
set_option linter.unusedSimpArgs false
set_option linter.unusedVariables false

/-- The sum of f below n. -/
def sm : Nat → (Nat → Int) → Int
  | 0, _ => 0
  | k + 1, f => sm k f + f k

theorem sm_add (n : Nat) (f g : Nat → Int) : sm n (fun i => f i + g i) = sm n f + sm n g := by
  induction n with
  | zero => rfl
  | succ k ih => simp only [sm, ih]; omega
theorem sm_congr (n : Nat) (f g : Nat → Int) (h : ∀ i, i < n → f i = g i) : sm n f = sm n g := by
  induction n with
  | zero => rfl
  | succ k ih => simp only [sm]; rw [ih (fun i hi => h i (by omega)), h k (by omega)]
theorem sm_zero (n : Nat) : sm n (fun _ => 0) = 0 := by
  induction n with
  | zero => rfl
  | succ k ih => simp only [sm, ih]; rfl
theorem sm_comm (n m : Nat) (g : Nat → Nat → Int) : sm n (fun i => sm m (fun j => g i j)) = sm m (fun j => sm n (fun i => g i j)) := by
  induction n with
  | zero => simp only [sm]; rw [sm_zero]
  | succ k ih => simp only [sm]; rw [ih, ← sm_add]
theorem sm_none (n j : Nat) (c : Int) (h : n ≤ j) : sm n (fun i => if i = j then c else 0) = 0 := by
  rw [sm_congr n _ (fun _ => 0) (fun i hi => if_neg (by omega)), sm_zero]
theorem sm_single (n j : Nat) (c : Int) (h : j < n) : sm n (fun i => if i = j then c else 0) = c := by
  induction n with
  | zero => omega
  | succ k ih =>
    simp only [sm]
    by_cases e : j = k
    · subst e
      rw [sm_none j j c (Nat.le_refl _), if_pos rfl]; omega
    · rw [ih (by omega), if_neg (by omega)]; omega
/-- A sum in another order. -/
theorem sm_perm (n : Nat) (f : Nat → Int) (s t : Nat → Nat) (hs : ∀ i, i < n → s i < n ∧ t (s i) = i) (ht : ∀ i, i < n → t i < n ∧ s (t i) = i) : sm n (fun i => f (s i)) = sm n f := by
  have e1 : sm n (fun i => f (s i)) = sm n (fun i => sm n (fun j => if j = s i then f j else 0)) := by
    apply sm_congr
    intro i hi
    rw [show (fun j => if j = s i then f j else 0) = (fun j => if j = s i then f (s i) else 0) from by funext j; split <;> simp_all]
    exact (sm_single n (s i) _ (hs i hi).1).symm
  rw [e1, sm_comm]
  apply sm_congr
  intro j hj
  rw [sm_congr n _ (fun i => if i = t j then f j else 0) (fun i hi => by
    by_cases e : j = s i
    · rw [if_pos e, if_pos (by rw [e]; exact ((hs i hi).2).symm)]
    · rw [if_neg e, if_neg (by intro h; apply e; rw [h]; exact ((ht j hj).2).symm)])]
  exact sm_single n (t j) _ (ht j hj).1

/-- The mass of the first k cells. -/
def wt (G : Nat → Nat → Int) : Nat → Int
  | 0 => 0
  | k + 1 => wt G k + (G k 0 + G k 1 + G k 2 + G k 3)
/-- The momentum of the first k cells. -/
def imE (G : Nat → Nat → Int) : Nat → Int
  | 0 => 0
  | k + 1 => imE G k + (G k 0 - G k 2)
def imN (G : Nat → Nat → Int) : Nat → Int
  | 0 => 0
  | k + 1 => imN G k + (G k 1 - G k 3)
theorem wt_sm (G : Nat → Nat → Int) (n : Nat) : wt G n = sm n (fun i => G i 0) + sm n (fun i => G i 1) + sm n (fun i => G i 2) + sm n (fun i => G i 3) := by
  induction n with
  | zero => rfl
  | succ k ih => simp only [wt, sm, ih]; omega
theorem imE_sm (G : Nat → Nat → Int) (n : Nat) : imE G n = sm n (fun i => G i 0) - sm n (fun i => G i 2) := by
  induction n with
  | zero => rfl
  | succ k ih => simp only [imE, sm, ih]; omega
theorem imN_sm (G : Nat → Nat → Int) (n : Nat) : imN G n = sm n (fun i => G i 1) - sm n (fun i => G i 3) := by
  induction n with
  | zero => rfl
  | succ k ih => simp only [imN, sm, ih]; omega

/-- No population below 0, and not too many together. -/
def OkG (n : Nat) (G : Nat → Nat → Int) : Prop := (∀ i, i < n → Ok4 (G i 0) (G i 1) (G i 2) (G i 3)) ∧ wt G n ≤ 1000000000
def Sd (W H : Int) : Prop := 1 ≤ W ∧ W ≤ 64 ∧ 1 ≤ H ∧ H ≤ 64 ∧ W * H ≤ 1024
def VG (W H : Int) (n : Nat) (G : Nat → Nat → Int) : Prop := Sd W H ∧ (n : Int) = W * H ∧ OkG n G

theorem wt_le {G : Nat → Nat → Int} {n : Nat} (h : ∀ i, i < n → Ok4 (G i 0) (G i 1) (G i 2) (G i 3)) (k : Nat) (hk : k ≤ n) : 0 ≤ wt G k ∧ wt G k ≤ wt G n := by
  induction n with
  | zero =>
    have : k = 0 := by omega
    subst this
    exact ⟨Int.le_refl _, Int.le_refl _⟩
  | succ m ih =>
    have hm := h m (by omega)
    obtain ⟨_, _, _, _, _⟩ := hm
    by_cases e : k = m + 1
    · subst e
      have := ih (fun i hi => h i (by omega))
      by_cases e0 : m = 0
      · subst e0
        refine ⟨?_, Int.le_refl _⟩
        simp only [wt]; omega
      · have q : 0 ≤ wt G m := by
          clear this ih
          have : ∀ j, j ≤ m → 0 ≤ wt G j := by
            intro j
            induction j with
            | zero => intro _; exact Int.le_refl _
            | succ j ihj =>
              intro hj
              have := ihj (by omega)
              obtain ⟨_, _, _, _, _⟩ := h j (by omega)
              simp only [wt]; omega
          exact this m (Nat.le_refl _)
        refine ⟨?_, Int.le_refl _⟩
        simp only [wt]; omega
    · have := ih (fun i hi => h i (by omega)) (by omega)
      refine ⟨this.1, ?_⟩
      simp only [wt]
      omega
theorem wt_bd {G : Nat → Nat → Int} {n : Nat} (h : ∀ i, i < n → Ok4 (G i 0) (G i 1) (G i 2) (G i 3)) (k : Nat) (hk : k ≤ n) : 0 ≤ wt G k ∧ wt G k ≤ 1000000000 * k := by
  induction k with
  | zero => exact ⟨Int.le_refl _, by simp [wt]⟩
  | succ j ih =>
    obtain ⟨_, _⟩ := ih (by omega)
    obtain ⟨_, _, _, _, _⟩ := h j (by omega)
    simp only [wt]
    omega
theorem im_bd {G : Nat → Nat → Int} {n : Nat} (h : ∀ i, i < n → Ok4 (G i 0) (G i 1) (G i 2) (G i 3)) (k : Nat) (hk : k ≤ n) : -(1000000000 * (k : Int)) ≤ imE G k ∧ imE G k ≤ 1000000000 * k ∧ -(1000000000 * (k : Int)) ≤ imN G k ∧ imN G k ≤ 1000000000 * k := by
  induction k with
  | zero => simp [imE, imN]
  | succ j ih =>
    obtain ⟨_, _⟩ := ih (by omega)
    obtain ⟨_, _, _, _, _⟩ := h j (by omega)
    simp only [imE, imN]
    omega

/-- How far one goes in a direction. -/
def dx (d : Nat) : Int := if d = 0 then 1 else if d = 2 then -1 else 0
def dy (d : Nat) : Int := if d = 1 then 1 else if d = 3 then -1 else 0

/-- The cell that is one place from the cell i in direction d, or opposite to it. -/
def nb (W H : Nat) (way : Int) (i d : Nat) : Nat := ((((i % W : Nat) : Int) + way * dx d) % (W : Int) + (W : Int) * ((((i / W : Nat) : Int) + way * dy d) % (H : Int))).toNat

theorem nb_parts (W H : Nat) (way : Int) (i d : Nat) (hW : 0 < W) (hH : 0 < H) :
    nb W H way i d < W * H ∧ ((nb W H way i d % W : Nat) : Int) = (((i % W : Nat) : Int) + way * dx d) % (W : Int) ∧ ((nb W H way i d / W : Nat) : Int) = (((i / W : Nat) : Int) + way * dy d) % (H : Int) := by
  have p0 := Int.emod_nonneg (((i % W : Nat) : Int) + way * dx d) (show (W : Int) ≠ 0 by omega)
  have p1 := Int.emod_lt_of_pos (((i % W : Nat) : Int) + way * dx d) (show (0 : Int) < W by omega)
  have q0 := Int.emod_nonneg (((i / W : Nat) : Int) + way * dy d) (show (H : Int) ≠ 0 by omega)
  have q1 := Int.emod_lt_of_pos (((i / W : Nat) : Int) + way * dy d) (show (0 : Int) < H by omega)
  unfold nb
  generalize (((i % W : Nat) : Int) + way * dx d) % (W : Int) = p at *
  generalize (((i / W : Nat) : Int) + way * dy d) % (H : Int) = q at *
  obtain ⟨p, rfl⟩ := Int.eq_ofNat_of_zero_le p0
  obtain ⟨q, rfl⟩ := Int.eq_ofNat_of_zero_le q0
  have e : ((p : Int) + (W : Int) * (q : Int)).toNat = p + W * q := by
    rw [← Int.natCast_mul, ← Int.natCast_add, Int.toNat_natCast]
  rw [e]
  have hp : p < W := by omega
  have hq : q < H := by omega
  refine ⟨?_, ?_, ?_⟩
  · calc p + W * q < W + W * q := by omega
      _ = W * (q + 1) := by rw [Nat.mul_add, Nat.mul_one, Nat.add_comm]
      _ ≤ W * H := Nat.mul_le_mul_left _ hq
  · rw [Nat.add_mul_mod_self_left, Nat.mod_eq_of_lt hp]
  · rw [Nat.add_mul_div_left _ _ hW, Nat.div_eq_of_lt hp, Nat.zero_add]

theorem mod_back (x t W : Int) (h0 : 0 ≤ x) (h1 : x < W) (s : Int) (hs : s = -t) : ((x + t) % W + s) % W = x := by
  subst hs
  rw [Int.emod_add_emod, Int.add_neg_cancel_right]
  exact Int.emod_eq_of_lt h0 h1

theorem nb_back (W H : Nat) (way : Int) (i d : Nat) (hi : i < W * H) : nb W H (-way) (nb W H way i d) d = i := by
  have hW : 0 < W := by
    rcases Nat.eq_zero_or_pos W with h | h
    · subst h; simp at hi
    · exact h
  have hH : 0 < H := by
    rcases Nat.eq_zero_or_pos H with h | h
    · subst h; simp at hi
    · exact h
  obtain ⟨_, e1, e2⟩ := nb_parts W H way i d hW hH
  have hx : i % W < W := Nat.mod_lt _ hW
  have hy : i / W < H := by
    rw [Nat.div_lt_iff_lt_mul hW, Nat.mul_comm]; exact hi
  rw [show nb W H (-way) (nb W H way i d) d = ((((nb W H way i d % W : Nat) : Int) + -way * dx d) % (W : Int) + (W : Int) * ((((nb W H way i d / W : Nat) : Int) + -way * dy d) % (H : Int))).toNat from rfl, e1, e2]
  rw [mod_back _ _ _ (Int.natCast_nonneg _) (Int.ofNat_lt.2 hx) _ (Int.neg_mul _ _), mod_back _ _ _ (Int.natCast_nonneg _) (Int.ofNat_lt.2 hy) _ (Int.neg_mul _ _)]
  rw [← Int.natCast_mul, ← Int.natCast_add, Int.toNat_natCast]
  exact Nat.mod_add_div i W

theorem sides_pos {W H n i : Nat} (hn : n = W * H) (hi : i < n) : 0 < W ∧ 0 < H := by
  subst hn
  constructor
  · rcases Nat.eq_zero_or_pos W with h | h
    · subst h; simp at hi
    · exact h
  · rcases Nat.eq_zero_or_pos H with h | h
    · subst h; simp at hi
    · exact h

/-- All particles moved one place. -/
def pull (W H : Nat) (way : Int) (G : Nat → Nat → Int) : Nat → Nat → Int := fun i d => G (nb W H (-way) i d) d
/-- Where every population was moved to. -/
theorem pull_at {W H n : Nat} {way : Int} {G : Nat → Nat → Int} (hn : n = W * H) {i : Nat} (hi : i < n) (d : Nat) : pull W H way G (nb W H way i d) d = G i d := by
  subst hn
  unfold pull
  rw [nb_back W H way i d hi]

theorem nb_lt {W H n : Nat} {way : Int} (hn : n = W * H) {i : Nat} (hi : i < n) (d : Nat) : nb W H way i d < n := by
  obtain ⟨a, b⟩ := sides_pos hn hi
  subst hn
  exact (nb_parts W H way i d a b).1

theorem sm_pull {W H n : Nat} {way : Int} (G : Nat → Nat → Int) (hn : n = W * H) (d : Nat) : sm n (fun i => pull W H way G i d) = sm n (fun i => G i d) := by
  refine sm_perm n (fun i => G i d) (fun i => nb W H (-way) i d) (fun i => nb W H way i d) (fun i hi => ⟨nb_lt hn hi d, ?_⟩) (fun i hi => ⟨nb_lt hn hi d, ?_⟩)
  · have := nb_back W H (-way) i d (hn ▸ hi)
    rwa [Int.neg_neg] at this
  · exact nb_back W H way i d (hn ▸ hi)

theorem wt_pull {W H n : Nat} {way : Int} (G : Nat → Nat → Int) (hn : n = W * H) : wt (pull W H way G) n = wt G n := by
  rw [wt_sm, wt_sm, sm_pull G hn, sm_pull G hn, sm_pull G hn, sm_pull G hn]
theorem imE_pull {W H n : Nat} {way : Int} (G : Nat → Nat → Int) (hn : n = W * H) : imE (pull W H way G) n = imE G n := by
  rw [imE_sm, imE_sm, sm_pull G hn, sm_pull G hn]
theorem imN_pull {W H n : Nat} {way : Int} (G : Nat → Nat → Int) (hn : n = W * H) : imN (pull W H way G) n = imN G n := by
  rw [imN_sm, imN_sm, sm_pull G hn, sm_pull G hn]

/-- One cell's part of a whole. -/
theorem part_le (G : Nat → Nat → Int) {n : Nat} (h : ∀ i, i < n → 0 ≤ G i 0 ∧ 0 ≤ G i 1 ∧ 0 ≤ G i 2 ∧ 0 ≤ G i 3) (i : Nat) (hi : i < n) : G i 0 + G i 1 + G i 2 + G i 3 ≤ wt G n := by
  have pos : ∀ j, j ≤ n → 0 ≤ wt G j := by
    intro j
    induction j with
    | zero => intro _; exact Int.le_refl _
    | succ j ih =>
      intro hj
      have := ih (by omega)
      have := h j (by omega)
      simp only [wt]; omega
  induction n with
  | zero => omega
  | succ m ih =>
    have := pos m (by omega)
    have := h m (by omega)
    simp only [wt]
    by_cases e : i = m
    · subst e; omega
    · have := ih (fun i hi => h i (by omega)) (by omega) (fun j hj => pos j (by omega))
      omega
/-- A grid is fine if nothing is below 0 and the whole is not too much. -/
theorem okG_of {G : Nat → Nat → Int} {n : Nat} (h : ∀ i, i < n → 0 ≤ G i 0 ∧ 0 ≤ G i 1 ∧ 0 ≤ G i 2 ∧ 0 ≤ G i 3) (hw : wt G n ≤ 1000000000) : OkG n G :=
  ⟨fun i hi => ⟨(h i hi).1, (h i hi).2.1, (h i hi).2.2.1, (h i hi).2.2.2, Int.le_trans (part_le G h i hi) hw⟩, hw⟩
theorem OkG.pos {G : Nat → Nat → Int} {n : Nat} (h : OkG n G) (i : Nat) (hi : i < n) (d : Nat) (hd : d < 4) : 0 ≤ G i d := by
  obtain ⟨a, b, c, e, _⟩ := h.1 i hi
  match d, hd with
  | 0, _ => exact a
  | 1, _ => exact b
  | 2, _ => exact c
  | 3, _ => exact e
theorem okG_pull {W H n : Nat} {way : Int} {G : Nat → Nat → Int} (hn : n = W * H) (h : OkG n G) : OkG n (pull W H way G) :=
  okG_of (fun i hi => ⟨h.pos _ (nb_lt hn hi 0) 0 (by omega), h.pos _ (nb_lt hn hi 1) 1 (by omega), h.pos _ (nb_lt hn hi 2) 2 (by omega), h.pos _ (nb_lt hn hi 3) 3 (by omega)⟩) (by rw [wt_pull G hn]; exact h.2)

/-- All cells collided. -/
def moreG (k y : Int) (G : Nat → Nat → Int) (i : Nat) : Int := more (G i 0) (G i 1) (G i 2) (G i 3) k y
def colG (k y : Int) (G : Nat → Nat → Int) : Nat → Nat → Int := fun i d => if d % 2 = 0 then G i d + moreG k y G i else G i d - moreG k y G i
theorem colG0 (k y : Int) (G : Nat → Nat → Int) (i : Nat) : colG k y G i 0 = G i 0 + moreG k y G i := by simp [colG]
theorem colG1 (k y : Int) (G : Nat → Nat → Int) (i : Nat) : colG k y G i 1 = G i 1 - moreG k y G i := by simp [colG]
theorem colG2 (k y : Int) (G : Nat → Nat → Int) (i : Nat) : colG k y G i 2 = G i 2 + moreG k y G i := by simp [colG]
theorem colG3 (k y : Int) (G : Nat → Nat → Int) (i : Nat) : colG k y G i 3 = G i 3 - moreG k y G i := by simp [colG]
theorem wt_col (k y : Int) (G : Nat → Nat → Int) (n : Nat) : wt (colG k y G) n = wt G n := by
  induction n with
  | zero => rfl
  | succ m ih => simp only [wt, ih, colG0, colG1, colG2, colG3]; omega
theorem imE_col (k y : Int) (G : Nat → Nat → Int) (n : Nat) : imE (colG k y G) n = imE G n := by
  induction n with
  | zero => rfl
  | succ m ih => simp only [imE, ih, colG0, colG2]; omega
theorem imN_col (k y : Int) (G : Nat → Nat → Int) (n : Nat) : imN (colG k y G) n = imN G n := by
  induction n with
  | zero => rfl
  | succ m ih => simp only [imN, ih, colG1, colG3]; omega
theorem okG_col {k y : Int} {n : Nat} {G : Nat → Nat → Int} (h : OkG n G) : OkG n (colG k y G) :=
  okG_of (fun i hi => by
    have q := ok_more k y (h.1 i hi)
    obtain ⟨a, b, c, d, _⟩ := q
    rw [colG0, colG1, colG2, colG3]
    exact ⟨a, b, c, d⟩) (by rw [wt_col]; exact h.2)

/-- Two grids are the same below n. -/
def EqG (n : Nat) (G K : Nat → Nat → Int) : Prop := ∀ i, i < n → ∀ d, d < 4 → G i d = K i d
theorem EqG.symm {n : Nat} {G K : Nat → Nat → Int} (h : EqG n G K) : EqG n K G := fun i hi d hd => (h i hi d hd).symm
theorem EqG.trans {n : Nat} {G K L : Nat → Nat → Int} (h : EqG n G K) (g : EqG n K L) : EqG n G L := fun i hi d hd => (h i hi d hd).trans (g i hi d hd)
theorem EqG.refl (n : Nat) (G : Nat → Nat → Int) : EqG n G G := fun _ _ _ _ => rfl
theorem EqG.pull {W H n : Nat} {way : Int} {G K : Nat → Nat → Int} (hn : n = W * H) (h : EqG n G K) : EqG n (pull W H way G) (pull W H way K) := fun _ hi d hd => h _ (nb_lt hn hi d) d hd
theorem EqG.col {k y : Int} {n : Nat} {G K : Nat → Nat → Int} (h : EqG n G K) : EqG n (colG k y G) (colG k y K) := fun i hi d hd => by
  have e : moreG k y G i = moreG k y K i := by
    unfold moreG
    rw [h i hi 0 (by omega), h i hi 1 (by omega), h i hi 2 (by omega), h i hi 3 (by omega)]
  unfold colG
  rw [e, h i hi d hd]
theorem pull_back {W H n : Nat} {way : Int} {G : Nat → Nat → Int} (hn : n = W * H) : EqG n (pull W H (-way) (pull W H way G)) G := fun i hi d _ => by
  show pull W H way G (nb W H (- -way) i d) d = G i d
  rw [Int.neg_neg]
  exact pull_at hn hi d
theorem col_back {k y : Int} {n : Nat} {G : Nat → Nat → Int} (hr : OkR k y) (h : OkG n G) : EqG n (colG k (-y) (colG k y G)) G := fun i hi d hd => by
  have e : moreG k (-y) (colG k y G) i = - moreG k y G i := by
    unfold moreG
    rw [colG0, colG1, colG2, colG3]
    exact more_back (h.1 i hi) hr
  match d, hd with
  | 0, _ => rw [colG0, e, colG0]; omega
  | 1, _ => rw [colG1, e, colG1]; omega
  | 2, _ => rw [colG2, e, colG2]; omega
  | 3, _ => rw [colG3, e, colG3]; omega
end Go.Proofs.YtmdeooflgkjbbaaDoor

/- Grids that are moved: shifted, turned, mirrored, reversed: the plain arithmetic. -/

namespace Go.Proofs.YtmdeooflgkjbbaaDoor
set_option linter.unusedSimpArgs false
set_option linter.unusedVariables false

theorem at_xy {W x y : Nat} (hx : x < W) : (x + W * y) % W = x ∧ (x + W * y) / W = y :=
  ⟨by rw [Nat.add_mul_mod_self_left, Nat.mod_eq_of_lt hx], by rw [Nat.add_mul_div_left _ _ (by omega), Nat.div_eq_of_lt hx, Nat.zero_add]⟩
theorem flip_lt {H q : Nat} (h : 0 < H) : H - 1 - q < H := by omega
theorem flip_flip {H q : Nat} (h : q < H) : H - 1 - (H - 1 - q) = q := by omega
theorem xy_lt {W H x y : Nat} (hx : x < W) (hy : y < H) : x + W * y < W * H := by
  calc x + W * y < W + W * y := by omega
    _ = W * (y + 1) := by rw [Nat.mul_add, Nat.mul_one, Nat.add_comm]
    _ ≤ W * H := Nat.mul_le_mul_left _ hy
theorem xy_eq {W i j : Nat} (h1 : i % W = j % W) (h2 : i / W = j / W) : i = j := by
  rw [← Nat.mod_add_div i W, h1, h2, Nat.mod_add_div]
theorem xy_of {W H i : Nat} (h : i < W * H) : i % W < W ∧ i / W < H ∧ 0 < W ∧ 0 < H := by
  obtain ⟨a, b⟩ := sides_pos rfl h
  exact ⟨Nat.mod_lt _ a, by rw [Nat.div_lt_iff_lt_mul a, Nat.mul_comm]; exact h, a, b⟩

/-- Where a cell goes: shifted, mirrored, turned; and where it comes from when turned. -/
def shp (W H x y i : Nat) : Nat := (i % W + x) % W + W * ((i / W + y) % H)
def mip (W i : Nat) : Nat := W - 1 - i % W + W * (i / W)
def trp (W H i : Nat) : Nat := H - 1 - i / W + H * (i % W)
def tip (W H i : Nat) : Nat := i / H + W * (H - 1 - i % H)

theorem shp_parts {W H x y i : Nat} (h : i < W * H) : shp W H x y i < W * H ∧ shp W H x y i % W = (i % W + x) % W ∧ shp W H x y i / W = (i / W + y) % H := by
  obtain ⟨_, _, hW, hH⟩ := xy_of h
  have a := Nat.mod_lt (i % W + x) hW
  have b := Nat.mod_lt (i / W + y) hH
  exact ⟨xy_lt a b, at_xy a⟩
theorem mip_parts {W H i : Nat} (h : i < W * H) : mip W i < W * H ∧ mip W i % W = W - 1 - i % W ∧ mip W i / W = i / W := by
  obtain ⟨a, b, hW, hH⟩ := xy_of h
  exact ⟨xy_lt (flip_lt hW) b, at_xy (flip_lt hW)⟩
theorem trp_parts {W H i : Nat} (h : i < W * H) : trp W H i < H * W ∧ trp W H i % H = H - 1 - i / W ∧ trp W H i / H = i % W := by
  obtain ⟨a, b, hW, hH⟩ := xy_of h
  exact ⟨xy_lt (flip_lt hH) a, at_xy (flip_lt hH)⟩
theorem tip_parts {W H i : Nat} (h : i < H * W) : tip W H i < W * H ∧ tip W H i % W = i / H ∧ tip W H i / W = H - 1 - i % H := by
  obtain ⟨a, b, hH, hW⟩ := xy_of h
  exact ⟨xy_lt b (flip_lt hH), at_xy b⟩

theorem shp_back {W H x y x' y' i : Nat} (h : i < W * H) (hx : (x + x') % W = 0) (hy : (y + y') % H = 0) : shp W H x' y' (shp W H x y i) = i := by
  obtain ⟨h0, h1, h2⟩ := shp_parts (x := x) (y := y) h
  obtain ⟨_, h4, h5⟩ := shp_parts (x := x') (y := y') h0
  obtain ⟨a, b, hW, hH⟩ := xy_of h
  refine xy_eq (W := W) ?_ ?_
  · rw [h4, h1, Nat.mod_add_mod, Nat.add_assoc, Nat.add_mod, hx, Nat.add_zero, Nat.mod_mod, Nat.mod_mod]
  · rw [h5, h2, Nat.mod_add_mod, Nat.add_assoc, Nat.add_mod, hy, Nat.add_zero, Nat.mod_mod, Nat.mod_eq_of_lt b]
theorem mip_back {W H i : Nat} (h : i < W * H) : mip W (mip W i) = i := by
  obtain ⟨h0, h1, h2⟩ := mip_parts h
  obtain ⟨_, h4, h5⟩ := mip_parts h0
  obtain ⟨a, _⟩ := xy_of h
  exact xy_eq (W := W) (by rw [h4, h1]; exact flip_flip a) (by rw [h5, h2])
theorem tip_back {W H i : Nat} (h : i < W * H) : tip W H (trp W H i) = i := by
  obtain ⟨h0, h1, h2⟩ := trp_parts h
  obtain ⟨_, h4, h5⟩ := tip_parts h0
  obtain ⟨_, b, _⟩ := xy_of h
  exact xy_eq (W := W) (by rw [h4, h2]) (by rw [h5, h1]; exact flip_flip b)
theorem trp_back {W H i : Nat} (h : i < H * W) : trp W H (tip W H i) = i := by
  obtain ⟨h0, h1, h2⟩ := tip_parts h
  obtain ⟨_, h4, h5⟩ := trp_parts h0
  obtain ⟨a, _⟩ := xy_of h
  exact xy_eq (W := H) (by rw [h4, h2]; exact flip_flip a) (by rw [h5, h1])

/-- How far back a shift goes. -/
def bk (W x : Nat) : Nat := W - x % W
theorem bk_zero {W : Nat} (x : Nat) (h : 0 < W) : (x + bk W x) % W = 0 ∧ (bk W x + x) % W = 0 := by
  have a := Nat.mod_lt x h
  have e : (x + bk W x) % W = 0 := by
    unfold bk
    rw [Nat.add_mod]
    by_cases z : x % W = 0
    · rw [z]; simp
    · rw [Nat.mod_eq_of_lt (show W - x % W < W by omega), show x % W + (W - x % W) = W by omega, Nat.mod_self]
  exact ⟨e, by rw [Nat.add_comm]; exact e⟩

def mdir (d : Nat) : Nat := if d = 0 then 2 else if d = 2 then 0 else d
/-- Grids that are shifted, mirrored, turned, reversed. -/
def shG (W H x y : Nat) (G : Nat → Nat → Int) : Nat → Nat → Int := fun i d => G (shp W H (bk W x) (bk H y) i) d
def miG (W : Nat) (G : Nat → Nat → Int) : Nat → Nat → Int := fun i d => G (mip W i) (mdir d)
def tuG (W H : Nat) (G : Nat → Nat → Int) : Nat → Nat → Int := fun i d => G (tip W H i) ((d + 3) % 4)
def reG (G : Nat → Nat → Int) : Nat → Nat → Int := fun i d => G i ((d + 2) % 4)
theorem shG_at {W H x y n i : Nat} {G : Nat → Nat → Int} (hn : n = W * H) (hi : i < n) (d : Nat) : shG W H x y G (shp W H x y i) d = G i d := by
  subst hn
  obtain ⟨_, _, hW, hH⟩ := xy_of hi
  unfold shG
  rw [shp_back hi (bk_zero x hW).1 (bk_zero y hH).1]
theorem miG_at {W H n i : Nat} {G : Nat → Nat → Int} (hn : n = W * H) (hi : i < n) (d : Nat) : miG W G (mip W i) d = G i (mdir d) := by
  subst hn
  unfold miG
  rw [mip_back hi]
theorem tuG_at {W H n i : Nat} {G : Nat → Nat → Int} (hn : n = W * H) (hi : i < n) (d : Nat) : tuG W H G (trp W H i) d = G i ((d + 3) % 4) := by
  subst hn
  unfold tuG
  rw [tip_back hi]

theorem sm_shG {W H n x y : Nat} (G : Nat → Nat → Int) (hn : n = W * H) (d : Nat) : sm n (fun i => shG W H x y G i d) = sm n (fun i => G i d) := by
  subst hn
  refine sm_perm _ (fun i => G i d) (fun i => shp W H (bk W x) (bk H y) i) (fun i => shp W H x y i) (fun i hi => ⟨(shp_parts hi).1, ?_⟩) (fun i hi => ⟨(shp_parts hi).1, ?_⟩)
  · obtain ⟨_, _, hW, hH⟩ := xy_of hi
    exact shp_back hi (bk_zero x hW).2 (bk_zero y hH).2
  · obtain ⟨_, _, hW, hH⟩ := xy_of hi
    exact shp_back hi (bk_zero x hW).1 (bk_zero y hH).1
theorem sm_miG {W H n : Nat} (G : Nat → Nat → Int) (hn : n = W * H) (d : Nat) : sm n (fun i => miG W G i d) = sm n (fun i => G i (mdir d)) := by
  subst hn
  exact sm_perm _ (fun i => G i (mdir d)) (fun i => mip W i) (fun i => mip W i) (fun i hi => ⟨(mip_parts hi).1, mip_back hi⟩) (fun i hi => ⟨(mip_parts hi).1, mip_back hi⟩)
theorem sm_tuG {W H n : Nat} (G : Nat → Nat → Int) (hn : n = W * H) (d : Nat) : sm n (fun i => tuG W H G i d) = sm n (fun i => G i ((d + 3) % 4)) := by
  subst hn
  exact sm_perm _ (fun i => G i ((d + 3) % 4)) (fun i => tip W H i) (fun i => trp W H i) (fun i hi => ⟨(tip_parts (by rw [Nat.mul_comm]; exact hi)).1, trp_back (by rw [Nat.mul_comm]; exact hi)⟩) (fun i hi => ⟨by have := (trp_parts hi).1; rwa [Nat.mul_comm] at this, tip_back hi⟩)
theorem wt_shG {W H n x y : Nat} (G : Nat → Nat → Int) (hn : n = W * H) : wt (shG W H x y G) n = wt G n := by
  rw [wt_sm, wt_sm, sm_shG G hn, sm_shG G hn, sm_shG G hn, sm_shG G hn]
theorem wt_miG {W H n : Nat} (G : Nat → Nat → Int) (hn : n = W * H) : wt (miG W G) n = wt G n := by
  rw [wt_sm, wt_sm, sm_miG G hn, sm_miG G hn, sm_miG G hn, sm_miG G hn]
  show sm n (fun i => G i 2) + sm n (fun i => G i 1) + sm n (fun i => G i 0) + sm n (fun i => G i 3) = _
  omega
theorem wt_tuG {W H n : Nat} (G : Nat → Nat → Int) (hn : n = W * H) : wt (tuG W H G) n = wt G n := by
  rw [wt_sm, wt_sm, sm_tuG G hn, sm_tuG G hn, sm_tuG G hn, sm_tuG G hn]
  show sm n (fun i => G i 3) + sm n (fun i => G i 0) + sm n (fun i => G i 1) + sm n (fun i => G i 2) = _
  omega
theorem wt_reG (G : Nat → Nat → Int) (n : Nat) : wt (reG G) n = wt G n := by
  induction n with
  | zero => rfl
  | succ k ih =>
    show wt (reG G) k + (G k 2 + G k 3 + G k 0 + G k 1) = wt G k + (G k 0 + G k 1 + G k 2 + G k 3)
    rw [ih]; omega
theorem mdir_lt {d : Nat} (h : d < 4) : mdir d < 4 := by unfold mdir; split <;> (try split) <;> omega
theorem okG_shG {W H n x y : Nat} {G : Nat → Nat → Int} (hn : n = W * H) (h : OkG n G) : OkG n (shG W H x y G) := by
  have p : ∀ i, i < n → shp W H (bk W x) (bk H y) i < n := fun i hi => by subst hn; exact (shp_parts hi).1
  exact okG_of (fun i hi => ⟨h.pos _ (p i hi) 0 (by omega), h.pos _ (p i hi) 1 (by omega), h.pos _ (p i hi) 2 (by omega), h.pos _ (p i hi) 3 (by omega)⟩) (by rw [wt_shG G hn]; exact h.2)
theorem okG_miG {W H n : Nat} {G : Nat → Nat → Int} (hn : n = W * H) (h : OkG n G) : OkG n (miG W G) := by
  have p : ∀ i, i < n → mip W i < n := fun i hi => by subst hn; exact (mip_parts hi).1
  exact okG_of (fun i hi => ⟨h.pos _ (p i hi) 2 (by omega), h.pos _ (p i hi) 1 (by omega), h.pos _ (p i hi) 0 (by omega), h.pos _ (p i hi) 3 (by omega)⟩) (by rw [wt_miG G hn]; exact h.2)
theorem okG_tuG {W H n : Nat} {G : Nat → Nat → Int} (hn : n = W * H) (h : OkG n G) : OkG n (tuG W H G) := by
  have p : ∀ i, i < n → tip W H i < n := fun i hi => by subst hn; exact (tip_parts (by rw [Nat.mul_comm]; exact hi)).1
  exact okG_of (fun i hi => ⟨h.pos _ (p i hi) 3 (by omega), h.pos _ (p i hi) 0 (by omega), h.pos _ (p i hi) 1 (by omega), h.pos _ (p i hi) 2 (by omega)⟩) (by rw [wt_tuG G hn]; exact h.2)
theorem okG_reG {n : Nat} {G : Nat → Nat → Int} (h : OkG n G) : OkG n (reG G) :=
  okG_of (fun i hi => ⟨h.pos i hi 2 (by omega), h.pos i hi 3 (by omega), h.pos i hi 0 (by omega), h.pos i hi 1 (by omega)⟩) (by rw [wt_reG]; exact h.2)

theorem nb_ext {W i j : Nat} (h1 : ((i % W : Nat) : Int) = ((j % W : Nat) : Int)) (h2 : ((i / W : Nat) : Int) = ((j / W : Nat) : Int)) : i = j :=
  xy_eq (W := W) (Int.ofNat_inj.1 h1) (Int.ofNat_inj.1 h2)
theorem nb_shp {W H n : Nat} {way : Int} {a b i d : Nat} (hn : n = W * H) (hi : i < n) : shp W H a b (nb W H way i d) = nb W H way (shp W H a b i) d := by
  subst hn
  obtain ⟨_, _, hW, hH⟩ := xy_of hi
  obtain ⟨n0, n1, n2⟩ := nb_parts W H way i d hW hH
  obtain ⟨s0, s1, s2⟩ := shp_parts (x := a) (y := b) hi
  obtain ⟨_, m1, m2⟩ := nb_parts W H way (shp W H a b i) d hW hH
  obtain ⟨_, t1, t2⟩ := shp_parts (x := a) (y := b) n0
  refine nb_ext (W := W) ?_ ?_
  · rw [m1, t1, s1, Int.natCast_emod (nb W H way i d % W + a) W, Int.natCast_add (nb W H way i d % W) a, n1, Int.natCast_emod (i % W + a) W, Int.natCast_add (i % W) a, Int.emod_add_emod, Int.emod_add_emod]
    congr 1; omega
  · rw [m2, t2, s2, Int.natCast_emod (nb W H way i d / W + b) H, Int.natCast_add (nb W H way i d / W) b, n2, Int.natCast_emod (i / W + b) H, Int.natCast_add (i / W) b, Int.emod_add_emod, Int.emod_add_emod]
    congr 1; omega
/-- What is left of the other side. -/
theorem flip_mod {W x t : Int} (hW : 0 < W) : (W - 1 - x + -t) % W = W - 1 - (x + t) % W := by
  have a := Int.emod_nonneg (x + t) (show W ≠ 0 by omega)
  have b := Int.emod_lt_of_pos (x + t) hW
  have e := Int.emod_add_mul_ediv (x + t) W
  generalize (x + t) % W = r at *
  generalize (x + t) / W = q at *
  have : W - 1 - x + -t = (W - 1 - r) + W * (-q) := by rw [Int.mul_neg]; omega
  rw [this, Int.add_mul_emod_self_left]
  exact Int.emod_eq_of_lt (by omega) (by omega)
theorem nb_mip {W H n : Nat} {way : Int} {i d : Nat} (hn : n = W * H) (hi : i < n) : mip W (nb W H way i d) = nb W H way (mip W i) (mdir d) := by
  subst hn
  obtain ⟨x0, y0, hW, hH⟩ := xy_of hi
  obtain ⟨n0, n1, n2⟩ := nb_parts W H way i d hW hH
  obtain ⟨s0, s1, s2⟩ := mip_parts hi
  obtain ⟨_, m1, m2⟩ := nb_parts W H way (mip W i) (mdir d) hW hH
  obtain ⟨_, t1, t2⟩ := mip_parts n0
  have ex : dx (mdir d) = - dx d := by
    unfold mdir dx
    by_cases h0 : d = 0
    · subst h0; rfl
    · by_cases h2 : d = 2
      · subst h2; rfl
      · simp [h0, h2]
  have ey : dy (mdir d) = dy d := by
    unfold mdir
    by_cases h0 : d = 0
    · subst h0; rfl
    · by_cases h2 : d = 2
      · subst h2; rfl
      · simp [h0, h2]
  refine nb_ext (W := W) ?_ ?_
  · rw [m1, t1, s1, ex, Int.mul_neg]
    have l : nb W H way i d % W < W := Nat.mod_lt _ hW
    rw [show ((W - 1 - nb W H way i d % W : Nat) : Int) = (W : Int) - 1 - ((nb W H way i d % W : Nat) : Int) by omega, show ((W - 1 - i % W : Nat) : Int) = (W : Int) - 1 - ((i % W : Nat) : Int) by omega, n1]
    exact (flip_mod (by omega)).symm
  · rw [m2, t2, s2, ey, n2]
theorem nb_tip {W H n : Nat} {way : Int} {i d : Nat} (hn : n = H * W) (hi : i < n) (hd : d < 4) : tip W H (nb H W way i d) = nb W H way (tip W H i) ((d + 3) % 4) := by
  subst hn
  obtain ⟨x0, y0, hH, hW⟩ := xy_of hi
  obtain ⟨n0, n1, n2⟩ := nb_parts H W way i d hH hW
  obtain ⟨s0, s1, s2⟩ := tip_parts hi
  obtain ⟨_, m1, m2⟩ := nb_parts W H way (tip W H i) ((d + 3) % 4) hW hH
  obtain ⟨_, t1, t2⟩ := tip_parts n0
  have ex : dx ((d + 3) % 4) = dy d := by
    match d, hd with
    | 0, _ => rfl
    | 1, _ => rfl
    | 2, _ => rfl
    | 3, _ => rfl
  have ey : dy ((d + 3) % 4) = - dx d := by
    match d, hd with
    | 0, _ => rfl
    | 1, _ => rfl
    | 2, _ => rfl
    | 3, _ => rfl
  refine nb_ext (W := W) ?_ ?_
  · rw [m1, t1, s1, ex, n2]
  · rw [m2, t2, s2, ey, Int.mul_neg]
    have l : nb H W way i d % H < H := Nat.mod_lt _ hH
    rw [show ((H - 1 - nb H W way i d % H : Nat) : Int) = (H : Int) - 1 - ((nb H W way i d % H : Nat) : Int) by omega, show ((H - 1 - i % H : Nat) : Int) = (H : Int) - 1 - ((i % H : Nat) : Int) by omega, n1]
    exact (flip_mod (by omega)).symm

/-- Steps and motions may be exchanged. -/
theorem pull_shG {W H n : Nat} {way : Int} {x y : Nat} (G : Nat → Nat → Int) (hn : n = W * H) : EqG n (pull W H way (shG W H x y G)) (shG W H x y (pull W H way G)) := fun i hi d _ => by
  show G (shp W H (bk W x) (bk H y) (nb W H (-way) i d)) d = G (nb W H (-way) (shp W H (bk W x) (bk H y) i) d) d
  rw [nb_shp hn hi]
theorem pull_miG {W H n : Nat} {way : Int} (G : Nat → Nat → Int) (hn : n = W * H) : EqG n (pull W H way (miG W G)) (miG W (pull W H way G)) := fun i hi d _ => by
  show G (mip W (nb W H (-way) i d)) (mdir d) = G (nb W H (-way) (mip W i) (mdir d)) (mdir d)
  rw [nb_mip hn hi]
theorem pull_tuG {W H n : Nat} {way : Int} (G : Nat → Nat → Int) (hn : n = H * W) : EqG n (pull H W way (tuG W H G)) (tuG W H (pull W H way G)) := fun i hi d hd => by
  show G (tip W H (nb H W (-way) i d)) ((d + 3) % 4) = G (nb W H (-way) (tip W H i) ((d + 3) % 4)) ((d + 3) % 4)
  rw [nb_tip hn hi hd]
theorem pull_reG {W H n : Nat} (G : Nat → Nat → Int) : EqG n (reG (pull W H 1 (reG G))) (pull W H (-1) G) := fun i hi d hd => by
  show G (nb W H (-1) i ((d + 2) % 4)) (((d + 2) % 4 + 2) % 4) = G (nb W H (- -1) i d) d
  have e : nb W H (-1) i ((d + 2) % 4) = nb W H (- -1) i d := by
    unfold nb
    match d, hd with
    | 0, _ => simp [dx, dy]
    | 1, _ => simp [dx, dy]
    | 2, _ => simp [dx, dy]
    | 3, _ => simp [dx, dy]
  rw [e, show ((d + 2) % 4 + 2) % 4 = d by omega]
theorem col_shG {W H : Nat} {k z : Int} {x y : Nat} (G : Nat → Nat → Int) : colG k z (shG W H x y G) = shG W H x y (colG k z G) := rfl
theorem col_miG {W n : Nat} {k z : Int} (G : Nat → Nat → Int) : EqG n (colG k z (miG W G)) (miG W (colG k z G)) := fun i _ d hd => by
  have e : moreG k z (miG W G) i = moreG k z G (mip W i) := by
    unfold moreG more
    show turnTo k z (min (G (mip W i) 2) (G (mip W i) 0)) (min (G (mip W i) 2) (G (mip W i) 0) + min (G (mip W i) 1) (G (mip W i) 3)) - min (G (mip W i) 2) (G (mip W i) 0) = _
    rw [Int.min_comm (G (mip W i) 2)]
  match d, hd with
  | 0, _ => rw [colG0, e]; exact (colG2 k z G (mip W i)).symm
  | 1, _ => rw [colG1, e]; exact (colG1 k z G (mip W i)).symm
  | 2, _ => rw [colG2, e]; exact (colG0 k z G (mip W i)).symm
  | 3, _ => rw [colG3, e]; exact (colG3 k z G (mip W i)).symm
theorem col_tuG {W H n : Nat} {k z : Int} (G : Nat → Nat → Int) (hk : k = 0 ∨ k = 1) : EqG n (colG k z (tuG W H G)) (tuG W H (colG k z G)) := fun i _ d hd => by
  have e : moreG k z (tuG W H G) i = - moreG k z G (tip W H i) := by
    unfold moreG more
    show turnTo k z (min (G (tip W H i) 3) (G (tip W H i) 1)) (min (G (tip W H i) 3) (G (tip W H i) 1) + min (G (tip W H i) 0) (G (tip W H i) 2)) - min (G (tip W H i) 3) (G (tip W H i) 1) = _
    rw [Int.min_comm (G (tip W H i) 3)]
    rcases hk with rfl | rfl
    · simp [turnTo]
    · simp [turnTo]; omega
  match d, hd with
  | 0, _ => rw [colG0, e]; exact (colG3 k z G (tip W H i)).symm
  | 1, _ => rw [colG1, e, Int.sub_neg]; exact (colG0 k z G (tip W H i)).symm
  | 2, _ => rw [colG2, e]; exact (colG1 k z G (tip W H i)).symm
  | 3, _ => rw [colG3, e, Int.sub_neg]; exact (colG2 k z G (tip W H i)).symm
end Go.Proofs.YtmdeooflgkjbbaaDoor

/- One population is changed; two grids are added: the plain arithmetic. -/

namespace Go.Proofs.YtmdeooflgkjbbaaDoor
set_option linter.unusedSimpArgs false
set_option linter.unusedVariables false

theorem sm_at (n : Nat) (f g : Nat → Int) (i : Nat) (hi : i < n) (h : ∀ j, j < n → j ≠ i → g j = f j) : sm n g = sm n f + (g i - f i) := by
  have e : sm n g = sm n (fun j => f j + (if j = i then g i - f i else 0)) := by
    apply sm_congr
    intro j hj
    by_cases e : j = i
    · subst e; rw [if_pos rfl]; omega
    · rw [if_neg e, h j hj e]; omega
  rw [e, sm_add, sm_single n i _ hi]
theorem wt_at {G K : Nat → Nat → Int} {n i d : Nat} (hi : i < n) (hd : d < 4) (h : ∀ j, j < n → ∀ e, e < 4 → ¬ (j = i ∧ e = d) → K j e = G j e) : wt K n = wt G n + (K i d - G i d) := by
  rw [wt_sm, wt_sm]
  have q : ∀ e, e < 4 → sm n (fun j => K j e) = sm n (fun j => G j e) + (if e = d then K i d - G i d else 0) := by
    intro e he
    by_cases ed : e = d
    · subst ed
      rw [if_pos rfl]
      exact sm_at n (fun j => G j e) (fun j => K j e) i hi (fun j hj hne => h j hj e he (fun x => hne x.1))
    · rw [if_neg ed, Int.add_zero]
      exact sm_congr n _ _ (fun j hj => h j hj e he (fun x => ed x.2))
  rw [q 0 (by omega), q 1 (by omega), q 2 (by omega), q 3 (by omega)]
  match d, hd with
  | 0, _ => simp; omega
  | 1, _ => simp; omega
  | 2, _ => simp; omega
  | 3, _ => simp; omega
/-- A grid with one population changed is fine if that is not below 0 and the whole not too much. -/
theorem okG_at {G K : Nat → Nat → Int} {n i d : Nat} (hG : OkG n G) (hi : i < n) (hd : d < 4) (h : ∀ j, j < n → ∀ e, e < 4 → ¬ (j = i ∧ e = d) → K j e = G j e) (h0 : 0 ≤ K i d) (h1 : wt G n + (K i d - G i d) ≤ 1000000000) : OkG n K := by
  have p : ∀ j, j < n → ∀ e, e < 4 → 0 ≤ K j e := fun j hj e he => by
    by_cases q : j = i ∧ e = d
    · rw [q.1, q.2]; exact h0
    · rw [h j hj e he q]; exact hG.pos j hj e he
  exact okG_of (fun j hj => ⟨p j hj 0 (by omega), p j hj 1 (by omega), p j hj 2 (by omega), p j hj 3 (by omega)⟩) (by rw [wt_at hi hd h]; exact h1)
theorem pop_le {G : Nat → Nat → Int} {n : Nat} (hG : OkG n G) {i d : Nat} (hi : i < n) (hd : d < 4) : 0 ≤ G i d ∧ G i d ≤ wt G n := by
  obtain ⟨a, b, c, e, _⟩ := hG.1 i hi
  have := part_le G (fun j hj => ⟨hG.pos j hj 0 (by omega), hG.pos j hj 1 (by omega), hG.pos j hj 2 (by omega), hG.pos j hj 3 (by omega)⟩) i hi
  match d, hd with
  | 0, _ => omega
  | 1, _ => omega
  | 2, _ => omega
  | 3, _ => omega

/-- Two grids added. -/
def adG (A B : Nat → Nat → Int) : Nat → Nat → Int := fun i d => A i d + B i d
theorem wt_ad (A B : Nat → Nat → Int) (n : Nat) : wt (adG A B) n = wt A n + wt B n := by
  induction n with
  | zero => rfl
  | succ k ih =>
    simp only [wt, ih]
    unfold adG
    omega
theorem ad_pos {A B : Nat → Nat → Int} {n : Nat} (hA : OkG n A) (hB : OkG n B) (i : Nat) (hi : i < n) : 0 ≤ adG A B i 0 ∧ 0 ≤ adG A B i 1 ∧ 0 ≤ adG A B i 2 ∧ 0 ≤ adG A B i 3 := by
  obtain ⟨a0, a1, a2, a3, _⟩ := hA.1 i hi
  obtain ⟨b0, b1, b2, b3, _⟩ := hB.1 i hi
  unfold adG
  omega
theorem ad_ok {A B : Nat → Nat → Int} {n : Nat} (hA : OkG n A) (hB : OkG n B) : OkG n (adG A B) ↔ wt A n + wt B n ≤ 1000000000 := by
  rw [← wt_ad]
  exact ⟨fun h => h.2, fun h => okG_of (ad_pos hA hB) h⟩
theorem ad_over {A B : Nat → Nat → Int} {n i : Nat} (hA : OkG n A) (hB : OkG n B) (hi : i < n) (h : ¬ Ok4 (adG A B i 0) (adG A B i 1) (adG A B i 2) (adG A B i 3)) : ¬ OkG n (adG A B) := fun k => h (k.1 i hi)

/-- Weighing cells that may be twice too heavy. -/
theorem wt_bd2 {G : Nat → Nat → Int} {n : Nat} (h : ∀ i, i < n → 0 ≤ G i 0 ∧ G i 0 ≤ 2000000000 ∧ 0 ≤ G i 1 ∧ G i 1 ≤ 2000000000 ∧ 0 ≤ G i 2 ∧ G i 2 ≤ 2000000000 ∧ 0 ≤ G i 3 ∧ G i 3 ≤ 2000000000) (k : Nat) (hk : k ≤ n) : 0 ≤ wt G k ∧ wt G k ≤ 8000000000 * k := by
  induction k with
  | zero => exact ⟨Int.le_refl _, by simp [wt]⟩
  | succ j ih =>
    obtain ⟨_, _⟩ := ih (by omega)
    obtain ⟨_, _, _, _, _, _, _, _⟩ := h j (by omega)
    simp only [wt]
    omega
end Go.Proofs.YtmdeooflgkjbbaaDoor
