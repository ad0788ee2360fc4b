/- Levels: finer and coarser grids: the plain arithmetic. -/
import Derived.Test.YtpnfppcmklcinaaKGMath
namespace Go.Proofs.Ytpnfppcmklcinaa
set_option linter.unusedSimpArgs false
set_option linter.unusedVariables false

/-- The part j of a number. -/
def spl (n : Int) (j : Nat) : Int := (n + 3 - j) / 4
theorem spl_sum (n : Int) : spl n 0 + spl n 1 + spl n 2 + spl n 3 = n := by unfold spl; omega
theorem spl_bd {n : Int} (h : 0 ≤ n) {j : Nat} (hj : j < 4) : 0 ≤ spl n j ∧ spl n j ≤ n := by unfold spl; omega

/-- The fine cell k of the coarse cell i, where there are so many coarse columns; the coarse cell of a fine one; which of the four it is. -/
def q4 (W i k : Nat) : Nat := (2 * (i % W) + k % 2) + 2 * W * (2 * (i / W) + k / 2)
def crs (W j : Nat) : Nat := j % (2 * W) / 2 + W * (j / (2 * W) / 2)
def prt (W j : Nat) : Nat := j % (2 * W) % 2 + 2 * (j / (2 * W) % 2)

theorem q4_parts {W i k : Nat} (hW : 0 < W) (hk : k < 4) : q4 W i k % (2 * W) = 2 * (i % W) + k % 2 ∧ q4 W i k / (2 * W) = 2 * (i / W) + k / 2 :=
  at_xy (by have := Nat.mod_lt i hW; omega)
theorem q4_lt {W H i k : Nat} (hi : i < W * H) (hk : k < 4) : q4 W i k < 2 * W * (2 * H) := by
  obtain ⟨h1, h2, h3, h4⟩ := xy_of hi
  exact xy_lt (by omega) (by omega)
theorem crs_q4 {W i k : Nat} (hW : 0 < W) (hk : k < 4) : crs W (q4 W i k) = i := by
  obtain ⟨h1, h2⟩ := q4_parts (i := i) hW hk
  unfold crs
  rw [h1, h2, show (2 * (i % W) + k % 2) / 2 = i % W by omega, show (2 * (i / W) + k / 2) / 2 = i / W by omega]
  exact Nat.mod_add_div i W
theorem prt_q4 {W i k : Nat} (hW : 0 < W) (hk : k < 4) : prt W (q4 W i k) = k := by
  obtain ⟨h1, h2⟩ := q4_parts (i := i) hW hk
  unfold prt
  rw [h1, h2]
  omega
theorem prt_lt (W j : Nat) : prt W j < 4 := by unfold prt; omega
theorem crs_parts {W H j : Nat} (hj : j < 2 * W * (2 * H)) : crs W j < W * H ∧ crs W j % W = j % (2 * W) / 2 ∧ crs W j / W = j / (2 * W) / 2 := by
  obtain ⟨h1, h2, h3, h4⟩ := xy_of hj
  have e := at_xy (W := W) (x := j % (2 * W) / 2) (y := j / (2 * W) / 2) (by omega)
  exact ⟨xy_lt (by omega) (by omega), e.1, e.2⟩
theorem q4_crs {W H j : Nat} (hj : j < 2 * W * (2 * H)) : q4 W (crs W j) (prt W j) = j := by
  obtain ⟨_, h1, h2⟩ := crs_parts hj
  have e1 : prt W j % 2 = j % (2 * W) % 2 := by unfold prt; omega
  have e2 : prt W j / 2 = j / (2 * W) % 2 := by unfold prt; omega
  unfold q4
  rw [h1, h2, e1, e2, show 2 * (j % (2 * W) / 2) + j % (2 * W) % 2 = j % (2 * W) by omega, show 2 * (j / (2 * W) / 2) + j / (2 * W) % 2 = j / (2 * W) by omega]
  exact Nat.mod_add_div j (2 * W)

/-- The grid refined; the grid made coarse. -/
def refG (W : Nat) (G : Nat → Nat → Int) : Nat → Nat → Int := fun j d => spl (G (crs W j) d) (prt W j)
def coaG (W : Nat) (G : Nat → Nat → Int) : Nat → Nat → Int := fun i d => G (q4 W i 0) d + G (q4 W i 1) d + G (q4 W i 2) d + G (q4 W i 3) d
theorem refG_q4 {W i k : Nat} (G : Nat → Nat → Int) (hW : 0 < W) (hk : k < 4) (d : Nat) : refG W G (q4 W i k) d = spl (G i d) k := by
  unfold refG
  rw [crs_q4 hW hk, prt_q4 hW hk]
theorem coa_ref {W : Nat} (G : Nat → Nat → Int) (hW : 0 < W) (i d : Nat) : coaG W (refG W G) i d = G i d := by
  unfold coaG
  rw [refG_q4 G hW (by omega), refG_q4 G hW (by omega), refG_q4 G hW (by omega), refG_q4 G hW (by omega)]
  exact spl_sum _

theorem sm_four (n : Nat) (f : Nat → Int) : sm (n * 4) f = sm n (fun i => f (i * 4) + f (i * 4 + 1) + f (i * 4 + 2) + f (i * 4 + 3)) := by
  induction n with
  | zero => rfl
  | succ n ih =>
    rw [show (n + 1) * 4 = n * 4 + 1 + 1 + 1 + 1 by omega]
    simp only [sm, ih]
    omega
theorem sm_q4 {W H n m : Nat} (hn : n = W * H) (hm : m = n * 4) (f : Nat → Int) : sm m f = sm n (fun i => f (q4 W i 0) + f (q4 W i 1) + f (q4 W i 2) + f (q4 W i 3)) := by
  have hmm : m = 2 * W * (2 * H) := by rw [hm, hn, Nat.mul_mul_mul_comm, Nat.mul_comm]
  rw [← sm_perm m f (fun j => q4 W (j / 4) (j % 4)) (fun j => crs W j * 4 + prt W j) (fun j hj => by
    have h1 : j / 4 < W * H := by omega
    obtain ⟨_, _, h3, _⟩ := xy_of h1
    refine ⟨by rw [hmm]; exact q4_lt h1 (by omega), ?_⟩
    rw [crs_q4 h3 (by omega), prt_q4 h3 (by omega)]
    omega) (fun j hj => by
    rw [hmm] at hj
    have h1 := (crs_parts hj).1
    have h2 := prt_lt W j
    refine ⟨by omega, ?_⟩
    rw [show (crs W j * 4 + prt W j) / 4 = crs W j by omega, show (crs W j * 4 + prt W j) % 4 = prt W j by omega]
    exact q4_crs hj)]
  rw [hm, sm_four]
  refine sm_congr n _ _ (fun i hi => ?_)
  rw [show i * 4 / 4 = i by omega, show i * 4 % 4 = 0 by omega, show (i * 4 + 1) / 4 = i by omega, show (i * 4 + 1) % 4 = 1 by omega, show (i * 4 + 2) / 4 = i by omega, show (i * 4 + 2) % 4 = 2 by omega, show (i * 4 + 3) / 4 = i by omega, show (i * 4 + 3) % 4 = 3 by omega]
theorem wt_coa {W H n m : Nat} (hn : n = W * H) (hm : m = n * 4) (G : Nat → Nat → Int) : wt (coaG W G) n = wt G m := by
  rw [wt_sm, wt_sm, sm_q4 hn hm, sm_q4 hn hm, sm_q4 hn hm, sm_q4 hn hm]
  rfl
theorem wt_congr {n : Nat} {G K : Nat → Nat → Int} (h : ∀ i, i < n → ∀ d, d < 4 → G i d = K i d) : wt G n = wt K n := by
  rw [wt_sm, wt_sm, sm_congr n _ _ (fun i hi => h i hi 0 (by omega)), sm_congr n _ _ (fun i hi => h i hi 1 (by omega)), sm_congr n _ _ (fun i hi => h i hi 2 (by omega)), sm_congr n _ _ (fun i hi => h i hi 3 (by omega))]
theorem wt_ref {W H n m : Nat} (hn : n = W * H) (hm : m = n * 4) (hW : 0 < W) (G : Nat → Nat → Int) : wt (refG W G) m = wt G n := by
  rw [← wt_coa hn hm]
  exact wt_congr (fun i _ d _ => coa_ref G hW i d)
theorem sm_one_le (n : Nat) (f : Nat → Int) (h : ∀ i, i < n → 0 ≤ f i) : 0 ≤ sm n f ∧ ∀ i, i < n → f i ≤ sm n f := by
  induction n with
  | zero => exact ⟨Int.le_refl _, fun i hi => by omega⟩
  | succ n ih =>
    have := ih (fun i hi => h i (by omega))
    have hn := h n (by omega)
    refine ⟨by simp only [sm]; omega, fun i hi => ?_⟩
    simp only [sm]
    by_cases e : i = n
    · subst e; omega
    · have := this.2 i (by omega); omega
theorem wt_sum (G : Nat → Nat → Int) (n : Nat) : wt G n = sm n (fun i => G i 0 + G i 1 + G i 2 + G i 3) := by
  induction n with
  | zero => rfl
  | succ n ih => simp only [wt, sm, ih]
theorem okG_all {n : Nat} {G : Nat → Nat → Int} (h : ∀ i, i < n → ∀ d, d < 4 → 0 ≤ G i d) (hw : wt G n ≤ 1000000000) : OkG n G := by
  refine ⟨fun i hi => ?_, hw⟩
  have a := h i hi 0 (by omega)
  have b := h i hi 1 (by omega)
  have c := h i hi 2 (by omega)
  have d := h i hi 3 (by omega)
  have := (sm_one_le n (fun i => G i 0 + G i 1 + G i 2 + G i 3) (fun i hi => by
    have a := h i hi 0 (by omega)
    have b := h i hi 1 (by omega)
    have c := h i hi 2 (by omega)
    have d := h i hi 3 (by omega)
    show 0 ≤ G i 0 + G i 1 + G i 2 + G i 3
    omega)).2 i hi
  rw [← wt_sum] at this
  exact ⟨a, b, c, d, by have : G i 0 + G i 1 + G i 2 + G i 3 ≤ wt G n := this; omega⟩
theorem okG_pos {n : Nat} {G : Nat → Nat → Int} (h : OkG n G) {i : Nat} (hi : i < n) {d : Nat} (hd : d < 4) : 0 ≤ G i d := (pop_le h hi hd).1
theorem okG_ref {W H n m : Nat} {G : Nat → Nat → Int} (hn : n = W * H) (hm : m = n * 4) (hW : 0 < W) (h : OkG n G) : OkG m (refG W G) := by
  refine okG_all (fun j hj d hd => ?_) (by rw [wt_ref hn hm hW]; exact h.2)
  have hmm : m = 2 * W * (2 * H) := by rw [hm, hn, Nat.mul_mul_mul_comm, Nat.mul_comm]
  rw [hmm] at hj
  have hc := (crs_parts hj).1
  rw [← hn] at hc
  exact (spl_bd (okG_pos h hc hd) (prt_lt W j)).1
theorem okG_coa {W H n m : Nat} {G : Nat → Nat → Int} (hn : n = W * H) (hm : m = n * 4) (h : OkG m G) : OkG n (coaG W G) := by
  refine okG_all (fun i hi d hd => ?_) (by rw [wt_coa hn hm]; exact h.2)
  have hmm : m = 2 * W * (2 * H) := by rw [hm, hn, Nat.mul_mul_mul_comm, Nat.mul_comm]
  rw [hn] at hi
  have q0 := okG_pos h (show q4 W i 0 < m by rw [hmm]; exact q4_lt hi (by omega)) hd
  have q1 := okG_pos h (show q4 W i 1 < m by rw [hmm]; exact q4_lt hi (by omega)) hd
  have q2 := okG_pos h (show q4 W i 2 < m by rw [hmm]; exact q4_lt hi (by omega)) hd
  have q3 := okG_pos h (show q4 W i 3 < m by rw [hmm]; exact q4_lt hi (by omega)) hd
  unfold coaG
  omega
end Go.Proofs.Ytpnfppcmklcinaa
