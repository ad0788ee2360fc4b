/- Grids that are moved: shifted, turned, mirrored, reversed: the plain arithmetic. -/
import Derived.Test.YtdbehbeaigfpcaaDoorKGMath
namespace Go.Proofs.YtdbehbeaigfpcaaDoor
set_option linter.unusedSimpArgs false
set_option linter.unusedVariables false

theorem at_xy {W x y : Nat} (hx : x < W) : (x + W * y) % W = x ∧ (x + W * y) / W = y :=
  ⟨by rw [Nat.add_mul_mod_self_left, Nat.mod_eq_of_lt hx], by rw [Nat.add_mul_div_left _ _ (by omega), Nat.div_eq_of_lt hx, Nat.zero_add]⟩
theorem flip_lt {H q : Nat} (h : 0 < H) : H - 1 - q < H := by omega
theorem flip_flip {H q : Nat} (h : q < H) : H - 1 - (H - 1 - q) = q := by omega
theorem xy_lt {W H x y : Nat} (hx : x < W) (hy : y < H) : x + W * y < W * H := by
  calc x + W * y < W + W * y := by omega
    _ = W * (y + 1) := by rw [Nat.mul_add, Nat.mul_one, Nat.add_comm]
    _ ≤ W * H := Nat.mul_le_mul_left _ hy
theorem xy_eq {W i j : Nat} (h1 : i % W = j % W) (h2 : i / W = j / W) : i = j := by
  rw [← Nat.mod_add_div i W, h1, h2, Nat.mod_add_div]
theorem xy_of {W H i : Nat} (h : i < W * H) : i % W < W ∧ i / W < H ∧ 0 < W ∧ 0 < H := by
  obtain ⟨a, b⟩ := sides_pos rfl h
  exact ⟨Nat.mod_lt _ a, by rw [Nat.div_lt_iff_lt_mul a, Nat.mul_comm]; exact h, a, b⟩

/-- Where a cell goes: shifted, mirrored, turned; and where it comes from when turned. -/
def shp (W H x y i : Nat) : Nat := (i % W + x) % W + W * ((i / W + y) % H)
def mip (W i : Nat) : Nat := W - 1 - i % W + W * (i / W)
def trp (W H i : Nat) : Nat := H - 1 - i / W + H * (i % W)
def tip (W H i : Nat) : Nat := i / H + W * (H - 1 - i % H)

theorem shp_parts {W H x y i : Nat} (h : i < W * H) : shp W H x y i < W * H ∧ shp W H x y i % W = (i % W + x) % W ∧ shp W H x y i / W = (i / W + y) % H := by
  obtain ⟨_, _, hW, hH⟩ := xy_of h
  have a := Nat.mod_lt (i % W + x) hW
  have b := Nat.mod_lt (i / W + y) hH
  exact ⟨xy_lt a b, at_xy a⟩
theorem mip_parts {W H i : Nat} (h : i < W * H) : mip W i < W * H ∧ mip W i % W = W - 1 - i % W ∧ mip W i / W = i / W := by
  obtain ⟨a, b, hW, hH⟩ := xy_of h
  exact ⟨xy_lt (flip_lt hW) b, at_xy (flip_lt hW)⟩
theorem trp_parts {W H i : Nat} (h : i < W * H) : trp W H i < H * W ∧ trp W H i % H = H - 1 - i / W ∧ trp W H i / H = i % W := by
  obtain ⟨a, b, hW, hH⟩ := xy_of h
  exact ⟨xy_lt (flip_lt hH) a, at_xy (flip_lt hH)⟩
theorem tip_parts {W H i : Nat} (h : i < H * W) : tip W H i < W * H ∧ tip W H i % W = i / H ∧ tip W H i / W = H - 1 - i % H := by
  obtain ⟨a, b, hH, hW⟩ := xy_of h
  exact ⟨xy_lt b (flip_lt hH), at_xy b⟩

theorem shp_back {W H x y x' y' i : Nat} (h : i < W * H) (hx : (x + x') % W = 0) (hy : (y + y') % H = 0) : shp W H x' y' (shp W H x y i) = i := by
  obtain ⟨h0, h1, h2⟩ := shp_parts (x := x) (y := y) h
  obtain ⟨_, h4, h5⟩ := shp_parts (x := x') (y := y') h0
  obtain ⟨a, b, hW, hH⟩ := xy_of h
  refine xy_eq (W := W) ?_ ?_
  · rw [h4, h1, Nat.mod_add_mod, Nat.add_assoc, Nat.add_mod, hx, Nat.add_zero, Nat.mod_mod, Nat.mod_mod]
  · rw [h5, h2, Nat.mod_add_mod, Nat.add_assoc, Nat.add_mod, hy, Nat.add_zero, Nat.mod_mod, Nat.mod_eq_of_lt b]
theorem mip_back {W H i : Nat} (h : i < W * H) : mip W (mip W i) = i := by
  obtain ⟨h0, h1, h2⟩ := mip_parts h
  obtain ⟨_, h4, h5⟩ := mip_parts h0
  obtain ⟨a, _⟩ := xy_of h
  exact xy_eq (W := W) (by rw [h4, h1]; exact flip_flip a) (by rw [h5, h2])
theorem tip_back {W H i : Nat} (h : i < W * H) : tip W H (trp W H i) = i := by
  obtain ⟨h0, h1, h2⟩ := trp_parts h
  obtain ⟨_, h4, h5⟩ := tip_parts h0
  obtain ⟨_, b, _⟩ := xy_of h
  exact xy_eq (W := W) (by rw [h4, h2]) (by rw [h5, h1]; exact flip_flip b)
theorem trp_back {W H i : Nat} (h : i < H * W) : trp W H (tip W H i) = i := by
  obtain ⟨h0, h1, h2⟩ := tip_parts h
  obtain ⟨_, h4, h5⟩ := trp_parts h0
  obtain ⟨a, _⟩ := xy_of h
  exact xy_eq (W := H) (by rw [h4, h2]; exact flip_flip a) (by rw [h5, h1])

/-- How far back a shift goes. -/
def bk (W x : Nat) : Nat := W - x % W
theorem bk_zero {W : Nat} (x : Nat) (h : 0 < W) : (x + bk W x) % W = 0 ∧ (bk W x + x) % W = 0 := by
  have a := Nat.mod_lt x h
  have e : (x + bk W x) % W = 0 := by
    unfold bk
    rw [Nat.add_mod]
    by_cases z : x % W = 0
    · rw [z]; simp
    · rw [Nat.mod_eq_of_lt (show W - x % W < W by omega), show x % W + (W - x % W) = W by omega, Nat.mod_self]
  exact ⟨e, by rw [Nat.add_comm]; exact e⟩

def mdir (d : Nat) : Nat := if d = 0 then 2 else if d = 2 then 0 else d
/-- Grids that are shifted, mirrored, turned, reversed. -/
def shG (W H x y : Nat) (G : Nat → Nat → Int) : Nat → Nat → Int := fun i d => G (shp W H (bk W x) (bk H y) i) d
def miG (W : Nat) (G : Nat → Nat → Int) : Nat → Nat → Int := fun i d => G (mip W i) (mdir d)
def tuG (W H : Nat) (G : Nat → Nat → Int) : Nat → Nat → Int := fun i d => G (tip W H i) ((d + 3) % 4)
def reG (G : Nat → Nat → Int) : Nat → Nat → Int := fun i d => G i ((d + 2) % 4)
theorem shG_at {W H x y n i : Nat} {G : Nat → Nat → Int} (hn : n = W * H) (hi : i < n) (d : Nat) : shG W H x y G (shp W H x y i) d = G i d := by
  subst hn
  obtain ⟨_, _, hW, hH⟩ := xy_of hi
  unfold shG
  rw [shp_back hi (bk_zero x hW).1 (bk_zero y hH).1]
theorem miG_at {W H n i : Nat} {G : Nat → Nat → Int} (hn : n = W * H) (hi : i < n) (d : Nat) : miG W G (mip W i) d = G i (mdir d) := by
  subst hn
  unfold miG
  rw [mip_back hi]
theorem tuG_at {W H n i : Nat} {G : Nat → Nat → Int} (hn : n = W * H) (hi : i < n) (d : Nat) : tuG W H G (trp W H i) d = G i ((d + 3) % 4) := by
  subst hn
  unfold tuG
  rw [tip_back hi]

theorem sm_shG {W H n x y : Nat} (G : Nat → Nat → Int) (hn : n = W * H) (d : Nat) : sm n (fun i => shG W H x y G i d) = sm n (fun i => G i d) := by
  subst hn
  refine sm_perm _ (fun i => G i d) (fun i => shp W H (bk W x) (bk H y) i) (fun i => shp W H x y i) (fun i hi => ⟨(shp_parts hi).1, ?_⟩) (fun i hi => ⟨(shp_parts hi).1, ?_⟩)
  · obtain ⟨_, _, hW, hH⟩ := xy_of hi
    exact shp_back hi (bk_zero x hW).2 (bk_zero y hH).2
  · obtain ⟨_, _, hW, hH⟩ := xy_of hi
    exact shp_back hi (bk_zero x hW).1 (bk_zero y hH).1
theorem sm_miG {W H n : Nat} (G : Nat → Nat → Int) (hn : n = W * H) (d : Nat) : sm n (fun i => miG W G i d) = sm n (fun i => G i (mdir d)) := by
  subst hn
  exact sm_perm _ (fun i => G i (mdir d)) (fun i => mip W i) (fun i => mip W i) (fun i hi => ⟨(mip_parts hi).1, mip_back hi⟩) (fun i hi => ⟨(mip_parts hi).1, mip_back hi⟩)
theorem sm_tuG {W H n : Nat} (G : Nat → Nat → Int) (hn : n = W * H) (d : Nat) : sm n (fun i => tuG W H G i d) = sm n (fun i => G i ((d + 3) % 4)) := by
  subst hn
  exact sm_perm _ (fun i => G i ((d + 3) % 4)) (fun i => tip W H i) (fun i => trp W H i) (fun i hi => ⟨(tip_parts (by rw [Nat.mul_comm]; exact hi)).1, trp_back (by rw [Nat.mul_comm]; exact hi)⟩) (fun i hi => ⟨by have := (trp_parts hi).1; rwa [Nat.mul_comm] at this, tip_back hi⟩)
theorem wt_shG {W H n x y : Nat} (G : Nat → Nat → Int) (hn : n = W * H) : wt (shG W H x y G) n = wt G n := by
  rw [wt_sm, wt_sm, sm_shG G hn, sm_shG G hn, sm_shG G hn, sm_shG G hn]
theorem wt_miG {W H n : Nat} (G : Nat → Nat → Int) (hn : n = W * H) : wt (miG W G) n = wt G n := by
  rw [wt_sm, wt_sm, sm_miG G hn, sm_miG G hn, sm_miG G hn, sm_miG G hn]
  show sm n (fun i => G i 2) + sm n (fun i => G i 1) + sm n (fun i => G i 0) + sm n (fun i => G i 3) = _
  omega
theorem wt_tuG {W H n : Nat} (G : Nat → Nat → Int) (hn : n = W * H) : wt (tuG W H G) n = wt G n := by
  rw [wt_sm, wt_sm, sm_tuG G hn, sm_tuG G hn, sm_tuG G hn, sm_tuG G hn]
  show sm n (fun i => G i 3) + sm n (fun i => G i 0) + sm n (fun i => G i 1) + sm n (fun i => G i 2) = _
  omega
theorem wt_reG (G : Nat → Nat → Int) (n : Nat) : wt (reG G) n = wt G n := by
  induction n with
  | zero => rfl
  | succ k ih =>
    show wt (reG G) k + (G k 2 + G k 3 + G k 0 + G k 1) = wt G k + (G k 0 + G k 1 + G k 2 + G k 3)
    rw [ih]; omega
theorem mdir_lt {d : Nat} (h : d < 4) : mdir d < 4 := by unfold mdir; split <;> (try split) <;> omega
theorem okG_shG {W H n x y : Nat} {G : Nat → Nat → Int} (hn : n = W * H) (h : OkG n G) : OkG n (shG W H x y G) := by
  have p : ∀ i, i < n → shp W H (bk W x) (bk H y) i < n := fun i hi => by subst hn; exact (shp_parts hi).1
  exact okG_of (fun i hi => ⟨h.pos _ (p i hi) 0 (by omega), h.pos _ (p i hi) 1 (by omega), h.pos _ (p i hi) 2 (by omega), h.pos _ (p i hi) 3 (by omega)⟩) (by rw [wt_shG G hn]; exact h.2)
theorem okG_miG {W H n : Nat} {G : Nat → Nat → Int} (hn : n = W * H) (h : OkG n G) : OkG n (miG W G) := by
  have p : ∀ i, i < n → mip W i < n := fun i hi => by subst hn; exact (mip_parts hi).1
  exact okG_of (fun i hi => ⟨h.pos _ (p i hi) 2 (by omega), h.pos _ (p i hi) 1 (by omega), h.pos _ (p i hi) 0 (by omega), h.pos _ (p i hi) 3 (by omega)⟩) (by rw [wt_miG G hn]; exact h.2)
theorem okG_tuG {W H n : Nat} {G : Nat → Nat → Int} (hn : n = W * H) (h : OkG n G) : OkG n (tuG W H G) := by
  have p : ∀ i, i < n → tip W H i < n := fun i hi => by subst hn; exact (tip_parts (by rw [Nat.mul_comm]; exact hi)).1
  exact okG_of (fun i hi => ⟨h.pos _ (p i hi) 3 (by omega), h.pos _ (p i hi) 0 (by omega), h.pos _ (p i hi) 1 (by omega), h.pos _ (p i hi) 2 (by omega)⟩) (by rw [wt_tuG G hn]; exact h.2)
theorem okG_reG {n : Nat} {G : Nat → Nat → Int} (h : OkG n G) : OkG n (reG G) :=
  okG_of (fun i hi => ⟨h.pos i hi 2 (by omega), h.pos i hi 3 (by omega), h.pos i hi 0 (by omega), h.pos i hi 1 (by omega)⟩) (by rw [wt_reG]; exact h.2)

theorem nb_ext {W i j : Nat} (h1 : ((i % W : Nat) : Int) = ((j % W : Nat) : Int)) (h2 : ((i / W : Nat) : Int) = ((j / W : Nat) : Int)) : i = j :=
  xy_eq (W := W) (Int.ofNat_inj.1 h1) (Int.ofNat_inj.1 h2)
theorem nb_shp {W H n : Nat} {way : Int} {a b i d : Nat} (hn : n = W * H) (hi : i < n) : shp W H a b (nb W H way i d) = nb W H way (shp W H a b i) d := by
  subst hn
  obtain ⟨_, _, hW, hH⟩ := xy_of hi
  obtain ⟨n0, n1, n2⟩ := nb_parts W H way i d hW hH
  obtain ⟨s0, s1, s2⟩ := shp_parts (x := a) (y := b) hi
  obtain ⟨_, m1, m2⟩ := nb_parts W H way (shp W H a b i) d hW hH
  obtain ⟨_, t1, t2⟩ := shp_parts (x := a) (y := b) n0
  refine nb_ext (W := W) ?_ ?_
  · rw [m1, t1, s1, Int.natCast_emod (nb W H way i d % W + a) W, Int.natCast_add (nb W H way i d % W) a, n1, Int.natCast_emod (i % W + a) W, Int.natCast_add (i % W) a, Int.emod_add_emod, Int.emod_add_emod]
    congr 1; omega
  · rw [m2, t2, s2, Int.natCast_emod (nb W H way i d / W + b) H, Int.natCast_add (nb W H way i d / W) b, n2, Int.natCast_emod (i / W + b) H, Int.natCast_add (i / W) b, Int.emod_add_emod, Int.emod_add_emod]
    congr 1; omega
/-- What is left of the other side. -/
theorem flip_mod {W x t : Int} (hW : 0 < W) : (W - 1 - x + -t) % W = W - 1 - (x + t) % W := by
  have a := Int.emod_nonneg (x + t) (show W ≠ 0 by omega)
  have b := Int.emod_lt_of_pos (x + t) hW
  have e := Int.emod_add_mul_ediv (x + t) W
  generalize (x + t) % W = r at *
  generalize (x + t) / W = q at *
  have : W - 1 - x + -t = (W - 1 - r) + W * (-q) := by rw [Int.mul_neg]; omega
  rw [this, Int.add_mul_emod_self_left]
  exact Int.emod_eq_of_lt (by omega) (by omega)
theorem nb_mip {W H n : Nat} {way : Int} {i d : Nat} (hn : n = W * H) (hi : i < n) : mip W (nb W H way i d) = nb W H way (mip W i) (mdir d) := by
  subst hn
  obtain ⟨x0, y0, hW, hH⟩ := xy_of hi
  obtain ⟨n0, n1, n2⟩ := nb_parts W H way i d hW hH
  obtain ⟨s0, s1, s2⟩ := mip_parts hi
  obtain ⟨_, m1, m2⟩ := nb_parts W H way (mip W i) (mdir d) hW hH
  obtain ⟨_, t1, t2⟩ := mip_parts n0
  have ex : dx (mdir d) = - dx d := by
    unfold mdir dx
    by_cases h0 : d = 0
    · subst h0; rfl
    · by_cases h2 : d = 2
      · subst h2; rfl
      · simp [h0, h2]
  have ey : dy (mdir d) = dy d := by
    unfold mdir
    by_cases h0 : d = 0
    · subst h0; rfl
    · by_cases h2 : d = 2
      · subst h2; rfl
      · simp [h0, h2]
  refine nb_ext (W := W) ?_ ?_
  · rw [m1, t1, s1, ex, Int.mul_neg]
    have l : nb W H way i d % W < W := Nat.mod_lt _ hW
    rw [show ((W - 1 - nb W H way i d % W : Nat) : Int) = (W : Int) - 1 - ((nb W H way i d % W : Nat) : Int) by omega, show ((W - 1 - i % W : Nat) : Int) = (W : Int) - 1 - ((i % W : Nat) : Int) by omega, n1]
    exact (flip_mod (by omega)).symm
  · rw [m2, t2, s2, ey, n2]
theorem nb_tip {W H n : Nat} {way : Int} {i d : Nat} (hn : n = H * W) (hi : i < n) (hd : d < 4) : tip W H (nb H W way i d) = nb W H way (tip W H i) ((d + 3) % 4) := by
  subst hn
  obtain ⟨x0, y0, hH, hW⟩ := xy_of hi
  obtain ⟨n0, n1, n2⟩ := nb_parts H W way i d hH hW
  obtain ⟨s0, s1, s2⟩ := tip_parts hi
  obtain ⟨_, m1, m2⟩ := nb_parts W H way (tip W H i) ((d + 3) % 4) hW hH
  obtain ⟨_, t1, t2⟩ := tip_parts n0
  have ex : dx ((d + 3) % 4) = dy d := by
    match d, hd with
    | 0, _ => rfl
    | 1, _ => rfl
    | 2, _ => rfl
    | 3, _ => rfl
  have ey : dy ((d + 3) % 4) = - dx d := by
    match d, hd with
    | 0, _ => rfl
    | 1, _ => rfl
    | 2, _ => rfl
    | 3, _ => rfl
  refine nb_ext (W := W) ?_ ?_
  · rw [m1, t1, s1, ex, n2]
  · rw [m2, t2, s2, ey, Int.mul_neg]
    have l : nb H W way i d % H < H := Nat.mod_lt _ hH
    rw [show ((H - 1 - nb H W way i d % H : Nat) : Int) = (H : Int) - 1 - ((nb H W way i d % H : Nat) : Int) by omega, show ((H - 1 - i % H : Nat) : Int) = (H : Int) - 1 - ((i % H : Nat) : Int) by omega, n1]
    exact (flip_mod (by omega)).symm

/-- Steps and motions may be exchanged. -/
theorem pull_shG {W H n : Nat} {way : Int} {x y : Nat} (G : Nat → Nat → Int) (hn : n = W * H) : EqG n (pull W H way (shG W H x y G)) (shG W H x y (pull W H way G)) := fun i hi d _ => by
  show G (shp W H (bk W x) (bk H y) (nb W H (-way) i d)) d = G (nb W H (-way) (shp W H (bk W x) (bk H y) i) d) d
  rw [nb_shp hn hi]
theorem pull_miG {W H n : Nat} {way : Int} (G : Nat → Nat → Int) (hn : n = W * H) : EqG n (pull W H way (miG W G)) (miG W (pull W H way G)) := fun i hi d _ => by
  show G (mip W (nb W H (-way) i d)) (mdir d) = G (nb W H (-way) (mip W i) (mdir d)) (mdir d)
  rw [nb_mip hn hi]
theorem pull_tuG {W H n : Nat} {way : Int} (G : Nat → Nat → Int) (hn : n = H * W) : EqG n (pull H W way (tuG W H G)) (tuG W H (pull W H way G)) := fun i hi d hd => by
  show G (tip W H (nb H W (-way) i d)) ((d + 3) % 4) = G (nb W H (-way) (tip W H i) ((d + 3) % 4)) ((d + 3) % 4)
  rw [nb_tip hn hi hd]
theorem pull_reG {W H n : Nat} (G : Nat → Nat → Int) : EqG n (reG (pull W H 1 (reG G))) (pull W H (-1) G) := fun i hi d hd => by
  show G (nb W H (-1) i ((d + 2) % 4)) (((d + 2) % 4 + 2) % 4) = G (nb W H (- -1) i d) d
  have e : nb W H (-1) i ((d + 2) % 4) = nb W H (- -1) i d := by
    unfold nb
    match d, hd with
    | 0, _ => simp [dx, dy]
    | 1, _ => simp [dx, dy]
    | 2, _ => simp [dx, dy]
    | 3, _ => simp [dx, dy]
  rw [e, show ((d + 2) % 4 + 2) % 4 = d by omega]
theorem col_shG {W H : Nat} {k z : Int} {x y : Nat} (G : Nat → Nat → Int) : colG k z (shG W H x y G) = shG W H x y (colG k z G) := rfl
theorem col_miG {W n : Nat} {k z : Int} (G : Nat → Nat → Int) : EqG n (colG k z (miG W G)) (miG W (colG k z G)) := fun i _ d hd => by
  have e : moreG k z (miG W G) i = moreG k z G (mip W i) := by
    unfold moreG more
    show turnTo k z (min (G (mip W i) 2) (G (mip W i) 0)) (min (G (mip W i) 2) (G (mip W i) 0) + min (G (mip W i) 1) (G (mip W i) 3)) - min (G (mip W i) 2) (G (mip W i) 0) = _
    rw [Int.min_comm (G (mip W i) 2)]
  match d, hd with
  | 0, _ => rw [colG0, e]; exact (colG2 k z G (mip W i)).symm
  | 1, _ => rw [colG1, e]; exact (colG1 k z G (mip W i)).symm
  | 2, _ => rw [colG2, e]; exact (colG0 k z G (mip W i)).symm
  | 3, _ => rw [colG3, e]; exact (colG3 k z G (mip W i)).symm
theorem col_tuG {W H n : Nat} {k z : Int} (G : Nat → Nat → Int) (hk : k = 0 ∨ k = 1) : EqG n (colG k z (tuG W H G)) (tuG W H (colG k z G)) := fun i _ d hd => by
  have e : moreG k z (tuG W H G) i = - moreG k z G (tip W H i) := by
    unfold moreG more
    show turnTo k z (min (G (tip W H i) 3) (G (tip W H i) 1)) (min (G (tip W H i) 3) (G (tip W H i) 1) + min (G (tip W H i) 0) (G (tip W H i) 2)) - min (G (tip W H i) 3) (G (tip W H i) 1) = _
    rw [Int.min_comm (G (tip W H i) 3)]
    rcases hk with rfl | rfl
    · simp [turnTo]
    · simp [turnTo]; omega
  match d, hd with
  | 0, _ => rw [colG0, e]; exact (colG3 k z G (tip W H i)).symm
  | 1, _ => rw [colG1, e, Int.sub_neg]; exact (colG0 k z G (tip W H i)).symm
  | 2, _ => rw [colG2, e]; exact (colG1 k z G (tip W H i)).symm
  | 3, _ => rw [colG3, e, Int.sub_neg]; exact (colG2 k z G (tip W H i)).symm
end Go.Proofs.YtdbehbeaigfpcaaDoor
