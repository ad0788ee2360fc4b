/- Walls and collisions of all cells: the mathematics of a step among walls. -/
import Derived.Test.YtmdeooflgkjbbaaDoorKSent
import Derived.Test.YtmdeooflgkjbbaaDoorKWall
import Derived.Test.YtmdeooflgkjbbaaDoorKRunU
import Derived.Test.YtmdeooflgkjbbaaDoorKRefWall
import Derived.Test.YtmdeooflgkjbbaaDoorKRefG6
namespace Go.Proofs.YtmdeooflgkjbbaaDoor
set_option linter.unusedSimpArgs false
set_option linter.unusedVariables false

/-- All open cells collided, all others' particles sent. -/
def metG (K : Nat → Int) (k y : Int) (G : Nat → Nat → Int) : Nat → Nat → Int := fun i d => if K i = 0 then colG k y G i d else sn (K i).toNat d (G i 0) (G i 1) (G i 2) (G i 3)
theorem met_open {K : Nat → Int} {k y : Int} {G : Nat → Nat → Int} {i : Nat} (h : K i = 0) (d : Nat) : metG K k y G i d = colG k y G i d := by simp [metG, h]
theorem met_shut {K : Nat → Int} {k y : Int} {G : Nat → Nat → Int} {i : Nat} (h : K i ≠ 0) (d : Nat) : metG K k y G i d = sn (K i).toNat d (G i 0) (G i 1) (G i 2) (G i 3) := by simp [metG, h]
/-- The kinds of n cells are kinds. -/
def OkK (n : Nat) (K : Nat → Int) : Prop := ∀ i, i < n → 0 ≤ K i ∧ K i ≤ 3
theorem okK_of {n : Nat} {K B : Nat → Int} (h : ∀ i, i < n → OkP (K i) (B i)) : OkK n K := fun i hi => by
  have := h i hi
  unfold OkP at this
  omega
theorem sn_sum (k : Nat) (a b c e : Int) (hk : k < 4) : sn k 0 a b c e + sn k 1 a b c e + sn k 2 a b c e + sn k 3 a b c e = a + b + c + e := by
  match k, hk with
  | 0, _ => simp [sn, exch]
  | 1, _ => simp [sn, exch]; omega
  | 2, _ => simp [sn, exch]; omega
  | 3, _ => simp [sn, exch]; omega
theorem okK_lt {n : Nat} {K : Nat → Int} (h : OkK n K) {i : Nat} (hi : i < n) : (K i).toNat < 4 := by
  have := h i hi
  omega
theorem col_sum (k y : Int) (G : Nat → Nat → Int) (i : Nat) : colG k y G i 0 + colG k y G i 1 + colG k y G i 2 + colG k y G i 3 = G i 0 + G i 1 + G i 2 + G i 3 := by
  rw [colG0, colG1, colG2, colG3]; omega
theorem met_sum {n : Nat} {K : Nat → Int} (hK : OkK n K) (k y : Int) (G : Nat → Nat → Int) {i : Nat} (hi : i < n) : metG K k y G i 0 + metG K k y G i 1 + metG K k y G i 2 + metG K k y G i 3 = G i 0 + G i 1 + G i 2 + G i 3 := by
  by_cases h : K i = 0
  · rw [met_open h, met_open h, met_open h, met_open h]
    exact col_sum k y G i
  · rw [met_shut h, met_shut h, met_shut h, met_shut h]
    exact sn_sum _ _ _ _ _ (okK_lt hK hi)
theorem wt_met {n : Nat} {K : Nat → Int} (hK : OkK n K) (k y : Int) (G : Nat → Nat → Int) : ∀ m, m ≤ n → wt (metG K k y G) m = wt G m := by
  intro m
  induction m with
  | zero => intro _; rfl
  | succ j ih =>
    intro hm
    have := met_sum hK k y G (i := j) (by omega)
    simp only [wt]
    rw [ih (by omega)]
    omega
theorem met_cell {n : Nat} {K : Nat → Int} (hK : OkK n K) {k y : Int} {G : Nat → Nat → Int} (h : OkG n G) {i : Nat} (hi : i < n) : Ok4 (metG K k y G i 0) (metG K k y G i 1) (metG K k y G i 2) (metG K k y G i 3) := by
  by_cases e : K i = 0
  · rw [met_open e, met_open e, met_open e, met_open e, colG0, colG1, colG2, colG3]
    exact ok_more k y (h.1 i hi)
  · rw [met_shut e, met_shut e, met_shut e, met_shut e]
    exact sn_ok (okK_lt hK hi) (h.1 i hi)
theorem okG_met {n : Nat} {K : Nat → Int} (hK : OkK n K) {k y : Int} {G : Nat → Nat → Int} (h : OkG n G) : OkG n (metG K k y G) :=
  ⟨fun i hi => met_cell hK h hi, by rw [wt_met hK k y G n (Nat.le_refl _)]; exact h.2⟩
theorem EqG.met {K : Nat → Int} {k y : Int} {n : Nat} {G L : Nat → Nat → Int} (h : EqG n G L) : EqG n (metG K k y G) (metG K k y L) := fun i hi d hd => by
  by_cases e : K i = 0
  · rw [met_open e, met_open e]
    exact EqG.col h i hi d hd
  · rw [met_shut e, met_shut e, h i hi 0 (by omega), h i hi 1 (by omega), h i hi 2 (by omega), h i hi 3 (by omega)]
theorem col_cell {k y : Int} {G L : Nat → Nat → Int} {i : Nat} (h : ∀ d, d < 4 → G i d = L i d) (d : Nat) (hd : d < 4) : colG k y G i d = colG k y L i d := by
  have e : moreG k y G i = moreG k y L i := by
    unfold moreG
    rw [h 0 (by omega), h 1 (by omega), h 2 (by omega), h 3 (by omega)]
  unfold colG
  rw [e, h d hd]
theorem met_back {K : Nat → Int} {k y : Int} {n : Nat} {G : Nat → Nat → Int} (hK : OkK n K) (hr : OkR k y) (h : OkG n G) : EqG n (metG K k (-y) (metG K k y G)) G := fun i hi d hd => by
  by_cases e : K i = 0
  · rw [met_open e, col_cell (L := colG k y G) (fun d _ => met_open e d) d hd]
    exact col_back hr h i hi d hd
  · rw [met_shut e, met_shut e, met_shut e, met_shut e, met_shut e]
    obtain ⟨e0, e1, e2, e3⟩ := sn_sn (K i).toNat (G i 0) (G i 1) (G i 2) (G i 3) (okK_lt hK hi)
    match d, hd with
    | 0, _ => exact e0
    | 1, _ => exact e1
    | 2, _ => exact e2
    | 3, _ => exact e3

/-- A step among walls, and the one that becomes it. -/
def fwdW (W H : Nat) (K : Nat → Int) (len : Nat) (R : Nat → Int × Int) (t : Nat) (G : Nat → Nat → Int) : Nat → Nat → Int := pull W H 1 (metG K (R (t % len)).1 (R (t % len)).2 G)
def bwdW (W H : Nat) (K : Nat → Int) (len : Nat) (R : Nat → Int × Int) (t : Nat) (G : Nat → Nat → Int) : Nat → Nat → Int := metG K (R (t % len)).1 (-(R (t % len)).2) (pull W H (-1) G)
theorem okG_fwdW {W H n len : Nat} {K : Nat → Int} {R : Nat → Int × Int} {t : Nat} {G : Nat → Nat → Int} (hn : n = W * H) (hK : OkK n K) (h : OkG n G) : OkG n (fwdW W H K len R t G) := okG_pull hn (okG_met hK h)
theorem okG_bwdW {W H n len : Nat} {K : Nat → Int} {R : Nat → Int × Int} {t : Nat} {G : Nat → Nat → Int} (hn : n = W * H) (hK : OkK n K) (h : OkG n G) : OkG n (bwdW W H K len R t G) := okG_met hK (okG_pull hn h)
theorem fwd_bwdW {W H n len : Nat} {K : Nat → Int} {R : Nat → Int × Int} {t : Nat} {G : Nat → Nat → Int} (hn : n = W * H) (hK : OkK n K) (hk : OkRs len R) (h : OkG n G) : EqG n (bwdW W H K len R t (fwdW W H K len R t G)) G := by
  have hr := hk.2.2 (t % len) (Nat.mod_lt _ hk.1)
  unfold fwdW bwdW
  exact (EqG.met (pull_back (way := 1) hn)).trans (met_back hK hr h)
theorem eqG_bwdW {W H n len : Nat} {K : Nat → Int} {R : Nat → Int × Int} {t : Nat} {G L : Nat → Nat → Int} (hn : n = W * H) (h : EqG n G L) : EqG n (bwdW W H K len R t G) (bwdW W H K len R t L) := EqG.met (EqG.pull hn h)
theorem okG_runW {W H n len : Nat} {K : Nat → Int} {R : Nat → Int × Int} {t c : Nat} {G : Nat → Nat → Int} (hn : n = W * H) (hK : OkK n K) (h : OkG n G) : OkG n (runG (fwdW W H K len R) t c G) := by
  induction c with
  | zero => exact h
  | succ c ih => exact okG_fwdW hn hK ih
theorem eqG_undoW {W H n len : Nat} {K : Nat → Int} {R : Nat → Int × Int} {t c : Nat} {G L : Nat → Nat → Int} (hn : n = W * H) (h : EqG n G L) : EqG n (undoR (bwdW W H K len R) t c G) (undoR (bwdW W H K len R) t c L) := by
  induction c generalizing G L with
  | zero => exact h
  | succ c ih => exact ih (eqG_bwdW hn h)
/-- A run is undone. -/
theorem undo_runW {W H n len : Nat} {K : Nat → Int} {R : Nat → Int × Int} {t c : Nat} {G : Nat → Nat → Int} (hn : n = W * H) (hK : OkK n K) (hk : OkRs len R) (h : OkG n G) : EqG n (undoR (bwdW W H K len R) t c (runG (fwdW W H K len R) t c G)) G := by
  induction c with
  | zero => exact EqG.refl _ _
  | succ c ih => exact (eqG_undoW hn (fwd_bwdW hn hK hk (okG_runW hn hK h))).trans ih
end Go.Proofs.YtmdeooflgkjbbaaDoor

/- What runs among walls ask for: by both sides, as one answer. -/



namespace Go.Proofs.YtmdeooflgkjbbaaDoor
set_option linter.unusedSimpArgs false
set_option linter.unusedVariables false
open Go.RowKit

section
variable (W H : Int) (ao : Option Addr) (n cap : Nat) (G : Nat → Nat → Int) (ak : Option Addr) (nk ck : Nat) (K : Nat → Int) (ab : Option Addr) (nb cb : Nat) (B : Nat → Int) (ro : Option Addr) (len rc : Nat) (R : Nat → Int × Int) (t c : Int) (w : World)

/-- What a run among walls asks for. -/
def WOk (W H : Int) (n : Nat) (G : Nat → Nat → Int) (nk : Nat) (K : Nat → Int) (nb : Nat) (B : Nat → Int) (len : Nat) (R : Nat → Int × Int) (t c : Int) : Prop := WV W H n G nk K nb B ∧ OkRs len R ∧ RunOk t c
end
end Go.Proofs.YtmdeooflgkjbbaaDoor
