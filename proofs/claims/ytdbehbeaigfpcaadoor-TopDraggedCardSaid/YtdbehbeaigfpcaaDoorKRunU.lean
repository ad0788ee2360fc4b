/- Whether two rows of cells are equal: by the reference and by the library. -/
import Derived.Test.YtdbehbeaigfpcaaDoorKMach
import Derived.Test.YtdbehbeaigfpcaaDoorKBase
import Derived.Test.YtdbehbeaigfpcaaDoorKCopy
import Derived.Test.YtdbehbeaigfpcaaDoorKRules
namespace Go.Proofs.YtdbehbeaigfpcaaDoor
set_option linter.unusedSimpArgs false
set_option linter.unusedVariables false
open Go.RowKit

/-- Whether two grids are the same, as a bool. -/
def SameB (n : Nat) (G K : Nat → Nat → Int) (bb : Bool) : Prop := bb = true ↔ EqG n G K
def Told (n : Nat) (G K : Nat → Nat → Int) (w : World) (e : Ending) (w' : World) : Prop := ∃ bb : Bool, e = .returned (.bool bb) ∧ SameB n G K bb ∧ Below w.heap.size w w'

end Go.Proofs.YtdbehbeaigfpcaaDoor

/- The period of a grid, by the program. -/



namespace Go.Proofs.YtdbehbeaigfpcaaDoor
set_option linter.unusedSimpArgs false
set_option linter.unusedVariables false
open Go.RowKit Go.Shelf
attribute [local go_sem] Oper.semAt_some

/-- A grid after some steps by one rule. -/
def itG (W H : Nat) (k y : Int) (G : Nat → Nat → Int) : Nat → Nat → Nat → Int
  | 0 => G
  | j + 1 => pull W H 1 (colG k y (itG W H k y G j))
theorem okG_it {W H n : Nat} {k y : Int} {G : Nat → Nat → Int} (hn : n = W * H) (h : OkG n G) (j : Nat) : OkG n (itG W H k y G j) := by
  induction j with
  | zero => exact h
  | succ j ih => exact okG_pull hn (okG_col ih)

theorem mchG_own {β : Type} (Bd m W H n rb ro len rc : Nat) (R : Nat → Int × Int) (f : β → Nat → Nat → Int) (B U : Nat) : OwnFrom Bd (fun (s : β) w => MchG w m W H n rb ro len rc R (f s) B U) := fun s X Y row hs hg hr => by
  obtain ⟨⟨b1, c1, b2, c2, K, hM, hr1, hr2, n1, n2, n3, q0, q1, q2, u⟩, hR, hrb, hlow, htop⟩ := hs
  have hr' : ∀ r, row = some r → ∃ o : Obj, X.heap[r]? = some o ∧ o.isCells = false := fun r e => (hr r e).2
  have rowk : ∀ b G, Row X b n G → Row Y b n G := fun b G h => ⟨Nat.lt_of_lt_of_le h.1 hg.size, fun j hj => ⟨cell_kept (h.2 j hj).1 hg hr', (frozen_kept (h.2 j hj).1 hg hr').trans (h.2 j hj).2⟩⟩
  refine ⟨⟨b1, c1, b2, c2, K, ?_, rowk _ _ hr1, rowk _ _ hr2, n1, n2, n3, q0, q1, q2, u⟩, fun i hi => ⟨cell_kept (hR i hi).1 hg hr', cell_kept (hR i hi).2 hg hr'⟩, hrb, Nat.le_trans hlow hg.size, Nat.le_trans htop hg.size⟩
  refine (hg.block m hM.lt (fun e => ?_)).trans hM
  obtain ⟨o, ho, hc⟩ := hr' m e.symm
  rw [show X.heap[m]? = _ from hM] at ho
  cases ho
  cases hc

/-- What Period gives. -/
def PerRes (W H n most : Nat) (k y : Int) (G : Nat → Nat → Int) (w : World) (e : Ending) (w' : World) : Prop :=
  Below w.heap.size w w' ∧ ((∃ j : Nat, 1 ≤ j ∧ j ≤ most ∧ EqG n (itG W H k y G j) G ∧ (∀ i, 1 ≤ i → i < j → ¬ EqG n (itG W H k y G i) G) ∧ e = .returned (.tuple #[.int .i64 j, .int .i64 0])) ∨
    ((∀ i, 1 ≤ i → i ≤ most → ¬ EqG n (itG W H k y G i) G) ∧ e = .returned (.tuple #[.int .i64 0, .int .i64 8])))

theorem keepsFrom_ex {B : Nat} {S : Nat → Prop} {W W' : World} (h : Ex S W W') (hs : ∀ k, S k → k < B) : KeepsFrom B W W' :=
  ⟨h.size, fun k o hk ho _ => (h.block k (Array.getElem?_eq_some_iff.1 ho).1 (fun x => by have := hs k x; omega)).trans ho⟩
theorem kb_ex {S S' : Nat → Prop} {W W' : World} (h : Ex S W W') (hs : ∀ k, S' k → k < W.heap.size ∧ ¬ S k) : KB S' W W' := ⟨h.size, fun k hk => h.block k (hs k hk).1 (hs k hk).2⟩

/-- What stands while Period goes its rounds. -/
structure PerI (W H n : Nat) (k y : Int) (G : Nat → Nat → Int) (m rb B U s8 lo : Nat) (w : World) (sl : Value) (pre : List Stp) (X : World) : Prop where
  mch : MchG X m W H n rb 0 1 1 (fun _ => (k, y)) (itG W H k y G pre.length) B U
  b2 : Boxed X (w.heap.size + 1 + 1) 3 (.int .i64 0)
  b3 : Boxed X (w.heap.size + 1 + 1 + 1) 34 (.int .i64 0)
  b8 : Boxed X s8 132 (.pointer (some ⟨m, 0, none⟩))
  cl : X.cell? ⟨w.heap.size, 2, none⟩ = some sl
  below : Below w.heap.size w X
  size : lo ≤ X.heap.size
  none : ∀ j, 1 ≤ j → j ≤ pre.length → ¬ EqG n (itG W H k y G j) G
theorem perI_own {Bd W H n : Nat} {k y : Int} {G : Nat → Nat → Int} {m rb B U s8 lo : Nat} {w : World} {sl : Value} (hB : w.heap.size ≤ Bd) : OwnFrom Bd (PerI W H n k y G m rb B U s8 lo w sl) := fun s X Y row hs hg hr => by
  have hr' : ∀ r, row = some r → ∃ o : Obj, X.heap[r]? = some o ∧ o.isCells = false := fun r e => (hr r e).2
  exact ⟨mchG_own Bd m W H n rb 0 1 1 _ (fun (_ : Unit) => itG W H k y G s.length) B U () X Y row hs.mch hg hr, boxed_own _ _ (fun (_ : Unit) => .int .i64 0) () X Y row hs.b2 hg hr', boxed_own _ _ (fun (_ : Unit) => .int .i64 0) () X Y row hs.b3 hg hr',
    boxed_own _ _ (fun (_ : Unit) => .pointer (some ⟨m, 0, Option.none⟩)) () X Y row hs.b8 hg hr', cell_kept hs.cl hg hr', ownFrom_below (β := Unit) (Nat.le_refl _) hB () X Y row hs.below hg hr, Nat.le_trans hs.size hg.size, hs.none⟩
structure PerX (W H n : Nat) (k y : Int) (G : Nat → Nat → Int) (w : World) (c : Code) (pre : List Stp) (X : World) : Prop where
  ret : c = .ret
  ex : ∃ (ini : List Stp) (last : Stp), pre = ini ++ [last] ∧ Boxed X (w.heap.size + 1 + 1) 3 (.int .i64 ((last.1 : Int) + 1)) ∧ EqG n (itG W H k y G (ini.length + 1)) G ∧ ∀ j, 1 ≤ j → j ≤ ini.length → ¬ EqG n (itG W H k y G j) G
  b3 : Boxed X (w.heap.size + 1 + 1 + 1) 34 (.int .i64 0)
  below : Below w.heap.size w X
theorem perX_own {Bd W H n : Nat} {k y : Int} {G : Nat → Nat → Int} {w : World} {c : Code} (hB : w.heap.size ≤ Bd) : OwnFrom Bd (PerX W H n k y G w c) := fun s X Y row hs hg hr => by
  have hr' : ∀ r, row = some r → ∃ o : Obj, X.heap[r]? = some o ∧ o.isCells = false := fun r e => (hr r e).2
  obtain ⟨ini, last, h1, h2, h3⟩ := hs.ex
  exact ⟨hs.ret, ⟨ini, last, h1, boxed_own _ _ (fun (_ : Unit) => .int .i64 ((last.1 : Int) + 1)) () X Y row h2 hg hr', h3⟩, boxed_own _ _ (fun (_ : Unit) => .int .i64 0) () X Y row hs.b3 hg hr', ownFrom_below (β := Unit) (Nat.le_refl _) hB () X Y row hs.below hg hr⟩

theorem vg_of {W H n : Nat} {G : Nat → Nat → Int} (s : Sides W H n) (hG : OkG n G) : VG W H n G := by
  obtain ⟨a, b, c, d, e, f⟩ := s
  have e' : (n : Int) = (W : Int) * (H : Int) := by rw [e]; simp
  exact ⟨⟨by omega, by omega, by omega, by omega, by omega⟩, e', hG⟩

/-- What stands behind a round's step. -/
structure PerP (W H n : Nat) (k y : Int) (G : Nat → Nat → Int) (m rb B s8 : Nat) (w : World) (sl : Value) (pre : List Stp) (X X2 : World) : Prop where
  mch : MchG X2 m W H n rb 0 1 1 (fun _ => (k, y)) (itG W H k y G (pre.length + 1)) B s8
  ex : Ex (fun k => B ≤ k ∧ k < s8) X X2
  b2 : Boxed X2 (w.heap.size + 1 + 1) 3 (.int .i64 0)
  b3 : Boxed X2 (w.heap.size + 1 + 1 + 1) 34 (.int .i64 0)
  b8 : Boxed X2 s8 132 (.pointer (some ⟨m, 0, none⟩))
  cl : X2.cell? ⟨w.heap.size, 2, none⟩ = some sl
  below : Below w.heap.size w X2
  old : PerI W H n k y G m rb B s8 s8 (s8 + 4) w sl pre X
  lo : w.heap.size + 4 ≤ B
  hi : B ≤ s8
theorem per_no {W H n : Nat} {k y : Int} {G : Nat → Nat → Int} {m rb B s8 D : Nat} {w : World} {sl : Value} {pre : List Stp} {x : Stp} {X X2 X3 : World} (h : PerP W H n k y G m rb B s8 w sl pre X X2) (hb : Below X2.heap.size X2 X3) (hD : s8 ≤ D) (hs : SameB n (itG W H k y G (pre.length + 1)) G false) :
    KeepsFrom D X X3 ∧ KB (fun k => k = s8 + 1 ∨ k = s8 + 1 + 1) X X3 ∧ PerI W H n k y G m rb B s8 s8 (s8 + 4) w sl (pre ++ [x]) X3 := by
  have lo := h.lo
  have hi := h.hi
  have hX : Ex (fun k => B ≤ k ∧ k < s8) X X3 := h.ex.trans (Ex.of_below hb)
  have hz := h.old.size
  have hno : ¬ EqG n (itG W H k y G (pre.length + 1)) G := fun e => by have := hs.2 e; cases this
  have el : (pre ++ [x]).length = pre.length + 1 := by simp
  have l2 := h.b2.lt
  have l3 := h.b3.lt
  have l8 := h.b8.lt
  refine ⟨keepsFrom_ex hX (fun k hk => by omega), kb_ex hX (fun k hk => ⟨by omega, by omega⟩), ?_⟩
  exact ⟨by rw [el]; exact h.mch.ext hb, (hb.block _ l2).trans h.b2, (hb.block _ l3).trans h.b3, (hb.block _ l8).trans h.b8, (hb.cell (p := ⟨w.heap.size, 2, none⟩) (show w.heap.size < X2.heap.size by omega)).trans h.cl, h.below.trans (hb.mono (by omega)), Nat.le_trans hz hX.size, fun j h1 h2 => by
    rw [el] at h2
    by_cases e : j = pre.length + 1
    · subst e; exact hno
    · exact h.old.none j h1 (by omega)⟩
theorem per_yes {W H n : Nat} {k y : Int} {G : Nat → Nat → Int} {m rb B s8 D : Nat} {w : World} {sl : Value} {pre : List Stp} {x : Stp} {X X2 X3 : World} (h : PerP W H n k y G m rb B s8 w sl pre X X2) (hb : Below X2.heap.size X2 X3) (hD : s8 ≤ D) (hs : EqG n (itG W H k y G (pre.length + 1)) G) :
    KeepsFrom D X ((X3.setCell ⟨w.heap.size + 1 + 1, 0, none⟩ (.int .i64 (x.1 + 1))).setCell ⟨w.heap.size + 1 + 1 + 1, 0, none⟩ (.int .i64 0)) ∧ PerX W H n k y G w .ret (pre ++ [x]) ((X3.setCell ⟨w.heap.size + 1 + 1, 0, none⟩ (.int .i64 (x.1 + 1))).setCell ⟨w.heap.size + 1 + 1 + 1, 0, none⟩ (.int .i64 0)) := by
  have lo := h.lo
  have hi := h.hi
  have hX : Ex (fun k => B ≤ k ∧ k < s8) X X3 := h.ex.trans (Ex.of_below hb)
  have hz := h.old.size
  have b2 : Boxed X3 _ _ _ := (hb.block _ h.b2.lt).trans h.b2
  have b3 : Boxed X3 _ _ _ := (hb.block _ h.b3.lt).trans h.b3
  have l2 := h.b2.lt
  have hbw : Below w.heap.size w X3 := h.below.trans (hb.mono (by omega))
  refine ⟨((keepsFrom_ex hX (fun k hk => by omega)).trans ((KeepsOthers.setCell _ _ _).from _)).trans ((KeepsOthers.setCell _ _ _).from _), rfl, ⟨pre, x, rfl, (b2.set _).other (by omega) _, hs, h.old.none⟩, (b3.other (by omega) _).set _, (hbw.setCell (p := ⟨w.heap.size + 1 + 1, 0, none⟩) (show w.heap.size ≤ w.heap.size + 1 + 1 by omega) _).setCell (p := ⟨w.heap.size + 1 + 1 + 1, 0, none⟩) (show w.heap.size ≤ w.heap.size + 1 + 1 + 1 by omega) _⟩

end Go.Proofs.YtdbehbeaigfpcaaDoor

/- A machine's deed at each number of a step: by the program. -/

namespace Go.Proofs.YtdbehbeaigfpcaaDoor
set_option linter.unusedSimpArgs false
set_option linter.unusedVariables false
open Go.RowKit Go.Shelf
attribute [local go_sem] Oper.semAt_some

/-- One step by the rules, and one step back. -/
def fwd (W H len : Nat) (R : Nat → Int × Int) (t : Nat) (G : Nat → Nat → Int) : Nat → Nat → Int := pull W H 1 (colG (R (t % len)).1 (R (t % len)).2 G)
def bwd (W H len : Nat) (R : Nat → Int × Int) (t : Nat) (G : Nat → Nat → Int) : Nat → Nat → Int := colG (R (t % len)).1 (-(R (t % len)).2) (pull W H (-1) G)
theorem okG_fwd {W H n len : Nat} {R : Nat → Int × Int} {t : Nat} {G : Nat → Nat → Int} (hn : n = W * H) (h : OkG n G) : OkG n (fwd W H len R t G) := okG_pull hn (okG_col h)
theorem okG_bwd {W H n len : Nat} {R : Nat → Int × Int} {t : Nat} {G : Nat → Nat → Int} (hn : n = W * H) (h : OkG n G) : OkG n (bwd W H len R t G) := okG_col (okG_pull hn h)
def foldG (F : Nat → (Nat → Nat → Int) → (Nat → Nat → Int)) (l : List Stp) (G : Nat → Nat → Int) : Nat → Nat → Int := l.foldl (fun K t => F t.1 K) G
theorem foldG_snoc (F : Nat → (Nat → Nat → Int) → (Nat → Nat → Int)) (l : List Stp) (x : Stp) (G : Nat → Nat → Int) : foldG F (l ++ [x]) G = F x.1 (foldG F l G) := by simp [foldG]
theorem okG_fold {n : Nat} {F : Nat → (Nat → Nat → Int) → (Nat → Nat → Int)} (hF : ∀ t K, OkG n K → OkG n (F t K)) (l : List Stp) {G : Nat → Nat → Int} (h : OkG n G) : OkG n (foldG F l G) := by
  induction l generalizing G with
  | nil => exact h
  | cons x l ih => exact ih (hF _ _ h)

theorem ex_own {β : Type} {Bd : Nat} {S : Nat → Prop} {w : World} (hB : w.heap.size ≤ Bd) : OwnFrom Bd (fun (_ : β) W => Ex S w W) := fun s X Y row hs hg hr =>
  ⟨hg.os.trans hs.os, hg.tape.trans hs.tape, hg.output.trans hs.output, Nat.le_trans hs.size hg.size, fun k hk hn => (hg.block k (Nat.lt_of_lt_of_le hk hs.size) (fun e => by have := (hr k e.symm).1; omega)).trans (hs.block k hk hn)⟩

end Go.Proofs.YtdbehbeaigfpcaaDoor

/- Whether a run is one: by the program. -/


namespace Go.Proofs.YtdbehbeaigfpcaaDoor
set_option linter.unusedSimpArgs false
set_option linter.unusedVariables false
open Go.RowKit

/-- The numbers of a run's steps are in their range. -/
def RunOk (t n : Int) : Prop := 0 ≤ t ∧ t ≤ 1000000 ∧ 0 ≤ n ∧ n ≤ 1000 ∧ (n = 0 ∨ t + n - 1 ≤ 1000000)

end Go.Proofs.YtdbehbeaigfpcaaDoor

/- Runs and their undoing: by the program. -/


namespace Go.Proofs.YtdbehbeaigfpcaaDoor
set_option linter.unusedSimpArgs false
set_option linter.unusedVariables false
open Go.RowKit Go.Shelf
attribute [local go_sem] Oper.semAt_some

abbrev Stepper := Nat → (Nat → Nat → Int) → (Nat → Nat → Int)
/-- A grid after some steps, and one that becomes it. -/
def runG (F : Stepper) (t : Nat) : Nat → (Nat → Nat → Int) → Nat → Nat → Int
  | 0, G => G
  | c + 1, G => F (t + c) (runG F t c G)
def undoR (F : Stepper) (t : Nat) : Nat → (Nat → Nat → Int) → Nat → Nat → Int
  | 0, G => G
  | c + 1, G => undoR F t c (F (t + c) G)
def up (t : Nat) (j : Nat) : Stp := ⟨min (t + j) 1000000, Nat.min_le_right _ _⟩
def down (t c : Nat) (j : Nat) : Stp := ⟨min (t + c - 1 - j) 1000000, Nat.min_le_right _ _⟩
theorem fold_up (F : Stepper) (t c : Nat) (G : Nat → Nat → Int) (h : c = 0 ∨ t + c - 1 ≤ 1000000) : foldG F (upto (up t) c) G = runG F t c G := by
  induction c with
  | zero => rfl
  | succ c ih =>
    rw [upto_succ, foldG_snoc, ih (by omega)]
    show F (min (t + c) 1000000) _ = F (t + c) _
    rw [Nat.min_eq_left (by omega)]
theorem upto_down (t c : Nat) : upto (down t (c + 1)) (c + 1) = down t (c + 1) 0 :: upto (down t c) c := by
  unfold upto
  rw [List.range_succ_eq_map, List.map_cons, List.map_map]
  congr 1
  apply List.map_congr_left
  intro j hj
  have := List.mem_range.1 hj
  simp only [Function.comp, down, Nat.succ_eq_add_one]
  congr 2
  omega
theorem fold_down (F : Stepper) (t c : Nat) (G : Nat → Nat → Int) (h : c = 0 ∨ t + c - 1 ≤ 1000000) : foldG F (upto (down t c) c) G = undoR F t c G := by
  induction c generalizing G with
  | zero => rfl
  | succ c ih =>
    rw [upto_down]
    show foldG F (upto (down t c) c) (F (min (t + (c + 1) - 1 - 0) 1000000) G) = undoR F t c (F (t + c) G)
    rw [ih _ (by omega), Nat.min_eq_left (by omega)]
    rfl

/-- A grid that was made. -/
def Made (W H : Int) (n : Nat) (K : Nat → Nat → Int) (w : World) (e : Ending) (w' : World) : Prop :=
  ∃ b c, e = .returned (.tuple #[.agg #[.int .i64 W, .int .i64 H, .slice (some ⟨b, 0, none⟩) n c], .int .i64 0]) ∧ CellsIn w' (some ⟨b, 0, none⟩) n K ∧ w.heap.size ≤ b ∧ Below w.heap.size w w'

/-- A block of three cells. -/
def Three (W : World) (B : Nat) (t : TypeId) (x y z : Value) : Prop := W.heap[B]? = some (.cells #[x, y, z] t (0, 0))
theorem Three.lt {W : World} {B : Nat} {t : TypeId} {x y z : Value} (h : Three W B t x y z) : B < W.heap.size := (Array.getElem?_eq_some_iff.1 h).1
theorem Three.c0 {W : World} {B : Nat} {t : TypeId} {x y z : Value} (h : Three W B t x y z) : W.cell? ⟨B, 0, none⟩ = some x := by simp [World.cell?, show W.heap[B]? = _ from h]
theorem Three.c1 {W : World} {B : Nat} {t : TypeId} {x y z : Value} (h : Three W B t x y z) : W.cell? ⟨B, 1, none⟩ = some y := by simp [World.cell?, show W.heap[B]? = _ from h]
theorem Three.c2 {W : World} {B : Nat} {t : TypeId} {x y z : Value} (h : Three W B t x y z) : W.cell? ⟨B, 2, none⟩ = some z := by simp [World.cell?, show W.heap[B]? = _ from h]
theorem Three.free {W : World} {B : Nat} {t : TypeId} {x y z : Value} (h : Three W B t x y z) (i : Nat) : W.frozen? ⟨B, i, none⟩ = false := by simp [World.frozen?, show W.heap[B]? = _ from h]
theorem Three.below {n : Nat} {W W' : World} {B : Nat} {t : TypeId} {x y z : Value} (h : Three W B t x y z) (hb : Below n W W') (hB : B < n) : Three W' B t x y z := (hb.block B hB).trans h
theorem Three.ex {S : Nat → Prop} {W W' : World} {B : Nat} {t : TypeId} {x y z : Value} (h : Three W B t x y z) (hx : Ex S W W') (hs : ¬ S B) : Three W' B t x y z := (hx.block B h.lt hs).trans h
theorem Three.new1 (w : World) (o : Obj) (t : TypeId) (x y z : Value) : Three ((w.alloc o).alloc (.cells #[x, y, z] t)) (w.heap.size + 1) t x y z := by
  have := World.alloc_heap_new (w.alloc o) (.cells #[x, y, z] t)
  rw [World.size_alloc] at this
  exact this

theorem made_end {W H : Int} {n b c : Nat} {K : Nat → Nat → Int} {w w5 : World} {v0 v1 v2 : Value} (hr : Row w5 b n K) (hb : Below w.heap.size w w5) (hne : w.heap.size + 1 < b) :
    Made W H n K w (.returned (.tuple #[.agg #[.int .i64 W, .int .i64 H, .slice (some ⟨b, 0, none⟩) n c], .int .i64 0])) (((w5.setCell ⟨w.heap.size + 1, 0, none⟩ v0).setCell ⟨w.heap.size + 1, 1, none⟩ v1).setCell ⟨w.heap.size + 1, 2, none⟩ v2) := by
  have x : Ex (fun k => k = w.heap.size + 1) w5 (((w5.setCell ⟨w.heap.size + 1, 0, none⟩ v0).setCell ⟨w.heap.size + 1, 1, none⟩ v1).setCell ⟨w.heap.size + 1, 2, none⟩ v2) := by
    refine Ex.setCell (Ex.setCell (Ex.setCell (Ex.refl _ w5) ?_ _) ?_ _) ?_ _ <;> rfl
  exact ⟨b, c, rfl, (hr.ex x (by omega)).cellsIn, by omega, hb.trans (x.below hb.size (fun k hk => by omega))⟩

/-- A made grid, handed on through a result's own block. -/
theorem made_pass {W H : Int} {n b c r : Nat} {K : Nat → Nat → Int} {w w5 : World} {v0 v1 v2 : Value} (hr : CellsIn w5 (some ⟨b, 0, none⟩) n K) (hb : Below w.heap.size w w5) (h1 : w.heap.size ≤ r) (h2 : r < b) :
    Made W H n K w (.returned (.tuple #[.agg #[.int .i64 W, .int .i64 H, .slice (some ⟨b, 0, none⟩) n c], .int .i64 0])) (((w5.setCell ⟨r, 0, none⟩ v0).setCell ⟨r, 1, none⟩ v1).setCell ⟨r, 2, none⟩ v2) := by
  have x : Ex (fun k => k = r) w5 (((w5.setCell ⟨r, 0, none⟩ v0).setCell ⟨r, 1, none⟩ v1).setCell ⟨r, 2, none⟩ v2) := by
    refine Ex.setCell (Ex.setCell (Ex.setCell (Ex.refl _ w5) ?_ _) ?_ _) ?_ _ <;> rfl
  refine ⟨b, c, rfl, ?_, by omega, hb.trans (x.below hb.size (fun k hk => by omega))⟩
  rcases hr with h | ⟨b', o, e, hlt, hG⟩
  · exact .inl h
  · cases e
    exact .inr ⟨b, 0, rfl, Nat.lt_of_lt_of_le hlt x.size, fun i hi => ⟨(x.cell hlt (by omega)).trans (hG i hi).1, (x.cell hlt (by omega)).trans (hG i hi).2.1, (x.cell hlt (by omega)).trans (hG i hi).2.2.1, (x.cell hlt (by omega)).trans (hG i hi).2.2.2⟩⟩

end Go.Proofs.YtdbehbeaigfpcaaDoor

/- One step of a grid, its momentum, and whether two grids are the same. -/


namespace Go.Proofs.YtdbehbeaigfpcaaDoor
set_option linter.unusedSimpArgs false
set_option linter.unusedVariables false
open Go.RowKit

theorem fwd_bwd {W H n len : Nat} {R : Nat → Int × Int} {t : Nat} {G : Nat → Nat → Int} (hn : n = W * H) (hk : OkRs len R) (h : OkG n G) : EqG n (bwd W H len R t (fwd W H len R t G)) G := by
  have hr := hk.2.2 (t % len) (Nat.mod_lt _ hk.1)
  unfold fwd bwd
  exact (EqG.col (pull_back (way := 1) hn)).trans (col_back hr h)
theorem bwd_fwd {W H n len : Nat} {R : Nat → Int × Int} {t : Nat} {G : Nat → Nat → Int} (hn : n = W * H) (hk : OkRs len R) (h : OkG n G) : EqG n (fwd W H len R t (bwd W H len R t G)) G := by
  have hr := hk.2.2 (t % len) (Nat.mod_lt _ hk.1)
  have hr' : OkR (R (t % len)).1 (-(R (t % len)).2) := okR_neg hr
  have c := col_back (k := (R (t % len)).1) (y := -(R (t % len)).2) hr' (okG_pull (way := -1) hn h)
  rw [Int.neg_neg] at c
  unfold fwd bwd
  have p := pull_back (W := W) (H := H) (n := n) (way := -1) (G := G) hn
  rw [Int.neg_neg] at p
  exact (EqG.pull hn c).trans p

set_option maxHeartbeats 2000000 in
theorem gMomentum_ok1 (W H : Int) (b off n cap : Nat) (G : Nat → Nat → Int) (w : World) (hv : VG W H n G) (hlt : b < w.heap.size) (hG : Grd w b off n G) :
    Calls Tryd.prog 16 #[.agg #[.int .i64 W, .int .i64 H, .slice (some ⟨b, off, none⟩) n cap]] w fun e w' => e = .returned (.tuple #[.int .i64 (imE G n), .int .i64 (imN G n), .int .i64 0]) ∧ Below w.heap.size w w' := by
  have HV := Lib.hid (fun w' (hb : Below w.heap.size w w') => gValid_ok W H (some ⟨b, off, none⟩) n cap G w' hv ((show CellsIn w _ n G from .inr ⟨b, off, rfl, hlt, hG⟩).below hb))
  obtain ⟨hs, hn, hok, hw⟩ := hv
  have hn2 : (n : Int) ≤ 1024 := by have := hs.bd; omega
  have HO := Lib.hid hok; clear hok
  have HG := Lib.hid hG; clear hG
  clear hw hn hs
  go_enter Tryd.func16, Tryd.ntmps16
  go_wp2_with (go_at_call 36; (with_reducible refine (HV.out _ (by (repeat' (first | (with_reducible exact Below.refl _ _) | (with_reducible refine Below.setCell ?_ (by first | omega | (simp; done) | (simp; omega)) _) | (with_reducible refine Below.alloc ?_ (by first | omega | (simp; done) | (simp; omega)) _) | (with_reducible refine Below.drew ?_) | (with_reducible refine below_drewN ?_ _) | (with_reducible refine Below.trans ?_ (Below.mono (by assumption) (by first | omega | (simp; done) | (simp; omega)))))))).mono ?_); rintro e w1 ⟨rfl, hb⟩; obtain ⟨hc, hf, hz⟩ := bcall hb; (try simp at hc hf hz))
  have HB1 := Lib.hid (show Below w.heap.size w w1 from by (repeat' (first | (with_reducible exact Below.refl _ _) | (with_reducible refine Below.setCell ?_ (by first | omega | (simp; done) | (simp; omega)) _) | (with_reducible refine Below.alloc ?_ (by first | omega | (simp; done) | (simp; omega)) _) | (with_reducible refine Below.drew ?_) | (with_reducible refine below_drewN ?_ _) | (with_reducible refine Below.trans ?_ (Below.mono (by assumption) (by first | omega | (simp; done) | (simp; omega)))))))
  clear hc hf hb HV
  go_loopw [2, 3, 16] (fun x y i wr => ∃ k : Nat, k ≤ n ∧ i = .int .i64 k ∧ x = .int .i64 (imE G k) ∧ y = .int .i64 (imN G k) ∧ Below w.heap.size w wr) (fun _ _ i _ => n - (intOf i).toNat)
  case atStart => exact ⟨0, Nat.zero_le _, rfl, rfl, rfl, HB1.out⟩
  case round =>
    obtain ⟨k, hk, rfl, rfl, rfl, hB⟩ := hrel
    by_cases hlk : k < n
    · obtain ⟨c0, c1, c2, c3⟩ := HG.out.get hB hlt hlk
      have HK := Lib.hid (HO.out k hlk)
      have hs := hB.size
      obtain ⟨m0, m1, m2, m3⟩ := im_bd HO.out k hk
      obtain ⟨m4, m5, m6, m7⟩ := im_bd HO.out (k + 1) hlk
      have e1 : imE G (k + 1) = imE G k + (G k 0 - G k 2) := rfl
      have e2 : imN G (k + 1) = imN G k + (G k 1 - G k 3) := rfl
      rw [e1] at m4 m5
      rw [e2] at m6 m7
      have E1 := Lib.hid e1
      have E2 := Lib.hid e2
      clear e1 e2
      have z0 : (k : Int) ≤ 1024 := by omega
      go_wp2_with (go_at_call 37; (with_reducible refine (momentum_ok _ _ _ _ _ HK.out).mono ?_); rintro e w1 ⟨rfl, hb⟩; obtain ⟨hc, hf, hz⟩ := bcall hb; (try simp at hc hf hz))
      go_roundw
      case rel => exact ⟨k + 1, by omega, by go_num, by rw [E1.out], by rw [E2.out], by (repeat' (first | (with_reducible exact Below.refl _ _) | (with_reducible refine Below.setCell ?_ (by first | omega | (simp; done) | (simp; omega)) _) | (with_reducible refine Below.alloc ?_ (by first | omega | (simp; done) | (simp; omega)) _) | (with_reducible refine Below.drew ?_) | (with_reducible refine below_drewN ?_ _) | (with_reducible refine Below.trans ?_ (Below.mono (by assumption) (by first | omega | (simp; done) | (simp; omega))))))⟩
      case measure => simp [intOf]; omega
    · obtain rfl : n = k := by omega
      go_wp2
      go_ret3
      exact ⟨rfl, hB⟩
theorem gMomentum_ok (W H : Int) (ao : Option Addr) (n cap : Nat) (G : Nat → Nat → Int) (w : World) (hv : VG W H n G) (h : CellsIn w ao n G) :
    Calls Tryd.prog 16 #[.agg #[.int .i64 W, .int .i64 H, .slice (ao) n cap]] w fun e w' => e = .returned (.tuple #[.int .i64 (imE G n), .int .i64 (imN G n), .int .i64 0]) ∧ Below w.heap.size w w' := by
  rcases h with h | ⟨b, off, rfl, hlt, hG⟩
  · have := hv.1.bd
    have := hv.2.1
    omega
  · exact gMomentum_ok1 W H b off n cap G w hv hlt hG

end Go.Proofs.YtdbehbeaigfpcaaDoor
