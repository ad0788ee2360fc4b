/- The period of a grid, by the program. -/
import Derived.Test.YtmkhbkkhoemkoaaCopy
import Derived.Test.YtmkhbkkhoemkoaaNums
import Derived.Test.YtmkhbkkhoemkoaaSameC
namespace Go.Proofs.Ytmkhbkkhoemkoaa
set_option linter.unusedSimpArgs false
set_option linter.unusedVariables false
open Go.RowKit Go.Shelf
attribute [local go_sem] Oper.semAt_some

/-- A grid after some steps by one rule. -/
def itG (W H : Nat) (k y : Int) (G : Nat → Nat → Int) : Nat → Nat → Nat → Int
  | 0 => G
  | j + 1 => pull W H 1 (colG k y (itG W H k y G j))
theorem okG_it {W H n : Nat} {k y : Int} {G : Nat → Nat → Int} (hn : n = W * H) (h : OkG n G) (j : Nat) : OkG n (itG W H k y G j) := by
  induction j with
  | zero => exact h
  | succ j ih => exact okG_pull hn (okG_col ih)

theorem mchG_own {β : Type} (Bd m W H n rb ro len rc : Nat) (R : Nat → Int × Int) (f : β → Nat → Nat → Int) (B U : Nat) : OwnFrom Bd (fun (s : β) w => MchG w m W H n rb ro len rc R (f s) B U) := fun s X Y row hs hg hr => by
  obtain ⟨⟨b1, c1, b2, c2, K, hM, hr1, hr2, n1, n2, n3, q0, q1, q2, u⟩, hR, hrb, hlow, htop⟩ := hs
  have hr' : ∀ r, row = some r → ∃ o : Obj, X.heap[r]? = some o ∧ o.isCells = false := fun r e => (hr r e).2
  have rowk : ∀ b G, Row X b n G → Row Y b n G := fun b G h => ⟨Nat.lt_of_lt_of_le h.1 hg.size, fun j hj => ⟨cell_kept (h.2 j hj).1 hg hr', (frozen_kept (h.2 j hj).1 hg hr').trans (h.2 j hj).2⟩⟩
  refine ⟨⟨b1, c1, b2, c2, K, ?_, rowk _ _ hr1, rowk _ _ hr2, n1, n2, n3, q0, q1, q2, u⟩, fun i hi => ⟨cell_kept (hR i hi).1 hg hr', cell_kept (hR i hi).2 hg hr'⟩, hrb, Nat.le_trans hlow hg.size, Nat.le_trans htop hg.size⟩
  refine (hg.block m hM.lt (fun e => ?_)).trans hM
  obtain ⟨o, ho, hc⟩ := hr' m e.symm
  rw [show X.heap[m]? = _ from hM] at ho
  cases ho
  cases hc

/-- What Period gives. -/
def PerRes (W H n most : Nat) (k y : Int) (G : Nat → Nat → Int) (w : World) (e : Ending) (w' : World) : Prop :=
  Below w.heap.size w w' ∧ ((∃ j : Nat, 1 ≤ j ∧ j ≤ most ∧ EqG n (itG W H k y G j) G ∧ (∀ i, 1 ≤ i → i < j → ¬ EqG n (itG W H k y G i) G) ∧ e = .returned (.tuple #[.int .i64 j, .int .i64 0])) ∨
    ((∀ i, 1 ≤ i → i ≤ most → ¬ EqG n (itG W H k y G i) G) ∧ e = .returned (.tuple #[.int .i64 0, .int .i64 8])))

theorem keepsFrom_ex {B : Nat} {S : Nat → Prop} {W W' : World} (h : Ex S W W') (hs : ∀ k, S k → k < B) : KeepsFrom B W W' :=
  ⟨h.size, fun k o hk ho _ => (h.block k (Array.getElem?_eq_some_iff.1 ho).1 (fun x => by have := hs k x; omega)).trans ho⟩
theorem kb_ex {S S' : Nat → Prop} {W W' : World} (h : Ex S W W') (hs : ∀ k, S' k → k < W.heap.size ∧ ¬ S k) : KB S' W W' := ⟨h.size, fun k hk => h.block k (hs k hk).1 (hs k hk).2⟩

/-- What stands while Period goes its rounds. -/
structure PerI (W H n : Nat) (k y : Int) (G : Nat → Nat → Int) (m rb B U s8 lo : Nat) (w : World) (sl : Value) (pre : List Stp) (X : World) : Prop where
  mch : MchG X m W H n rb 0 1 1 (fun _ => (k, y)) (itG W H k y G pre.length) B U
  b2 : Boxed X (w.heap.size + 1 + 1) 3 (.int .i64 0)
  b3 : Boxed X (w.heap.size + 1 + 1 + 1) 27 (.int .i64 0)
  b8 : Boxed X s8 70 (.pointer (some ⟨m, 0, none⟩))
  cl : X.cell? ⟨w.heap.size, 2, none⟩ = some sl
  below : Below w.heap.size w X
  size : lo ≤ X.heap.size
  none : ∀ j, 1 ≤ j → j ≤ pre.length → ¬ EqG n (itG W H k y G j) G
theorem perI_own {Bd W H n : Nat} {k y : Int} {G : Nat → Nat → Int} {m rb B U s8 lo : Nat} {w : World} {sl : Value} (hB : w.heap.size ≤ Bd) : OwnFrom Bd (PerI W H n k y G m rb B U s8 lo w sl) := fun s X Y row hs hg hr => by
  have hr' : ∀ r, row = some r → ∃ o : Obj, X.heap[r]? = some o ∧ o.isCells = false := fun r e => (hr r e).2
  exact ⟨mchG_own Bd m W H n rb 0 1 1 _ (fun (_ : Unit) => itG W H k y G s.length) B U () X Y row hs.mch hg hr, boxed_own _ _ (fun (_ : Unit) => .int .i64 0) () X Y row hs.b2 hg hr', boxed_own _ _ (fun (_ : Unit) => .int .i64 0) () X Y row hs.b3 hg hr',
    boxed_own _ _ (fun (_ : Unit) => .pointer (some ⟨m, 0, Option.none⟩)) () X Y row hs.b8 hg hr', cell_kept hs.cl hg hr', ownFrom_below (β := Unit) (Nat.le_refl _) hB () X Y row hs.below hg hr, Nat.le_trans hs.size hg.size, hs.none⟩
structure PerX (W H n : Nat) (k y : Int) (G : Nat → Nat → Int) (w : World) (c : Code) (pre : List Stp) (X : World) : Prop where
  ret : c = .ret
  ex : ∃ (ini : List Stp) (last : Stp), pre = ini ++ [last] ∧ Boxed X (w.heap.size + 1 + 1) 3 (.int .i64 ((last.1 : Int) + 1)) ∧ EqG n (itG W H k y G (ini.length + 1)) G ∧ ∀ j, 1 ≤ j → j ≤ ini.length → ¬ EqG n (itG W H k y G j) G
  b3 : Boxed X (w.heap.size + 1 + 1 + 1) 27 (.int .i64 0)
  below : Below w.heap.size w X
theorem perX_own {Bd W H n : Nat} {k y : Int} {G : Nat → Nat → Int} {w : World} {c : Code} (hB : w.heap.size ≤ Bd) : OwnFrom Bd (PerX W H n k y G w c) := fun s X Y row hs hg hr => by
  have hr' : ∀ r, row = some r → ∃ o : Obj, X.heap[r]? = some o ∧ o.isCells = false := fun r e => (hr r e).2
  obtain ⟨ini, last, h1, h2, h3⟩ := hs.ex
  exact ⟨hs.ret, ⟨ini, last, h1, boxed_own _ _ (fun (_ : Unit) => .int .i64 ((last.1 : Int) + 1)) () X Y row h2 hg hr', h3⟩, boxed_own _ _ (fun (_ : Unit) => .int .i64 0) () X Y row hs.b3 hg hr', ownFrom_below (β := Unit) (Nat.le_refl _) hB () X Y row hs.below hg hr⟩

theorem vg_of {W H n : Nat} {G : Nat → Nat → Int} (s : Sides W H n) (hG : OkG n G) : VG W H n G := by
  obtain ⟨a, b, c, d, e, f⟩ := s
  have e' : (n : Int) = (W : Int) * (H : Int) := by rw [e]; simp
  exact ⟨⟨by omega, by omega, by omega, by omega, by omega⟩, e', hG⟩

/-- What stands behind a round's step. -/
structure PerP (W H n : Nat) (k y : Int) (G : Nat → Nat → Int) (m rb B s8 : Nat) (w : World) (sl : Value) (pre : List Stp) (X X2 : World) : Prop where
  mch : MchG X2 m W H n rb 0 1 1 (fun _ => (k, y)) (itG W H k y G (pre.length + 1)) B s8
  ex : Ex (fun k => B ≤ k ∧ k < s8) X X2
  b2 : Boxed X2 (w.heap.size + 1 + 1) 3 (.int .i64 0)
  b3 : Boxed X2 (w.heap.size + 1 + 1 + 1) 27 (.int .i64 0)
  b8 : Boxed X2 s8 70 (.pointer (some ⟨m, 0, none⟩))
  cl : X2.cell? ⟨w.heap.size, 2, none⟩ = some sl
  below : Below w.heap.size w X2
  old : PerI W H n k y G m rb B s8 s8 (s8 + 4) w sl pre X
  lo : w.heap.size + 4 ≤ B
  hi : B ≤ s8
theorem per_no {W H n : Nat} {k y : Int} {G : Nat → Nat → Int} {m rb B s8 D : Nat} {w : World} {sl : Value} {pre : List Stp} {x : Stp} {X X2 X3 : World} (h : PerP W H n k y G m rb B s8 w sl pre X X2) (hb : Below X2.heap.size X2 X3) (hD : s8 ≤ D) (hs : SameB n (itG W H k y G (pre.length + 1)) G false) :
    KeepsFrom D X X3 ∧ KB (fun k => k = s8 + 1 ∨ k = s8 + 1 + 1) X X3 ∧ PerI W H n k y G m rb B s8 s8 (s8 + 4) w sl (pre ++ [x]) X3 := by
  have lo := h.lo
  have hi := h.hi
  have hX : Ex (fun k => B ≤ k ∧ k < s8) X X3 := h.ex.trans (Ex.of_below hb)
  have hz := h.old.size
  have hno : ¬ EqG n (itG W H k y G (pre.length + 1)) G := fun e => by have := hs.2 e; cases this
  have el : (pre ++ [x]).length = pre.length + 1 := by simp
  have l2 := h.b2.lt
  have l3 := h.b3.lt
  have l8 := h.b8.lt
  refine ⟨keepsFrom_ex hX (fun k hk => by omega), kb_ex hX (fun k hk => ⟨by omega, by omega⟩), ?_⟩
  exact ⟨by rw [el]; exact h.mch.ext hb, (hb.block _ l2).trans h.b2, (hb.block _ l3).trans h.b3, (hb.block _ l8).trans h.b8, (hb.cell (p := ⟨w.heap.size, 2, none⟩) (show w.heap.size < X2.heap.size by omega)).trans h.cl, h.below.trans (hb.mono (by omega)), Nat.le_trans hz hX.size, fun j h1 h2 => by
    rw [el] at h2
    by_cases e : j = pre.length + 1
    · subst e; exact hno
    · exact h.old.none j h1 (by omega)⟩
theorem per_yes {W H n : Nat} {k y : Int} {G : Nat → Nat → Int} {m rb B s8 D : Nat} {w : World} {sl : Value} {pre : List Stp} {x : Stp} {X X2 X3 : World} (h : PerP W H n k y G m rb B s8 w sl pre X X2) (hb : Below X2.heap.size X2 X3) (hD : s8 ≤ D) (hs : EqG n (itG W H k y G (pre.length + 1)) G) :
    KeepsFrom D X ((X3.setCell ⟨w.heap.size + 1 + 1, 0, none⟩ (.int .i64 (x.1 + 1))).setCell ⟨w.heap.size + 1 + 1 + 1, 0, none⟩ (.int .i64 0)) ∧ PerX W H n k y G w .ret (pre ++ [x]) ((X3.setCell ⟨w.heap.size + 1 + 1, 0, none⟩ (.int .i64 (x.1 + 1))).setCell ⟨w.heap.size + 1 + 1 + 1, 0, none⟩ (.int .i64 0)) := by
  have lo := h.lo
  have hi := h.hi
  have hX : Ex (fun k => B ≤ k ∧ k < s8) X X3 := h.ex.trans (Ex.of_below hb)
  have hz := h.old.size
  have b2 : Boxed X3 _ _ _ := (hb.block _ h.b2.lt).trans h.b2
  have b3 : Boxed X3 _ _ _ := (hb.block _ h.b3.lt).trans h.b3
  have l2 := h.b2.lt
  have hbw : Below w.heap.size w X3 := h.below.trans (hb.mono (by omega))
  refine ⟨((keepsFrom_ex hX (fun k hk => by omega)).trans ((KeepsOthers.setCell _ _ _).from _)).trans ((KeepsOthers.setCell _ _ _).from _), rfl, ⟨pre, x, rfl, (b2.set _).other (by omega) _, hs, h.old.none⟩, (b3.other (by omega) _).set _, (hbw.setCell (p := ⟨w.heap.size + 1 + 1, 0, none⟩) (show w.heap.size ≤ w.heap.size + 1 + 1 by omega) _).setCell (p := ⟨w.heap.size + 1 + 1 + 1, 0, none⟩) (show w.heap.size ≤ w.heap.size + 1 + 1 + 1 by omega) _⟩

end Go.Proofs.Ytmkhbkkhoemkoaa
