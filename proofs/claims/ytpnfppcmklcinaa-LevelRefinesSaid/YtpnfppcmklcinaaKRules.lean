/- The rules of steps: what a run of rules yields, one round after another. -/
import Derived.RangeFuncNested
import Derived.RangeFuncBound
import Derived.RangeFuncCalls
import Derived.RangeFuncLeaves
import Derived.Shelf.Abstract
import Derived.Shelf.RegionOpen
import Derived.WalkKit
import Derived.OwnWalkIn
import Derived.TacticsInMore
import Derived.LoopNIn
import Derived.LoopIn
import Derived.Test.YtpnfppcmklcinaaKColl
namespace Go.Proofs.Ytpnfppcmklcinaa
set_option linter.unusedSimpArgs false
set_option linter.unusedVariables false
open Go.RowKit Go.Shelf
attribute [local go_sem] Oper.semAt_some

/-- What has come when k rounds are over. -/
def upto {α : Type} (f : Nat → α) (k : Nat) : List α := (List.range k).map f
theorem upto_succ {α : Type} (f : Nat → α) (k : Nat) : upto f (k + 1) = upto f k ++ [f k] := by simp [upto, List.range_succ]
theorem upto_length {α : Type} (f : Nat → α) (k : Nat) : (upto f k).length = k := by simp [upto]

/-- Some blocks are kept as they are. -/
def KB (S : Nat → Prop) (A B : World) : Prop := A.heap.size ≤ B.heap.size ∧ ∀ k, S k → B.heap[k]? = A.heap[k]?
theorem KB.refl (S : Nat → Prop) (A : World) : KB S A A := ⟨Nat.le_refl _, fun _ _ => rfl⟩
theorem KB.trans {S : Nat → Prop} {A B C : World} (h : KB S A B) (g : KB S B C) : KB S A C := ⟨Nat.le_trans h.1 g.1, fun k hk => (g.2 k hk).trans (h.2 k hk)⟩
theorem KB.of_below {S : Nat → Prop} {n : Nat} {A B : World} (h : Below n A B) (hS : ∀ k, S k → k < n) : KB S A B := ⟨h.size, fun k hk => h.block k (hS k hk)⟩
theorem KB.cell {S : Nat → Prop} {A B : World} (h : KB S A B) {b o : Nat} (hb : S b) : B.cell? ⟨b, o, none⟩ = A.cell? ⟨b, o, none⟩ := World.cell?_of_block (a := ⟨b, o, none⟩) (h.2 b hb)
theorem KB.set {S : Nat → Prop} {A : World} {b o : Nat} {v : Value} (hb : ¬ S b) : KB S A (A.setCell ⟨b, o, none⟩ v) := ⟨by simp [World.setCell], fun k hk => Below.heap_setCell _ _ _ _ (fun e => hb (by rw [← show k = b from e]; exact hk))⟩
theorem KB.alloc {S : Nat → Prop} {A B : World} (h : KB S A B) (hS : ∀ k, S k → k < A.heap.size) (o : Obj) : KB S A (B.alloc o) := h.trans ⟨by simp, fun k hk => Below.heap_alloc _ _ _ (Nat.lt_of_lt_of_le (hS k hk) h.1)⟩
theorem kb_drew (S : Nat → Prop) (A : World) : KB S A A.drew := ⟨Nat.le_refl _, fun _ _ => rfl⟩
theorem kb_put {S : Nat → Prop} {w : World} (hS : ∀ k, S k → k < w.heap.size) : ∀ (W : World) (l : Nat) (o o' : Obj), w.heap.size ≤ l → W.heap[l]? = some o → o.isCells = false → o.isWalk = false → KB S W (W.putObj l o') :=
  fun W l o o' hl ho _ _ => ⟨by simp [World.putObj], fun k hk => World.putObj_heap_other (by have := hS k hk; omega)⟩

/-- The rules lie there. -/
def RulesAt (w : World) (b off n : Nat) (R : Nat → Int × Int) : Prop := ∀ i, i < n → w.cell? ⟨b, off + i * 2, none⟩ = some (.int .i64 ((R i).1)) ∧ w.cell? ⟨b, off + i * 2 + 1, none⟩ = some (.int .i64 ((R i).2))

/-- How a round ends: it goes on, or it has said no more. -/
def RoundEnd (A B : World → Prop) (bb : Bool) (W' : World) : Prop := (bb = true ∧ A W') ∨ (bb = false ∧ B W')
def RoundDone (A B : World → Prop) (e : Ending) (W' : World) : Prop := ∃ bb, e = .returned (.bool bb) ∧ RoundEnd A B bb W'
theorem roundDone {A B : World → Prop} {e : Ending} {W' : World} (h : (e = .returned (.bool true) ∧ A W') ∨ (e = .returned (.bool false) ∧ B W')) : RoundDone A B e W' := by
  rcases h with ⟨h, a⟩ | ⟨h, b⟩
  · exact ⟨true, h, .inl ⟨rfl, a⟩⟩
  · exact ⟨false, h, .inr ⟨rfl, b⟩⟩

end Go.Proofs.Ytpnfppcmklcinaa

/- Whether rules are valid, and the rule of a step: by the program and by the reference. -/

namespace Go.Proofs.Ytpnfppcmklcinaa
set_option linter.unusedSimpArgs false
set_option linter.unusedVariables false
open Go.RowKit Go.Shelf
attribute [local go_sem] Oper.semAt_some

/-- One to eight rules, all of them valid. -/
def OkRs (n : Nat) (R : Nat → Int × Int) : Prop := 1 ≤ n ∧ n ≤ 8 ∧ ∀ i, i < n → OkR (R i).1 (R i).2

/-- A block of two cells. -/
def Two (W : World) (B : Nat) (t : TypeId) (x y : Value) : Prop := W.heap[B]? = some (.cells #[x, y] t (0, 0))
theorem Two.lt {W : World} {B : Nat} {t : TypeId} {x y : Value} (h : Two W B t x y) : B < W.heap.size := (Array.getElem?_eq_some_iff.1 h).1
theorem Two.c0 {W : World} {B : Nat} {t : TypeId} {x y : Value} (h : Two W B t x y) : W.cell? ⟨B, 0, none⟩ = some x := by simp [World.cell?, show W.heap[B]? = _ from h]
theorem Two.c1 {W : World} {B : Nat} {t : TypeId} {x y : Value} (h : Two W B t x y) : W.cell? ⟨B, 1, none⟩ = some y := by simp [World.cell?, show W.heap[B]? = _ from h]
theorem Two.f0 {W : World} {B : Nat} {t : TypeId} {x y : Value} (h : Two W B t x y) (i : Nat) : W.frozen? ⟨B, i, none⟩ = false := by simp [World.frozen?, show W.heap[B]? = _ from h]
theorem Two.new (W : World) (t : TypeId) (x y : Value) : Two (W.alloc (.cells #[x, y] t)) W.heap.size t x y := World.alloc_heap_new W _
theorem Two.kept {W W' : World} {row : Option Nat} {B : Nat} {t : TypeId} {x y : Value} (h : Two W B t x y) (hg : W.grownBy W' row) (hne : some B ≠ row) : Two W' B t x y := (hg.block B h.lt hne).trans h
theorem Two.alloc {W : World} {B : Nat} {t : TypeId} {x y : Value} (h : Two W B t x y) (o : Obj) : Two (W.alloc o) B t x y := h.kept (World.grownBy_alloc W o none) (by simp)
theorem Two.below {n : Nat} {W W' : World} {B : Nat} {t : TypeId} {x y : Value} (h : Two W B t x y) (hb : Below n W W') (hB : B < n) : Two W' B t x y := (hb.block B hB).trans h
theorem Two.set2 {W : World} {B : Nat} {t : TypeId} {x y : Value} (h : Two W B t x y) (u v : Value) : Two ((W.setCell ⟨B, 0, none⟩ u).setCell ⟨B, 1, none⟩ v) B t u v := by
  unfold Two at *
  simp only [World.setCell, Array.getElem?_modify, ↓reduceIte, h, Option.map_some]
  rfl
theorem Two.other {W : World} {B B' : Nat} {t : TypeId} {x y : Value} (h : Two W B t x y) (hne : B ≠ B') (i : Nat) (u : Value) : Two (W.setCell ⟨B', i, none⟩ u) B t x y := (Below.heap_setCell W ⟨B', i, none⟩ u B hne).trans h
theorem two_own {β : Type} (B : Nat) (t : TypeId) (f g : β → Value) : Own (fun s W => Two W B t (f s) (g s)) := fun s X Y row hs hg hrow =>
  hs.kept hg (fun e' => by obtain ⟨o, ho, hc⟩ := hrow B e'.symm; rw [show X.heap[B]? = _ from hs] at ho; cases ho; cases hc)

theorem keepsFrom_of_below {B : Nat} {W W' : World} (h : Below W.heap.size W W') : KeepsFrom B W W' :=
  ⟨h.size, fun k o _ hk _ => (h.block k (Array.getElem?_eq_some_iff.1 hk).1).trans hk⟩

theorem ownFrom_size {β : Type} (B m : Nat) : OwnFrom B (fun (_ : β) W => m ≤ W.heap.size) := fun _ _ _ _ hs hg _ => Nat.le_trans hs hg.size

def AllOk (len : Nat) (R : Nat → Int × Int) (bb : Bool) : Prop := bb = true ↔ ∀ i, i < len → OkR (R i).1 (R i).2
def Ans (len : Nat) (R : Nat → Int × Int) (w : World) (e : Ending) (w' : World) : Prop := ∃ bb : Bool, e = .returned (.bool bb) ∧ AllOk len R bb ∧ Below w.heap.size w w'

/-- Rules of an argument: where there is one it lies in memory. -/
def RulesIn (w : World) (ao : Option Addr) (n : Nat) (R : Nat → Int × Int) : Prop := n = 0 ∨ ∃ b off, ao = some ⟨b, off, none⟩ ∧ b < w.heap.size ∧ RulesAt w b off n R
theorem RulesIn.below {w w' : World} {ao : Option Addr} {n : Nat} {R : Nat → Int × Int} (h : RulesIn w ao n R) (hb : Below w.heap.size w w') : RulesIn w' ao n R := by
  rcases h with h | ⟨b, off, rfl, hlt, hR⟩
  · exact .inl h
  · exact .inr ⟨b, off, rfl, Nat.lt_of_lt_of_le hlt hb.size, fun i hi => ⟨(hb.cell (p := ⟨b, off + i * 2, none⟩) hlt).trans (hR i hi).1, (hb.cell (p := ⟨b, off + i * 2 + 1, none⟩) hlt).trans (hR i hi).2⟩⟩

end Go.Proofs.Ytpnfppcmklcinaa

/- The rule of a step: by the program. -/

namespace Go.Proofs.Ytpnfppcmklcinaa
set_option linter.unusedSimpArgs false
set_option linter.unusedVariables false
open Go.RowKit Go.Shelf
attribute [local go_sem] Oper.semAt_some

/-- The last one that came. -/
def lastOf (pre : List (Int × Int)) : Int × Int := pre.getLastD (0, 0)
theorem lastOf_snoc (pre : List (Int × Int)) (x : Int × Int) : lastOf (pre ++ [x]) = x := by simp [lastOf]

end Go.Proofs.Ytpnfppcmklcinaa

/- The numbers of steps, one round after another. -/

namespace Go.Proofs.Ytpnfppcmklcinaa
set_option linter.unusedSimpArgs false
set_option linter.unusedVariables false
open Go.RowKit Go.Shelf
attribute [local go_sem] Oper.semAt_some

/-- A step's number. -/
abbrev Stp := { x : Nat // x ≤ 1000000 }

end Go.Proofs.Ytpnfppcmklcinaa
