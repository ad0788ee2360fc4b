/- Whether rules are valid, and the rule of a step: by the program and by the reference. -/
import Derived.Test.YtpnfppcmklcinaaRun
namespace Go.Proofs.Ytpnfppcmklcinaa
set_option linter.unusedSimpArgs false
set_option linter.unusedVariables false
open Go.RowKit Go.Shelf
attribute [local go_sem] Oper.semAt_some

/-- One to eight rules, all of them valid. -/
def OkRs (n : Nat) (R : Nat → Int × Int) : Prop := 1 ≤ n ∧ n ≤ 8 ∧ ∀ i, i < n → OkR (R i).1 (R i).2

/-- A block of two cells. -/
def Two (W : World) (B : Nat) (t : TypeId) (x y : Value) : Prop := W.heap[B]? = some (.cells #[x, y] t (0, 0))
theorem Two.lt {W : World} {B : Nat} {t : TypeId} {x y : Value} (h : Two W B t x y) : B < W.heap.size := (Array.getElem?_eq_some_iff.1 h).1
theorem Two.c0 {W : World} {B : Nat} {t : TypeId} {x y : Value} (h : Two W B t x y) : W.cell? ⟨B, 0, none⟩ = some x := by simp [World.cell?, show W.heap[B]? = _ from h]
theorem Two.c1 {W : World} {B : Nat} {t : TypeId} {x y : Value} (h : Two W B t x y) : W.cell? ⟨B, 1, none⟩ = some y := by simp [World.cell?, show W.heap[B]? = _ from h]
theorem Two.f0 {W : World} {B : Nat} {t : TypeId} {x y : Value} (h : Two W B t x y) (i : Nat) : W.frozen? ⟨B, i, none⟩ = false := by simp [World.frozen?, show W.heap[B]? = _ from h]
theorem Two.new (W : World) (t : TypeId) (x y : Value) : Two (W.alloc (.cells #[x, y] t)) W.heap.size t x y := World.alloc_heap_new W _
theorem Two.kept {W W' : World} {row : Option Nat} {B : Nat} {t : TypeId} {x y : Value} (h : Two W B t x y) (hg : W.grownBy W' row) (hne : some B ≠ row) : Two W' B t x y := (hg.block B h.lt hne).trans h
theorem Two.alloc {W : World} {B : Nat} {t : TypeId} {x y : Value} (h : Two W B t x y) (o : Obj) : Two (W.alloc o) B t x y := h.kept (World.grownBy_alloc W o none) (by simp)
theorem Two.below {n : Nat} {W W' : World} {B : Nat} {t : TypeId} {x y : Value} (h : Two W B t x y) (hb : Below n W W') (hB : B < n) : Two W' B t x y := (hb.block B hB).trans h
theorem Two.set2 {W : World} {B : Nat} {t : TypeId} {x y : Value} (h : Two W B t x y) (u v : Value) : Two ((W.setCell ⟨B, 0, none⟩ u).setCell ⟨B, 1, none⟩ v) B t u v := by
  unfold Two at *
  simp only [World.setCell, Array.getElem?_modify, ↓reduceIte, h, Option.map_some]
  rfl
theorem Two.other {W : World} {B B' : Nat} {t : TypeId} {x y : Value} (h : Two W B t x y) (hne : B ≠ B') (i : Nat) (u : Value) : Two (W.setCell ⟨B', i, none⟩ u) B t x y := (Below.heap_setCell W ⟨B', i, none⟩ u B hne).trans h
theorem two_own {β : Type} (B : Nat) (t : TypeId) (f g : β → Value) : Own (fun s W => Two W B t (f s) (g s)) := fun s X Y row hs hg hrow =>
  hs.kept hg (fun e' => by obtain ⟨o, ho, hc⟩ := hrow B e'.symm; rw [show X.heap[B]? = _ from hs] at ho; cases ho; cases hc)

theorem keepsFrom_of_below {B : Nat} {W W' : World} (h : Below W.heap.size W W') : KeepsFrom B W W' :=
  ⟨h.size, fun k o _ hk _ => (h.block k (Array.getElem?_eq_some_iff.1 hk).1).trans hk⟩

theorem ownFrom_size {β : Type} (B m : Nat) : OwnFrom B (fun (_ : β) W => m ≤ W.heap.size) := fun _ _ _ _ hs hg _ => Nat.le_trans hs hg.size

def AllOk (len : Nat) (R : Nat → Int × Int) (bb : Bool) : Prop := bb = true ↔ ∀ i, i < len → OkR (R i).1 (R i).2
def Ans (len : Nat) (R : Nat → Int × Int) (w : World) (e : Ending) (w' : World) : Prop := ∃ bb : Bool, e = .returned (.bool bb) ∧ AllOk len R bb ∧ Below w.heap.size w w'

/-- Rules of an argument: where there is one it lies in memory. -/
def RulesIn (w : World) (ao : Option Addr) (n : Nat) (R : Nat → Int × Int) : Prop := n = 0 ∨ ∃ b off, ao = some ⟨b, off, none⟩ ∧ b < w.heap.size ∧ RulesAt w b off n R
theorem RulesIn.below {w w' : World} {ao : Option Addr} {n : Nat} {R : Nat → Int × Int} (h : RulesIn w ao n R) (hb : Below w.heap.size w w') : RulesIn w' ao n R := by
  rcases h with h | ⟨b, off, rfl, hlt, hR⟩
  · exact .inl h
  · exact .inr ⟨b, off, rfl, Nat.lt_of_lt_of_le hlt hb.size, fun i hi => ⟨(hb.cell (p := ⟨b, off + i * 2, none⟩) hlt).trans (hR i hi).1, (hb.cell (p := ⟨b, off + i * 2 + 1, none⟩) hlt).trans (hR i hi).2⟩⟩

end Go.Proofs.Ytpnfppcmklcinaa
