/- The rules of steps: what a run of rules yields, one round after another. -/
import Derived.RangeFuncNested
import Derived.RangeFuncBound
import Derived.RangeFuncCalls
import Derived.RangeFuncLeaves
import Derived.Shelf.Abstract
import Derived.Shelf.RegionOpen
import Derived.WalkKit
import Derived.OwnWalkIn
import Derived.TacticsInMore
import Derived.LoopNIn
import Derived.LoopIn
import Derived.Test.YtpnfppcmklcinaaRule
namespace Go.Proofs.Ytpnfppcmklcinaa
set_option linter.unusedSimpArgs false
set_option linter.unusedVariables false
open Go.RowKit Go.Shelf
attribute [local go_sem] Oper.semAt_some

/-- What has come when k rounds are over. -/
def upto {α : Type} (f : Nat → α) (k : Nat) : List α := (List.range k).map f
theorem upto_succ {α : Type} (f : Nat → α) (k : Nat) : upto f (k + 1) = upto f k ++ [f k] := by simp [upto, List.range_succ]
theorem upto_length {α : Type} (f : Nat → α) (k : Nat) : (upto f k).length = k := by simp [upto]

/-- Some blocks are kept as they are. -/
def KB (S : Nat → Prop) (A B : World) : Prop := A.heap.size ≤ B.heap.size ∧ ∀ k, S k → B.heap[k]? = A.heap[k]?
theorem KB.refl (S : Nat → Prop) (A : World) : KB S A A := ⟨Nat.le_refl _, fun _ _ => rfl⟩
theorem KB.trans {S : Nat → Prop} {A B C : World} (h : KB S A B) (g : KB S B C) : KB S A C := ⟨Nat.le_trans h.1 g.1, fun k hk => (g.2 k hk).trans (h.2 k hk)⟩
theorem KB.of_below {S : Nat → Prop} {n : Nat} {A B : World} (h : Below n A B) (hS : ∀ k, S k → k < n) : KB S A B := ⟨h.size, fun k hk => h.block k (hS k hk)⟩
theorem KB.cell {S : Nat → Prop} {A B : World} (h : KB S A B) {b o : Nat} (hb : S b) : B.cell? ⟨b, o, none⟩ = A.cell? ⟨b, o, none⟩ := World.cell?_of_block (a := ⟨b, o, none⟩) (h.2 b hb)
theorem KB.set {S : Nat → Prop} {A : World} {b o : Nat} {v : Value} (hb : ¬ S b) : KB S A (A.setCell ⟨b, o, none⟩ v) := ⟨by simp [World.setCell], fun k hk => Below.heap_setCell _ _ _ _ (fun e => hb (by rw [← show k = b from e]; exact hk))⟩
theorem KB.alloc {S : Nat → Prop} {A B : World} (h : KB S A B) (hS : ∀ k, S k → k < A.heap.size) (o : Obj) : KB S A (B.alloc o) := h.trans ⟨by simp, fun k hk => Below.heap_alloc _ _ _ (Nat.lt_of_lt_of_le (hS k hk) h.1)⟩
theorem kb_drew (S : Nat → Prop) (A : World) : KB S A A.drew := ⟨Nat.le_refl _, fun _ _ => rfl⟩
theorem kb_put {S : Nat → Prop} {w : World} (hS : ∀ k, S k → k < w.heap.size) : ∀ (W : World) (l : Nat) (o o' : Obj), w.heap.size ≤ l → W.heap[l]? = some o → o.isCells = false → o.isWalk = false → KB S W (W.putObj l o') :=
  fun W l o o' hl ho _ _ => ⟨by simp [World.putObj], fun k hk => World.putObj_heap_other (by have := hS k hk; omega)⟩

/-- The rules lie there. -/
def RulesAt (w : World) (b off n : Nat) (R : Nat → Int × Int) : Prop := ∀ i, i < n → w.cell? ⟨b, off + i * 2, none⟩ = some (.int .i64 ((R i).1)) ∧ w.cell? ⟨b, off + i * 2 + 1, none⟩ = some (.int .i64 ((R i).2))

/-- How a round ends: it goes on, or it has said no more. -/
def RoundEnd (A B : World → Prop) (bb : Bool) (W' : World) : Prop := (bb = true ∧ A W') ∨ (bb = false ∧ B W')
def RoundDone (A B : World → Prop) (e : Ending) (W' : World) : Prop := ∃ bb, e = .returned (.bool bb) ∧ RoundEnd A B bb W'
theorem roundDone {A B : World → Prop} {e : Ending} {W' : World} (h : (e = .returned (.bool true) ∧ A W') ∨ (e = .returned (.bool false) ∧ B W')) : RoundDone A B e W' := by
  rcases h with ⟨h, a⟩ | ⟨h, b⟩
  · exact ⟨true, h, .inl ⟨rfl, a⟩⟩
  · exact ⟨false, h, .inr ⟨rfl, b⟩⟩

end Go.Proofs.Ytpnfppcmklcinaa
