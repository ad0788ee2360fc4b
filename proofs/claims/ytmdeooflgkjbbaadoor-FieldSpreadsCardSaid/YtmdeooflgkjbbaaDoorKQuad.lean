/- A cell in memory. -/
import Derived.Test.YtmdeooflgkjbbaaDoorKRules
namespace Go.Proofs.YtmdeooflgkjbbaaDoor
set_option linter.unusedSimpArgs false
set_option linter.unusedVariables false
open Go.RowKit

/-- A block of four numbers. -/
def Quad (w : World) (E : Nat) (a b c d : Int) : Prop := w.heap[E]? = some (.cells #[.int .i64 a, .int .i64 b, .int .i64 c, .int .i64 d] 62 (0, 0))
theorem Quad.lt {w : World} {E : Nat} {a b c d : Int} (h : Quad w E a b c d) : E < w.heap.size := (Array.getElem?_eq_some_iff.1 h).1
theorem Quad.c0 {w : World} {E : Nat} {a b c d : Int} (h : Quad w E a b c d) : w.cell? ⟨E, 0, none⟩ = some (.int .i64 a) := by simp [World.cell?, show w.heap[E]? = _ from h]
theorem Quad.c1 {w : World} {E : Nat} {a b c d : Int} (h : Quad w E a b c d) : w.cell? ⟨E, 1, none⟩ = some (.int .i64 b) := by simp [World.cell?, show w.heap[E]? = _ from h]
theorem Quad.c2 {w : World} {E : Nat} {a b c d : Int} (h : Quad w E a b c d) : w.cell? ⟨E, 2, none⟩ = some (.int .i64 c) := by simp [World.cell?, show w.heap[E]? = _ from h]
theorem Quad.c3 {w : World} {E : Nat} {a b c d : Int} (h : Quad w E a b c d) : w.cell? ⟨E, 3, none⟩ = some (.int .i64 d) := by simp [World.cell?, show w.heap[E]? = _ from h]
theorem Quad.set {w : World} {E : Nat} {a b c d : Int} (h : Quad w E a b c d) (v0 v1 v2 v3 : Int) : Quad ((((w.setCell ⟨E, 0, none⟩ (.int .i64 v0)).setCell ⟨E, 1, none⟩ (.int .i64 v1)).setCell ⟨E, 2, none⟩ (.int .i64 v2)).setCell ⟨E, 3, none⟩ (.int .i64 v3)) E v0 v1 v2 v3 := by
  unfold Quad at *
  simp only [World.setCell, Array.getElem?_modify, ↓reduceIte, h, Option.map_some]
  rfl
end Go.Proofs.YtmdeooflgkjbbaaDoor
