/- The table of the walls: what the listed variable's cells hold; a grid with a wall, opened. -/
import Derived.Test.YtmpfchgampiohaaDoorKSameN
import Derived.LaidLaws
import Derived.LaidMore
import Derived.MakeChecks
namespace Go.Proofs.YtmpfchgampiohaaDoor
set_option linter.unusedSimpArgs false
set_option linter.unusedVariables false
open Go.ChangeShapes Go.WideShapes Go.ChangeAt Go.RowKit Go.Joins Go.Deep
set_option maxRecDepth 100000

/-- The direction that takes the place of each direction. -/
def exch (k d : Nat) : Nat := if k = 0 then d else if k = 1 then (d + 2) % 4 else if k = 2 then (if d = 0 then 1 else if d = 1 then 0 else if d = 2 then 3 else 2) else 3 - d
theorem row4 {H : Type} {enc : TypeId × Value → H} {W : World} {base : Nat} {sp : Nat → Bool} {held : Bool} {fuel : Nat} {L : List Value} {x : DataW H × List MemPlace} {q0 q1 q2 q3 : Int} (hl : L.length = 4) (h : DataW.trod enc Tryd.prog W base sp held fuel 48 L = some x) (hx : x.1 = .agg [.lit (.int .i64 q0), .lit (.int .i64 q1), .lit (.int .i64 q2), .lit (.int .i64 q3)]) : L = [.int .i64 q0, .int .i64 q1, .int .i64 q2, .int .i64 q3] := by
  obtain ⟨c0, c1, c2, c3, rfl⟩ := size4 L (by simpa using hl)
  obtain ⟨y0, y1, y2, y3, m, rfl, hy0, hy1, hy2, hy3⟩ := trod_array4 Tryd.underlying48 cells_int h
  obtain ⟨x0, e0, rfl, w0⟩ := DataW.trod_int Tryd.underlying3 hy0
  obtain ⟨x1, e1, rfl, w1⟩ := DataW.trod_int Tryd.underlying3 hy1
  obtain ⟨x2, e2, rfl, w2⟩ := DataW.trod_int Tryd.underlying3 hy2
  obtain ⟨x3, e3, rfl, w3⟩ := DataW.trod_int Tryd.underlying3 hy3
  simp at e0 e1 e2 e3 hx
  obtain ⟨a0, a1, a2, a3⟩ := hx
  rw [e0, e1, e2, e3, a0, a1, a2, a3]
section
variable {H : Type} {enc : TypeId × Value → H} {w : World}
theorem cells_nums : Tryd.prog.cellsOf 30 = 1 := by kernel_rfl
theorem cells_cells : Tryd.prog.cellsOf 22 = 1 := by kernel_rfl
theorem size5 {α : Type} (l : List α) (h : (⟨l⟩ : Array α).size = 5) : ∃ a b c d e, l = [a, b, c, d, e] := by
  match l, h with
  | [a, b, c, d, e], _ => exact ⟨a, b, c, d, e, rfl⟩
end
end Go.Proofs.YtmpfchgampiohaaDoor
