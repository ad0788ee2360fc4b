/- Arguments that are arrays of four numbers. -/
import Derived.Test.YtnpmlbhlchoolaaDoorKEnds
namespace Go.Proofs.YtnpmlbhlchoolaaDoor
set_option linter.unusedSimpArgs false
set_option linter.unusedVariables false
open Go.ChangeShapes Go.WideShapes Go.ChangeAt Go.RowKit Go.Joins Go.Deep
set_option maxRecDepth 100000

theorem size4a {α : Type} (l : List α) (h : (⟨l⟩ : Array α).size = 4) : ∃ a b c d, l = [a, b, c, d] := by
  match l, h with
  | [a, b, c, d], _ => exact ⟨a, b, c, d, rfl⟩
section
variable {H : Type} {enc : TypeId × Value → H} {w : World}
theorem open_arr4v {r : Reach} {base : Nat} {v : Value} {d : DataW H} {p : List MemPlace} (hv : Value.okWide Tryd.prog w r base 54 v) (h : DataW.Trod enc Tryd.prog w 0 (fun _ => true) true 54 v d p) :
    ∃ x0 x1 x2 x3 : Int, v = .agg #[.int .i64 x0, .int .i64 x1, .int .i64 x2, .int .i64 x3] ∧ Wf x0 ∧ Wf x1 ∧ Wf x2 ∧ Wf x3 := by
  obtain ⟨cs, rfl, hsz, _⟩ : ∃ cs, v = .agg cs ∧ cs.size = Tryd.prog.cellsOf 54 ∧ Row.okWide Tryd.prog w r base 54 cs := by
    simpa [Value.okWide, Tryd.underlying54] using hv
  rw [cells_arr4] at hsz
  obtain ⟨l⟩ := cs
  obtain ⟨c0, c1, c2, c3, rfl⟩ := size4a l hsz
  obtain ⟨fuel, hf⟩ := h
  obtain ⟨z0, e0, w0⟩ := array_parts Tryd.underlying54 hf rfl 0 (by omega)
  obtain ⟨z1, e1, w1⟩ := array_parts Tryd.underlying54 hf rfl 1 (by omega)
  obtain ⟨z2, e2, w2⟩ := array_parts Tryd.underlying54 hf rfl 2 (by omega)
  obtain ⟨z3, e3, w3⟩ := array_parts Tryd.underlying54 hf rfl 3 (by omega)
  simp [Value.cells] at e0 e1 e2 e3
  subst e0 e1 e2 e3
  exact ⟨z0, z1, z2, z3, rfl, w0, w1, w2, w3⟩
end
end Go.Proofs.YtnpmlbhlchoolaaDoor
