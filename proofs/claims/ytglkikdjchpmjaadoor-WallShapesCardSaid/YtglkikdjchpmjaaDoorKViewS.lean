/- What a shape is told by, out of memory. -/
import Derived.Test.YtglkikdjchpmjaaDoorKEnds
namespace Go.Proofs.YtglkikdjchpmjaaDoor
set_option linter.unusedSimpArgs false
set_option linter.unusedVariables false
open Go.ChangeShapes Go.WideShapes Go.ChangeAt Go.RowKit Go.Joins

theorem trod_struct6 {P : Program} {H : Type} {enc : TypeId × Value → H} {w : World} {base : Nat} {spare : Nat → Bool} {held : Bool} {t : TypeId} {f0 f1 f2 f3 f4 f5 : Field} {fuel : Nat} {cs : List Value} {x : DataW H × List MemPlace} (ht : P.underlying t = some (.struct #[f0, f1, f2, f3, f4, f5])) (h : DataW.trod enc P w base spare held fuel t cs = some x) :
    ∃ y0 y1 y2 y3 y4 y5 n, DataW.trod enc P w base spare held n f0.type ((cs.drop f0.offset).take (P.cellsOf f0.type)) = some y0 ∧
      DataW.trod enc P w base spare held n f1.type ((cs.drop f1.offset).take (P.cellsOf f1.type)) = some y1 ∧ DataW.trod enc P w base spare held n f2.type ((cs.drop f2.offset).take (P.cellsOf f2.type)) = some y2 ∧
      DataW.trod enc P w base spare held n f3.type ((cs.drop f3.offset).take (P.cellsOf f3.type)) = some y3 ∧ DataW.trod enc P w base spare held n f4.type ((cs.drop f4.offset).take (P.cellsOf f4.type)) = some y4 ∧ DataW.trod enc P w base spare held n f5.type ((cs.drop f5.offset).take (P.cellsOf f5.type)) = some y5 := by
  obtain ⟨xs, n, _, rfl, hl, hlen, hf⟩ := DataW.trod_struct ht h
  match xs, hlen with
  | [y0, y1, y2, y3, y4, y5], _ => exact ⟨y0, y1, y2, y3, y4, y5, n, by simpa using hf 0 f0 rfl, by simpa using hf 1 f1 rfl, by simpa using hf 2 f2 rfl, by simpa using hf 3 f3 rfl, by simpa using hf 4 f4 rfl, by simpa using hf 5 f5 rfl⟩

section
variable {H : Type} {enc : TypeId × Value → H} {w : World}
theorem cells_shape : Tryd.prog.cellsOf 42 = 8 := by kernel_rfl
theorem cells_bool1 : Tryd.prog.cellsOf 4 = 1 := by kernel_rfl
set_option maxRecDepth 10000 in
theorem size8 {α : Type} (l : List α) (h : (⟨l⟩ : Array α).size = 8) : ∃ a b c d e f g i, l = [a, b, c, d, e, f, g, i] := by
  match l, h with
  | [a, b, c, d, e, f, g, i], _ => exact ⟨a, b, c, d, e, f, g, i, rfl⟩
set_option maxRecDepth 10000 in
theorem open_shape {r : Reach} {base : Nat} {v : Value} {d : DataW H} {p : List MemPlace} (hv : Value.okWide Tryd.prog w r base 42 v) (h : DataW.Trod enc Tryd.prog w 0 (fun _ => true) true 42 v d p) :
    ∃ (px py qx qy kind N b : Int) (up : Bool), v = .agg #[.int .i64 px, .int .i64 py, .int .i64 qx, .int .i64 qy, .int .i64 kind, .int .i64 N, .int .i64 b, .bool up] := by
  obtain ⟨cs, rfl, hsz⟩ := okWide_struct Tryd.underlying42 hv
  rw [cells_shape] at hsz
  obtain ⟨l⟩ := cs
  obtain ⟨c0, c1, c2, c3, c4, c5, c6, c7, rfl⟩ := size8 l hsz
  obtain ⟨fuel, hf⟩ := h
  obtain ⟨y0, y1, y2, y3, y4, y5, k, e0, e1, e2, e3, e4, e5⟩ := trod_struct6 Tryd.underlying42 hf
  rw [cells_point] at e0 e1
  rw [cells_int] at e2 e3 e4
  rw [cells_bool1] at e5
  simp [Value.cells] at e0 e1 e2 e3 e4 e5
  obtain ⟨p0, p1, k0, _, _, a0, a1⟩ := trod_struct2 Tryd.underlying31 e0
  obtain ⟨q0, q1, k1, _, _, b0, b1⟩ := trod_struct2 Tryd.underlying31 e1
  rw [cells_int] at a0 a1 b0 b1
  simp at a0 a1 b0 b1
  obtain ⟨x0, f0, _, _⟩ := DataW.trod_int Tryd.underlying3 a0
  obtain ⟨x1, f1, _, _⟩ := DataW.trod_int Tryd.underlying3 a1
  obtain ⟨x2, f2, _, _⟩ := DataW.trod_int Tryd.underlying3 b0
  obtain ⟨x3, f3, _, _⟩ := DataW.trod_int Tryd.underlying3 b1
  obtain ⟨x4, f4, _, _⟩ := DataW.trod_int Tryd.underlying3 e2
  obtain ⟨x5, f5, _, _⟩ := DataW.trod_int Tryd.underlying3 e3
  obtain ⟨x6, f6, _, _⟩ := DataW.trod_int Tryd.underlying3 e4
  obtain ⟨x7, f7, _⟩ := DataW.trod_bool Tryd.underlying4 e5
  simp at f0 f1 f2 f3 f4 f5 f6 f7
  subst f0 f1 f2 f3 f4 f5 f6 f7
  exact ⟨x0, x1, x2, x3, x4, x5, x6, x7, rfl⟩
end
end Go.Proofs.YtglkikdjchpmjaaDoor
