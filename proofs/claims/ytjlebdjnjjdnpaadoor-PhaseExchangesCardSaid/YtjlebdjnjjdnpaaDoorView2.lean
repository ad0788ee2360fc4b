/- Arguments that are arrays of two and of three numbers. -/
import Derived.Test.YtjlebdjnjjdnpaaDoorView
namespace Go.Proofs.YtjlebdjnjjdnpaaDoor
set_option linter.unusedSimpArgs false
set_option linter.unusedVariables false
open Go.ChangeShapes Go.WideShapes Go.ChangeAt Go.RowKit Go.Joins Go.Deep
set_option maxRecDepth 100000

theorem cells_arr2 : Tryd.prog.cellsOf 93 = 2 := by kernel_rfl
theorem size2 {α : Type} (l : List α) (h : (⟨l⟩ : Array α).size = 2) : ∃ a b, l = [a, b] := by
  match l, h with
  | [a, b], _ => exact ⟨a, b, rfl⟩
theorem size3 {α : Type} (l : List α) (h : (⟨l⟩ : Array α).size = 3) : ∃ a b c, l = [a, b, c] := by
  match l, h with
  | [a, b, c], _ => exact ⟨a, b, c, rfl⟩
section
variable {H : Type} {enc : TypeId × Value → H} {w : World}
theorem array_parts {t : TypeId} {fuel n : Nat} {l : List Value} {x : DataW H × List MemPlace} (ht : Tryd.prog.underlying t = some (.array n 3)) (hf : DataW.trod enc Tryd.prog w 0 (fun _ => true) true fuel t l = some x) (hl : l.length = n) (i : Nat) (hi : i < n) : ∃ z : Int, l[i]? = some (.int .i64 z) ∧ Wf z := by
  obtain ⟨ys, m, _, _, _, hlen, hg⟩ := DataW.trod_array ht hf
  have e := hg i hi
  rw [cells_int, List.getElem?_eq_getElem (by omega), Nat.mul_one] at e
  obtain ⟨z, h0, _, hw⟩ := DataW.trod_int Tryd.underlying3 e
  refine ⟨z, ?_, hw⟩
  have : (l.drop i).take 1 = [.int .i64 z] := h0
  rw [List.drop_eq_getElem_cons (by omega)] at this
  rw [List.take_succ_cons] at this
  rw [List.getElem?_eq_getElem (by omega), (List.cons.inj this).1]

theorem open_arr2 {r : Reach} {base : Nat} {v : Value} {d : DataW H} {p : List MemPlace} (hv : Value.okWide Tryd.prog w r base 93 v) (h : DataW.Trod enc Tryd.prog w 0 (fun _ => true) true 93 v d p) :
    ∃ x0 x1 : Int, v = .agg #[.int .i64 x0, .int .i64 x1] ∧ Wf x0 ∧ Wf x1 := by
  obtain ⟨cs, rfl, hsz, _⟩ : ∃ cs, v = .agg cs ∧ cs.size = Tryd.prog.cellsOf 93 ∧ Row.okWide Tryd.prog w r base 93 cs := by
    simpa [Value.okWide, Tryd.underlying93] using hv
  rw [cells_arr2] at hsz
  obtain ⟨l⟩ := cs
  obtain ⟨c0, c1, rfl⟩ := size2 l hsz
  obtain ⟨fuel, hf⟩ := h
  obtain ⟨z0, e0, w0⟩ := array_parts Tryd.underlying93 hf rfl 0 (by omega)
  obtain ⟨z1, e1, w1⟩ := array_parts Tryd.underlying93 hf rfl 1 (by omega)
  simp [Value.cells] at e0 e1
  subst e0 e1
  exact ⟨z0, z1, rfl, w0, w1⟩
end
end Go.Proofs.YtjlebdjnjjdnpaaDoor
