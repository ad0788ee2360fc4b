/- The table of the lines' ends: what the listed variable's cells hold; a mix, two lists of rules, two cells, opened. -/
import Derived.Test.YtjlebdjnjjdnpaaDoorView2
import Derived.LaidLaws
import Derived.LaidMore
import Derived.MakeChecks
import Derived.Lib.SmallJoins
namespace Go.Proofs.YtjlebdjnjjdnpaaDoor
set_option linter.unusedSimpArgs false
set_option linter.unusedVariables false
open Go.ChangeShapes Go.WideShapes Go.ChangeAt Go.RowKit Go.Joins Go.Deep
set_option maxRecDepth 100000

/-- The table lies in its variable. -/
def Ends (w : World) : Prop := w.cell? ⟨0, 0, none⟩ = some (.int .i64 0) ∧ w.cell? ⟨0, 1, none⟩ = some (.int .i64 2) ∧ w.cell? ⟨0, 2, none⟩ = some (.int .i64 1) ∧ w.cell? ⟨0, 3, none⟩ = some (.int .i64 3)
theorem gEnds : Tryd.prog.globalNamed "slipstream/phase.ends" = some 0 := by kernel_rfl
theorem tEnds : (Tryd.prog.globals[0]?).map (·.type) = some 107 := by kernel_rfl

theorem row2 {H : Type} {enc : TypeId × Value → H} {W : World} {base : Nat} {sp : Nat → Bool} {held : Bool} {fuel : Nat} {L : List Value} {x : DataW H × List MemPlace} {q0 q1 : Int} (hl : L.length = 2) (h : DataW.trod enc Tryd.prog W base sp held fuel 93 L = some x) (hx : x.1 = .agg [.lit (.int .i64 q0), .lit (.int .i64 q1)]) : L = [.int .i64 q0, .int .i64 q1] := by
  obtain ⟨c0, c1, rfl⟩ := size2 L (by simpa using hl)
  obtain ⟨ys, m, _, rfl, _, hlen, hg⟩ := DataW.trod_array Tryd.underlying93 h
  rw [cells_int] at hg
  match ys, hlen with
  | [y0, y1], _ =>
    have e0 := hg 0 (by omega)
    have e1 := hg 1 (by omega)
    simp at e0 e1
    obtain ⟨x0, a0, d0, _⟩ := DataW.trod_int Tryd.underlying3 e0
    obtain ⟨x1, a1, d1, _⟩ := DataW.trod_int Tryd.underlying3 e1
    simp at a0 a1
    subst a0 a1 d0 d1
    simp at hx
    obtain ⟨b0, b1⟩ := hx
    rw [b0, b1]
theorem ends_of {W : World} (h : laidMetH Tryd.prog [("slipstream/phase.ends", Rows.laid_slipstream_phase_ends)] W) : Ends W := by
  rw [MakeChecks.laidMetH_plain _ _ _ (by kernel_rfl)] at h
  obtain ⟨ps, ⟨g0, t0, cs0, f0, p0, q0, hg0, ht0, hv0, hd0, _, _⟩, _, _⟩ := h
  obtain rfl := Option.some.inj (gEnds.symm.trans hg0)
  obtain rfl := Option.some.inj (tEnds.symm.trans ht0)
  obtain ⟨xs, m1, rfl, hx1, hlen, hn, hel⟩ := DataW.trod_array Tryd.underlying107 hd0
  rw [cells_arr2] at hel
  have hl4 : cs0.toList.length = 4 := hlen.trans (by kernel_rfl)
  obtain ⟨l⟩ := cs0
  match xs, hn with
  | [r0, r1], _ =>
    simp only [Prod.mk.injEq, Rows.laid_slipstream_phase_ends, DataW.agg.injEq, List.map_cons, List.map_nil, List.cons.injEq, and_true] at hx1
    obtain ⟨⟨g0, g1⟩, _⟩ := hx1
    have hl : l.length = 4 := by simpa using hl4
    have u0 := row2 (by simp; omega) (hel 0 (by omega)) g0.symm
    have u1 := row2 (by simp; omega) (hel 1 (by omega)) g1.symm
    match l, hl with
    | [c0, c1, c2, c3], _ =>
      simp at u0 u1
      obtain ⟨rfl, rfl⟩ := u0
      obtain ⟨rfl, rfl⟩ := u1
      have at_ := fun k => World.var?_cell hg0 hv0 k
      exact ⟨by simpa using at_ 0, by simpa using at_ 1, by simpa using at_ 2, by simpa using at_ 3⟩
theorem Ends.below {w w' : World} (h : Ends w) (hb : Below w.heap.size w w') : Ends w' :=
  ⟨(hb.cell (p := ⟨0, 0, none⟩) (block_lt h.1)).trans h.1, (hb.cell (p := ⟨0, 1, none⟩) (block_lt h.1)).trans h.2.1, (hb.cell (p := ⟨0, 2, none⟩) (block_lt h.1)).trans h.2.2.1, (hb.cell (p := ⟨0, 3, none⟩) (block_lt h.1)).trans h.2.2.2⟩

section
variable {H : Type} {enc : TypeId × Value → H} {w : World}
theorem cells_mix : Tryd.prog.cellsOf 24 = 4 := by kernel_rfl
/-- A mix. -/
theorem open_mix {r : Reach} {base : Nat} {v : Value} {d : DataW H} {p : List MemPlace} (hv : Value.okWide Tryd.prog w r base 24 v) (h : DataW.Trod enc Tryd.prog w 0 (fun _ => true) true 24 v d p) :
    ∃ (W H : Int) (ao : Option Addr) (n cap : Nat) (A : Nat → Nat → Int) (bo : Option Addr) (m c2 : Nat) (B : Nat → Nat → Int), v = .agg #[.int .i64 W, .int .i64 H, .slice (ao) n cap, .slice (bo) m c2] ∧ Wf W ∧ Wf H ∧ n ≤ cap ∧ cap ≤ maxLen ∧ CellsIn w ao n A ∧ m ≤ c2 ∧ c2 ≤ maxLen ∧ CellsIn w bo m B := by
  obtain ⟨v0, v1, v2, v3, y0, y1, y2, y3, k, rfl, _, _, h0, h1, h2, h3⟩ := open_agg4 Tryd.underlying24 (by kernel_rfl) cells_mix hv h
  obtain ⟨W, e0, _, w0⟩ := DataW.trod_int Tryd.underlying3 h0
  obtain ⟨H, e1, _, w1⟩ := DataW.trod_int Tryd.underlying3 h1
  obtain ⟨ao, n, cap, A, rfl, hl, hm, hA⟩ := open_cells h2
  obtain ⟨bo, m, c2, B, rfl, hl2, hm2, hB⟩ := open_cells h3
  simp at e0 e1
  subst e0 e1
  exact ⟨W, H, ao, n, cap, A, bo, m, c2, B, rfl, w0, w1, hl, hm, hA, hl2, hm2, hB⟩
theorem cells_two : Tryd.prog.cellsOf 49 = 8 := by kernel_rfl
theorem size8 {α : Type} (l : List α) (h : (⟨l⟩ : Array α).size = 8) : ∃ a b c d e f g i, l = [a, b, c, d, e, f, g, i] := by
  match l, h with
  | [a, b, c, d, e, f, g, i], _ => exact ⟨a, b, c, d, e, f, g, i, rfl⟩
/-- Two cells. -/
theorem open_two {r : Reach} {base : Nat} {v : Value} {d : DataW H} {p : List MemPlace} (hv : Value.okWide Tryd.prog w r base 49 v) (h : DataW.Trod enc Tryd.prog w 0 (fun _ => true) true 49 v d p) :
    ∃ a b c e a' b' c' e' : Int, v = .agg #[.int .i64 a, .int .i64 b, .int .i64 c, .int .i64 e, .int .i64 a', .int .i64 b', .int .i64 c', .int .i64 e'] := by
  obtain ⟨cs, rfl, hsz⟩ := okWide_struct Tryd.underlying49 hv
  rw [cells_two] at hsz
  obtain ⟨l⟩ := cs
  obtain ⟨c0, c1, c2, c3, c4, c5, c6, c7, rfl⟩ := size8 l hsz
  obtain ⟨fuel, hf⟩ := h
  obtain ⟨y0, y1, k, _, _, e0, e1⟩ := trod_struct2 Tryd.underlying49 hf
  rw [cells_cell] at e0 e1
  simp [Value.cells] at e0 e1
  obtain ⟨z0, z1, z2, z3, m, _, f0, f1, f2, f3⟩ := trod_array4 Tryd.underlying47 cells_int e0
  obtain ⟨z4, z5, z6, z7, m', _, f4, f5, f6, f7⟩ := trod_array4 Tryd.underlying47 cells_int e1
  obtain ⟨x0, g0, _, _⟩ := DataW.trod_int Tryd.underlying3 f0
  obtain ⟨x1, g1, _, _⟩ := DataW.trod_int Tryd.underlying3 f1
  obtain ⟨x2, g2, _, _⟩ := DataW.trod_int Tryd.underlying3 f2
  obtain ⟨x3, g3, _, _⟩ := DataW.trod_int Tryd.underlying3 f3
  obtain ⟨x4, g4, _, _⟩ := DataW.trod_int Tryd.underlying3 f4
  obtain ⟨x5, g5, _, _⟩ := DataW.trod_int Tryd.underlying3 f5
  obtain ⟨x6, g6, _, _⟩ := DataW.trod_int Tryd.underlying3 f6
  obtain ⟨x7, g7, _, _⟩ := DataW.trod_int Tryd.underlying3 f7
  simp at g0 g1 g2 g3 g4 g5 g6 g7
  subst g0 g1 g2 g3 g4 g5 g6 g7
  exact ⟨x0, x1, x2, x3, x4, x5, x6, x7, rfl⟩
end
end Go.Proofs.YtjlebdjnjjdnpaaDoor
