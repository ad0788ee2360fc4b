/- Arguments with memory: rules and grids, opened; what a law's row asks where arguments lie in memory. -/
import Derived.Test.YtmdeooflgkjbbaaDoorKBase
import Derived.Test.YtmdeooflgkjbbaaDoorKRules
import Derived.Deep.Slices
import Derived.Carry
namespace Go.Proofs.YtmdeooflgkjbbaaDoor
set_option linter.unusedSimpArgs false
set_option linter.unusedVariables false
open Go.ChangeShapes Go.WideShapes Go.ChangeAt Go.RowKit Go.Joins Go.Deep
set_option maxRecDepth 100000

theorem laidOut : laidOutB Tryd.prog = true := by kernel_rfl

section
variable {H : Type} {enc : TypeId × Value → H}

/-- A law's row asks: true; the arguments read as they did; what was there is as it was. -/
theorem law_post2 {f : Func} {s : ChangeSpec} {W W' : World} {args : Array Value} {v : Value} {ds gs : List (DataW H)} {before pa pv : List MemPlace}
    (hW : DataW.Whole enc Tryd.prog f.params.toList s.vars false W args.toList ds gs before)
    (hres : ∀ (b : Nat) (sp : Nat → Bool) (hd : Bool), DataW.TrodAll enc Tryd.prog W' b sp hd f.resultTypes.toList (v.resultList f.resultTypes.size) (s.fn H (ds ++ gs)).results [])
    (hargs : DataW.TrodAll enc Tryd.prog W' 0 (fun b => decide (b < W.heap.size)) true f.params.toList args.toList (s.fn H (ds ++ gs)).args pa)
    (hvars : ∀ sp : Nat → Bool, (∀ p ∈ before, sp p.block = true) → DataW.TrodVars enc Tryd.prog W' sp s.vars (s.fn H (ds ++ gs)).vars pv)
    (hps : before = pa ++ pv) (hb : Below W.heap.size W W') :
    s.post enc Tryd.prog f false true false false W args v W' := by
  have hold : ∀ p ∈ before, (fun b => decide (b < W.heap.size)) p.block = true := fun p hp => by simpa using hW.lt p hp
  refine ⟨ds, gs, before, [], pa, pv, hW, hres _ _ _, hargs, hvars _ hold, World.keptBut_mono (fun p hp => ⟨hp, ?_⟩) (hb.frame (· ∈ before)), fun h => ?_⟩
  · rw [hps, List.mem_append] at hp
    exact Or.inr hp
  · cases h

/-- The cells lie there. -/
def Grd (w : World) (b off n : Nat) (G : Nat → Nat → Int) : Prop := ∀ i, i < n → w.cell? ⟨b, off + i * 4, none⟩ = some (.int .i64 (G i 0)) ∧ w.cell? ⟨b, off + i * 4 + 1, none⟩ = some (.int .i64 (G i 1)) ∧ w.cell? ⟨b, off + i * 4 + 2, none⟩ = some (.int .i64 (G i 2)) ∧ w.cell? ⟨b, off + i * 4 + 3, none⟩ = some (.int .i64 (G i 3))
/-- Cells of a list: where there is one it lies in memory. -/
def CellsIn (w : World) (ao : Option Addr) (n : Nat) (G : Nat → Nat → Int) : Prop := n = 0 ∨ ∃ b off, ao = some ⟨b, off, none⟩ ∧ b < w.heap.size ∧ Grd w b off n G
theorem Grd.below {w w' : World} {m b off n : Nat} {G : Nat → Nat → Int} (h : Grd w b off n G) (hb : Below m w w') (hlt : b < m) : Grd w' b off n G := fun i hi =>
  ⟨(hb.cell (p := ⟨b, off + i * 4, none⟩) hlt).trans (h i hi).1, (hb.cell (p := ⟨b, off + i * 4 + 1, none⟩) hlt).trans (h i hi).2.1, (hb.cell (p := ⟨b, off + i * 4 + 2, none⟩) hlt).trans (h i hi).2.2.1, (hb.cell (p := ⟨b, off + i * 4 + 3, none⟩) hlt).trans (h i hi).2.2.2⟩
theorem CellsIn.below {w w' : World} {ao : Option Addr} {n : Nat} {G : Nat → Nat → Int} (h : CellsIn w ao n G) (hb : Below w.heap.size w w') : CellsIn w' ao n G := by
  rcases h with h | ⟨b, off, rfl, hlt, hG⟩
  · exact .inl h
  · exact .inr ⟨b, off, rfl, Nat.lt_of_lt_of_le hlt hb.size, hG.below hb hlt⟩

theorem block_lt {w : World} {b o : Nat} {v : Value} (h : w.cell? ⟨b, o, none⟩ = some v) : b < w.heap.size := by
  rcases Nat.lt_or_ge b w.heap.size with hl | hl
  · exact hl
  · have : w.heap[b]? = none := Array.getElem?_eq_none hl
    simp [World.cell?, this] at h

variable {w : World} {spare : Nat → Bool} {held : Bool}

theorem open_rules {r : Reach} {base : Nat} {v : Value} {d : DataW H} {p : List MemPlace} (hv : Value.okWide Tryd.prog w r base 50 v) (h : DataW.Trod enc Tryd.prog w 0 (fun _ => true) true 50 v d p) :
    ∃ (ao : Option Addr) (len cap : Nat) (R : Nat → Int × Int), v = .slice ao len cap ∧ len ≤ cap ∧ cap ≤ maxLen ∧ RulesIn w ao len R := by
  obtain ⟨ao, len, cap, rfl⟩ := okWide_slice Tryd.underlying50 hv
  obtain ⟨fuel, hf⟩ := h
  rcases open_slice Tryd.underlying50 hf with ⟨hcs, _⟩ | ⟨a, len', cap', m, n, D, Pl, hcs, _, hl, hm, hmm, _, hi⟩
  · simp [Value.cells] at hcs
    obtain ⟨rfl, rfl, rfl⟩ := hcs
    exact ⟨none, 0, 0, fun _ => (0, 0), rfl, Nat.le_refl _, Nat.zero_le _, .inl rfl⟩
  · simp [Value.cells] at hcs
    obtain ⟨rfl, rfl, rfl⟩ := hcs
    have hlm : len ≤ m := by simp at hmm; omega
    rw [cells_rule] at hi
    have each : ∀ i, i < len → ∃ x : Int × Int, w.cell? (a.add (i * 2)) = some (.int .i64 x.1) ∧ w.cell? ((a.add (i * 2)).add 1) = some (.int .i64 x.2) := by
      intro i hil
      obtain ⟨cs, h1, h2⟩ := hi i (by omega)
      obtain ⟨_, hlen, hat⟩ := World.cells?_some h1
      obtain ⟨y0, y1, k, _, _, e0, e1⟩ := trod_struct2 Tryd.underlying154 h2
      match cs, hlen with
      | [c0, c1], _ =>
        have a0 := hat 0 (by omega)
        have a1 := hat 1 (by omega)
        rw [cells_int] at e0 e1
        simp at e0 e1 a0 a1
        obtain ⟨x0, f0, _, _⟩ := DataW.trod_int Tryd.underlying3 e0
        obtain ⟨x1, f1, _, _⟩ := DataW.trod_int Tryd.underlying3 e1
        simp at f0 f1
        subst f0 f1
        exact ⟨(x0, x1), by simpa [Addr.add] using a0, a1⟩
    obtain ⟨R, hR⟩ := choose_lt (α := Int × Int) each
    refine ⟨some a, len, cap, R, rfl, hl, hm, ?_⟩
    rcases Nat.eq_zero_or_pos len with h0 | hp
    · exact .inl h0
    · obtain ⟨b, off, spot⟩ := a
      have hspot : spot = none := by simpa [Addr.add] using World.cell?_spot (hR 0 hp).1
      subst hspot
      refine .inr ⟨b, off, rfl, ?_, fun i hil => ?_⟩
      · have := (hR 0 hp).1
        rw [add_plain] at this
        exact block_lt this
      · have := hR i hil
        rw [add_plain, add_plain] at this
        exact this

theorem open_cells {fuel : Nat} {v : Value} {x : DataW H × List MemPlace} (hf : DataW.trod enc Tryd.prog w 0 (fun _ => true) true fuel 22 [v] = some x) :
    ∃ (ao : Option Addr) (n cap : Nat) (G : Nat → Nat → Int), v = .slice ao n cap ∧ n ≤ cap ∧ cap ≤ maxLen ∧ CellsIn w ao n G := by
  rcases open_slice Tryd.underlying22 hf with ⟨hcs, _⟩ | ⟨a, len, cap, m, n, D, Pl, hcs, _, hl, hm, hmm, _, hi⟩
  · simp at hcs
    subst hcs
    exact ⟨none, 0, 0, fun _ _ => 0, rfl, Nat.le_refl _, Nat.zero_le _, .inl rfl⟩
  · simp at hcs
    subst hcs
    have hlm : len ≤ m := by simp at hmm; omega
    rw [cells_cell] at hi
    have each : ∀ i, i < len → ∃ x : Int × Int × Int × Int, w.cell? (a.add (i * 4)) = some (.int .i64 x.1) ∧ w.cell? ((a.add (i * 4)).add 1) = some (.int .i64 x.2.1) ∧ w.cell? ((a.add (i * 4)).add 2) = some (.int .i64 x.2.2.1) ∧ w.cell? ((a.add (i * 4)).add 3) = some (.int .i64 x.2.2.2) := by
      intro i hil
      obtain ⟨cs, h1, h2⟩ := hi i (by omega)
      obtain ⟨_, hlen, hat⟩ := World.cells?_some h1
      match cs, hlen with
      | [c0, c1, c2, c3], _ =>
        obtain ⟨y0, y1, y2, y3, k, _, e0, e1, e2, e3⟩ := trod_array4 Tryd.underlying62 cells_int h2
        have a0 := hat 0 (by omega)
        have a1 := hat 1 (by omega)
        have a2 := hat 2 (by omega)
        have a3 := hat 3 (by omega)
        simp at a0 a1 a2 a3
        obtain ⟨x0, f0, _, _⟩ := DataW.trod_int Tryd.underlying3 e0
        obtain ⟨x1, f1, _, _⟩ := DataW.trod_int Tryd.underlying3 e1
        obtain ⟨x2, f2, _, _⟩ := DataW.trod_int Tryd.underlying3 e2
        obtain ⟨x3, f3, _, _⟩ := DataW.trod_int Tryd.underlying3 e3
        simp at f0 f1 f2 f3
        subst f0 f1 f2 f3
        exact ⟨(x0, x1, x2, x3), by simpa [Addr.add] using a0, a1, a2, a3⟩
    obtain ⟨R, hR⟩ := choose_lt (α := Int × Int × Int × Int) each
    refine ⟨some a, len, cap, fun i d => if d = 0 then (R i).1 else if d = 1 then (R i).2.1 else if d = 2 then (R i).2.2.1 else (R i).2.2.2, rfl, hl, hm, ?_⟩
    rcases Nat.eq_zero_or_pos len with h0 | hp
    · exact .inl h0
    · obtain ⟨b, off, spot⟩ := a
      have hspot : spot = none := by simpa [Addr.add] using World.cell?_spot (hR 0 hp).1
      subst hspot
      refine .inr ⟨b, off, rfl, ?_, fun i hil => ?_⟩
      · have := (hR 0 hp).1
        rw [add_plain] at this
        exact block_lt this
      · have := hR i hil
        rw [add_plain, add_plain, add_plain, add_plain] at this
        exact this

theorem cells_grid : Tryd.prog.cellsOf 24 = 3 := by kernel_rfl
theorem open_grid {r : Reach} {base : Nat} {v : Value} {d : DataW H} {p : List MemPlace} (hv : Value.okWide Tryd.prog w r base 24 v) (h : DataW.Trod enc Tryd.prog w 0 (fun _ => true) true 24 v d p) :
    ∃ (W H : Int) (ao : Option Addr) (n cap : Nat) (G : Nat → Nat → Int), v = .agg #[.int .i64 W, .int .i64 H, .slice ao n cap] ∧ Wf W ∧ Wf H ∧ n ≤ cap ∧ cap ≤ maxLen ∧ CellsIn w ao n G := by
  obtain ⟨v0, v1, v2, y0, y1, y2, k, rfl, _, _, h0, h1, h2⟩ := open_agg3 Tryd.underlying24 (by kernel_rfl) cells_grid hv h
  obtain ⟨W, e0, _, w0⟩ := DataW.trod_int Tryd.underlying3 h0
  obtain ⟨H, e1, _, w1⟩ := DataW.trod_int Tryd.underlying3 h1
  obtain ⟨ao, n, cap, G, rfl, hl, hm, hG⟩ := open_cells h2
  simp at e0 e1
  subst e0 e1
  exact ⟨W, H, ao, n, cap, G, rfl, w0, w1, hl, hm, hG⟩

theorem cells_point : Tryd.prog.cellsOf 26 = 2 := by kernel_rfl
theorem open_point {r : Reach} {base : Nat} {v : Value} {d : DataW H} {p : List MemPlace} (hv : Value.okWide Tryd.prog w r base 26 v) (h : DataW.Trod enc Tryd.prog w 0 (fun _ => true) true 26 v d p) :
    ∃ x0 x1 : Int, v = .agg #[.int .i64 x0, .int .i64 x1] ∧ Wf x0 ∧ Wf x1 := by
  obtain ⟨c0, c1, y0, y1, m, rfl, rfl, rfl, hy0, hy1⟩ := open_agg2 Tryd.underlying26 (by kernel_rfl) cells_point hv h
  obtain ⟨x0, e0, rfl, w0⟩ := DataW.trod_int Tryd.underlying3 hy0
  obtain ⟨x1, e1, rfl, w1⟩ := DataW.trod_int Tryd.underlying3 hy1
  simp at e0 e1
  subst e0 e1
  exact ⟨x0, x1, rfl, w0, w1⟩
theorem open_rule2 {r : Reach} {base : Nat} {v : Value} {d : DataW H} {p : List MemPlace} (hv : Value.okWide Tryd.prog w r base 154 v) (h : DataW.Trod enc Tryd.prog w 0 (fun _ => true) true 154 v d p) :
    ∃ x0 x1 : Int, v = .agg #[.int .i64 x0, .int .i64 x1] ∧ Wf x0 ∧ Wf x1 := by
  obtain ⟨x0, x1, h0, _, _, w0, w1⟩ := open_rule hv h
  exact ⟨x0, x1, h0, w0, w1⟩
theorem open_int2 {r : Reach} {base : Nat} {v : Value} {d : DataW H} {p : List MemPlace} (hv : Value.okWide Tryd.prog w r base 3 v) (h : DataW.Trod enc Tryd.prog w 0 (fun _ => true) true 3 v d p) :
    ∃ x : Int, v = .int .i64 x ∧ Wf x := by
  obtain ⟨x, h0, _, _, w0⟩ := open_int Tryd.underlying3 hv h
  exact ⟨x, h0, w0⟩
theorem open_cell2 {r : Reach} {base : Nat} {v : Value} {d : DataW H} {p : List MemPlace} (hv : Value.okWide Tryd.prog w r base 62 v) (h : DataW.Trod enc Tryd.prog w 0 (fun _ => true) true 62 v d p) :
    ∃ a b c e : Int, v = .agg #[.int .i64 a, .int .i64 b, .int .i64 c, .int .i64 e] ∧ Wf a ∧ Wf b ∧ Wf c ∧ Wf e := by
  obtain ⟨a, b, c, e, h0, _, _, w0, w1, w2, w3⟩ := open_cell hv h
  exact ⟨a, b, c, e, h0, w0, w1, w2, w3⟩
end
end Go.Proofs.YtmdeooflgkjbbaaDoor

/- Arguments that are arrays of two and of three numbers. -/

namespace Go.Proofs.YtmdeooflgkjbbaaDoor
set_option linter.unusedSimpArgs false
set_option linter.unusedVariables false
open Go.ChangeShapes Go.WideShapes Go.ChangeAt Go.RowKit Go.Joins Go.Deep
set_option maxRecDepth 100000

theorem cells_arr2 : Tryd.prog.cellsOf 113 = 2 := by kernel_rfl
theorem size2 {α : Type} (l : List α) (h : (⟨l⟩ : Array α).size = 2) : ∃ a b, l = [a, b] := by
  match l, h with
  | [a, b], _ => exact ⟨a, b, rfl⟩
theorem size3 {α : Type} (l : List α) (h : (⟨l⟩ : Array α).size = 3) : ∃ a b c, l = [a, b, c] := by
  match l, h with
  | [a, b, c], _ => exact ⟨a, b, c, rfl⟩
section
variable {H : Type} {enc : TypeId × Value → H} {w : World}
theorem array_parts {t : TypeId} {fuel n : Nat} {l : List Value} {x : DataW H × List MemPlace} (ht : Tryd.prog.underlying t = some (.array n 3)) (hf : DataW.trod enc Tryd.prog w 0 (fun _ => true) true fuel t l = some x) (hl : l.length = n) (i : Nat) (hi : i < n) : ∃ z : Int, l[i]? = some (.int .i64 z) ∧ Wf z := by
  obtain ⟨ys, m, _, _, _, hlen, hg⟩ := DataW.trod_array ht hf
  have e := hg i hi
  rw [cells_int, List.getElem?_eq_getElem (by omega), Nat.mul_one] at e
  obtain ⟨z, h0, _, hw⟩ := DataW.trod_int Tryd.underlying3 e
  refine ⟨z, ?_, hw⟩
  have : (l.drop i).take 1 = [.int .i64 z] := h0
  rw [List.drop_eq_getElem_cons (by omega)] at this
  rw [List.take_succ_cons] at this
  rw [List.getElem?_eq_getElem (by omega), (List.cons.inj this).1]

theorem open_arr2 {r : Reach} {base : Nat} {v : Value} {d : DataW H} {p : List MemPlace} (hv : Value.okWide Tryd.prog w r base 113 v) (h : DataW.Trod enc Tryd.prog w 0 (fun _ => true) true 113 v d p) :
    ∃ x0 x1 : Int, v = .agg #[.int .i64 x0, .int .i64 x1] ∧ Wf x0 ∧ Wf x1 := by
  obtain ⟨cs, rfl, hsz, _⟩ : ∃ cs, v = .agg cs ∧ cs.size = Tryd.prog.cellsOf 113 ∧ Row.okWide Tryd.prog w r base 113 cs := by
    simpa [Value.okWide, Tryd.underlying113] using hv
  rw [cells_arr2] at hsz
  obtain ⟨l⟩ := cs
  obtain ⟨c0, c1, rfl⟩ := size2 l hsz
  obtain ⟨fuel, hf⟩ := h
  obtain ⟨z0, e0, w0⟩ := array_parts Tryd.underlying113 hf rfl 0 (by omega)
  obtain ⟨z1, e1, w1⟩ := array_parts Tryd.underlying113 hf rfl 1 (by omega)
  simp [Value.cells] at e0 e1
  subst e0 e1
  exact ⟨z0, z1, rfl, w0, w1⟩
end
end Go.Proofs.YtmdeooflgkjbbaaDoor
