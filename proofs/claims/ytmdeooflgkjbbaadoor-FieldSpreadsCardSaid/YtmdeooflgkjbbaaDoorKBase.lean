/- Small facts that all walks of this seat use: what lies below a block number reads as before. -/
import Derived.Test.YtmdeooflgkjbbaaDoorRows
import Derived.WalkKit
import Derived.WalkSpells
import Derived.WalkLawsBesides
import Derived.Deep.QuietTactic
import Derived.BigQuiet
import Derived.Lib.Hide
import Derived.StillTailTactics
import Derived.ProofKit
import Derived.OpenShut
import Derived.Lib.SmallJoins
import Derived.Laws.IdiomArrays
namespace Go.Proofs.YtmdeooflgkjbbaaDoor
set_option linter.unusedSimpArgs false
set_option linter.unusedVariables false
open Go.RowKit

/-- A cell, under another name: where nothing is known of it. -/
def cellX (w : World) (b o : Nat) : Option Value := w.cell? ⟨b, o, none⟩
/-- A mark, under another name. -/
def frozenX (w : World) (b o : Nat) : Bool := w.frozen? ⟨b, o, none⟩

/-- What a call that keeps all below the heap's size keeps: cells, marks, the size; as rules that a walk can use (each with a test that arithmetic decides). -/
theorem bcall {W w1 : World} (hb : Below W.heap.size W w1) : (∀ b o, w1.cell? ⟨b, o, none⟩ = if b < W.heap.size then W.cell? ⟨b, o, none⟩ else cellX w1 b o) ∧ (∀ b o, w1.frozen? ⟨b, o, none⟩ = if b < W.heap.size then W.frozen? ⟨b, o, none⟩ else frozenX w1 b o) ∧ W.heap.size ≤ w1.heap.size :=
  ⟨fun b o => by
    by_cases h : b < W.heap.size
    · rw [if_pos h]; exact hb.cell (p := ⟨b, o, none⟩) h
    · rw [if_neg h]; rfl,
   fun b o => by
    by_cases h : b < W.heap.size
    · rw [if_pos h]; exact hb.frozen (p := ⟨b, o, none⟩) h
    · rw [if_neg h]; rfl, hb.size⟩

/-- A cell that a call keeps. -/
theorem keep_cell {W w1 : World} {b o : Nat} {v : Value} (hb : Below W.heap.size W w1) (hp : b < W.heap.size) (h : W.cell? ⟨b, o, none⟩ = some v) : w1.cell? ⟨b, o, none⟩ = some v := by
  rw [← h]; exact hb.cell (p := ⟨b, o, none⟩) hp

/-- A new block's cells, every place: as a rule with tests that arithmetic decides. -/
theorem alloc_cell (w : World) (c : Array Value) (t n i : Nat) : (w.alloc (.cells c t)).cell? ⟨n, i, none⟩ = if n < w.heap.size then w.cell? ⟨n, i, none⟩ else if n = w.heap.size then c[i]? else cellX (w.alloc (.cells c t)) n i := by
  by_cases h : n < w.heap.size
  · rw [if_pos h]; exact World.cell?_alloc_past _ _ _ h
  · rw [if_neg h]
    by_cases h' : n = w.heap.size
    · rw [if_pos h']; exact World.cell?_alloc_at _ _ _ _ h'
    · rw [if_neg h']; rfl
theorem alloc_frozen (w : World) (c : Array Value) (t n i : Nat) : (w.alloc (.cells c t)).frozen? ⟨n, i, none⟩ = if n < w.heap.size then w.frozen? ⟨n, i, none⟩ else if n = w.heap.size then false else frozenX (w.alloc (.cells c t)) n i := by
  by_cases h : n < w.heap.size
  · rw [if_pos h]; exact World.frozen?_alloc_past _ _ _ h
  · rw [if_neg h]
    by_cases h' : n = w.heap.size
    · rw [if_pos h']; exact World.frozen?_alloc_at _ _ _ _ h'
    · rw [if_neg h']; rfl
/-- A cell behind a store, every place. -/
theorem set_cell (w : World) (n i m j : Nat) (v : Value) : (w.setCell ⟨n, i, none⟩ v).cell? ⟨m, j, none⟩ = if n = m then (if i = j then (w.cell? ⟨m, j, none⟩).map (fun _ => v) else w.cell? ⟨m, j, none⟩) else w.cell? ⟨m, j, none⟩ := by
  by_cases h : n = m
  · rw [if_pos h]
    by_cases h' : i = j
    · rw [if_pos h']
      subst h; subst h'
      cases hc : w.cell? ⟨n, i, none⟩ with
      | some u => exact World.cell?_setCell_same _ _ _ hc
      | none =>
        unfold World.cell? at hc
        simp only [World.setCell, World.cell?, Array.getElem?_modify, ↓reduceIte]
        split at hc
        · rename_i c e f hb
          have hoff : c.size ≤ i := by simpa using hc
          simp [hb, hoff]
        · rename_i hb
          cases hh : w.heap[n]? with
          | none => simp
          | some x =>
            cases x with
            | cells c e f => exact absurd hh (by intro hh'; exact hb _ _ _ hh')
            | _ => simp
    · rw [if_neg h']
      exact World.cell?_setCell_other _ _ _ _ (by intro e; cases e; exact h' rfl)
  · rw [if_neg h]
    exact World.cell?_setCell_other _ _ _ _ (by intro e; cases e; exact h rfl)
attribute [go_sem] alloc_cell alloc_frozen set_cell

/-- The greatest mass. -/
def Ok4 (a b c d : Int) : Prop := 0 ≤ a ∧ 0 ≤ b ∧ 0 ≤ c ∧ 0 ≤ d ∧ a + b + c + d ≤ 1000000000

/-- A region that draws its order, whose operations but the last ones only read: one walk, then the tail; the world is the drawn one. -/
theorem still_tail {P : Program} {id : Nat} {Q : Exit → Act → World → Prop} {a : Act} {w : World} {l : List Oper} (n : Nat) (hm : P.follows .mixedOrders = true) (hB : Region.lexTailB .any l.toArray n = true)
    (h : wpStill P l.toArray w.drew (fun a' => wpList P l.toArray Q (l.drop n) a' w.drew) (l.take n) a) : (Code.region id l.toArray true).wp P Q a w := wp_region_still_tail n hm hB h

theorem ret_i {a b : Int} (h : a = b) : Ending.returned (.int .i64 a) = Ending.returned (.int .i64 b) := by rw [h]
theorem ret_ii {a b c d : Int} (h : a = b) (k : c = d) : Ending.returned (.tuple #[.int .i64 a, .int .i64 c]) = Ending.returned (.tuple #[.int .i64 b, .int .i64 d]) := by rw [h, k]
theorem ret_iii {a b c d x y : Int} (h : a = b) (k : c = d) (l : x = y) : Ending.returned (.tuple #[.int .i64 a, .int .i64 c, .int .i64 x]) = Ending.returned (.tuple #[.int .i64 b, .int .i64 d, .int .i64 y]) := by rw [h, k, l]
theorem c4_eq {a b c d a' b' c' d' : Int} (h0 : a = a') (h1 : b = b') (h2 : c = c') (h3 : d = d') : (.agg #[.int .i64 a, .int .i64 b, .int .i64 c, .int .i64 d] : Value) = .agg #[.int .i64 a', .int .i64 b', .int .i64 c', .int .i64 d'] := by rw [h0, h1, h2, h3]
end Go.Proofs.YtmdeooflgkjbbaaDoor

/- The frame of a law's row: arguments that are cells, rules and numbers; a call that keeps all that was there. -/





namespace Go.Proofs.YtmdeooflgkjbbaaDoor
set_option linter.unusedSimpArgs false
set_option linter.unusedVariables false
open Go.ChangeShapes Go.WideShapes Go.ChangeAt Go.RowKit Go.Joins
set_option maxRecDepth 100000

theorem own : ownKnob Tryd.prog.godebug = none := by kernel_rfl

section
variable {H : Type} {enc : TypeId × Value → H}

/-- A law's row asks: true; the arguments read as they did; what was there is as it was. -/
theorem law_post {f : Func} {s : ChangeSpec} {W W' : World} {args : Array Value} {v : Value} {ds gs : List (DataW H)} {before pa pv : List MemPlace}
    (hW : DataW.Whole enc Tryd.prog f.params.toList s.vars false W args.toList ds gs before)
    (hres : ∀ (b : Nat) (sp : Nat → Bool) (hd : Bool), DataW.TrodAll enc Tryd.prog W' b sp hd f.resultTypes.toList (v.resultList f.resultTypes.size) (s.fn H (ds ++ gs)).results [])
    (hargs : ∀ sp : Nat → Bool, (∀ p ∈ before, sp p.block = true) → DataW.TrodAll enc Tryd.prog W' 0 sp true f.params.toList args.toList (s.fn H (ds ++ gs)).args pa)
    (hvars : ∀ sp : Nat → Bool, (∀ p ∈ before, sp p.block = true) → DataW.TrodVars enc Tryd.prog W' sp s.vars (s.fn H (ds ++ gs)).vars pv)
    (hps : before = pa ++ pv) (hb : Below W.heap.size W W') :
    s.post enc Tryd.prog f false true false false W args v W' := by
  have hold : ∀ p ∈ before, (fun b => decide (b < W.heap.size)) p.block = true := fun p hp => by simpa using hW.lt p hp
  refine ⟨ds, gs, before, [], pa, pv, hW, hres _ _ _, hargs _ hold, hvars _ hold, World.keptBut_mono (fun p hp => ⟨hp, ?_⟩) (hb.frame (· ∈ before)), fun h => ?_⟩
  · rw [hps, List.mem_append] at hp
    exact Or.inr hp
  · cases h

variable {w : World} {base : Nat} {spare : Nat → Bool} {held : Bool}

theorem cells_int : Tryd.prog.cellsOf 3 = 1 := by kernel_rfl
theorem cells_cell : Tryd.prog.cellsOf 62 = 4 := by kernel_rfl
theorem cells_arr4 : Tryd.prog.cellsOf 61 = 4 := by kernel_rfl
theorem cells_rule : Tryd.prog.cellsOf 154 = 2 := by kernel_rfl

/-- Four numbers as data. -/
def d4 (x0 x1 x2 x3 : Int) : DataW H := .agg [.lit (.int .i64 x0), .lit (.int .i64 x1), .lit (.int .i64 x2), .lit (.int .i64 x3)]
def d2 (x0 x1 : Int) : DataW H := .agg [.lit (.int .i64 x0), .lit (.int .i64 x1)]
def Wf (x : Int) : Prop := (Lit.int .i64 x).wf = true
theorem Wf.bd {x : Int} (h : Wf x) : -9223372036854775808 ≤ x ∧ x ≤ 9223372036854775807 := by
  unfold Wf at h
  simp [Lit.wf, IntKind.min, IntKind.max, IntKind.signed, IntKind.bits] at h
  exact ⟨by omega, by omega⟩

theorem size4 {α : Type} (l : List α) (h : (⟨l⟩ : Array α).size = 4) : ∃ a b c d, l = [a, b, c, d] := by
  match l, h with
  | [a, b, c, d], _ => exact ⟨a, b, c, d, rfl⟩

theorem open_arr4 {t : TypeId} {r : Reach} {v : Value} {d : DataW H} {p : List MemPlace} (ht : Tryd.prog.underlying t = some (.array 4 3)) (hC : Tryd.prog.cellsOf t = 4)
    (hv : Value.okWide Tryd.prog w r base t v) (h : DataW.Trod enc Tryd.prog w 0 spare held t v d p) :
    ∃ x0 x1 x2 x3 : Int, v = .agg #[.int .i64 x0, .int .i64 x1, .int .i64 x2, .int .i64 x3] ∧ d = d4 x0 x1 x2 x3 ∧ p = [] ∧ Wf x0 ∧ Wf x1 ∧ Wf x2 ∧ Wf x3 := by
  obtain ⟨cs, rfl, hsz, _⟩ : ∃ cs, v = .agg cs ∧ cs.size = Tryd.prog.cellsOf t ∧ Row.okWide Tryd.prog w r base t cs := by
    simpa [Value.okWide, ht] using hv
  rw [hC] at hsz
  obtain ⟨l⟩ := cs
  obtain ⟨c0, c1, c2, c3, rfl⟩ := size4 l hsz
  obtain ⟨fuel, hf⟩ := h
  obtain ⟨y0, y1, y2, y3, m, hx, hy0, hy1, hy2, hy3⟩ := trod_array4 ht cells_int hf
  obtain ⟨x0, e0, rfl, w0⟩ := DataW.trod_int Tryd.underlying3 hy0
  obtain ⟨x1, e1, rfl, w1⟩ := DataW.trod_int Tryd.underlying3 hy1
  obtain ⟨x2, e2, rfl, w2⟩ := DataW.trod_int Tryd.underlying3 hy2
  obtain ⟨x3, e3, rfl, w3⟩ := DataW.trod_int Tryd.underlying3 hy3
  simp at e0 e1 e2 e3
  subst e0 e1 e2 e3
  simp only [Prod.mk.injEq] at hx
  exact ⟨x0, x1, x2, x3, rfl, hx.1, by simpa using hx.2, w0, w1, w2, w3⟩

theorem open_cell {r : Reach} {v : Value} {d : DataW H} {p : List MemPlace} (hv : Value.okWide Tryd.prog w r base 62 v) (h : DataW.Trod enc Tryd.prog w 0 spare held 62 v d p) :
    ∃ x0 x1 x2 x3 : Int, v = .agg #[.int .i64 x0, .int .i64 x1, .int .i64 x2, .int .i64 x3] ∧ d = d4 x0 x1 x2 x3 ∧ p = [] ∧ Wf x0 ∧ Wf x1 ∧ Wf x2 ∧ Wf x3 := open_arr4 Tryd.underlying62 cells_cell hv h

theorem shut_arr4 {t : TypeId} (ht : Tryd.prog.underlying t = some (.array 4 3)) (hC : Tryd.prog.cellsOf t = 4) {x0 x1 x2 x3 : Int} (w0 : Wf x0) (w1 : Wf x1) (w2 : Wf x2) (w3 : Wf x3) :
    DataW.Trod enc Tryd.prog w base spare held t (.agg #[.int .i64 x0, .int .i64 x1, .int .i64 x2, .int .i64 x3]) (d4 x0 x1 x2 x3) [] := by
  unfold Wf at *
  exact ⟨2, by simp [DataW.trod, Value.cells, ht, Tryd.underlying3, hC, cells_int, w0, w1, w2, w3, d4, show List.range 4 = [0, 1, 2, 3] from rfl]⟩
theorem shut_cell {x0 x1 x2 x3 : Int} (w0 : Wf x0) (w1 : Wf x1) (w2 : Wf x2) (w3 : Wf x3) :
    DataW.Trod enc Tryd.prog w base spare held 62 (.agg #[.int .i64 x0, .int .i64 x1, .int .i64 x2, .int .i64 x3]) (d4 x0 x1 x2 x3) [] := shut_arr4 Tryd.underlying62 cells_cell w0 w1 w2 w3

theorem open_rule {r : Reach} {v : Value} {d : DataW H} {p : List MemPlace} (hv : Value.okWide Tryd.prog w r base 154 v) (h : DataW.Trod enc Tryd.prog w 0 spare held 154 v d p) :
    ∃ x0 x1 : Int, v = .agg #[.int .i64 x0, .int .i64 x1] ∧ d = d2 x0 x1 ∧ p = [] ∧ Wf x0 ∧ Wf x1 := by
  obtain ⟨c0, c1, y0, y1, m, rfl, rfl, rfl, hy0, hy1⟩ := open_agg2 Tryd.underlying154 (by kernel_rfl) cells_rule hv h
  obtain ⟨x0, e0, rfl, w0⟩ := DataW.trod_int Tryd.underlying3 hy0
  obtain ⟨x1, e1, rfl, w1⟩ := DataW.trod_int Tryd.underlying3 hy1
  simp at e0 e1
  subst e0 e1
  exact ⟨x0, x1, rfl, rfl, rfl, w0, w1⟩
theorem shut_rule {x0 x1 : Int} (w0 : Wf x0) (w1 : Wf x1) :
    DataW.Trod enc Tryd.prog w base spare held 154 (.agg #[.int .i64 x0, .int .i64 x1]) (d2 x0 x1) [] :=
  shut_agg2 (y0 := (.lit (.int .i64 x0), [])) (y1 := (.lit (.int .i64 x1), [])) Tryd.underlying154 (by kernel_rfl) cells_rule ⟨1, by unfold Wf at w0; simp [DataW.trod, Tryd.underlying3, w0]⟩ ⟨1, by unfold Wf at w1; simp [DataW.trod, Tryd.underlying3, w1]⟩
end
end Go.Proofs.YtmdeooflgkjbbaaDoor

/- Two cells, two rules are compared as their numbers are; a field of a class. -/

namespace Go.Proofs.YtmdeooflgkjbbaaDoor
set_option linter.unusedSimpArgs false
set_option linter.unusedVariables false
open Go.RowKit

theorem part_int (w : World) (cs : Array Value) (i : Nat) (v : Value) (h : cs[i]? = some v) : (part 3 cs i).run Tryd.prog w = .ok v w := by
  have hi : (isAgg 3).run Tryd.prog w = .ok false w := by kernel_rfl
  simp [part, hi, h]

theorem equalIn_cell (w : World) (d : Nat) (a b c e a' b' c' e' : Int) :
    (Op.equalIn (d + 2) 62 (.agg #[.int .i64 a, .int .i64 b, .int .i64 c, .int .i64 e]) (.agg #[.int .i64 a', .int .i64 b', .int .i64 c', .int .i64 e'])).run Tryd.prog w = .ok (a == a' && (b == b' && (c == c' && e == e'))) w := by
  have hu : Tryd.prog.underlying 62 = some (.array 4 3) := Tryd.underlying62
  have he : Tryd.prog.underlying 3 = some (.int .i64) := Tryd.underlying3
  have hr : List.range' 0 4 = [0, 1, 2, 3] := rfl
  have p0 := fun (x0 x1 x2 x3 : Value) => part_int w #[x0, x1, x2, x3] 0 x0 rfl
  have p1 := fun (x0 x1 x2 x3 : Value) => part_int w #[x0, x1, x2, x3] 1 x1 rfl
  have p2 := fun (x0 x1 x2 x3 : Value) => part_int w #[x0, x1, x2, x3] 2 x2 rfl
  have p3 := fun (x0 x1 x2 x3 : Value) => part_int w #[x0, x1, x2, x3] 3 x3 rfl
  have q := fun (x y : Int) => run_equalIn_int (P := Tryd.prog) w d 3 .i64 .i64 x y he
  unfold Op.equalIn
  simp [run_underlying hu, hr]
  by_cases h0 : a = a' <;> by_cases h1 : b = b' <;> by_cases h2 : c = c' <;> by_cases h3 : e = e' <;> simp [h0, h1, h2, h3, p0, p1, p2, p3, q]

theorem equalIn_cell_max (w : World) (a b c e a' b' c' e' : Int) :
    (Op.equalIn 10000 62 (.agg #[.int .i64 a, .int .i64 b, .int .i64 c, .int .i64 e]) (.agg #[.int .i64 a', .int .i64 b', .int .i64 c', .int .i64 e'])).run Tryd.prog w = .ok (a == a' && (b == b' && (c == c' && e == e'))) w := equalIn_cell w 9998 ..

attribute [go_sem] equalIn_cell_max
end Go.Proofs.YtmdeooflgkjbbaaDoor
