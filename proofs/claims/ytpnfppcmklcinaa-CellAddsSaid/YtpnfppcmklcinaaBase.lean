/- Small facts that all walks of this seat use: what lies below a block number reads as before. -/
import Derived.Test.YtpnfppcmklcinaaRows
import Derived.WalkKit
import Derived.WalkSpells
import Derived.WalkLawsBesides
import Derived.Deep.QuietTactic
import Derived.BigQuiet
import Derived.Lib.Hide
import Derived.StillTailTactics
namespace Go.Proofs.Ytpnfppcmklcinaa
set_option linter.unusedSimpArgs false
set_option linter.unusedVariables false
open Go.RowKit

/-- A cell, under another name: where nothing is known of it. -/
def cellX (w : World) (b o : Nat) : Option Value := w.cell? ⟨b, o, none⟩
/-- A mark, under another name. -/
def frozenX (w : World) (b o : Nat) : Bool := w.frozen? ⟨b, o, none⟩

/-- What a call that keeps all below the heap's size keeps: cells, marks, the size; as rules that a walk can use (each with a test that arithmetic decides). -/
theorem bcall {W w1 : World} (hb : Below W.heap.size W w1) : (∀ b o, w1.cell? ⟨b, o, none⟩ = if b < W.heap.size then W.cell? ⟨b, o, none⟩ else cellX w1 b o) ∧ (∀ b o, w1.frozen? ⟨b, o, none⟩ = if b < W.heap.size then W.frozen? ⟨b, o, none⟩ else frozenX w1 b o) ∧ W.heap.size ≤ w1.heap.size :=
  ⟨fun b o => by
    by_cases h : b < W.heap.size
    · rw [if_pos h]; exact hb.cell (p := ⟨b, o, none⟩) h
    · rw [if_neg h]; rfl,
   fun b o => by
    by_cases h : b < W.heap.size
    · rw [if_pos h]; exact hb.frozen (p := ⟨b, o, none⟩) h
    · rw [if_neg h]; rfl, hb.size⟩

/-- A cell that a call keeps. -/
theorem keep_cell {W w1 : World} {b o : Nat} {v : Value} (hb : Below W.heap.size W w1) (hp : b < W.heap.size) (h : W.cell? ⟨b, o, none⟩ = some v) : w1.cell? ⟨b, o, none⟩ = some v := by
  rw [← h]; exact hb.cell (p := ⟨b, o, none⟩) hp

/-- A new block's cells, every place: as a rule with tests that arithmetic decides. -/
theorem alloc_cell (w : World) (c : Array Value) (t n i : Nat) : (w.alloc (.cells c t)).cell? ⟨n, i, none⟩ = if n < w.heap.size then w.cell? ⟨n, i, none⟩ else if n = w.heap.size then c[i]? else cellX (w.alloc (.cells c t)) n i := by
  by_cases h : n < w.heap.size
  · rw [if_pos h]; exact World.cell?_alloc_past _ _ _ h
  · rw [if_neg h]
    by_cases h' : n = w.heap.size
    · rw [if_pos h']; exact World.cell?_alloc_at _ _ _ _ h'
    · rw [if_neg h']; rfl
theorem alloc_frozen (w : World) (c : Array Value) (t n i : Nat) : (w.alloc (.cells c t)).frozen? ⟨n, i, none⟩ = if n < w.heap.size then w.frozen? ⟨n, i, none⟩ else if n = w.heap.size then false else frozenX (w.alloc (.cells c t)) n i := by
  by_cases h : n < w.heap.size
  · rw [if_pos h]; exact World.frozen?_alloc_past _ _ _ h
  · rw [if_neg h]
    by_cases h' : n = w.heap.size
    · rw [if_pos h']; exact World.frozen?_alloc_at _ _ _ _ h'
    · rw [if_neg h']; rfl
/-- A cell behind a store, every place. -/
theorem set_cell (w : World) (n i m j : Nat) (v : Value) : (w.setCell ⟨n, i, none⟩ v).cell? ⟨m, j, none⟩ = if n = m then (if i = j then (w.cell? ⟨m, j, none⟩).map (fun _ => v) else w.cell? ⟨m, j, none⟩) else w.cell? ⟨m, j, none⟩ := by
  by_cases h : n = m
  · rw [if_pos h]
    by_cases h' : i = j
    · rw [if_pos h']
      subst h; subst h'
      cases hc : w.cell? ⟨n, i, none⟩ with
      | some u => exact World.cell?_setCell_same _ _ _ hc
      | none =>
        unfold World.cell? at hc
        simp only [World.setCell, World.cell?, Array.getElem?_modify, ↓reduceIte]
        split at hc
        · rename_i c e f hb
          have hoff : c.size ≤ i := by simpa using hc
          simp [hb, hoff]
        · rename_i hb
          cases hh : w.heap[n]? with
          | none => simp
          | some x =>
            cases x with
            | cells c e f => exact absurd hh (by intro hh'; exact hb _ _ _ hh')
            | _ => simp
    · rw [if_neg h']
      exact World.cell?_setCell_other _ _ _ _ (by intro e; cases e; exact h' rfl)
  · rw [if_neg h]
    exact World.cell?_setCell_other _ _ _ _ (by intro e; cases e; exact h rfl)
attribute [go_sem] alloc_cell alloc_frozen set_cell

/-- The greatest mass. -/
def Ok4 (a b c d : Int) : Prop := 0 ≤ a ∧ 0 ≤ b ∧ 0 ≤ c ∧ 0 ≤ d ∧ a + b + c + d ≤ 1000000000

/-- A region that draws its order, whose operations but the last ones only read: one walk, then the tail; the world is the drawn one. -/
theorem still_tail {P : Program} {id : Nat} {Q : Exit → Act → World → Prop} {a : Act} {w : World} {l : List Oper} (n : Nat) (hm : P.follows .mixedOrders = true) (hB : Region.lexTailB .any l.toArray n = true)
    (h : wpStill P l.toArray w.drew (fun a' => wpList P l.toArray Q (l.drop n) a' w.drew) (l.take n) a) : (Code.region id l.toArray true).wp P Q a w := wp_region_still_tail n hm hB h

theorem ret_i {a b : Int} (h : a = b) : Ending.returned (.int .i64 a) = Ending.returned (.int .i64 b) := by rw [h]
theorem ret_ii {a b c d : Int} (h : a = b) (k : c = d) : Ending.returned (.tuple #[.int .i64 a, .int .i64 c]) = Ending.returned (.tuple #[.int .i64 b, .int .i64 d]) := by rw [h, k]
theorem ret_iii {a b c d x y : Int} (h : a = b) (k : c = d) (l : x = y) : Ending.returned (.tuple #[.int .i64 a, .int .i64 c, .int .i64 x]) = Ending.returned (.tuple #[.int .i64 b, .int .i64 d, .int .i64 y]) := by rw [h, k, l]
theorem c4_eq {a b c d a' b' c' d' : Int} (h0 : a = a') (h1 : b = b') (h2 : c = c') (h3 : d = d') : (.agg #[.int .i64 a, .int .i64 b, .int .i64 c, .int .i64 d] : Value) = .agg #[.int .i64 a', .int .i64 b', .int .i64 c', .int .i64 d'] := by rw [h0, h1, h2, h3]
end Go.Proofs.Ytpnfppcmklcinaa
