/- A grid and an error as one form; grids in memory beside stores. -/
import Derived.Test.YtglkikdjchpmjaaDoorKRunU
import Derived.Test.YtglkikdjchpmjaaDoorKRefG4
namespace Go.Proofs.YtglkikdjchpmjaaDoor
set_option linter.unusedSimpArgs false
set_option linter.unusedVariables false
open Go.RowKit

/-- A grid and an error, whatever they are. -/
def GZ (W H : Int) (n : Nat) (K : Nat → Nat → Int) (z : Int) (w : World) (e : Ending) (w' : World) : Prop :=
  ∃ ao c, e = .returned (.tuple #[.agg #[.int .i64 W, .int .i64 H, .slice (ao) n c], .int .i64 z]) ∧ Hid (CellsIn w' ao n K) ∧ (∀ p, ao = some p → w.heap.size ≤ p.block) ∧ Below w.heap.size w w'
theorem gz_made {W H : Int} {n : Nat} {K : Nat → Nat → Int} {w : World} {e : Ending} {w' : World} (h : Made W H n K w e w') : GZ W H n K 0 w e w' := by
  obtain ⟨b, c, h1, h2, h3, h4⟩ := h
  exact ⟨_, c, h1, Lib.hid h2, fun p hp => (by cases hp; exact h3), h4⟩
theorem cellsIn_ex {S : Nat → Prop} {w w' : World} {ao : Option Addr} {n : Nat} {K : Nat → Nat → Int} (h : CellsIn w ao n K) (hx : Ex S w w') (hs : ∀ p, ao = some p → ¬ S p.block) : CellsIn w' ao n K := by
  rcases h with h | ⟨b, off, rfl, hlt, hG⟩
  · exact .inl h
  · have hb : ¬ S b := hs _ rfl
    exact .inr ⟨b, off, rfl, Nat.lt_of_lt_of_le hlt hx.size, fun i hi => ⟨(hx.cell hlt hb).trans (hG i hi).1, (hx.cell hlt hb).trans (hG i hi).2.1, (hx.cell hlt hb).trans (hG i hi).2.2.1, (hx.cell hlt hb).trans (hG i hi).2.2.2⟩⟩
theorem gz_err {z : Int} {K : Nat → Nat → Int} {w : World} {e : Ending} {w' : World} (h : e = .returned (.tuple #[.agg #[.int .i64 0, .int .i64 0, .slice (none) 0 0], .int .i64 z]) ∧ Below w.heap.size w w') : GZ 0 0 0 K z w e w' :=
  ⟨none, 0, h.1, Lib.hid (.inl rfl), fun p hp => (by cases hp), h.2⟩
theorem cells_of1 {W H n : Nat} {w : World} {ao : Option Addr} {G : Nat → Nat → Int} (s : Sides W H n) (h : CellsIn w ao n G) : ∃ b off, ao = some ⟨b, off, none⟩ ∧ b < w.heap.size ∧ Grd w b off n G := by
  rcases h with h | h
  · have h1 := s.w0
    have h2 := s.h0
    have := s.n0
    have : 1 * 1 ≤ W * H := Nat.mul_le_mul h1 h2
    omega
  · exact h
theorem cellsIn_eqG {w : World} {ao : Option Addr} {n : Nat} {G K : Nat → Nat → Int} (h : CellsIn w ao n G) (e : EqG n G K) : CellsIn w ao n K := by
  rcases h with h | ⟨b, off, rfl, hlt, hG⟩
  · exact .inl h
  · refine .inr ⟨b, off, rfl, hlt, fun i hi => ?_⟩
    rw [← e i hi 0 (by omega), ← e i hi 1 (by omega), ← e i hi 2 (by omega), ← e i hi 3 (by omega)]
    exact hG i hi
theorem gz_pass {W H : Int} {n c r : Nat} {ao : Option Addr} {K : Nat → Nat → Int} {z : Int} {w w5 : World} {v0 v1 v2 : Value} (hr : CellsIn w5 ao n K) (hf : ∀ p, ao = some p → r < p.block) (hb : Below w.heap.size w w5) (h1 : w.heap.size ≤ r) :
    GZ W H n K z w (.returned (.tuple #[.agg #[.int .i64 W, .int .i64 H, .slice (ao) n c], .int .i64 z])) (((w5.setCell ⟨r, 0, none⟩ v0).setCell ⟨r, 1, none⟩ v1).setCell ⟨r, 2, none⟩ v2) :=
  ⟨ao, c, rfl, Lib.hid (cellsIn_ex hr three_ex (fun p hp => by have := hf p hp; omega)), fun p hp => by have := hf p hp; omega, hb.trans (three_ex.below hb.size (fun k hk => by omega))⟩
end Go.Proofs.YtglkikdjchpmjaaDoor
