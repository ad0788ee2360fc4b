/- What the laws' walks share: cells behind stores into another block; empty grids. -/
import Derived.Test.YtnkehlankidlnaaStreamed
import Derived.Test.YtnkehlankidlnaaStepU
import Derived.Test.YtnkehlankidlnaaAwake2
namespace Go.Proofs.Ytnkehlankidlnaa
set_option linter.unusedSimpArgs false
set_option linter.unusedVariables false
open Go.RowKit

theorem cells_3 {w : World} {r b n : Nat} {G : Nat → Nat → Int} {v0 v1 v2 : Value} (h : CellsIn w (some ⟨b, 0, none⟩) n G) (hne : r ≠ b) : CellsIn (((w.setCell ⟨r, 0, none⟩ v0).setCell ⟨r, 1, none⟩ v1).setCell ⟨r, 2, none⟩ v2) (some ⟨b, 0, none⟩) n G := by
  have x : Ex (fun k => k = r) w (((w.setCell ⟨r, 0, none⟩ v0).setCell ⟨r, 1, none⟩ v1).setCell ⟨r, 2, none⟩ v2) := three_ex
  rcases h with h | ⟨b', o, e, hlt, hG⟩
  · exact .inl h
  · cases e
    exact .inr ⟨b, 0, rfl, Nat.lt_of_lt_of_le hlt x.size, fun i hi => ⟨(x.cell hlt (by omega)).trans (hG i hi).1, (x.cell hlt (by omega)).trans (hG i hi).2.1, (x.cell hlt (by omega)).trans (hG i hi).2.2.1, (x.cell hlt (by omega)).trans (hG i hi).2.2.2⟩⟩

theorem same_zero (w : World) : Calls Try.prog 22 #[.agg #[.int .i64 0, .int .i64 0, .slice (none) 0 0], .agg #[.int .i64 0, .int .i64 0, .slice (none) 0 0]] w fun e w' => e = .returned (.bool true) ∧ Below w.heap.size w w' :=
  gSame_yes 0 0 none none 0 0 0 (fun _ _ => 0) (fun _ _ => 0) w (by omega) (.inl rfl) (.inl rfl) (EqG.refl _ _)
end Go.Proofs.Ytnkehlankidlnaa
