/- The law WallSteps: the walk. -/
import Derived.Test.YtdbehbeaigfpcaaDoorKWBoth
import Derived.Test.YtdbehbeaigfpcaaDoorKLawSends
namespace Go.Proofs.YtdbehbeaigfpcaaDoor
set_option linter.unusedSimpArgs false
set_option linter.unusedVariables false
open Go.RowKit

theorem gz_three {w : World} {r n : Nat} {ao : Option Addr} {K : Nat → Nat → Int} {v0 v1 v2 : Value} (h : CellsIn w ao n K) (hf : ∀ p, ao = some p → r < p.block) : CellsIn (((w.setCell ⟨r, 0, none⟩ v0).setCell ⟨r, 1, none⟩ v1).setCell ⟨r, 2, none⟩ v2) ao n K := cellsIn_ex h three_ex (fun p hp => by have := hf p hp; omega)

end Go.Proofs.YtdbehbeaigfpcaaDoor
