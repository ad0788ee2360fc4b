/- The law WallRuns: the walk. -/
import Derived.Test.YtdbehbeaigfpcaaDoorKWBoth
import Derived.Test.YtdbehbeaigfpcaaDoorKLawStepsW
namespace Go.Proofs.YtdbehbeaigfpcaaDoor
set_option linter.unusedSimpArgs false
set_option linter.unusedVariables false
open Go.RowKit

theorem small200_yes (W H : Int) (ao : Option Addr) (n cap : Nat) (ak : Option Addr) (nk ck : Nat) (ab : Option Addr) (nb cb : Nat) (w : World) (h : n ≤ 200 ∧ nk ≤ 200 ∧ nb ≤ 200) :
    Calls Tryd.prog 5 #[.agg #[.int .i64 W, .int .i64 H, .slice (ao) n cap, .slice (ak) nk ck, .slice (ab) nb cb], .int .i64 200] w fun e w' => e = .returned (.bool true) ∧ Below w.heap.size w w' := small3_yes W H ao n cap ak nk ck ab nb cb 200 w h.1 h.2.1 h.2.2
theorem small200_no (W H : Int) (ao : Option Addr) (n cap : Nat) (ak : Option Addr) (nk ck : Nat) (ab : Option Addr) (nb cb : Nat) (w : World) (h : ¬ (n ≤ 200 ∧ nk ≤ 200 ∧ nb ≤ 200)) :
    Calls Tryd.prog 5 #[.agg #[.int .i64 W, .int .i64 H, .slice (ao) n cap, .slice (ak) nk ck, .slice (ab) nb cb], .int .i64 200] w fun e w' => e = .returned (.bool false) ∧ Below w.heap.size w w' := small3_no W H ao n cap ak nk ck ab nb cb 200 w (by omega)
theorem PreW.with {w : World} {ao : Option Addr} {n : Nat} {G : Nat → Nat → Int} {ak : Option Addr} {nk : Nat} {K : Nat → Int} {ab : Option Addr} {nb : Nat} {B : Nat → Int} {ro : Option Addr} {len : Nat} {R : Nat → Int × Int} (h : PreW w ao n G ak nk K ab nb B ro len R) {a2 : Option Addr} {G2 : Nat → Nat → Int} (hC : CellsIn w a2 n G2) : PreW w a2 n G2 ak nk K ab nb B ro len R := ⟨h.1, hC, h.2.2.1, h.2.2.2.1, h.2.2.2.2⟩
theorem PreW.cells {w : World} {ao : Option Addr} {n : Nat} {G : Nat → Nat → Int} {ak : Option Addr} {nk : Nat} {K : Nat → Int} {ab : Option Addr} {nb : Nat} {B : Nat → Int} {ro : Option Addr} {len : Nat} {R : Nat → Int × Int} (h : PreW w ao n G ak nk K ab nb B ro len R) : CellsIn w ao n G := h.2.1

end Go.Proofs.YtdbehbeaigfpcaaDoor
