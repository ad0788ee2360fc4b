/- The reference's sums and its undoing; the chapter's example. -/
import Derived.Test.YtnkehlankidlnaaDoorRef2
import Derived.Test.YtnkehlankidlnaaDoorUndo
import Derived.Test.YtnkehlankidlnaaDoorEq
namespace Go.Proofs.YtnkehlankidlnaaDoor
set_option linter.unusedSimpArgs false
set_option linter.unusedVariables false
open Go.RowKit

theorem least_quiet (a b : Int) (w : World) :
    Calls Tryd.prog 207 #[.int .i64 a, .int .i64 b] w fun e w' => e = .returned (.int .i64 (min a b)) ∧ w' = w := (least_any a b w).mono fun _ _ h => ⟨h.1, h.2.symm⟩

end Go.Proofs.YtnkehlankidlnaaDoor
