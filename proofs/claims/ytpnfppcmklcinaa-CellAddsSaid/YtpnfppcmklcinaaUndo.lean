/- Undo, by the program. -/
import Derived.Test.YtpnfppcmklcinaaColl
namespace Go.Proofs.Ytpnfppcmklcinaa
set_option linter.unusedSimpArgs false
set_option linter.unusedVariables false
open Go.RowKit

theorem okR_neg {k y : Int} (h : OkR k y) : OkR k (-y) := by unfold OkR at *; omega

end Go.Proofs.Ytpnfppcmklcinaa
