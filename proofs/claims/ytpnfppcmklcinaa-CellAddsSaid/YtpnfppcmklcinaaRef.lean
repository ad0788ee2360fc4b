/- The reference's class of a cell, the cell at a place, and what a rule makes of pairs. -/
import Derived.Test.YtpnfppcmklcinaaColl
import Derived.StillTailTactics
import Derived.BigRegion
namespace Go.Proofs.Ytpnfppcmklcinaa
set_option linter.unusedSimpArgs false
set_option linter.unusedVariables false
open Go.RowKit

def absI (n : Int) : Int := max n (-n)

end Go.Proofs.Ytpnfppcmklcinaa
