/- The reference's sums and its undoing; the chapter's example. -/
import Derived.Test.YtpnfppcmklcinaaRef2
import Derived.Test.YtpnfppcmklcinaaUndo
import Derived.Test.YtpnfppcmklcinaaEq
namespace Go.Proofs.Ytpnfppcmklcinaa
set_option linter.unusedSimpArgs false
set_option linter.unusedVariables false
open Go.RowKit

end Go.Proofs.Ytpnfppcmklcinaa
