/- The reference's sums and its undoing; the chapter's example. -/
import Derived.Test.YtmkhbkkhoemkoaaRef2
import Derived.Test.YtmkhbkkhoemkoaaUndo
import Derived.Test.YtmkhbkkhoemkoaaEq
namespace Go.Proofs.Ytmkhbkkhoemkoaa
set_option linter.unusedSimpArgs false
set_option linter.unusedVariables false
open Go.RowKit

end Go.Proofs.Ytmkhbkkhoemkoaa
