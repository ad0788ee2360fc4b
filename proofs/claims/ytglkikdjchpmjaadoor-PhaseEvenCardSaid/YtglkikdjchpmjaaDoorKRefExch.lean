/- Exchanges, by the reference; the errors of both. -/
import Derived.Test.YtglkikdjchpmjaaDoorKExchC
import Derived.Test.YtglkikdjchpmjaaDoorKExchU
import Derived.Test.YtglkikdjchpmjaaDoorKRef
namespace Go.Proofs.YtglkikdjchpmjaaDoor
set_option linter.unusedSimpArgs false
set_option linter.unusedVariables false
open Go.RowKit

end Go.Proofs.YtglkikdjchpmjaaDoor
