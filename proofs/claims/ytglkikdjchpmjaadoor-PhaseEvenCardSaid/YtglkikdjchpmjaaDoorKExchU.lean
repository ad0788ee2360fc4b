/- Exchanges, by the program (by cell.Undo). -/
import Derived.Test.YtglkikdjchpmjaaDoorKEnds
import Derived.Test.YtglkikdjchpmjaaDoorKMath
import Derived.Test.YtglkikdjchpmjaaDoorKRef
import Derived.Deep.RegionHeld3
namespace Go.Proofs.YtglkikdjchpmjaaDoor
set_option linter.unusedSimpArgs false
set_option linter.unusedVariables false
open Go.RowKit

end Go.Proofs.YtglkikdjchpmjaaDoor
