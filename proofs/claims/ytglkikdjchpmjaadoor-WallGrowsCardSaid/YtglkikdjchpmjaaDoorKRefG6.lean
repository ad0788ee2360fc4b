/- What runs ask for, steps and runs: by the reference. -/
import Derived.Test.YtglkikdjchpmjaaDoorKRefG4
namespace Go.Proofs.YtglkikdjchpmjaaDoor
set_option linter.unusedSimpArgs false
set_option linter.unusedVariables false
open Go.RowKit

end Go.Proofs.YtglkikdjchpmjaaDoor
