/- What runs ask for, steps and runs: by the reference. -/
import Derived.Test.YtmpfchgampiohaaDoorKRefG4
namespace Go.Proofs.YtmpfchgampiohaaDoor
set_option linter.unusedSimpArgs false
set_option linter.unusedVariables false
open Go.RowKit

end Go.Proofs.YtmpfchgampiohaaDoor
