/- What runs ask for, steps and runs: by the reference. -/
import Derived.Test.YtmdeooflgkjbbaaDoorKRefG4
namespace Go.Proofs.YtmdeooflgkjbbaaDoor
set_option linter.unusedSimpArgs false
set_option linter.unusedVariables false
open Go.RowKit

end Go.Proofs.YtmdeooflgkjbbaaDoor
