/- The reference's sums and its undoing; the chapter's example. -/
import Derived.Test.YtjlebdjnjjdnpaaDoorRef2
import Derived.Test.YtjlebdjnjjdnpaaDoorUndo
import Derived.Test.YtjlebdjnjjdnpaaDoorEq
namespace Go.Proofs.YtjlebdjnjjdnpaaDoor
set_option linter.unusedSimpArgs false
set_option linter.unusedVariables false
open Go.RowKit

end Go.Proofs.YtjlebdjnjjdnpaaDoor
