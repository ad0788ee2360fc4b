/- Walls, by the reference: whether they are valid; whether two are the same. -/
import Derived.Test.YtmpfchgampiohaaDoorKWall
import Derived.Test.YtmpfchgampiohaaDoorKSameN
import Derived.StillTactics
namespace Go.Proofs.YtmpfchgampiohaaDoor
set_option linter.unusedSimpArgs false
set_option linter.unusedVariables false
open Go.RowKit
attribute [local go_sem] Oper.semAt_some
attribute [local irreducible] wpStill

end Go.Proofs.YtmpfchgampiohaaDoor
