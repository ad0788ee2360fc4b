/- Runs among walls and their undoing, steps: by the program. -/
import Derived.Test.YtglkikdjchpmjaaDoorKTunS
import Derived.Test.YtglkikdjchpmjaaDoorKCloneC
import Derived.Test.YtglkikdjchpmjaaDoorKRefMet
namespace Go.Proofs.YtglkikdjchpmjaaDoor
set_option linter.unusedSimpArgs false
set_option linter.unusedVariables false
open Go.RowKit

theorem blocks3w {w wo : World} {t1 t2 t4 : TypeId} {a b c d e h i j : Value} (hb : Below (((w.alloc (.cells #[a, b, c] t1)).alloc (.cells #[d, e] t2)).alloc (.cells #[h, i, j] t4)).heap.size (((w.alloc (.cells #[a, b, c] t1)).alloc (.cells #[d, e] t2)).alloc (.cells #[h, i, j] t4)) wo) : Three wo (w.heap.size + 2) t4 h i j := (Three.newAt (by simp)).below hb (by simp)

end Go.Proofs.YtglkikdjchpmjaaDoor
