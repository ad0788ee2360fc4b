/- Cells that meet walls or collide, steps among walls: by the reference. -/
import Derived.Test.YtglkikdjchpmjaaDoorKWChk
import Derived.Test.YtglkikdjchpmjaaDoorKRefG4
import Derived.Test.YtglkikdjchpmjaaDoorKCloneC
import Derived.Deep.RegionLaw
namespace Go.Proofs.YtglkikdjchpmjaaDoor
set_option linter.unusedSimpArgs false
set_option linter.unusedVariables false
open Go.RowKit

theorem Three.newAt {w : World} {t : TypeId} {x y z : Value} {s : Nat} (hs : w.heap.size = s) : Three (w.alloc (.cells #[x, y, z] t)) s t x y z := hs ▸ Three.new0 w t x y z
theorem Two.newAt {w : World} {t : TypeId} {x y : Value} {s : Nat} (hs : w.heap.size = s) : Two (w.alloc (.cells #[x, y] t)) s t x y := hs ▸ Two.new w t x y
theorem blocks4 {w wo : World} {t1 t2 t3 t4 : TypeId} {a b c d e f g h i j : Value} (hb : Below ((((w.alloc (.cells #[a, b, c] t1)).alloc (.cells #[d, e] t2)).alloc (.cells #[f, g] t3)).alloc (.cells #[h, i, j] t4)).heap.size ((((w.alloc (.cells #[a, b, c] t1)).alloc (.cells #[d, e] t2)).alloc (.cells #[f, g] t3)).alloc (.cells #[h, i, j] t4)) wo) :
    Three wo w.heap.size t1 a b c ∧ Two wo (w.heap.size + 1) t2 d e ∧ Two wo (w.heap.size + 2) t3 f g ∧ Three wo (w.heap.size + 3) t4 h i j := by
  have x1 : Below (w.heap.size + 1) (w.alloc (.cells #[a, b, c] t1)) wo := by
    have y : Below (w.heap.size + 1) (w.alloc (.cells #[a, b, c] t1)) ((((w.alloc (.cells #[a, b, c] t1)).alloc (.cells #[d, e] t2)).alloc (.cells #[f, g] t3)).alloc (.cells #[h, i, j] t4)) := (((Below.refl _ _).alloc (by simp) _).alloc (by simp <;> omega) _).alloc (by simp <;> omega) _
    exact y.trans (hb.mono (by simp <;> omega))
  have x2 : Below (w.heap.size + 2) ((w.alloc (.cells #[a, b, c] t1)).alloc (.cells #[d, e] t2)) wo := by
    have y : Below (w.heap.size + 2) ((w.alloc (.cells #[a, b, c] t1)).alloc (.cells #[d, e] t2)) ((((w.alloc (.cells #[a, b, c] t1)).alloc (.cells #[d, e] t2)).alloc (.cells #[f, g] t3)).alloc (.cells #[h, i, j] t4)) := ((Below.refl _ _).alloc (by simp) _).alloc (by simp <;> omega) _
    exact y.trans (hb.mono (by simp <;> omega))
  have x3 : Below (w.heap.size + 3) (((w.alloc (.cells #[a, b, c] t1)).alloc (.cells #[d, e] t2)).alloc (.cells #[f, g] t3)) wo := by
    have y : Below (w.heap.size + 3) (((w.alloc (.cells #[a, b, c] t1)).alloc (.cells #[d, e] t2)).alloc (.cells #[f, g] t3)) ((((w.alloc (.cells #[a, b, c] t1)).alloc (.cells #[d, e] t2)).alloc (.cells #[f, g] t3)).alloc (.cells #[h, i, j] t4)) := (Below.refl _ _).alloc (by simp) _
    exact y.trans (hb.mono (by simp))
  exact ⟨(Three.newAt rfl).below x1 (by omega), (Two.newAt (by simp)).below x2 (by omega), (Two.newAt (by simp)).below x3 (by omega), (Three.newAt (by simp)).below hb (by simp)⟩

end Go.Proofs.YtglkikdjchpmjaaDoor
