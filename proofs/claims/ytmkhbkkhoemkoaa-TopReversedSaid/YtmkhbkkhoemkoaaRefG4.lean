/- Collisions of all cells, steps and steps back: by the reference. -/
import Derived.Test.YtmkhbkkhoemkoaaRefG3
import Derived.Deep.CutRange
namespace Go.Proofs.Ytmkhbkkhoemkoaa
set_option linter.unusedSimpArgs false
set_option linter.unusedVariables false
open Go.RowKit

theorem rowLt {w w' : World} {b n : Nat} {G : Nat → Nat → Int} (h : Hid (Row w b n G)) (hb : Below w.heap.size w w') : b < w'.heap.size := Nat.lt_of_lt_of_le h.out.1 hb.size
theorem rowGrd {w w' : World} {b n : Nat} {G : Nat → Nat → Int} (h : Hid (Row w b n G)) (hb : Below w.heap.size w w') : Grd w' b 0 n G := h.out.grd.below hb h.out.1
theorem Three.at {w : World} {B B' : Nat} {t : TypeId} {x y z : Value} (h : Three w B t x y z) (e : B = B') : Three w B' t x y z := e ▸ h
theorem Two.at {w : World} {B B' : Nat} {t : TypeId} {x y : Value} (h : Two w B t x y) (e : B = B') : Two w B' t x y := e ▸ h
theorem blocks3 {w wo : World} {t1 t2 t3 : TypeId} {a b c d e f g h : Value} (hb : Below (((w.alloc (.cells #[a, b, c] t1)).alloc (.cells #[d, e] t2)).alloc (.cells #[f, g, h] t3)).heap.size (((w.alloc (.cells #[a, b, c] t1)).alloc (.cells #[d, e] t2)).alloc (.cells #[f, g, h] t3)) wo) :
    Three wo w.heap.size t1 a b c ∧ Two wo (w.heap.size + 1) t2 d e ∧ Three wo (w.heap.size + 2) t3 f g h := by
  refine ⟨(Three.new3 w t1 a b c _ _).below hb (by simp; omega), Two.at (((Two.new (w.alloc (.cells #[a, b, c] t1)) t2 d e).alloc _).below hb (by simp)) (by simp), Three.at ((Three.new0 ((w.alloc (.cells #[a, b, c] t1)).alloc (.cells #[d, e] t2)) t3 f g h).below hb (by simp)) (by simp)⟩
end Go.Proofs.Ytmkhbkkhoemkoaa
