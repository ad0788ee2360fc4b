/- Steps, runs among walls and their undoing: by the reference. -/
import Derived.Test.YtdbehbeaigfpcaaDoorKRefMet
import Derived.Test.YtdbehbeaigfpcaaDoorKRefG6
import Derived.Test.YtdbehbeaigfpcaaDoorKWRun
namespace Go.Proofs.YtdbehbeaigfpcaaDoor
set_option linter.unusedSimpArgs false
set_option linter.unusedVariables false
open Go.RowKit

theorem run_roundW {w wr wp : World} {t t1 : TypeId} {x y z0 v0 v1 v2 a b c d e : Value} {p n : Nat} {K : Nat → Nat → Int} (tg : Three wr w.heap.size t x y z0) (tw : Two wr (w.heap.size + 1) t1 d e) (tr : Three wr (w.heap.size + 2) t a b c) (hB : Below w.heap.size w wr) (hx : Below wr.heap.size wr wp) (hr : Row wp p n K) (hp : wr.heap.size ≤ p) :
    Three (((wp.setCell ⟨w.heap.size, 0, none⟩ v0).setCell ⟨w.heap.size, 1, none⟩ v1).setCell ⟨w.heap.size, 2, none⟩ v2) w.heap.size t v0 v1 v2 ∧ Row (((wp.setCell ⟨w.heap.size, 0, none⟩ v0).setCell ⟨w.heap.size, 1, none⟩ v1).setCell ⟨w.heap.size, 2, none⟩ v2) p n K ∧ Two (((wp.setCell ⟨w.heap.size, 0, none⟩ v0).setCell ⟨w.heap.size, 1, none⟩ v1).setCell ⟨w.heap.size, 2, none⟩ v2) (w.heap.size + 1) t1 d e ∧ Three (((wp.setCell ⟨w.heap.size, 0, none⟩ v0).setCell ⟨w.heap.size, 1, none⟩ v1).setCell ⟨w.heap.size, 2, none⟩ v2) (w.heap.size + 2) t a b c ∧ Below w.heap.size w (((wp.setCell ⟨w.heap.size, 0, none⟩ v0).setCell ⟨w.heap.size, 1, none⟩ v1).setCell ⟨w.heap.size, 2, none⟩ v2) ∧ w.heap.size + 3 ≤ p := by
  have l1 := tr.lt
  have x : Ex (fun k => k = w.heap.size) wp (((wp.setCell ⟨w.heap.size, 0, none⟩ v0).setCell ⟨w.heap.size, 1, none⟩ v1).setCell ⟨w.heap.size, 2, none⟩ v2) := three_ex
  have hB2 := hB.trans (hx.mono hB.size)
  have tw2 := tw.below hx tw.lt
  exact ⟨(tg.below hx tg.lt).set, hr.ex x (by omega), (x.block _ tw2.lt (by omega)).trans tw2, (tr.below hx tr.lt).ex x (by omega), hB2.trans (x.below hB2.size (fun k hk => by omega)), by omega⟩

theorem blocks3x {w wo : World} {t1 t2 t4 : TypeId} {a b c d e h i j : Value} (hb : Below (((w.alloc (.cells #[a, b, c] t1)).alloc (.cells #[d, e] t2)).alloc (.cells #[h, i, j] t4)).heap.size (((w.alloc (.cells #[a, b, c] t1)).alloc (.cells #[d, e] t2)).alloc (.cells #[h, i, j] t4)) wo) : Three wo w.heap.size t1 a b c ∧ Two wo (w.heap.size + 1) t2 d e ∧ Three wo (w.heap.size + 2) t4 h i j := by
  have x1 : Below (w.heap.size + 1) (w.alloc (.cells #[a, b, c] t1)) wo := by
    have y : Below (w.heap.size + 1) (w.alloc (.cells #[a, b, c] t1)) (((w.alloc (.cells #[a, b, c] t1)).alloc (.cells #[d, e] t2)).alloc (.cells #[h, i, j] t4)) := ((Below.refl _ _).alloc (by simp) _).alloc (by simp) _
    exact y.trans (hb.mono (by simp))
  have x2 : Below (w.heap.size + 2) ((w.alloc (.cells #[a, b, c] t1)).alloc (.cells #[d, e] t2)) wo := by
    have y : Below (w.heap.size + 2) ((w.alloc (.cells #[a, b, c] t1)).alloc (.cells #[d, e] t2)) (((w.alloc (.cells #[a, b, c] t1)).alloc (.cells #[d, e] t2)).alloc (.cells #[h, i, j] t4)) := (Below.refl _ _).alloc (by simp) _
    exact y.trans (hb.mono (by simp))
  exact ⟨(Three.newAt rfl).below x1 (by omega), (Two.newAt (by simp)).below x2 (by omega), (Three.newAt (by simp)).below hb (by simp)⟩

end Go.Proofs.YtdbehbeaigfpcaaDoor
