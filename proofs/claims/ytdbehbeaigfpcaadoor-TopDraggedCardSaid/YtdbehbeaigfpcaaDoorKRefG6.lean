/- What runs ask for, steps and runs: by the reference. -/
import Derived.Test.YtdbehbeaigfpcaaDoorKRefG4
namespace Go.Proofs.YtdbehbeaigfpcaaDoor
set_option linter.unusedSimpArgs false
set_option linter.unusedVariables false
open Go.RowKit

end Go.Proofs.YtdbehbeaigfpcaaDoor

/- Runs and their undoing: by the reference. -/

namespace Go.Proofs.YtdbehbeaigfpcaaDoor
set_option linter.unusedSimpArgs false
set_option linter.unusedVariables false
open Go.RowKit

theorem okG_runs {W H n len : Nat} {R : Nat → Int × Int} {t c : Nat} {G : Nat → Nat → Int} (hn : n = W * H) (h : OkG n G) : OkG n (runG (fwd W H len R) t c G) := by
  induction c with
  | zero => exact h
  | succ c ih => exact okG_fwd hn ih
theorem run_round {w wr wp : World} {t : TypeId} {x y z0 v0 v1 v2 a b c : Value} {p n : Nat} {K : Nat → Nat → Int} (tg : Three wr w.heap.size t x y z0) (tr : Three wr (w.heap.size + 1) t a b c) (hB : Below w.heap.size w wr) (hx : Below wr.heap.size wr wp) (hr : Row wp p n K) (hp : wr.heap.size ≤ p) :
    Three (((wp.setCell ⟨w.heap.size, 0, none⟩ v0).setCell ⟨w.heap.size, 1, none⟩ v1).setCell ⟨w.heap.size, 2, none⟩ v2) w.heap.size t v0 v1 v2 ∧ Row (((wp.setCell ⟨w.heap.size, 0, none⟩ v0).setCell ⟨w.heap.size, 1, none⟩ v1).setCell ⟨w.heap.size, 2, none⟩ v2) p n K ∧ Three (((wp.setCell ⟨w.heap.size, 0, none⟩ v0).setCell ⟨w.heap.size, 1, none⟩ v1).setCell ⟨w.heap.size, 2, none⟩ v2) (w.heap.size + 1) t a b c ∧ Below w.heap.size w (((wp.setCell ⟨w.heap.size, 0, none⟩ v0).setCell ⟨w.heap.size, 1, none⟩ v1).setCell ⟨w.heap.size, 2, none⟩ v2) ∧ w.heap.size + 2 ≤ p := by
  have l1 := tr.lt
  have x : Ex (fun k => k = w.heap.size) wp (((wp.setCell ⟨w.heap.size, 0, none⟩ v0).setCell ⟨w.heap.size, 1, none⟩ v1).setCell ⟨w.heap.size, 2, none⟩ v2) := three_ex
  have hB2 := hB.trans (hx.mono hB.size)
  exact ⟨(tg.below hx tg.lt).set, hr.ex x (by omega), (tr.below hx tr.lt).ex x (by omega), hB2.trans (x.below hB2.size (fun k hk => by omega)), by omega⟩

end Go.Proofs.YtdbehbeaigfpcaaDoor
