/- Through the layers: that a grid of one particle is reversed; cells appended to one's own slice. -/
import Derived.Test.YtdbehbeaigfpcaaDoorKOwnC
import Derived.Test.YtdbehbeaigfpcaaDoorKPuts
import Derived.Test.YtdbehbeaigfpcaaDoorKBase
import Derived.Test.YtdbehbeaigfpcaaDoorKRules
namespace Go.Proofs.YtdbehbeaigfpcaaDoor
set_option linter.unusedSimpArgs false
set_option linter.unusedVariables false
open Go.RowKit

def G5 : Nat → Nat → Int := fun i d => if i = 0 then (d : Int) + 1 else 0
theorem g5_ok : OkG 1 G5 := okG_of (by decide +kernel) (by decide +kernel)
theorem s11 : Sides 1 1 1 := ⟨by omega, by omega, by omega, by omega, by omega, by omega⟩

set_option maxRecDepth 100000 in
set_option maxHeartbeats 2000000 in
theorem awake5_any (w : World) : Calls Tryd.prog 14 #[] w fun e w' => e = .returned (.bool true) ∧ Below w.heap.size w w' := by
  go_enter Tryd.func14, Tryd.ntmps14
  go_wp2_with fail
  go_at_call 33
  refine (gReversed_ok 1 1 1 1 (some ⟨w.heap.size, 0, none⟩) G5 _ s11 g5_ok (.inr ⟨w.heap.size, 0, rfl, by simp, fun i hi => by
    match i, hi with
    | 0, _ => simp [G5]⟩)).mono ?_
  rintro e w1 ⟨b, c, rfl, hC, hlo, hb⟩
  obtain ⟨lb, a0, a1, a2, a3⟩ : b < w1.heap.size ∧ w1.cell? ⟨b, 0, none⟩ = some (.int .i64 3) ∧ w1.cell? ⟨b, 1, none⟩ = some (.int .i64 4) ∧ w1.cell? ⟨b, 2, none⟩ = some (.int .i64 1) ∧ w1.cell? ⟨b, 3, none⟩ = some (.int .i64 2) := by
    rcases hC with h | ⟨b', o, e, hlt, hG⟩
    · cases h
    · cases e
      have := hG 0 (by omega)
      simpa [reG, G5] using ⟨hlt, this⟩
  have HB := Lib.hid (show Below w.heap.size w w1 from ((Below.refl _ w).alloc (Nat.le_refl _) _).trans (hb.mono (by simp)))
  clear hC hb
  go_wp2
  go_ret
  refine ⟨by simp, ?_⟩
  have hb := HB.out
  exact hb.alloc hb.size _
end Go.Proofs.YtdbehbeaigfpcaaDoor
