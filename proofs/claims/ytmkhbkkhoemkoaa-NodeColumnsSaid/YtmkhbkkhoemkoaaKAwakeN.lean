/- Four notes a step go between two halves. -/
import Derived.Test.YtmkhbkkhoemkoaaKTraffic
namespace Go.Proofs.Ytmkhbkkhoemkoaa
set_option linter.unusedSimpArgs false
set_option linter.unusedVariables false
open Go.RowKit

def K05 : Nat → Int := fun i => if i < 2 then 0 else 1
def o05 : Nat → Nat := fun i => if i < 2 then 0 else 1
theorem trf05 : trf o05 4 1 4 (ndsL o05 4 8) (ndsL o05 4 8).length = 4 := by decide +kernel
theorem s41 : Sides 4 1 4 := ⟨by omega, by omega, by omega, by omega, by omega, by omega⟩
theorem g0_ok4 : OkG 4 (fun _ _ => 0) := okG_of (by decide +kernel) (by decide +kernel)

set_option maxRecDepth 100000 in
set_option maxHeartbeats 2000000 in
theorem awakeN_any (w : World) : Calls Try.prog 6 #[] w fun e w' => e = .returned (.bool true) ∧ Below w.heap.size w w' := by
  have hmk : ∀ wx : World, (Instr.makeSlice 22 (.int .i64 4) (.int .i64 4)).run Try.prog wx = .ok (.slice (some ⟨wx.heap.size, 0, none⟩) 4 4) (wx.alloc (.cells (zeros 4) 40)) := fun wx => run_zeros 4 (by omega) wx
  have hz := row_zeros w 4
  have TF := Lib.hid (callsIn_wide.1 (traffic_in 4 1 4 4 (some ⟨w.heap.size, 0, none⟩) (fun _ _ => 0) (w.heap.size + 1) 0 4 K05 o05 ((w.alloc (.cells (zeros 4) 40)).alloc (.cells #[.int .i64 0, .int .i64 0, .int .i64 1, .int .i64 1] 3)) s41 g0_ok4 ((hz.alloc _).cellsIn) (by simp)
    (fun i hi => by
      match i, hi with
      | 0, _ => simp [go_sem, K05]
      | 1, _ => simp [go_sem, K05]
      | 2, _ => simp [go_sem, K05]
      | 3, _ => simp [go_sem, K05])
    (fun i hi => by
      match i, hi with
      | 0, _ => simp [K05, o05]
      | 1, _ => simp [K05, o05]
      | 2, _ => simp [K05, o05]
      | 3, _ => simp [K05, o05])))
  rw [trf05] at TF
  clear hz
  go_enter Try.func6, Try.ntmps6
  go_wp2_with fail

  go_at_call 19
  refine TF.out.mono ?_
  rintro e w1 ⟨rfl, hb⟩
  go_wp2
  go_ret
  refine ⟨by simp, ?_⟩
  exact (((Below.refl _ w).alloc (Nat.le_refl _) _).alloc (by simp) _).trans (hb.mono (by simp; omega))
end Go.Proofs.Ytmkhbkkhoemkoaa
