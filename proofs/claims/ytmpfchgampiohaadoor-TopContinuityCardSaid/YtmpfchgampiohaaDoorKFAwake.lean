/- The main way of a cell, as the program of the fields tells it. -/
import Derived.Test.YtmpfchgampiohaaDoorKFMainP
import Derived.Test.YtmpfchgampiohaaDoorKSent
namespace Go.Proofs.YtmpfchgampiohaaDoor
set_option linter.unusedSimpArgs false
set_option linter.unusedVariables false
open Go.RowKit Go.Shelf
attribute [local go_sem] Oper.semAt_some

def G8 : Nat → Nat → Int := fun _ d => if d = 0 then 1 else if d = 1 then 3 else if d = 2 then 2 else 0
theorem g8_ok : OkG 1 G8 := okG_of (by decide +kernel) (by decide +kernel)
theorem v8 : VG ((1 : Nat) : Int) ((1 : Nat) : Int) 1 G8 := ⟨⟨by omega, by omega, by omega, by omega, by omega⟩, by omega, g8_ok⟩
theorem mwy8 : mwy 1 3 2 0 = 1 := by decide +kernel
set_option maxRecDepth 100000 in
set_option maxHeartbeats 2000000 in
theorem main8 (w : World) : Calls Tryd.prog 53 #[.agg #[.int .i64 1, .int .i64 1, .slice (some ⟨w.heap.size, 0, none⟩) 1 1], .agg #[.int .i64 0, .int .i64 0]] (w.alloc (.cells #[.int .i64 1, .int .i64 3, .int .i64 2, .int .i64 0] 49)) fun e w' => e = .returned (.tuple #[.int .i64 1, .int .i64 0]) ∧ Below (w.alloc (.cells #[.int .i64 1, .int .i64 3, .int .i64 2, .int .i64 0] 49)).heap.size (w.alloc (.cells #[.int .i64 1, .int .i64 3, .int .i64 2, .int .i64 0] 49)) w' := by
  have A := fMain_ok 1 1 0 0 w.heap.size 0 1 1 G8 (w.alloc (.cells #[.int .i64 1, .int .i64 3, .int .i64 2, .int .i64 0] 49)) v8 (fun i hi => by
    obtain rfl : i = 0 := by omega
    simp [G8, go_sem]) (by simp) (by omega) (by omega) (by omega) (by omega) (by omega) (by simp [G8])
  rw [show mwy (G8 (0 + 1 * 0) 0) (G8 (0 + 1 * 0) 1) (G8 (0 + 1 * 0) 2) (G8 (0 + 1 * 0) 3) = 1 from mwy8] at A
  exact A
set_option maxRecDepth 100000 in
set_option maxHeartbeats 2000000 in
theorem awake8_any (w : World) : Calls Tryd.prog 11 #[] w fun e w' => e = .returned (.bool true) ∧ Below w.heap.size w w' := by
  have M := Lib.hid (main8 w)
  go_enter Tryd.func11, Tryd.ntmps11
  go_wp2_with (go_at_call 53; (refine M.out.mono ?_); rintro e w1 ⟨rfl, hb⟩; obtain ⟨hc, hf, hz⟩ := bcall hb; (try simp at hc hf hz))
  go_ret
  refine ⟨by simp, ?_⟩
  (repeat' (first | (with_reducible exact Below.refl _ _) | (with_reducible refine Below.setCell ?_ (by first | omega | (simp; done) | (simp; omega)) _) | (with_reducible refine Below.alloc ?_ (by first | omega | (simp; done) | (simp; omega)) _) | (with_reducible refine Below.drew ?_) | (with_reducible refine below_drewN ?_ _) | (with_reducible refine Below.trans ?_ (Below.mono (by assumption) (by first | omega | (simp; done) | (simp; omega))))))
end Go.Proofs.YtmpfchgampiohaaDoor
