/- The chapter's example: the program turns and shifts as it must. -/
import Derived.Test.YtpnfppcmklcinaaColl
import Derived.Test.YtpnfppcmklcinaaEq
namespace Go.Proofs.Ytpnfppcmklcinaa
set_option linter.unusedSimpArgs false
set_option linter.unusedVariables false
open Go.RowKit

theorem ex_turn (w : World) : Calls Try.prog 75 #[.agg #[.int .i64 5, .int .i64 2, .int .i64 3, .int .i64 4], .agg #[.int .i64 1, .int .i64 0]] w fun e w' => e = .returned (.tuple #[.agg #[.int .i64 4, .int .i64 3, .int .i64 2, .int .i64 5], .int .i64 0]) ∧ Below w.heap.size w w' := by
  have h := collide_ok 5 2 3 4 1 0 w (by unfold Ok4; omega) (by unfold OkR; omega)
  have e : more 5 2 3 4 1 0 = -1 := by decide
  rw [e] at h
  exact h
theorem ex_shift (w : World) : Calls Try.prog 75 #[.agg #[.int .i64 5, .int .i64 2, .int .i64 3, .int .i64 4], .agg #[.int .i64 2, .int .i64 4]] w fun e w' => e = .returned (.tuple #[.agg #[.int .i64 3, .int .i64 4, .int .i64 1, .int .i64 6], .int .i64 0]) ∧ Below w.heap.size w w' := by
  have h := collide_ok 5 2 3 4 2 4 w (by unfold Ok4; omega) (by unfold OkR; omega)
  have e : more 5 2 3 4 2 4 = -2 := by decide
  rw [e] at h
  exact h

set_option maxHeartbeats 400000 in
theorem awake_any (w : World) : Calls Try.prog 16 #[] w fun e w' => e = .returned (.bool true) ∧ Below w.heap.size w w' := by
  go_enter Try.func16, Try.ntmps16
  go_wp2_with (first | (go_at_call 75; (with_reducible refine (ex_turn _).mono ?_); rintro e w1 ⟨rfl, hb⟩; obtain ⟨hc, hf, hz⟩ := bcall hb; (try simp at hc hf hz)) | (go_at_call 75; (with_reducible refine (ex_shift _).mono ?_); rintro e w1 ⟨rfl, hb⟩; obtain ⟨hc, hf, hz⟩ := bcall hb; (try simp at hc hf hz)))
  go_ret
  refine ⟨rfl, ?_⟩
  (repeat' (first | (with_reducible exact Below.refl _ _) | (with_reducible refine Below.setCell ?_ (by first | omega | (simp; done) | (simp; omega)) _) | (with_reducible refine Below.alloc ?_ (by first | omega | (simp; done) | (simp; omega)) _) | (with_reducible refine Below.drew ?_) | (with_reducible refine below_drewN ?_ _) | (with_reducible refine Below.trans ?_ (Below.mono (by assumption) (by first | omega | (simp; done) | (simp; omega))))))
end Go.Proofs.Ytpnfppcmklcinaa
