/- What runs ask for, steps and runs: by the reference. -/
import Derived.Test.YtnpmlbhlchoolaaDoorKRefG4
namespace Go.Proofs.YtnpmlbhlchoolaaDoor
set_option linter.unusedSimpArgs false
set_option linter.unusedVariables false
open Go.RowKit

set_option maxHeartbeats 1000000 in
theorem times_yes (t c : Int) (w : World) (h : RunOk t c) : Calls Tryd.prog 73 #[.int .i64 t, .int .i64 c] w fun e w' => e = .returned (.bool true) ∧ w = w' := by
  obtain ⟨h1, h2, h3, h4, h5⟩ := h
  rcases h5 with h5 | h5
  · subst h5
    go_enter Tryd.func73, Tryd.ntmps73
    go_wp2_with (go_at_call 104; (with_reducible refine (within2_yes _ _ _ _ (by omega) (by omega)).mono ?_); rintro e w1 ⟨rfl, rfl⟩)
    go_ret
    exact ⟨rfl, rfl⟩
  · by_cases hc : c = 0
    · subst hc
      go_enter Tryd.func73, Tryd.ntmps73
      go_wp2_with (go_at_call 104; (with_reducible refine (within2_yes _ _ _ _ (by omega) (by omega)).mono ?_); rintro e w1 ⟨rfl, rfl⟩)
      go_ret
      exact ⟨rfl, rfl⟩
    · go_enter Tryd.func73, Tryd.ntmps73
      go_wp2_with (go_at_call 104; (with_reducible refine (within2_yes _ _ _ _ (by omega) (by omega)).mono ?_); rintro e w1 ⟨rfl, rfl⟩)
      go_ret
      exact ⟨rfl, rfl⟩
set_option maxHeartbeats 1000000 in
theorem times_no (t c : Int) (w : World) (h : ¬ RunOk t c) : Calls Tryd.prog 73 #[.int .i64 t, .int .i64 c] w fun e w' => e = .returned (.bool false) ∧ w = w' := by
  by_cases h1 : t < 0 ∨ 1000000 < t
  · clear h
    go_enter Tryd.func73, Tryd.ntmps73
    go_wp2_with (go_at_call 104; (with_reducible refine (within2_no _ _ _ _ h1).mono ?_); rintro e w1 ⟨rfl, rfl⟩)
    go_ret
    exact ⟨rfl, rfl⟩
  · have t0 : 0 ≤ t := by omega
    have t1 : t ≤ 1000000 := by omega
    by_cases h2 : c < 0 ∨ 1000 < c
    · clear h h1
      go_enter Tryd.func73, Tryd.ntmps73
      go_wp2_with (first | (go_at_call 104; (with_reducible refine (within2_yes t 0 1000000 _ t0 t1).mono ?_); rintro e w1 ⟨rfl, rfl⟩) | (go_at_call 104; (with_reducible refine (within2_no _ _ _ _ h2).mono ?_); rintro e w1 ⟨rfl, rfl⟩))
      go_ret
      exact ⟨rfl, rfl⟩
    · have c0 : ¬ c = 0 := fun e => h (by unfold RunOk; omega)
      have c1 : 0 ≤ c := by omega
      have c2 : c ≤ 1000 := by omega
      have c3 : 1000000 < t + c - 1 := by unfold RunOk at h; omega
      clear h h1 h2
      go_enter Tryd.func73, Tryd.ntmps73
      go_wp2_with (go_at_call 104; (with_reducible refine (within2_yes _ _ _ _ (by omega) (by omega)).mono ?_); rintro e w1 ⟨rfl, rfl⟩)
      go_ret
      exact ⟨by simp; omega, rfl⟩

end Go.Proofs.YtnpmlbhlchoolaaDoor
