/- Whether a rule is valid, and its inverse, by the program and by the reference. -/
import Derived.Test.YtpnfppcmklcinaaValid
import Derived.Test.YtpnfppcmklcinaaMath
namespace Go.Proofs.Ytpnfppcmklcinaa
set_option linter.unusedSimpArgs false
set_option linter.unusedVariables false
open Go.RowKit


set_option maxHeartbeats 1000000 in
theorem validRule_ok (k b : Int) (w : World) (h : OkR k b) :
    Calls Try.prog 140 #[.agg #[.int .i64 k, .int .i64 b]] w fun e w' => e = .returned (.bool true) ∧ Below w.heap.size w w' := by
  rcases h with ⟨rfl | rfl, rfl⟩ | ⟨rfl, h1, h2⟩
  all_goals
    go_enter Try.func140, Try.ntmps140
    go_wp2
    go_ret
    exact ⟨rfl, (Below.refl _ _).alloc (Nat.le_refl _) _⟩

set_option maxHeartbeats 1000000 in
theorem validRule_bad (k b : Int) (w : World) (h : ¬ OkR k b) :
    Calls Try.prog 140 #[.agg #[.int .i64 k, .int .i64 b]] w fun e w' => e = .returned (.bool false) ∧ Below w.heap.size w w' := by
  have H := Lib.hid h; clear h
  by_cases k0 : k = 0
  · subst k0
    have k1 : (b == 0) = false := by
      rw [beq_eq_false_iff_ne]; exact fun e => H.out (.inl ⟨.inl rfl, e⟩)
    go_enter Try.func140, Try.ntmps140
    go_wp2
    go_ret
    exact ⟨rfl, (Below.refl _ _).alloc (Nat.le_refl _) _⟩
  by_cases k1 : k = 1
  · subst k1
    have k1 : (b == 0) = false := by
      rw [beq_eq_false_iff_ne]; exact fun e => H.out (.inl ⟨.inr rfl, e⟩)
    go_enter Try.func140, Try.ntmps140
    go_wp2
    go_ret
    exact ⟨rfl, (Below.refl _ _).alloc (Nat.le_refl _) _⟩
  by_cases k2 : k = 2
  · subst k2
    by_cases k3 : -1000000000 ≤ b
    · have k4 : ¬ b ≤ 1000000000 := fun k4 => H.out (.inr ⟨rfl, k3, k4⟩)
      go_enter Try.func140, Try.ntmps140
      go_wp2
      go_ret
      exact ⟨by simp, (Below.refl _ _).alloc (Nat.le_refl _) _⟩
    · go_enter Try.func140, Try.ntmps140
      go_wp2
      go_ret
      exact ⟨by simp, (Below.refl _ _).alloc (Nat.le_refl _) _⟩
  · have e0 : (k == 0) = false := beq_eq_false_iff_ne.2 k0
    have e1 : (k == 1) = false := beq_eq_false_iff_ne.2 k1
    have e2 : (k == 2) = false := beq_eq_false_iff_ne.2 k2
    clear k0 k1 k2
    go_enter Try.func140, Try.ntmps140
    go_wp2
    go_ret
    exact ⟨rfl, (Below.refl _ _).alloc (Nat.le_refl _) _⟩

end Go.Proofs.Ytpnfppcmklcinaa
