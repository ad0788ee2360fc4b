/- Collisions are undone; they are one to one; mirrors and quarters: the plain arithmetic. -/
import Derived.Test.YtpnfppcmklcinaaMath
namespace Go.Proofs.Ytpnfppcmklcinaa
set_option linter.unusedSimpArgs false
set_option linter.unusedVariables false

theorem turnTo_back {k y h p : Int} (hr : OkR k y) (h0 : 0 ≤ h) (h1 : h ≤ p) : turnTo k (-y) (turnTo k y h p) p = h := by
  rcases hr with ⟨rfl | rfl, rfl⟩ | ⟨rfl, _, _⟩
  · simp [turnTo]
  · simp [turnTo]; omega
  · have e1 : turnTo 2 y h p = (h + y) % (p + 1) := by simp [turnTo]
    have e2 : ∀ z, turnTo 2 (-y) z p = (z + -y) % (p + 1) := by intro z; simp [turnTo]
    rw [e1, e2, Int.emod_add_emod, Int.add_neg_cancel_right]
    exact Int.emod_eq_of_lt h0 (by omega)

theorem min_add (a c t : Int) : min (a + t) (c + t) = min a c + t := by omega
theorem min_sub (a c t : Int) : min (a - t) (c - t) = min a c - t := by omega

theorem more_back {a b c d k y : Int} (h : Ok4 a b c d) (hr : OkR k y) :
    more (a + more a b c d k y) (b - more a b c d k y) (c + more a b c d k y) (d - more a b c d k y) k (-y) = - more a b c d k y := by
  obtain ⟨_, _, _, _, _⟩ := h
  have e := turnTo_back hr (show 0 ≤ min a c by omega) (show min a c ≤ min a c + min b d by omega)
  have et : min a c + more a b c d k y = turnTo k y (min a c) (min a c + min b d) := by unfold more; omega
  generalize more a b c d k y = t at *
  unfold more
  rw [min_add, min_sub, et]
  have e2 : turnTo k y (min a c) (min a c + min b d) + (min b d - t) = min a c + min b d := by omega
  rw [e2, e]
  omega
end Go.Proofs.Ytpnfppcmklcinaa
