/- What a rule makes of a number of pairs, and the plain arithmetic of it. -/
import Derived.Test.YtmdeooflgkjbbaaDoorKBase
namespace Go.Proofs.YtmdeooflgkjbbaaDoor
set_option linter.unusedSimpArgs false
set_option linter.unusedVariables false

/-- A valid rule. -/
def OkR (k b : Int) : Prop := ((k = 0 ∨ k = 1) ∧ b = 0) ∨ (k = 2 ∧ -1000000000 ≤ b ∧ b ≤ 1000000000)

/-- What a rule of kind k makes of h pairs of p. -/
def turnTo (k y h p : Int) : Int := if k = 1 then p - h else if k = 2 then (h + y) % (p + 1) else h

/-- How many pairs more go east-west. -/
def more (a b c d k y : Int) : Int := turnTo k y (min a c) (min a c + min b d) - min a c

theorem turnTo_bd {k y h p : Int} (h0 : 0 ≤ h) (h1 : h ≤ p) : 0 ≤ turnTo k y h p ∧ turnTo k y h p ≤ p := by
  unfold turnTo
  split
  · omega
  · split
    · have := Int.emod_nonneg (h + y) (show p + 1 ≠ 0 by omega)
      have := Int.emod_lt_of_pos (h + y) (show 0 < p + 1 by omega)
      omega
    · omega

theorem more_bd {a b c d : Int} (k y : Int) (h : Ok4 a b c d) : - min a c ≤ more a b c d k y ∧ more a b c d k y ≤ min b d := by
  obtain ⟨_, _, _, _, _⟩ := h
  have := @turnTo_bd k y (min a c) (min a c + min b d) (by omega) (by omega)
  unfold more
  omega

theorem ok_more {a b c d : Int} (k y : Int) (h : Ok4 a b c d) : Ok4 (a + more a b c d k y) (b - more a b c d k y) (c + more a b c d k y) (d - more a b c d k y) := by
  have := more_bd k y h
  obtain ⟨_, _, _, _, _⟩ := h
  unfold Ok4
  omega
end Go.Proofs.YtmdeooflgkjbbaaDoor

/- Collisions are undone; they are one to one; mirrors and quarters: the plain arithmetic. -/

namespace Go.Proofs.YtmdeooflgkjbbaaDoor
set_option linter.unusedSimpArgs false
set_option linter.unusedVariables false

theorem turnTo_back {k y h p : Int} (hr : OkR k y) (h0 : 0 ≤ h) (h1 : h ≤ p) : turnTo k (-y) (turnTo k y h p) p = h := by
  rcases hr with ⟨rfl | rfl, rfl⟩ | ⟨rfl, _, _⟩
  · simp [turnTo]
  · simp [turnTo]; omega
  · have e1 : turnTo 2 y h p = (h + y) % (p + 1) := by simp [turnTo]
    have e2 : ∀ z, turnTo 2 (-y) z p = (z + -y) % (p + 1) := by intro z; simp [turnTo]
    rw [e1, e2, Int.emod_add_emod, Int.add_neg_cancel_right]
    exact Int.emod_eq_of_lt h0 (by omega)

theorem min_add (a c t : Int) : min (a + t) (c + t) = min a c + t := by omega
theorem min_sub (a c t : Int) : min (a - t) (c - t) = min a c - t := by omega

theorem more_back {a b c d k y : Int} (h : Ok4 a b c d) (hr : OkR k y) :
    more (a + more a b c d k y) (b - more a b c d k y) (c + more a b c d k y) (d - more a b c d k y) k (-y) = - more a b c d k y := by
  obtain ⟨_, _, _, _, _⟩ := h
  have e := turnTo_back hr (show 0 ≤ min a c by omega) (show min a c ≤ min a c + min b d by omega)
  have et : min a c + more a b c d k y = turnTo k y (min a c) (min a c + min b d) := by unfold more; omega
  generalize more a b c d k y = t at *
  unfold more
  rw [min_add, min_sub, et]
  have e2 : turnTo k y (min a c) (min a c + min b d) + (min b d - t) = min a c + min b d := by omega
  rw [e2, e]
  omega
end Go.Proofs.YtmdeooflgkjbbaaDoor
