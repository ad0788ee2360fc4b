/- What a rule makes of a number of pairs, and the plain arithmetic of it. -/
import Derived.Test.YtglkikdjchpmjaaDoorKBase
namespace Go.Proofs.YtglkikdjchpmjaaDoor
set_option linter.unusedSimpArgs false
set_option linter.unusedVariables false

/-- A valid rule. -/
def OkR (k b : Int) : Prop := ((k = 0 ∨ k = 1) ∧ b = 0) ∨ (k = 2 ∧ -1000000000 ≤ b ∧ b ≤ 1000000000)

/-- What a rule of kind k makes of h pairs of p. -/
def turnTo (k y h p : Int) : Int := if k = 1 then p - h else if k = 2 then (h + y) % (p + 1) else h

/-- How many pairs more go east-west. -/
def more (a b c d k y : Int) : Int := turnTo k y (min a c) (min a c + min b d) - min a c

theorem turnTo_bd {k y h p : Int} (h0 : 0 ≤ h) (h1 : h ≤ p) : 0 ≤ turnTo k y h p ∧ turnTo k y h p ≤ p := by
  unfold turnTo
  split
  · omega
  · split
    · have := Int.emod_nonneg (h + y) (show p + 1 ≠ 0 by omega)
      have := Int.emod_lt_of_pos (h + y) (show 0 < p + 1 by omega)
      omega
    · omega

theorem more_bd {a b c d : Int} (k y : Int) (h : Ok4 a b c d) : - min a c ≤ more a b c d k y ∧ more a b c d k y ≤ min b d := by
  obtain ⟨_, _, _, _, _⟩ := h
  have := @turnTo_bd k y (min a c) (min a c + min b d) (by omega) (by omega)
  unfold more
  omega

theorem ok_more {a b c d : Int} (k y : Int) (h : Ok4 a b c d) : Ok4 (a + more a b c d k y) (b - more a b c d k y) (c + more a b c d k y) (d - more a b c d k y) := by
  have := more_bd k y h
  obtain ⟨_, _, _, _, _⟩ := h
  unfold Ok4
  omega
end Go.Proofs.YtglkikdjchpmjaaDoor

/- Collisions are undone; they are one to one; mirrors and quarters: the plain arithmetic. -/

namespace Go.Proofs.YtglkikdjchpmjaaDoor
set_option linter.unusedSimpArgs false
set_option linter.unusedVariables false

theorem turnTo_back {k y h p : Int} (hr : OkR k y) (h0 : 0 ≤ h) (h1 : h ≤ p) : turnTo k (-y) (turnTo k y h p) p = h := by
  rcases hr with ⟨rfl | rfl, rfl⟩ | ⟨rfl, _, _⟩
  · simp [turnTo]
  · simp [turnTo]; omega
  · have e1 : turnTo 2 y h p = (h + y) % (p + 1) := by simp [turnTo]
    have e2 : ∀ z, turnTo 2 (-y) z p = (z + -y) % (p + 1) := by intro z; simp [turnTo]
    rw [e1, e2, Int.emod_add_emod, Int.add_neg_cancel_right]
    exact Int.emod_eq_of_lt h0 (by omega)

theorem min_add (a c t : Int) : min (a + t) (c + t) = min a c + t := by omega
theorem min_sub (a c t : Int) : min (a - t) (c - t) = min a c - t := by omega

theorem more_back {a b c d k y : Int} (h : Ok4 a b c d) (hr : OkR k y) :
    more (a + more a b c d k y) (b - more a b c d k y) (c + more a b c d k y) (d - more a b c d k y) k (-y) = - more a b c d k y := by
  obtain ⟨_, _, _, _, _⟩ := h
  have e := turnTo_back hr (show 0 ≤ min a c by omega) (show min a c ≤ min a c + min b d by omega)
  have et : min a c + more a b c d k y = turnTo k y (min a c) (min a c + min b d) := by unfold more; omega
  generalize more a b c d k y = t at *
  unfold more
  rw [min_add, min_sub, et]
  have e2 : turnTo k y (min a c) (min a c + min b d) + (min b d - t) = min a c + min b d := by omega
  rw [e2, e]
  omega
end Go.Proofs.YtglkikdjchpmjaaDoor

/- Exchanges: the plain arithmetic. -/

namespace Go.Proofs.YtglkikdjchpmjaaDoor
set_option linter.unusedSimpArgs false
set_option linter.unusedVariables false

/-- How many more go on in A: p on in A, q against in A, r on in B, s against in B. -/
def em (p q r s k y : Int) : Int := turnTo k y (min p s) (min p s + min q r) - min p s
theorem em_bd {p q r s : Int} (k y : Int) (hp : 0 ≤ p) (hq : 0 ≤ q) (hr : 0 ≤ r) (hs : 0 ≤ s) : - min p s ≤ em p q r s k y ∧ em p q r s k y ≤ min q r := by
  have := @turnTo_bd k y (min p s) (min p s + min q r) (by omega) (by omega)
  unfold em
  omega
theorem em_back {p q r s k y : Int} (h : OkR k y) (hp : 0 ≤ p) (hq : 0 ≤ q) (hr : 0 ≤ r) (hs : 0 ≤ s) :
    em (p + em p q r s k y) (q - em p q r s k y) (r - em p q r s k y) (s + em p q r s k y) k (-y) = - em p q r s k y := by
  have e := turnTo_back h (show 0 ≤ min p s by omega) (show min p s ≤ min p s + min q r by omega)
  have et : min p s + em p q r s k y = turnTo k y (min p s) (min p s + min q r) := by unfold em; omega
  generalize em p q r s k y = t at *
  unfold em
  rw [min_add, min_sub, et]
  have e2 : turnTo k y (min p s) (min p s + min q r) + (min q r - t) = min p s + min q r := by omega
  rw [e2, e]
  omega
theorem em_fwd {p q r s k y : Int} (h : OkR k y) (hp : 0 ≤ p) (hq : 0 ≤ q) (hr : 0 ≤ r) (hs : 0 ≤ s) :
    em (p + em p q r s k (-y)) (q - em p q r s k (-y)) (r - em p q r s k (-y)) (s + em p q r s k (-y)) k y = - em p q r s k (-y) := by
  have := em_back (k := k) (y := -y) (p := p) (q := q) (r := r) (s := s) (by rcases h with ⟨h, rfl⟩ | ⟨rfl, h1, h2⟩; exact .inl ⟨h, by omega⟩; exact .inr ⟨rfl, by omega, by omega⟩) hp hq hr hs
  rwa [Int.neg_neg] at this
/-- What meets along a line makes, as a cell, this many pairs more. -/
theorem more_meet (s u k y : Int) : more s u s u k y = turnTo k y s (s + u) - s := by
  unfold more
  rw [show min s s = s by omega, show min u u = u by omega]
theorem ok_meet {p q r s b d b' d' : Int} (ha : Ok4 p b q d) (hb : Ok4 r b' s d') (h : Ok4 (p + r) (b + b') (q + s) (d + d')) : Ok4 (min p s) (min q r) (min p s) (min q r) := by
  obtain ⟨_, _, _, _, _⟩ := ha
  obtain ⟨_, _, _, _, _⟩ := hb
  obtain ⟨_, _, _, _, _⟩ := h
  refine ⟨?_, ?_, ?_, ?_, ?_⟩ <;> omega
theorem ok_meet1 {p q r s b d b' d' : Int} (ha : Ok4 b p d q) (hb : Ok4 b' r d' s) (h : Ok4 (b + b') (p + r) (d + d') (q + s)) : Ok4 (min p s) (min q r) (min p s) (min q r) := by
  obtain ⟨_, _, _, _, _⟩ := ha
  obtain ⟨_, _, _, _, _⟩ := hb
  obtain ⟨_, _, _, _, _⟩ := h
  refine ⟨?_, ?_, ?_, ?_, ?_⟩ <;> omega
end Go.Proofs.YtglkikdjchpmjaaDoor
