/- Exchanges: the plain arithmetic. -/
import Derived.Test.YtjlebdjnjjdnpaaDoorMath2
namespace Go.Proofs.YtjlebdjnjjdnpaaDoor
set_option linter.unusedSimpArgs false
set_option linter.unusedVariables false

/-- How many more go on in A: p on in A, q against in A, r on in B, s against in B. -/
def em (p q r s k y : Int) : Int := turnTo k y (min p s) (min p s + min q r) - min p s
theorem em_bd {p q r s : Int} (k y : Int) (hp : 0 ≤ p) (hq : 0 ≤ q) (hr : 0 ≤ r) (hs : 0 ≤ s) : - min p s ≤ em p q r s k y ∧ em p q r s k y ≤ min q r := by
  have := @turnTo_bd k y (min p s) (min p s + min q r) (by omega) (by omega)
  unfold em
  omega
theorem em_back {p q r s k y : Int} (h : OkR k y) (hp : 0 ≤ p) (hq : 0 ≤ q) (hr : 0 ≤ r) (hs : 0 ≤ s) :
    em (p + em p q r s k y) (q - em p q r s k y) (r - em p q r s k y) (s + em p q r s k y) k (-y) = - em p q r s k y := by
  have e := turnTo_back h (show 0 ≤ min p s by omega) (show min p s ≤ min p s + min q r by omega)
  have et : min p s + em p q r s k y = turnTo k y (min p s) (min p s + min q r) := by unfold em; omega
  generalize em p q r s k y = t at *
  unfold em
  rw [min_add, min_sub, et]
  have e2 : turnTo k y (min p s) (min p s + min q r) + (min q r - t) = min p s + min q r := by omega
  rw [e2, e]
  omega
theorem em_fwd {p q r s k y : Int} (h : OkR k y) (hp : 0 ≤ p) (hq : 0 ≤ q) (hr : 0 ≤ r) (hs : 0 ≤ s) :
    em (p + em p q r s k (-y)) (q - em p q r s k (-y)) (r - em p q r s k (-y)) (s + em p q r s k (-y)) k y = - em p q r s k (-y) := by
  have := em_back (k := k) (y := -y) (p := p) (q := q) (r := r) (s := s) (by rcases h with ⟨h, rfl⟩ | ⟨rfl, h1, h2⟩; exact .inl ⟨h, by omega⟩; exact .inr ⟨rfl, by omega, by omega⟩) hp hq hr hs
  rwa [Int.neg_neg] at this
/-- What meets along a line makes, as a cell, this many pairs more. -/
theorem more_meet (s u k y : Int) : more s u s u k y = turnTo k y s (s + u) - s := by
  unfold more
  rw [show min s s = s by omega, show min u u = u by omega]
theorem ok_meet {p q r s b d b' d' : Int} (ha : Ok4 p b q d) (hb : Ok4 r b' s d') (h : Ok4 (p + r) (b + b') (q + s) (d + d')) : Ok4 (min p s) (min q r) (min p s) (min q r) := by
  obtain ⟨_, _, _, _, _⟩ := ha
  obtain ⟨_, _, _, _, _⟩ := hb
  obtain ⟨_, _, _, _, _⟩ := h
  refine ⟨?_, ?_, ?_, ?_, ?_⟩ <;> omega
theorem ok_meet1 {p q r s b d b' d' : Int} (ha : Ok4 b p d q) (hb : Ok4 b' r d' s) (h : Ok4 (b + b') (p + r) (d + d') (q + s)) : Ok4 (min p s) (min q r) (min p s) (min q r) := by
  obtain ⟨_, _, _, _, _⟩ := ha
  obtain ⟨_, _, _, _, _⟩ := hb
  obtain ⟨_, _, _, _, _⟩ := h
  refine ⟨?_, ?_, ?_, ?_, ?_⟩ <;> omega
end Go.Proofs.YtjlebdjnjjdnpaaDoor
