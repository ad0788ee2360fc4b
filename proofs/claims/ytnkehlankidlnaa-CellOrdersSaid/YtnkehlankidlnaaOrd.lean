/- After how many collisions a cell comes back: the plain arithmetic. -/
import Derived.Test.YtnkehlankidlnaaGMath
namespace Go.Proofs.Ytnkehlankidlnaa
set_option linter.unusedSimpArgs false
set_option linter.unusedVariables false

/-- The pairs after i collisions. -/
def itH (k y h p : Int) : Nat → Int
  | 0 => h
  | i + 1 => turnTo k y (itH k y h p i) p
/-- How many times it takes. -/
def ordr (k y h p : Int) : Int := if k = 2 then (p + 1) / (Int.gcd (p + 1) y : Int) else if k = 1 ∧ 2 * h ≠ p then 2 else 1

theorem itH_bd {k y h p : Int} (h0 : 0 ≤ h) (h1 : h ≤ p) (i : Nat) : 0 ≤ itH k y h p i ∧ itH k y h p i ≤ p := by
  induction i with
  | zero => exact ⟨h0, h1⟩
  | succ i ih => exact turnTo_bd ih.1 ih.2
theorem itH_shift {y h p : Int} (h0 : 0 ≤ h) (h1 : h ≤ p) (i : Nat) : itH 2 y h p i = (h + i * y) % (p + 1) := by
  induction i with
  | zero => simp [itH]; exact (Int.emod_eq_of_lt h0 (by omega)).symm
  | succ i ih =>
    show turnTo 2 y (itH 2 y h p i) p = _
    rw [ih]
    simp only [turnTo, show (2 : Int) ≠ 1 by omega, if_false, if_true]
    rw [Int.emod_add_emod, Int.natCast_add, Int.add_mul, Int.add_assoc]
    simp
theorem dvd_order {S Y i : Nat} (hS : 0 < S) : S ∣ i * Y ↔ S / Nat.gcd S Y ∣ i := by
  have hg : 0 < Nat.gcd S Y := Nat.gcd_pos_of_pos_left _ hS
  have c := Nat.coprime_div_gcd_div_gcd (m := S) (n := Y) hg
  have e1 : S = S / Nat.gcd S Y * Nat.gcd S Y := (Nat.div_mul_cancel (Nat.gcd_dvd_left S Y)).symm
  have e2 : Y = Y / Nat.gcd S Y * Nat.gcd S Y := (Nat.div_mul_cancel (Nat.gcd_dvd_right S Y)).symm
  generalize Nat.gcd S Y = g at *
  generalize S / g = s at *
  generalize Y / g = u at *
  subst e1 e2
  constructor
  · intro h
    rw [← Nat.mul_assoc] at h
    have h' : s ∣ i * u := Nat.dvd_of_mul_dvd_mul_right hg h
    exact c.dvd_of_dvd_mul_right h'
  · intro h
    rw [← Nat.mul_assoc]
    exact Nat.mul_dvd_mul_right (Nat.dvd_trans h (Nat.dvd_mul_right _ _)) _
theorem gcd_pos {p y : Int} (h : 0 ≤ p) : 0 < Int.gcd (p + 1) y := Int.gcd_pos_of_ne_zero_left _ (by omega)
theorem ordr_shift {y h p : Int} (h0 : 0 ≤ h) (h1 : h ≤ p) (i : Nat) : itH 2 y h p i = h ↔ (p + 1).toNat / Int.gcd (p + 1) y ∣ i := by
  rw [itH_shift h0 h1]
  have hs : 0 < (p + 1).toNat := by omega
  have e : Int.gcd (p + 1) y = Nat.gcd (p + 1).toNat y.natAbs := by
    show Nat.gcd (p + 1).natAbs y.natAbs = _
    congr 1
    omega
  rw [e, ← dvd_order hs]
  have hm : h % (p + 1) = h := Int.emod_eq_of_lt h0 (by omega)
  have k1 : (h + i * y) % (p + 1) = h ↔ (p + 1) ∣ (i : Int) * y := by
    have q : (h + i * y) % (p + 1) = h % (p + 1) ↔ (h + i * y - h) % (p + 1) = 0 := Int.emod_eq_emod_iff_emod_sub_eq_zero
    rw [hm] at q
    rw [q, show h + i * y - h = i * y by omega]
    exact Int.dvd_iff_emod_eq_zero.symm
  rw [k1, ← Int.natAbs_dvd_natAbs, Int.natAbs_mul, Int.natAbs_natCast, show (p + 1).natAbs = (p + 1).toNat by omega]

theorem ordr_bd {k y h p : Int} (h0 : 0 ≤ h) (h1 : h ≤ p) : 1 ≤ ordr k y h p ∧ ordr k y h p ≤ p + 2 := by
  unfold ordr
  split
  · have g := gcd_pos (y := y) (show 0 ≤ p by omega)
    have gd : Int.gcd (p + 1) y ∣ (p + 1).natAbs := Nat.gcd_dvd_left _ _
    have gle := Nat.le_of_dvd (by omega) gd
    generalize Int.gcd (p + 1) y = q at *
    have a : (p + 1) / (q : Int) ≤ p + 1 := Int.ediv_le_self _ (by omega)
    have b : 1 ≤ (p + 1) / (q : Int) := (Int.le_ediv_iff_mul_le (by omega)).2 (by omega)
    omega
  · split <;> omega

/-- After so many times the pairs are what they were, and not before. -/
theorem ordr_spec {k y h p : Int} (hr : OkR k y) (h0 : 0 ≤ h) (h1 : h ≤ p) (i : Nat) (hi : 1 ≤ i) (hn : (i : Int) ≤ ordr k y h p) : itH k y h p i = h ↔ (i : Int) = ordr k y h p := by
  rcases hr with ⟨rfl | rfl, rfl⟩ | ⟨rfl, _, _⟩
  · have e : ordr 0 0 h p = 1 := by simp [ordr]
    rw [e] at hn ⊢
    obtain rfl : i = 1 := by omega
    simp [itH, turnTo]
  · by_cases z : 2 * h = p
    · have e : ordr 1 0 h p = 1 := by simp [ordr, z]
      rw [e] at hn ⊢
      obtain rfl : i = 1 := by omega
      simp [itH, turnTo]
      omega
    · have e : ordr 1 0 h p = 2 := by simp [ordr, z]
      rw [e] at hn ⊢
      rcases (show i = 1 ∨ i = 2 by omega) with rfl | rfl
      · simp [itH, turnTo]
        omega
      · simp [itH, turnTo]
        omega
  · have e : ordr 2 y h p = (((p + 1).toNat / Int.gcd (p + 1) y : Nat) : Int) := by
      have : (((p + 1).toNat : Nat) : Int) = p + 1 := by omega
      simp only [ordr, if_true]
      rw [Int.natCast_ediv, this]
    rw [ordr_shift h0 h1, e]
    rw [e] at hn
    generalize (p + 1).toNat / Int.gcd (p + 1) y = q at *
    constructor
    · intro hd
      have := Nat.le_of_dvd (by omega) hd
      omega
    · intro hd
      have : i = q := by omega
      rw [this]
      exact Nat.dvd_refl _

/-- The greatest common divisor by remainders. -/
theorem gcd_step (a b : Int) : Int.gcd b (a.tmod b) = Int.gcd a b := by
  show Nat.gcd b.natAbs (a.tmod b).natAbs = Nat.gcd a.natAbs b.natAbs
  rw [Int.natAbs_tmod, Nat.gcd_comm a.natAbs, Nat.gcd_comm b.natAbs, ← Nat.gcd_rec]
theorem gcd_emod (y s : Int) : Int.gcd s (y % s) = Int.gcd s y := by
  have := Int.emod_add_mul_ediv y s
  have e : y = y % s + s * (y / s) := by omega
  conv => rhs; rw [e]
  rw [Int.gcd_add_mul_left_right]
/-- The cell after i collisions. -/
theorem more_it {a b c d : Int} (k y : Int) (i : Nat) {t : Int} (ht : t = itH k y (min a c) (min a c + min b d) i - min a c) : t + more (a + t) (b - t) (c + t) (d - t) k y = itH k y (min a c) (min a c + min b d) (i + 1) - min a c := by
  unfold more
  rw [min_add, min_sub]
  have e1 : min a c + t = itH k y (min a c) (min a c + min b d) i := by omega
  have e2 : min a c + t + (min b d - t) = min a c + min b d := by omega
  rw [e2, e1]
  show _ = turnTo k y (itH k y (min a c) (min a c + min b d) i) (min a c + min b d) - min a c
  omega
end Go.Proofs.Ytnkehlankidlnaa
