/- After how many collisions a cell comes back: by the program and by the reference. -/
import Derived.Test.YtnkehlankidlnaaOrd
import Derived.Test.YtnkehlankidlnaaRef3
import Derived.LoopTactic
import Derived.Deep.QuietTactic
import Derived.Deep.RegionHeld3
namespace Go.Proofs.Ytnkehlankidlnaa
set_option linter.unusedSimpArgs false
set_option linter.unusedVariables false
open Go.RowKit

set_option maxHeartbeats 1000000 in
theorem divisor_nat (a b : Nat) (w : World) (ha : a ≤ 2000000000) (hb : b ≤ 2000000000) :
    Calls Try.prog 45 #[.int .i64 a, .int .i64 b] w fun e w' => e = .returned (.int .i64 (Nat.gcd a b)) ∧ Below w.heap.size w w' := by
  go_enter Try.func45, Try.ntmps45
  go_wp2
  go_loopw [0, 1] (fun s t wr => ∃ x y : Nat, s = .int .i64 x ∧ t = .int .i64 y ∧ Hid (Nat.gcd x y = Nat.gcd a b) ∧ x ≤ 2000000000 ∧ y ≤ 2000000000 ∧ Below w.heap.size w wr) (fun _ t _ => (intOf t).toNat)
  case atStart => exact ⟨a, b, rfl, rfl, Lib.hid rfl, ha, hb, Below.refl _ _⟩
  case round =>
    obtain ⟨x, y, rfl, rfl, hg, hx, hy, hB⟩ := hrel
    by_cases hz : y = 0
    · subst hz
      go_wp2
      go_ret
      exact ⟨ret_i (by rw [← hg.out, Nat.gcd_zero_right]), hB⟩
    · have hp : 0 < y := by omega
      have hl := Nat.mod_lt x hp
      have tm : (x : Int).tmod (y : Int) = ((x % y : Nat) : Int) := by rw [Int.tmod_eq_emod_of_nonneg (Int.natCast_nonneg _)]; exact (Int.natCast_emod _ _).symm
      obtain ⟨r, hr⟩ : ∃ r, r = x % y := ⟨_, rfl⟩
      have HR := Lib.hid hr
      rw [← hr] at tm hl
      clear hr
      go_wp2
      go_quiet (fail)
      clear tm
      go_wp2
      go_roundw
      case rel => exact ⟨y, r, rfl, rfl, Lib.hid (by rw [← hg.out, HR.out, Nat.gcd_comm y, ← Nat.gcd_rec, Nat.gcd_comm]), hy, by omega, below_drewN hB _⟩
      case measure => simp [intOf]; omega
theorem divisor_int (a b : Int) (w : World) (a0 : 0 ≤ a) (a1 : a ≤ 2000000000) (b0 : 0 ≤ b) (b1 : b ≤ 2000000000) :
    Calls Try.prog 45 #[.int .i64 a, .int .i64 b] w fun e w' => e = .returned (.int .i64 ((Int.gcd a b : Int))) ∧ Below w.heap.size w w' := by
  obtain ⟨x, rfl⟩ := Int.eq_ofNat_of_zero_le a0
  obtain ⟨y, rfl⟩ := Int.eq_ofNat_of_zero_le b0
  exact divisor_nat x y w (by omega) (by omega)

set_option maxHeartbeats 1000000 in
theorem refDivisor_any (a b : Int) (w : World) (a0 : -2000000000 ≤ a) (a1 : a ≤ 2000000000) (b0 : -2000000000 ≤ b) (b1 : b ≤ 2000000000) :
    Calls Try.prog 50 #[.int .i64 a, .int .i64 b] w fun e w' => e = .returned (.int .i64 ((Int.gcd a b : Int))) ∧ Below w.heap.size w w' := by
  go_enter Try.func50, Try.ntmps50
  go_wp2
  go_loopw [0, 1] (fun s t wr => ∃ x y : Int, s = .int .i64 x ∧ t = .int .i64 y ∧ Hid (Int.gcd x y = Int.gcd a b) ∧ -2000000000 ≤ x ∧ x ≤ 2000000000 ∧ -2000000000 ≤ y ∧ y ≤ 2000000000 ∧ Below w.heap.size w wr) (fun _ t _ => (intOf t).natAbs)
  case atStart => exact ⟨a, b, rfl, rfl, Lib.hid rfl, a0, a1, b0, b1, Below.refl _ _⟩
  case round =>
    obtain ⟨x, y, rfl, rfl, hg, hx0, hx1, hy0, hy1, hB⟩ := hrel
    by_cases hz : y = 0
    · subst hz
      go_wp2_with (go_at_call 89; (with_reducible refine (size_any _ _ (by omega) (by omega)).mono ?_); rintro e w1 ⟨rfl, rfl⟩)
      go_ret
      exact ⟨ret_i (by rw [← hg.out, Int.gcd_zero_right]; unfold absI; omega), hB⟩
    · have hl : (x.tmod y).natAbs < y.natAbs := by rw [Int.natAbs_tmod]; exact Nat.mod_lt _ (by omega)
      have HG := Lib.hid (gcd_step x y)
      obtain ⟨r, hr⟩ : ∃ r, x.tmod y = r := ⟨_, rfl⟩
      rw [hr] at hl HG
      go_wp2
      go_quiet (fail)
      clear hr
      go_wp2
      go_roundw
      case rel => exact ⟨y, r, rfl, rfl, Lib.hid (by rw [HG.out]; exact hg.out), hy0, hy1, by omega, by omega, below_drewN hB _⟩
      case measure => simp [intOf]; omega

set_option maxHeartbeats 2000000 in
theorem order_shift (a b c d y : Int) (w : World) (h : Ok4 a b c d) (hr : OkR 2 y) :
    Calls Try.prog 10 #[.agg #[.int .i64 a, .int .i64 b, .int .i64 c, .int .i64 d], .agg #[.int .i64 2, .int .i64 y]] w fun e w' => e = .returned (.tuple #[.int .i64 (ordr 2 y (min a c) (min a c + min b d)), .int .i64 0]) ∧ Below w.heap.size w w' := by
  have H := Lib.hid h
  have R := Lib.hid hr
  have y0 : -1000000000 ≤ y ∧ y ≤ 1000000000 := by unfold OkR at hr; omega
  obtain ⟨p0, p1, p2, p3, p4⟩ := h
  obtain ⟨y0, y1⟩ := y0
  clear hr
  have m0 : 0 ≤ min a c := by omega
  have m1 : 0 ≤ min b d := by omega
  have m2 : min a c + min b d ≤ 1000000000 := by omega
  have e0 := Int.emod_nonneg y (show min a c + min b d + 1 ≠ 0 by omega)
  have e1 := Int.emod_lt_of_pos y (show 0 < min a c + min b d + 1 by omega)
  have gp := gcd_pos (p := min a c + min b d) (y := y) (by omega)
  have gl : Int.gcd (min a c + min b d + 1) y ≤ (min a c + min b d + 1).natAbs := Nat.le_of_dvd (by omega) (Nat.gcd_dvd_left _ _)
  have DV := Lib.hid (fun w' => divisor_int (min a c + min b d + 1) (y % (min a c + min b d + 1)) w' (by omega) (by omega) e0 (by omega))
  rw [gcd_emod] at DV
  have E : ordr 2 y (min a c) (min a c + min b d) = (min a c + min b d + 1) / (Int.gcd (min a c + min b d + 1) y : Int) := by simp [ordr]
  rw [E]
  clear E
  have MO := Lib.hid (fun w' => modulo_any y (min a c + min b d + 1) w' (by omega) (by omega) (by omega) (by omega))
  obtain ⟨r, hr⟩ : ∃ r, y % (min a c + min b d + 1) = r := ⟨_, rfl⟩
  obtain ⟨g, hg⟩ : ∃ g : Int, (Int.gcd (min a c + min b d + 1) y : Int) = g := ⟨_, rfl⟩
  rw [hr] at MO DV e0 e1
  rw [hg] at DV ⊢
  have g1 : 1 ≤ g := by omega
  have g2 : g ≤ 2000000000 := by omega
  have g3 : ¬ g = 0 := by omega
  clear hr hg gp gl p0 p1 p2 p3 p4
  go_enter Try.func10, Try.ntmps10
  go_wp2_with (first | (go_at_call 43; (with_reducible refine (pairsX_ok a b c d _ H.out).mono ?_); rintro e w1 ⟨rfl, hb⟩; obtain ⟨hc, hf, hz⟩ := bcall hb; (try simp at hc hf hz)) | (go_at_call 44; (with_reducible refine (validRule_ok 2 y _ R.out).mono ?_); rintro e w1 ⟨rfl, hb⟩; obtain ⟨hc, hf, hz⟩ := bcall hb; (try simp at hc hf hz)) | (go_at_call 46; (with_reducible refine (MO.out _).mono ?_); rintro e w1 ⟨rfl, rfl⟩) | (go_at_call 45; (with_reducible refine (DV.out _).mono ?_); rintro e w1 ⟨rfl, hb⟩; obtain ⟨hc, hf, hz⟩ := bcall hb; (try simp at hc hf hz)))
  go_ret2
  refine ⟨rfl, ?_⟩
  (repeat' (first | (with_reducible exact Below.refl _ _) | (with_reducible refine Below.setCell ?_ (by first | omega | (simp; done) | (simp; omega)) _) | (with_reducible refine Below.alloc ?_ (by first | omega | (simp; done) | (simp; omega)) _) | (with_reducible refine Below.drew ?_) | (with_reducible refine below_drewN ?_ _) | (with_reducible refine Below.trans ?_ (Below.mono (by assumption) (by first | omega | (simp; done) | (simp; omega))))))

set_option maxHeartbeats 2000000 in
theorem order_pair (a b c d k : Int) (w : World) (h : Ok4 a b c d) (hk : k = 0 ∨ k = 1) :
    Calls Try.prog 10 #[.agg #[.int .i64 a, .int .i64 b, .int .i64 c, .int .i64 d], .agg #[.int .i64 k, .int .i64 0]] w fun e w' => e = .returned (.tuple #[.int .i64 (ordr k 0 (min a c) (min a c + min b d)), .int .i64 0]) ∧ Below w.heap.size w w' := by
  have H := Lib.hid h
  have R := Lib.hid (show OkR k 0 from by unfold OkR; omega)
  obtain ⟨p0, p1, p2, p3, p4⟩ := h
  have m0 : 0 ≤ min a c := by omega
  have m1 : 0 ≤ min b d := by omega
  have m2 : min a c + min b d ≤ 1000000000 := by omega
  clear p0 p1 p2 p3 p4
  rcases hk with rfl | rfl
  · have E : ordr 0 0 (min a c) (min a c + min b d) = 1 := by simp [ordr]
    rw [E]
    clear E
    go_enter Try.func10, Try.ntmps10
    go_wp2_with (first | (go_at_call 43; (with_reducible refine (pairsX_ok a b c d _ H.out).mono ?_); rintro e w1 ⟨rfl, hb⟩; obtain ⟨hc, hf, hz⟩ := bcall hb; (try simp at hc hf hz)) | (go_at_call 44; (with_reducible refine (validRule_ok 0 0 _ R.out).mono ?_); rintro e w1 ⟨rfl, hb⟩; obtain ⟨hc, hf, hz⟩ := bcall hb; (try simp at hc hf hz)))
    go_ret2
    refine ⟨rfl, ?_⟩
    (repeat' (first | (with_reducible exact Below.refl _ _) | (with_reducible refine Below.setCell ?_ (by first | omega | (simp; done) | (simp; omega)) _) | (with_reducible refine Below.alloc ?_ (by first | omega | (simp; done) | (simp; omega)) _) | (with_reducible refine Below.drew ?_) | (with_reducible refine below_drewN ?_ _) | (with_reducible refine Below.trans ?_ (Below.mono (by assumption) (by first | omega | (simp; done) | (simp; omega))))))
  · by_cases hz : min a c = min b d
    · have E : ordr 1 0 (min a c) (min a c + min b d) = 1 := by simp [ordr, hz]; omega
      have hb : ((min a c : Int) == min b d) = true := by simp [hz]
      have hn : ((min a c : Int) != min b d) = false := by simp [hz]
      rw [E]
      clear E hz
      go_enter Try.func10, Try.ntmps10
      go_wp2_with (first | (go_at_call 43; (with_reducible refine (pairsX_ok a b c d _ H.out).mono ?_); rintro e w1 ⟨rfl, hb⟩; obtain ⟨hc, hf, hz⟩ := bcall hb; (try simp at hc hf hz)) | (go_at_call 44; (with_reducible refine (validRule_ok 1 0 _ R.out).mono ?_); rintro e w1 ⟨rfl, hb⟩; obtain ⟨hc, hf, hz⟩ := bcall hb; (try simp at hc hf hz)))
      go_ret2
      refine ⟨rfl, ?_⟩
      (repeat' (first | (with_reducible exact Below.refl _ _) | (with_reducible refine Below.setCell ?_ (by first | omega | (simp; done) | (simp; omega)) _) | (with_reducible refine Below.alloc ?_ (by first | omega | (simp; done) | (simp; omega)) _) | (with_reducible refine Below.drew ?_) | (with_reducible refine below_drewN ?_ _) | (with_reducible refine Below.trans ?_ (Below.mono (by assumption) (by first | omega | (simp; done) | (simp; omega))))))
    · have E : ordr 1 0 (min a c) (min a c + min b d) = 2 := by
        have : 2 * min a c ≠ min a c + min b d := by omega
        simp [ordr, this]
      have hb : ((min a c : Int) == min b d) = false := by simp [hz]
      have hn : ((min a c : Int) != min b d) = true := by simp [hz]
      rw [E]
      clear E hz
      go_enter Try.func10, Try.ntmps10
      go_wp2_with (first | (go_at_call 43; (with_reducible refine (pairsX_ok a b c d _ H.out).mono ?_); rintro e w1 ⟨rfl, hb⟩; obtain ⟨hc, hf, hz⟩ := bcall hb; (try simp at hc hf hz)) | (go_at_call 44; (with_reducible refine (validRule_ok 1 0 _ R.out).mono ?_); rintro e w1 ⟨rfl, hb⟩; obtain ⟨hc, hf, hz⟩ := bcall hb; (try simp at hc hf hz)))
      go_ret2
      refine ⟨rfl, ?_⟩
      (repeat' (first | (with_reducible exact Below.refl _ _) | (with_reducible refine Below.setCell ?_ (by first | omega | (simp; done) | (simp; omega)) _) | (with_reducible refine Below.alloc ?_ (by first | omega | (simp; done) | (simp; omega)) _) | (with_reducible refine Below.drew ?_) | (with_reducible refine below_drewN ?_ _) | (with_reducible refine Below.trans ?_ (Below.mono (by assumption) (by first | omega | (simp; done) | (simp; omega))))))
theorem order_ok (a b c d k y : Int) (w : World) (h : Ok4 a b c d) (hr : OkR k y) :
    Calls Try.prog 10 #[.agg #[.int .i64 a, .int .i64 b, .int .i64 c, .int .i64 d], .agg #[.int .i64 k, .int .i64 y]] w fun e w' => e = .returned (.tuple #[.int .i64 (ordr k y (min a c) (min a c + min b d)), .int .i64 0]) ∧ Below w.heap.size w w' := by
  rcases hr with ⟨hk, rfl⟩ | ⟨rfl, h1, h2⟩
  · exact order_pair a b c d k w h hk
  · exact order_shift a b c d y w h (.inr ⟨rfl, h1, h2⟩)
set_option maxHeartbeats 1000000 in
theorem order_bad (a b c d k y : Int) (w : World) (h : ¬ (Ok4 a b c d ∧ OkR k y)) :
    Calls Try.prog 10 #[.agg #[.int .i64 a, .int .i64 b, .int .i64 c, .int .i64 d], .agg #[.int .i64 k, .int .i64 y]] w fun e w' => e = .returned (.tuple #[.int .i64 0, .int .i64 1]) ∧ Below w.heap.size w w' := by
  by_cases h0 : Ok4 a b c d
  · have R := Lib.hid (show ¬ OkR k y from fun k => h ⟨h0, k⟩)
    have H := Lib.hid h0
    clear h h0
    go_enter Try.func10, Try.ntmps10
    go_wp2_with (first | (go_at_call 43; (with_reducible refine (pairsX_ok a b c d _ H.out).mono ?_); rintro e w1 ⟨rfl, hb⟩; obtain ⟨hc, hf, hz⟩ := bcall hb; (try simp at hc hf hz)) | (go_at_call 44; (with_reducible refine (validRule_bad k y _ R.out).mono ?_); rintro e w1 ⟨rfl, hb⟩; obtain ⟨hc, hf, hz⟩ := bcall hb; (try simp at hc hf hz)))
    go_ret2
    refine ⟨rfl, ?_⟩
    (repeat' (first | (with_reducible exact Below.refl _ _) | (with_reducible refine Below.setCell ?_ (by first | omega | (simp; done) | (simp; omega)) _) | (with_reducible refine Below.alloc ?_ (by first | omega | (simp; done) | (simp; omega)) _) | (with_reducible refine Below.drew ?_) | (with_reducible refine below_drewN ?_ _) | (with_reducible refine Below.trans ?_ (Below.mono (by assumption) (by first | omega | (simp; done) | (simp; omega))))))
  · have H := Lib.hid h0
    clear h h0
    go_enter Try.func10, Try.ntmps10
    go_wp2_with (first | (go_at_call 43; (with_reducible refine (pairsX_bad a b c d _ H.out).mono ?_); rintro e w1 ⟨rfl, hb⟩; obtain ⟨hc, hf, hz⟩ := bcall hb; (try simp at hc hf hz)))
    go_ret2
    refine ⟨rfl, ?_⟩
    (repeat' (first | (with_reducible exact Below.refl _ _) | (with_reducible refine Below.setCell ?_ (by first | omega | (simp; done) | (simp; omega)) _) | (with_reducible refine Below.alloc ?_ (by first | omega | (simp; done) | (simp; omega)) _) | (with_reducible refine Below.drew ?_) | (with_reducible refine below_drewN ?_ _) | (with_reducible refine Below.trans ?_ (Below.mono (by assumption) (by first | omega | (simp; done) | (simp; omega))))))

set_option maxHeartbeats 2000000 in
theorem refOrder_shift (a b c d y : Int) (w : World) (h : Ok4 a b c d) (hr : OkR 2 y) :
    Calls Try.prog 11 #[.agg #[.int .i64 a, .int .i64 b, .int .i64 c, .int .i64 d], .agg #[.int .i64 2, .int .i64 y]] w fun e w' => e = .returned (.tuple #[.int .i64 (ordr 2 y (min a c) (min a c + min b d)), .int .i64 0]) ∧ Below w.heap.size w w' := by
  have H := Lib.hid h
  have R := Lib.hid hr
  have y0 : -1000000000 ≤ y ∧ y ≤ 1000000000 := by unfold OkR at hr; omega
  obtain ⟨p0, p1, p2, p3, p4⟩ := h
  obtain ⟨y0, y1⟩ := y0
  clear hr
  have m0 : 0 ≤ min a c := by omega
  have m1 : 0 ≤ min b d := by omega
  have m2 : min a c + min b d ≤ 1000000000 := by omega
  have gp := gcd_pos (p := min a c + min b d) (y := y) (by omega)
  have gl : Int.gcd (min a c + min b d + 1) y ≤ (min a c + min b d + 1).natAbs := Nat.le_of_dvd (by omega) (Nat.gcd_dvd_left _ _)
  have DV := Lib.hid (fun w' => refDivisor_any y (min a c + min b d + 1) w' (by omega) (by omega) (by omega) (by omega))
  rw [Int.gcd_comm] at DV
  have E : ordr 2 y (min a c) (min a c + min b d) = (min a c + min b d + 1) / (Int.gcd (min a c + min b d + 1) y : Int) := by simp [ordr]
  rw [E]
  clear E
  obtain ⟨g, hg⟩ : ∃ g : Int, (Int.gcd (min a c + min b d + 1) y : Int) = g := ⟨_, rfl⟩
  rw [hg] at DV ⊢
  have g1 : 1 ≤ g := by omega
  have g2 : g ≤ 2000000000 := by omega
  have g3 : ¬ g = 0 := by omega
  clear hg gp gl p0 p1 p2 p3 p4
  go_enter Try.func11, Try.ntmps11
  go_wp2_with (first | (go_at_call 47; (with_reducible refine (refValid_ok a b c d _ H.out).mono ?_); rintro e w1 ⟨rfl, hb⟩; obtain ⟨hc, hf, hz⟩ := bcall hb; (try simp at hc hf hz)) | (go_at_call 48; (with_reducible refine (refValidRule_ok 2 y _ R.out).mono ?_); rintro e w1 ⟨rfl, hb⟩; obtain ⟨hc, hf, hz⟩ := bcall hb; (try simp at hc hf hz)) | (go_at_call 49; (with_reducible refine (of_ok a b c d _ H.out).mono ?_); rintro e w1 ⟨rfl, hb⟩; obtain ⟨hc, hf, hz⟩ := bcall hb; (try simp at hc hf hz)) | (go_at_call 50; (with_reducible refine (DV.out _).mono ?_); rintro e w1 ⟨rfl, hb⟩; obtain ⟨hc, hf, hz⟩ := bcall hb; (try simp at hc hf hz)))
  go_ret2
  refine ⟨rfl, ?_⟩
  (repeat' (first | (with_reducible exact Below.refl _ _) | (with_reducible refine Below.setCell ?_ (by first | omega | (simp; done) | (simp; omega)) _) | (with_reducible refine Below.alloc ?_ (by first | omega | (simp; done) | (simp; omega)) _) | (with_reducible refine Below.drew ?_) | (with_reducible refine below_drewN ?_ _) | (with_reducible refine Below.trans ?_ (Below.mono (by assumption) (by first | omega | (simp; done) | (simp; omega))))))

theorem more_pair {a b c d k : Int} (hk : k = 0 ∨ k = 1) (_ : Ok4 a b c d) : (more a b c d k 0 = 0 ↔ ordr k 0 (min a c) (min a c + min b d) = 1) ∧ (more a b c d k 0 ≠ 0 ↔ ordr k 0 (min a c) (min a c + min b d) = 2) := by
  rcases hk with rfl | rfl
  · simp [more, turnTo, ordr]
  · by_cases hz : 2 * min a c = min a c + min b d
    · simp [more, turnTo, ordr, hz]; omega
    · simp [more, turnTo, ordr, hz]; omega

set_option maxHeartbeats 4000000 in
theorem refOrder_pair (a b c d k : Int) (w : World) (h : Ok4 a b c d) (hk : k = 0 ∨ k = 1) :
    Calls Try.prog 11 #[.agg #[.int .i64 a, .int .i64 b, .int .i64 c, .int .i64 d], .agg #[.int .i64 k, .int .i64 0]] w fun e w' => e = .returned (.tuple #[.int .i64 (ordr k 0 (min a c) (min a c + min b d)), .int .i64 0]) ∧ Below w.heap.size w w' := by
  have H := Lib.hid h
  have hr : OkR k 0 := by unfold OkR; omega
  have R := Lib.hid hr
  obtain ⟨q1, q2⟩ := more_pair hk h
  have AF := Lib.hid (fun w' => after_ok a b c d k 0 w' h hr)
  obtain ⟨p0, p1, p2, p3, p4⟩ := h
  have m0 : 0 ≤ min a c := by omega
  have m1 : 0 ≤ min b d := by omega
  have m2 : min a c + min b d ≤ 1000000000 := by omega
  have k2 : ((k : Int) == 2) = false := by rcases hk with rfl | rfl <;> rfl
  clear p0 p1 p2 p3 p4 hk hr
  by_cases hz : more a b c d k 0 = 0
  · rw [q1.1 hz]
    rw [hz, Int.add_zero, Int.sub_zero, Int.add_zero, Int.sub_zero] at AF
    clear q1 q2 hz
    go_enter Try.func11, Try.ntmps11
    go_wp2_with (first | (go_at_call 47; (with_reducible refine (refValid_ok a b c d _ H.out).mono ?_); rintro e w1 ⟨rfl, hb⟩; obtain ⟨hc, hf, hz⟩ := bcall hb; (try simp at hc hf hz)) | (go_at_call 48; (with_reducible refine (refValidRule_ok k 0 _ R.out).mono ?_); rintro e w1 ⟨rfl, hb⟩; obtain ⟨hc, hf, hz⟩ := bcall hb; (try simp at hc hf hz)) | (go_at_call 49; (with_reducible refine (of_ok a b c d _ H.out).mono ?_); rintro e w1 ⟨rfl, hb⟩; obtain ⟨hc, hf, hz⟩ := bcall hb; (try simp at hc hf hz)))
    go_region_held3 (fun w' => w'.cell? ⟨w.heap.size, 0, none⟩ = some (.int .i64 a) ∧ w'.cell? ⟨w.heap.size, 1, none⟩ = some (.int .i64 b) ∧ w'.cell? ⟨w.heap.size, 2, none⟩ = some (.int .i64 c) ∧ w'.cell? ⟨w.heap.size, 3, none⟩ = some (.int .i64 d) ∧ w'.cell? ⟨w.heap.size + 1, 0, none⟩ = some (.int .i64 k) ∧ w'.cell? ⟨w.heap.size + 1, 1, none⟩ = some (.int .i64 0)) (first | (go_split_ands; (try dsimp only); refine ⟨?_, ?_, ?_, ?_, ?_, ?_⟩ <;> (first | (with_reducible assumption) | (with_reducible exact keep_cell (by assumption) (by first | omega | (simp; done) | (simp; omega)) (by assumption)) | (simp [go_sem]; with_reducible assumption))) | (simp [go_sem, ↓IntWalk.iteOmega, *]; done)) ((go_at_call 51; (with_reducible refine (AF.out _).mono ?_); rintro e w1 ⟨rfl, hb⟩; obtain ⟨hc, hf, hz⟩ := bcall hb; (try simp at hc hf hz)))
    go_wp2
    go_ret2
    refine ⟨rfl, ?_⟩
    (repeat' (first | (with_reducible exact Below.refl _ _) | (with_reducible refine Below.setCell ?_ (by first | omega | (simp; done) | (simp; omega)) _) | (with_reducible refine Below.alloc ?_ (by first | omega | (simp; done) | (simp; omega)) _) | (with_reducible refine Below.drew ?_) | (with_reducible refine below_drewN ?_ _) | (with_reducible refine Below.trans ?_ (Below.mono (by assumption) (by first | omega | (simp; done) | (simp; omega))))))
  · rw [q2.1 hz]
    obtain ⟨t, ht⟩ : ∃ t, more a b c d k 0 = t := ⟨_, rfl⟩
    rw [ht] at AF hz
    obtain ⟨x0, hx0⟩ : ∃ x0, a + t = x0 := ⟨_, rfl⟩
    have e0 : ((x0 : Int) == a) = false := by simp; omega
    rw [hx0] at AF
    clear q1 q2 hz ht hx0
    go_enter Try.func11, Try.ntmps11
    go_wp2_with (first | (go_at_call 47; (with_reducible refine (refValid_ok a b c d _ H.out).mono ?_); rintro e w1 ⟨rfl, hb⟩; obtain ⟨hc, hf, hz⟩ := bcall hb; (try simp at hc hf hz)) | (go_at_call 48; (with_reducible refine (refValidRule_ok k 0 _ R.out).mono ?_); rintro e w1 ⟨rfl, hb⟩; obtain ⟨hc, hf, hz⟩ := bcall hb; (try simp at hc hf hz)) | (go_at_call 49; (with_reducible refine (of_ok a b c d _ H.out).mono ?_); rintro e w1 ⟨rfl, hb⟩; obtain ⟨hc, hf, hz⟩ := bcall hb; (try simp at hc hf hz)))
    go_region_held3 (fun w' => w'.cell? ⟨w.heap.size, 0, none⟩ = some (.int .i64 a) ∧ w'.cell? ⟨w.heap.size, 1, none⟩ = some (.int .i64 b) ∧ w'.cell? ⟨w.heap.size, 2, none⟩ = some (.int .i64 c) ∧ w'.cell? ⟨w.heap.size, 3, none⟩ = some (.int .i64 d) ∧ w'.cell? ⟨w.heap.size + 1, 0, none⟩ = some (.int .i64 k) ∧ w'.cell? ⟨w.heap.size + 1, 1, none⟩ = some (.int .i64 0)) (first | (go_split_ands; (try dsimp only); refine ⟨?_, ?_, ?_, ?_, ?_, ?_⟩ <;> (first | (with_reducible assumption) | (with_reducible exact keep_cell (by assumption) (by first | omega | (simp; done) | (simp; omega)) (by assumption)) | (simp [go_sem]; with_reducible assumption))) | (simp [go_sem, ↓IntWalk.iteOmega, *]; done)) ((go_at_call 51; (with_reducible refine (AF.out _).mono ?_); rintro e w1 ⟨rfl, hb⟩; obtain ⟨hc, hf, hz⟩ := bcall hb; (try simp at hc hf hz)))
    go_wp2
    go_ret2
    refine ⟨rfl, ?_⟩
    (repeat' (first | (with_reducible exact Below.refl _ _) | (with_reducible refine Below.setCell ?_ (by first | omega | (simp; done) | (simp; omega)) _) | (with_reducible refine Below.alloc ?_ (by first | omega | (simp; done) | (simp; omega)) _) | (with_reducible refine Below.drew ?_) | (with_reducible refine below_drewN ?_ _) | (with_reducible refine Below.trans ?_ (Below.mono (by assumption) (by first | omega | (simp; done) | (simp; omega))))))
theorem refOrder_ok (a b c d k y : Int) (w : World) (h : Ok4 a b c d) (hr : OkR k y) :
    Calls Try.prog 11 #[.agg #[.int .i64 a, .int .i64 b, .int .i64 c, .int .i64 d], .agg #[.int .i64 k, .int .i64 y]] w fun e w' => e = .returned (.tuple #[.int .i64 (ordr k y (min a c) (min a c + min b d)), .int .i64 0]) ∧ Below w.heap.size w w' := by
  rcases hr with ⟨hk, rfl⟩ | ⟨rfl, h1, h2⟩
  · exact refOrder_pair a b c d k w h hk
  · exact refOrder_shift a b c d y w h (.inr ⟨rfl, h1, h2⟩)
set_option maxHeartbeats 1000000 in
theorem refOrder_bad (a b c d k y : Int) (w : World) (h : ¬ (Ok4 a b c d ∧ OkR k y)) :
    Calls Try.prog 11 #[.agg #[.int .i64 a, .int .i64 b, .int .i64 c, .int .i64 d], .agg #[.int .i64 k, .int .i64 y]] w fun e w' => e = .returned (.tuple #[.int .i64 0, .int .i64 1]) ∧ Below w.heap.size w w' := by
  by_cases h0 : Ok4 a b c d
  · have R := Lib.hid (show ¬ OkR k y from fun k => h ⟨h0, k⟩)
    have H := Lib.hid h0
    clear h h0
    go_enter Try.func11, Try.ntmps11
    go_wp2_with (first | (go_at_call 47; (with_reducible refine (refValid_ok a b c d _ H.out).mono ?_); rintro e w1 ⟨rfl, hb⟩; obtain ⟨hc, hf, hz⟩ := bcall hb; (try simp at hc hf hz)) | (go_at_call 48; (with_reducible refine (refValidRule_bad k y _ R.out).mono ?_); rintro e w1 ⟨rfl, hb⟩; obtain ⟨hc, hf, hz⟩ := bcall hb; (try simp at hc hf hz)))
    go_ret2
    refine ⟨rfl, ?_⟩
    (repeat' (first | (with_reducible exact Below.refl _ _) | (with_reducible refine Below.setCell ?_ (by first | omega | (simp; done) | (simp; omega)) _) | (with_reducible refine Below.alloc ?_ (by first | omega | (simp; done) | (simp; omega)) _) | (with_reducible refine Below.drew ?_) | (with_reducible refine below_drewN ?_ _) | (with_reducible refine Below.trans ?_ (Below.mono (by assumption) (by first | omega | (simp; done) | (simp; omega))))))
  · have H := Lib.hid h0
    clear h h0
    go_enter Try.func11, Try.ntmps11
    go_wp2_with (first | (go_at_call 47; (with_reducible refine (refValid_bad a b c d _ H.out).mono ?_); rintro e w1 ⟨rfl, hb⟩; obtain ⟨hc, hf, hz⟩ := bcall hb; (try simp at hc hf hz)))
    go_ret2
    refine ⟨rfl, ?_⟩
    (repeat' (first | (with_reducible exact Below.refl _ _) | (with_reducible refine Below.setCell ?_ (by first | omega | (simp; done) | (simp; omega)) _) | (with_reducible refine Below.alloc ?_ (by first | omega | (simp; done) | (simp; omega)) _) | (with_reducible refine Below.drew ?_) | (with_reducible refine below_drewN ?_ _) | (with_reducible refine Below.trans ?_ (Below.mono (by assumption) (by first | omega | (simp; done) | (simp; omega))))))
end Go.Proofs.Ytnkehlankidlnaa
