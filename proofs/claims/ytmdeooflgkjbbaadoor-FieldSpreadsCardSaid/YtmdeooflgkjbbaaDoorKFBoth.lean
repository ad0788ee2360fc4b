/- Two lists of numbers that are the same: by the reference of the levels. -/
import Derived.Test.YtmdeooflgkjbbaaDoorKRunU
import Derived.Test.YtmdeooflgkjbbaaDoorKSameN
import Derived.Test.YtmdeooflgkjbbaaDoorKDiff
import Derived.Test.YtmdeooflgkjbbaaDoorKFAwkL
import Derived.Test.YtmdeooflgkjbbaaDoorKFTab
import Derived.Test.YtmdeooflgkjbbaaDoorKFR8Tb
import Derived.Test.YtmdeooflgkjbbaaDoorKFCrossC
namespace Go.Proofs.YtmdeooflgkjbbaaDoor
set_option linter.unusedSimpArgs false
set_option linter.unusedVariables false
open Go.RowKit

set_option maxHeartbeats 2000000 in
theorem sameInts6_yes (ao ao' : Option Addr) (n c c' : Nat) (K : Nat → Int) (w : World) (hl : n ≤ 1000000) (h : NumsIn w ao n K) (h' : NumsIn w ao' n K) :
    Calls Tryd.prog 21 #[.slice ao n c, .slice ao' n c'] w fun e w' => e = .returned (.bool true) ∧ Below w.heap.size w w' := by
  by_cases hL : n = 0
  · subst hL
    clear h h'
    go_enter Tryd.func21, Tryd.ntmps21
    go_wp2
    refine wp_loop_rounds 1 ?_
    rw [rounds_succ]
    go_wp2
    go_ret
    refine ⟨rfl, ?_⟩
    (repeat' (first | (with_reducible exact Below.refl _ _) | (with_reducible refine Below.setCell ?_ (by first | omega | (simp; done) | (simp; omega)) _) | (with_reducible refine Below.alloc ?_ (by first | omega | (simp; done) | (simp; omega)) _) | (with_reducible refine Below.drew ?_) | (with_reducible refine below_drewN ?_ _) | (with_reducible refine Below.trans ?_ (Below.mono (by assumption) (by first | omega | (simp; done) | (simp; omega))))))
  · obtain ⟨g, o, rfl, hg, hc⟩ := numsAt_of h (by omega)
    obtain ⟨g', o', rfl, hg', hc'⟩ := numsAt_of h' (by omega)
    have HC := Lib.hid hc
    have HC' := Lib.hid hc'
    clear h h' hc hc' hL
    go_enter Tryd.func21, Tryd.ntmps21
    go_wp2
    go_loopw [5] (fun i wr => ∃ k : Nat, k ≤ n ∧ i = .int .i64 k ∧ Below w.heap.size w wr) (fun i _ => n - (Go.RowKit.intOf i).toNat)
    case atStart => exact ⟨0, Nat.zero_le _, rfl, Below.refl _ _⟩
    case round =>
      obtain ⟨k, hk, rfl, hB⟩ := hrel
      by_cases hlk : k < n
      · have c0 := HC.out.get hB hg hlk
        have c1 := HC'.out.get hB hg' hlk
        have p0 : (0 : Int) ≤ (k : Int) := by omega
        have p1 : (k : Int) < (n : Int) := by omega
        go_wp2
        go_quiet (fail)
        go_wp2
        go_roundw
        case rel => exact ⟨k + 1, by omega, by go_num, below_drewN hB _⟩
        case measure => simp [Go.RowKit.intOf]; omega
      · obtain rfl : n = k := by omega
        go_wp2
        go_ret
        exact ⟨rfl, hB⟩
end Go.Proofs.YtmdeooflgkjbbaaDoor

/- The law FieldMeans: the walk over what both sides give. -/



namespace Go.Proofs.YtmdeooflgkjbbaaDoor
set_option linter.unusedSimpArgs false
set_option linter.unusedVariables false
open Go.RowKit Go.Shelf
attribute [local go_sem] Oper.semAt_some

/-- Numbers and an error, as both sides give them. -/
def GaveI (er : Int) (k : Nat) (K : Nat → Int) (wx : World) (e : Ending) (w' : World) : Prop := ∃ ao c, e = .returned (.tuple #[.slice ao k c, .int .i64 er]) ∧ NumsIn w' ao k K ∧ Below wx.heap.size wx w'
set_option maxRecDepth 100000 in
set_option maxHeartbeats 4000000 in
theorem fm_big (W H a0 a1 b0 b1 wi hi ax : Int) (ao : Option Addr) (n cap : Nat) (w : World) (hM : Mvs w)
    (BG : ∀ wx, Calls Tryd.prog 10 #[.agg #[.int .i64 W, .int .i64 H, .slice (ao) n cap]] wx fun e w' => e = .returned (.bool true) ∧ Below wx.heap.size wx w') :
    Calls Tryd.prog 3 #[.agg #[.int .i64 W, .int .i64 H, .slice (ao) n cap], .agg #[.int .i64 a0, .int .i64 a1], .agg #[.int .i64 b0, .int .i64 b1], .int .i64 wi, .int .i64 hi, .int .i64 ax] w fun e w' => e = .returned (.bool true) ∧ Below w.heap.size w w' := by
  have HM := Lib.hid hM
  have BG := Lib.hid BG
  clear hM
  go_enter Tryd.func3, Tryd.ntmps3
  go_wp2_with (first | (go_at_call 9; (with_reducible refine (awake08_any _ (HM.out.below (by (repeat' (first | (with_reducible exact Below.refl _ _) | (with_reducible refine Below.setCell ?_ (by first | omega | (simp; done) | (simp; omega)) _) | (with_reducible refine Below.alloc ?_ (by first | omega | (simp; done) | (simp; omega)) _) | (with_reducible refine Below.drew ?_) | (with_reducible refine below_drewN ?_ _) | (with_reducible refine Below.trans ?_ (Below.mono (by assumption) (by first | omega | (simp; done) | (simp; omega))))))))).mono ?_); rintro e w1 ⟨rfl, hb⟩; obtain ⟨hc, hf, hz⟩ := bcall hb; (try simp at hc hf hz)) | (go_at_call 10; (with_reducible refine (BG.out _).mono ?_); rintro e w1 ⟨rfl, hb⟩; obtain ⟨hc, hf, hz⟩ := bcall hb; (try simp at hc hf hz)))
  go_ret
  refine ⟨by simp, ?_⟩
  (repeat' (first | (with_reducible exact Below.refl _ _) | (with_reducible refine Below.setCell ?_ (by first | omega | (simp; done) | (simp; omega)) _) | (with_reducible refine Below.alloc ?_ (by first | omega | (simp; done) | (simp; omega)) _) | (with_reducible refine Below.drew ?_) | (with_reducible refine below_drewN ?_ _) | (with_reducible refine Below.trans ?_ (Below.mono (by assumption) (by first | omega | (simp; done) | (simp; omega))))))
set_option maxRecDepth 100000 in
set_option maxHeartbeats 32000000 in
theorem fm_err (W H a0 a1 b0 b1 wi hi ax : Int) (ao : Option Addr) (n cap : Nat) (c1 c2 d1 d2 d3 v1 v2 v3 v4 v5 p1 p2 p3 t1 r1 : Int) (tk rk : Nat) (TK RK : Nat → Int) (w : World) (hM : Mvs w) (ht : tk ≤ 1000000) (hr : rk ≤ 1000000)
    (BG : ∀ wx, Calls Tryd.prog 10 #[.agg #[.int .i64 W, .int .i64 H, .slice (ao) n cap]] wx fun e w' => e = .returned (.bool false) ∧ Below wx.heap.size wx w')
    (CE1 : ∀ wx, Below w.heap.size w wx → Calls Tryd.prog 11 #[.agg #[.int .i64 W, .int .i64 H, .slice (ao) n cap], .agg #[.int .i64 a0, .int .i64 a1], .agg #[.int .i64 b0, .int .i64 b1]] wx fun e w' => e = .returned (.tuple #[.int .i64 c1, .int .i64 c2]) ∧ Below wx.heap.size wx w')
    (CE2 : ∀ wx, Below w.heap.size w wx → Calls Tryd.prog 12 #[.agg #[.int .i64 W, .int .i64 H, .slice (ao) n cap], .agg #[.int .i64 a0, .int .i64 a1], .agg #[.int .i64 b0, .int .i64 b1]] wx fun e w' => e = .returned (.tuple #[.int .i64 c1, .int .i64 c2]) ∧ Below wx.heap.size wx w')
    (DE1 : ∀ wx, Below w.heap.size w wx → Calls Tryd.prog 13 #[.agg #[.int .i64 W, .int .i64 H, .slice (ao) n cap], .agg #[.int .i64 a0, .int .i64 a1], .agg #[.int .i64 b0, .int .i64 b1]] wx fun e w' => e = .returned (.tuple #[.agg #[.int .i64 d1, .int .i64 d2], .int .i64 d3]) ∧ Below wx.heap.size wx w')
    (DE2 : ∀ wx, Below w.heap.size w wx → Calls Tryd.prog 14 #[.agg #[.int .i64 W, .int .i64 H, .slice (ao) n cap], .agg #[.int .i64 a0, .int .i64 a1], .agg #[.int .i64 b0, .int .i64 b1]] wx fun e w' => e = .returned (.tuple #[.agg #[.int .i64 d1, .int .i64 d2], .int .i64 d3]) ∧ Below wx.heap.size wx w')
    (VE1 : ∀ wx, Below w.heap.size w wx → Calls Tryd.prog 15 #[.agg #[.int .i64 W, .int .i64 H, .slice (ao) n cap], .agg #[.int .i64 a0, .int .i64 a1], .agg #[.int .i64 b0, .int .i64 b1]] wx fun e w' => e = .returned (.tuple #[.agg #[.int .i64 v1, .int .i64 v2], .agg #[.int .i64 v3, .int .i64 v4], .int .i64 v5]) ∧ Below wx.heap.size wx w')
    (VE2 : ∀ wx, Below w.heap.size w wx → Calls Tryd.prog 16 #[.agg #[.int .i64 W, .int .i64 H, .slice (ao) n cap], .agg #[.int .i64 a0, .int .i64 a1], .agg #[.int .i64 b0, .int .i64 b1]] wx fun e w' => e = .returned (.tuple #[.agg #[.int .i64 v1, .int .i64 v2], .agg #[.int .i64 v3, .int .i64 v4], .int .i64 v5]) ∧ Below wx.heap.size wx w')
    (DN1 : ∀ wx, Below w.heap.size w wx → Calls Tryd.prog 17 #[.agg #[.int .i64 W, .int .i64 H, .slice (ao) n cap], .int .i64 wi, .int .i64 hi] wx fun e w' => e = .returned (.tuple #[.agg #[.int .i64 p1, .int .i64 p2], .int .i64 p3]) ∧ Below wx.heap.size wx w')
    (DN2 : ∀ wx, Below w.heap.size w wx → Calls Tryd.prog 18 #[.agg #[.int .i64 W, .int .i64 H, .slice (ao) n cap], .int .i64 wi, .int .i64 hi] wx fun e w' => e = .returned (.tuple #[.agg #[.int .i64 p1, .int .i64 p2], .int .i64 p3]) ∧ Below wx.heap.size wx w')
    (TA1 : ∀ wx, Below w.heap.size w wx → Calls Tryd.prog 19 #[.agg #[.int .i64 W, .int .i64 H, .slice (ao) n cap], .int .i64 wi, .int .i64 hi] wx fun e w' => GaveI t1 tk TK wx e w')
    (TA2 : ∀ wx, Below w.heap.size w wx → Calls Tryd.prog 20 #[.agg #[.int .i64 W, .int .i64 H, .slice (ao) n cap], .int .i64 wi, .int .i64 hi] wx fun e w' => GaveI t1 tk TK wx e w')
    (PR1 : ∀ wx, Below w.heap.size w wx → Calls Tryd.prog 22 #[.agg #[.int .i64 W, .int .i64 H, .slice (ao) n cap], .int .i64 ax] wx fun e w' => GaveI r1 rk RK wx e w')
    (PR2 : ∀ wx, Below w.heap.size w wx → Calls Tryd.prog 23 #[.agg #[.int .i64 W, .int .i64 H, .slice (ao) n cap], .int .i64 ax] wx fun e w' => GaveI r1 rk RK wx e w') (her : r1 = 1 ∨ r1 = 7) :
    Calls Tryd.prog 3 #[.agg #[.int .i64 W, .int .i64 H, .slice (ao) n cap], .agg #[.int .i64 a0, .int .i64 a1], .agg #[.int .i64 b0, .int .i64 b1], .int .i64 wi, .int .i64 hi, .int .i64 ax] w fun e w' => e = .returned (.bool true) ∧ Below w.heap.size w w' := by
  have HM := Lib.hid hM
  have BG := Lib.hid BG
  have CE1 := Lib.hid CE1
  have CE2 := Lib.hid CE2
  have DE1 := Lib.hid DE1
  have DE2 := Lib.hid DE2
  have VE1 := Lib.hid VE1
  have VE2 := Lib.hid VE2
  have DN1 := Lib.hid DN1
  have DN2 := Lib.hid DN2
  have TA1 := Lib.hid TA1
  have TA2 := Lib.hid TA2
  have PR1 := Lib.hid PR1
  have PR2 := Lib.hid PR2
  have e1 : (r1 == 0) = false := by rcases her with rfl | rfl <;> decide
  have e2 : (r1 != 0) = true := by rcases her with rfl | rfl <;> decide
  have e3 : ¬ (r1 = 0) := by rcases her with rfl | rfl <;> decide
  clear hM her
  go_enter Tryd.func3, Tryd.ntmps3
  go_wp2_with (first | (go_at_call 9; (with_reducible refine (awake08_any _ (HM.out.below (by (repeat' (first | (with_reducible exact Below.refl _ _) | (with_reducible refine Below.setCell ?_ (by first | omega | (simp; done) | (simp; omega)) _) | (with_reducible refine Below.alloc ?_ (by first | omega | (simp; done) | (simp; omega)) _) | (with_reducible refine Below.drew ?_) | (with_reducible refine below_drewN ?_ _) | (with_reducible refine Below.trans ?_ (Below.mono (by assumption) (by first | omega | (simp; done) | (simp; omega))))))))).mono ?_); rintro e w1 ⟨rfl, hb⟩; obtain ⟨hc, hf, hz⟩ := bcall hb; (try simp at hc hf hz)) | (go_at_call 10; (with_reducible refine (BG.out _).mono ?_); rintro e w1 ⟨rfl, hb⟩; obtain ⟨hc, hf, hz⟩ := bcall hb; (try simp at hc hf hz)) | (go_at_call 11; (with_reducible refine (CE1.out _ (by (repeat' (first | (with_reducible exact Below.refl _ _) | (with_reducible refine Below.setCell ?_ (by first | omega | (simp; done) | (simp; omega)) _) | (with_reducible refine Below.alloc ?_ (by first | omega | (simp; done) | (simp; omega)) _) | (with_reducible refine Below.drew ?_) | (with_reducible refine below_drewN ?_ _) | (with_reducible refine Below.trans ?_ (Below.mono (by assumption) (by first | omega | (simp; done) | (simp; omega)))))))).mono ?_); rintro e w1 ⟨rfl, hb⟩; obtain ⟨hc, hf, hz⟩ := bcall hb; (try simp at hc hf hz)) | (go_at_call 12; (with_reducible refine (CE2.out _ (by (repeat' (first | (with_reducible exact Below.refl _ _) | (with_reducible refine Below.setCell ?_ (by first | omega | (simp; done) | (simp; omega)) _) | (with_reducible refine Below.alloc ?_ (by first | omega | (simp; done) | (simp; omega)) _) | (with_reducible refine Below.drew ?_) | (with_reducible refine below_drewN ?_ _) | (with_reducible refine Below.trans ?_ (Below.mono (by assumption) (by first | omega | (simp; done) | (simp; omega)))))))).mono ?_); rintro e w1 ⟨rfl, hb⟩; obtain ⟨hc, hf, hz⟩ := bcall hb; (try simp at hc hf hz)) | (go_at_call 13; (with_reducible refine (DE1.out _ (by (repeat' (first | (with_reducible exact Below.refl _ _) | (with_reducible refine Below.setCell ?_ (by first | omega | (simp; done) | (simp; omega)) _) | (with_reducible refine Below.alloc ?_ (by first | omega | (simp; done) | (simp; omega)) _) | (with_reducible refine Below.drew ?_) | (with_reducible refine below_drewN ?_ _) | (with_reducible refine Below.trans ?_ (Below.mono (by assumption) (by first | omega | (simp; done) | (simp; omega)))))))).mono ?_); rintro e w1 ⟨rfl, hb⟩; obtain ⟨hc, hf, hz⟩ := bcall hb; (try simp at hc hf hz)) | (go_at_call 14; (with_reducible refine (DE2.out _ (by (repeat' (first | (with_reducible exact Below.refl _ _) | (with_reducible refine Below.setCell ?_ (by first | omega | (simp; done) | (simp; omega)) _) | (with_reducible refine Below.alloc ?_ (by first | omega | (simp; done) | (simp; omega)) _) | (with_reducible refine Below.drew ?_) | (with_reducible refine below_drewN ?_ _) | (with_reducible refine Below.trans ?_ (Below.mono (by assumption) (by first | omega | (simp; done) | (simp; omega)))))))).mono ?_); rintro e w1 ⟨rfl, hb⟩; obtain ⟨hc, hf, hz⟩ := bcall hb; (try simp at hc hf hz)) | (go_at_call 15; (with_reducible refine (VE1.out _ (by (repeat' (first | (with_reducible exact Below.refl _ _) | (with_reducible refine Below.setCell ?_ (by first | omega | (simp; done) | (simp; omega)) _) | (with_reducible refine Below.alloc ?_ (by first | omega | (simp; done) | (simp; omega)) _) | (with_reducible refine Below.drew ?_) | (with_reducible refine below_drewN ?_ _) | (with_reducible refine Below.trans ?_ (Below.mono (by assumption) (by first | omega | (simp; done) | (simp; omega)))))))).mono ?_); rintro e w1 ⟨rfl, hb⟩; obtain ⟨hc, hf, hz⟩ := bcall hb; (try simp at hc hf hz)) | (go_at_call 16; (with_reducible refine (VE2.out _ (by (repeat' (first | (with_reducible exact Below.refl _ _) | (with_reducible refine Below.setCell ?_ (by first | omega | (simp; done) | (simp; omega)) _) | (with_reducible refine Below.alloc ?_ (by first | omega | (simp; done) | (simp; omega)) _) | (with_reducible refine Below.drew ?_) | (with_reducible refine below_drewN ?_ _) | (with_reducible refine Below.trans ?_ (Below.mono (by assumption) (by first | omega | (simp; done) | (simp; omega)))))))).mono ?_); rintro e w1 ⟨rfl, hb⟩; obtain ⟨hc, hf, hz⟩ := bcall hb; (try simp at hc hf hz)) | (go_at_call 17; (with_reducible refine (DN1.out _ (by (repeat' (first | (with_reducible exact Below.refl _ _) | (with_reducible refine Below.setCell ?_ (by first | omega | (simp; done) | (simp; omega)) _) | (with_reducible refine Below.alloc ?_ (by first | omega | (simp; done) | (simp; omega)) _) | (with_reducible refine Below.drew ?_) | (with_reducible refine below_drewN ?_ _) | (with_reducible refine Below.trans ?_ (Below.mono (by assumption) (by first | omega | (simp; done) | (simp; omega)))))))).mono ?_); rintro e w1 ⟨rfl, hb⟩; obtain ⟨hc, hf, hz⟩ := bcall hb; (try simp at hc hf hz)) | (go_at_call 18; (with_reducible refine (DN2.out _ (by (repeat' (first | (with_reducible exact Below.refl _ _) | (with_reducible refine Below.setCell ?_ (by first | omega | (simp; done) | (simp; omega)) _) | (with_reducible refine Below.alloc ?_ (by first | omega | (simp; done) | (simp; omega)) _) | (with_reducible refine Below.drew ?_) | (with_reducible refine below_drewN ?_ _) | (with_reducible refine Below.trans ?_ (Below.mono (by assumption) (by first | omega | (simp; done) | (simp; omega)))))))).mono ?_); rintro e w1 ⟨rfl, hb⟩; obtain ⟨hc, hf, hz⟩ := bcall hb; (try simp at hc hf hz)))
  (go_at_call 19; (refine (TA1.out _ (by (repeat' (first | (with_reducible exact Below.refl _ _) | (with_reducible refine Below.setCell ?_ (by first | omega | (simp; done) | (simp; omega)) _) | (with_reducible refine Below.alloc ?_ (by first | omega | (simp; done) | (simp; omega)) _) | (with_reducible refine Below.drew ?_) | (with_reducible refine below_drewN ?_ _) | (with_reducible refine Below.trans ?_ (Below.mono (by assumption) (by first | omega | (simp; done) | (simp; omega)))))))).mono ?_); rintro e w21 ⟨a21, q21, rfl, N21, hb21⟩)
  have N21 := Lib.hid N21
  obtain ⟨hc21, hf21, hz21⟩ := bcall hb21
  (try simp at hc21 hf21 hz21)
  go_wp2_with fail
  (go_at_call 20; (refine (TA2.out _ (by (repeat' (first | (with_reducible exact Below.refl _ _) | (with_reducible refine Below.setCell ?_ (by first | omega | (simp; done) | (simp; omega)) _) | (with_reducible refine Below.alloc ?_ (by first | omega | (simp; done) | (simp; omega)) _) | (with_reducible refine Below.drew ?_) | (with_reducible refine below_drewN ?_ _) | (with_reducible refine Below.trans ?_ (Below.mono (by assumption) (by first | omega | (simp; done) | (simp; omega)))))))).mono ?_); rintro e w22 ⟨a22, q22, rfl, N22, hb22⟩)
  have N22 := Lib.hid N22
  obtain ⟨hc22, hf22, hz22⟩ := bcall hb22
  (try simp at hc22 hf22 hz22)
  go_wp2_with fail
  (go_at_call 21; (refine (sameInts6_yes a21 a22 tk q21 q22 TK _ ht (N21.out.below (by (repeat' (first | (with_reducible exact Below.refl _ _) | (with_reducible refine Below.setCell ?_ (by first | omega | (simp; done) | (simp; omega)) _) | (with_reducible refine Below.alloc ?_ (by first | omega | (simp; done) | (simp; omega)) _) | (with_reducible refine Below.drew ?_) | (with_reducible refine below_drewN ?_ _) | (with_reducible refine Below.trans ?_ (Below.mono (by assumption) (by first | omega | (simp; done) | (simp; omega)))))))) (N22.out.below (by (repeat' (first | (with_reducible exact Below.refl _ _) | (with_reducible refine Below.setCell ?_ (by first | omega | (simp; done) | (simp; omega)) _) | (with_reducible refine Below.alloc ?_ (by first | omega | (simp; done) | (simp; omega)) _) | (with_reducible refine Below.drew ?_) | (with_reducible refine below_drewN ?_ _) | (with_reducible refine Below.trans ?_ (Below.mono (by assumption) (by first | omega | (simp; done) | (simp; omega))))))))).mono ?_); rintro e w22s ⟨rfl, hb22s⟩)
  obtain ⟨hc22s, hf22s, hz22s⟩ := bcall hb22s
  (try simp at hc22s hf22s hz22s)
  go_wp2_with fail
  (go_at_call 22; (refine (PR1.out _ (by (repeat' (first | (with_reducible exact Below.refl _ _) | (with_reducible refine Below.setCell ?_ (by first | omega | (simp; done) | (simp; omega)) _) | (with_reducible refine Below.alloc ?_ (by first | omega | (simp; done) | (simp; omega)) _) | (with_reducible refine Below.drew ?_) | (with_reducible refine below_drewN ?_ _) | (with_reducible refine Below.trans ?_ (Below.mono (by assumption) (by first | omega | (simp; done) | (simp; omega)))))))).mono ?_); rintro e w23 ⟨a23, q23, rfl, N23, hb23⟩)
  have N23 := Lib.hid N23
  obtain ⟨hc23, hf23, hz23⟩ := bcall hb23
  (try simp at hc23 hf23 hz23)
  go_wp2_with fail
  (go_at_call 23; (refine (PR2.out _ (by (repeat' (first | (with_reducible exact Below.refl _ _) | (with_reducible refine Below.setCell ?_ (by first | omega | (simp; done) | (simp; omega)) _) | (with_reducible refine Below.alloc ?_ (by first | omega | (simp; done) | (simp; omega)) _) | (with_reducible refine Below.drew ?_) | (with_reducible refine below_drewN ?_ _) | (with_reducible refine Below.trans ?_ (Below.mono (by assumption) (by first | omega | (simp; done) | (simp; omega)))))))).mono ?_); rintro e w24 ⟨a24, q24, rfl, N24, hb24⟩)
  have N24 := Lib.hid N24
  obtain ⟨hc24, hf24, hz24⟩ := bcall hb24
  (try simp at hc24 hf24 hz24)
  go_wp2_with fail
  (go_at_call 21; (refine (sameInts6_yes a23 a24 rk q23 q24 RK _ hr (N23.out.below (by (repeat' (first | (with_reducible exact Below.refl _ _) | (with_reducible refine Below.setCell ?_ (by first | omega | (simp; done) | (simp; omega)) _) | (with_reducible refine Below.alloc ?_ (by first | omega | (simp; done) | (simp; omega)) _) | (with_reducible refine Below.drew ?_) | (with_reducible refine below_drewN ?_ _) | (with_reducible refine Below.trans ?_ (Below.mono (by assumption) (by first | omega | (simp; done) | (simp; omega)))))))) (N24.out.below (by (repeat' (first | (with_reducible exact Below.refl _ _) | (with_reducible refine Below.setCell ?_ (by first | omega | (simp; done) | (simp; omega)) _) | (with_reducible refine Below.alloc ?_ (by first | omega | (simp; done) | (simp; omega)) _) | (with_reducible refine Below.drew ?_) | (with_reducible refine below_drewN ?_ _) | (with_reducible refine Below.trans ?_ (Below.mono (by assumption) (by first | omega | (simp; done) | (simp; omega))))))))).mono ?_); rintro e w24s ⟨rfl, hb24s⟩)
  obtain ⟨hc24s, hf24s, hz24s⟩ := bcall hb24s
  (try simp at hc24s hf24s hz24s)
  go_wp2
  go_ret
  refine ⟨by simp, ?_⟩
  (repeat' (first | (with_reducible exact Below.refl _ _) | (with_reducible refine Below.setCell ?_ (by first | omega | (simp; done) | (simp; omega)) _) | (with_reducible refine Below.alloc ?_ (by first | omega | (simp; done) | (simp; omega)) _) | (with_reducible refine Below.drew ?_) | (with_reducible refine below_drewN ?_ _) | (with_reducible refine Below.trans ?_ (Below.mono (by assumption) (by first | omega | (simp; done) | (simp; omega))))))
set_option maxRecDepth 100000 in
set_option maxHeartbeats 32000000 in
theorem fm_ok (W H a0 a1 b0 b1 wi hi ax : Int) (ao : Option Addr) (n cap : Nat) (c1 c2 d1 d2 d3 v1 v2 v3 v4 v5 p1 p2 p3 t1 r1 : Int) (tk rk : Nat) (TK RK : Nat → Int) (w : World) (hM : Mvs w) (ht : tk ≤ 1000000) (hr : rk ≤ 1000000)
    (BG : ∀ wx, Calls Tryd.prog 10 #[.agg #[.int .i64 W, .int .i64 H, .slice (ao) n cap]] wx fun e w' => e = .returned (.bool false) ∧ Below wx.heap.size wx w')
    (CE1 : ∀ wx, Below w.heap.size w wx → Calls Tryd.prog 11 #[.agg #[.int .i64 W, .int .i64 H, .slice (ao) n cap], .agg #[.int .i64 a0, .int .i64 a1], .agg #[.int .i64 b0, .int .i64 b1]] wx fun e w' => e = .returned (.tuple #[.int .i64 c1, .int .i64 c2]) ∧ Below wx.heap.size wx w')
    (CE2 : ∀ wx, Below w.heap.size w wx → Calls Tryd.prog 12 #[.agg #[.int .i64 W, .int .i64 H, .slice (ao) n cap], .agg #[.int .i64 a0, .int .i64 a1], .agg #[.int .i64 b0, .int .i64 b1]] wx fun e w' => e = .returned (.tuple #[.int .i64 c1, .int .i64 c2]) ∧ Below wx.heap.size wx w')
    (DE1 : ∀ wx, Below w.heap.size w wx → Calls Tryd.prog 13 #[.agg #[.int .i64 W, .int .i64 H, .slice (ao) n cap], .agg #[.int .i64 a0, .int .i64 a1], .agg #[.int .i64 b0, .int .i64 b1]] wx fun e w' => e = .returned (.tuple #[.agg #[.int .i64 d1, .int .i64 d2], .int .i64 d3]) ∧ Below wx.heap.size wx w')
    (DE2 : ∀ wx, Below w.heap.size w wx → Calls Tryd.prog 14 #[.agg #[.int .i64 W, .int .i64 H, .slice (ao) n cap], .agg #[.int .i64 a0, .int .i64 a1], .agg #[.int .i64 b0, .int .i64 b1]] wx fun e w' => e = .returned (.tuple #[.agg #[.int .i64 d1, .int .i64 d2], .int .i64 d3]) ∧ Below wx.heap.size wx w')
    (VE1 : ∀ wx, Below w.heap.size w wx → Calls Tryd.prog 15 #[.agg #[.int .i64 W, .int .i64 H, .slice (ao) n cap], .agg #[.int .i64 a0, .int .i64 a1], .agg #[.int .i64 b0, .int .i64 b1]] wx fun e w' => e = .returned (.tuple #[.agg #[.int .i64 v1, .int .i64 v2], .agg #[.int .i64 v3, .int .i64 v4], .int .i64 v5]) ∧ Below wx.heap.size wx w')
    (VE2 : ∀ wx, Below w.heap.size w wx → Calls Tryd.prog 16 #[.agg #[.int .i64 W, .int .i64 H, .slice (ao) n cap], .agg #[.int .i64 a0, .int .i64 a1], .agg #[.int .i64 b0, .int .i64 b1]] wx fun e w' => e = .returned (.tuple #[.agg #[.int .i64 v1, .int .i64 v2], .agg #[.int .i64 v3, .int .i64 v4], .int .i64 v5]) ∧ Below wx.heap.size wx w')
    (DN1 : ∀ wx, Below w.heap.size w wx → Calls Tryd.prog 17 #[.agg #[.int .i64 W, .int .i64 H, .slice (ao) n cap], .int .i64 wi, .int .i64 hi] wx fun e w' => e = .returned (.tuple #[.agg #[.int .i64 p1, .int .i64 p2], .int .i64 p3]) ∧ Below wx.heap.size wx w')
    (DN2 : ∀ wx, Below w.heap.size w wx → Calls Tryd.prog 18 #[.agg #[.int .i64 W, .int .i64 H, .slice (ao) n cap], .int .i64 wi, .int .i64 hi] wx fun e w' => e = .returned (.tuple #[.agg #[.int .i64 p1, .int .i64 p2], .int .i64 p3]) ∧ Below wx.heap.size wx w')
    (TA1 : ∀ wx, Below w.heap.size w wx → Calls Tryd.prog 19 #[.agg #[.int .i64 W, .int .i64 H, .slice (ao) n cap], .int .i64 wi, .int .i64 hi] wx fun e w' => GaveI t1 tk TK wx e w')
    (TA2 : ∀ wx, Below w.heap.size w wx → Calls Tryd.prog 20 #[.agg #[.int .i64 W, .int .i64 H, .slice (ao) n cap], .int .i64 wi, .int .i64 hi] wx fun e w' => GaveI t1 tk TK wx e w')
    (PR1 : ∀ wx, Below w.heap.size w wx → Calls Tryd.prog 22 #[.agg #[.int .i64 W, .int .i64 H, .slice (ao) n cap], .int .i64 ax] wx fun e w' => GaveI r1 rk RK wx e w')
    (PR2 : ∀ wx, Below w.heap.size w wx → Calls Tryd.prog 23 #[.agg #[.int .i64 W, .int .i64 H, .slice (ao) n cap], .int .i64 ax] wx fun e w' => GaveI r1 rk RK wx e w') (her : r1 = 0) (hB : ∀ k, k ≤ rk → -1000000000000000 ≤ sm rk RK - sm k RK ∧ sm rk RK - sm k RK ≤ 1000000000000000)
    (MS : ∀ wx, Below w.heap.size w wx → Calls Tryd.prog 24 #[.agg #[.int .i64 W, .int .i64 H, .slice (ao) n cap]] wx fun e w' => e = .returned (.tuple #[.int .i64 (sm rk RK), .int .i64 0]) ∧ Below wx.heap.size wx w') :
    Calls Tryd.prog 3 #[.agg #[.int .i64 W, .int .i64 H, .slice (ao) n cap], .agg #[.int .i64 a0, .int .i64 a1], .agg #[.int .i64 b0, .int .i64 b1], .int .i64 wi, .int .i64 hi, .int .i64 ax] w fun e w' => e = .returned (.bool true) ∧ Below w.heap.size w w' := by
  have HM := Lib.hid hM
  have BG := Lib.hid BG
  have CE1 := Lib.hid CE1
  have CE2 := Lib.hid CE2
  have DE1 := Lib.hid DE1
  have DE2 := Lib.hid DE2
  have VE1 := Lib.hid VE1
  have VE2 := Lib.hid VE2
  have DN1 := Lib.hid DN1
  have DN2 := Lib.hid DN2
  have TA1 := Lib.hid TA1
  have TA2 := Lib.hid TA2
  have PR1 := Lib.hid PR1
  have PR2 := Lib.hid PR2
  have MS := Lib.hid MS
  have HB := Lib.hid hB
  subst her
  clear hM hB
  go_enter Tryd.func3, Tryd.ntmps3
  go_wp2_with (first | (go_at_call 9; (with_reducible refine (awake08_any _ (HM.out.below (by (repeat' (first | (with_reducible exact Below.refl _ _) | (with_reducible refine Below.setCell ?_ (by first | omega | (simp; done) | (simp; omega)) _) | (with_reducible refine Below.alloc ?_ (by first | omega | (simp; done) | (simp; omega)) _) | (with_reducible refine Below.drew ?_) | (with_reducible refine below_drewN ?_ _) | (with_reducible refine Below.trans ?_ (Below.mono (by assumption) (by first | omega | (simp; done) | (simp; omega))))))))).mono ?_); rintro e w1 ⟨rfl, hb⟩; obtain ⟨hc, hf, hz⟩ := bcall hb; (try simp at hc hf hz)) | (go_at_call 10; (with_reducible refine (BG.out _).mono ?_); rintro e w1 ⟨rfl, hb⟩; obtain ⟨hc, hf, hz⟩ := bcall hb; (try simp at hc hf hz)) | (go_at_call 11; (with_reducible refine (CE1.out _ (by (repeat' (first | (with_reducible exact Below.refl _ _) | (with_reducible refine Below.setCell ?_ (by first | omega | (simp; done) | (simp; omega)) _) | (with_reducible refine Below.alloc ?_ (by first | omega | (simp; done) | (simp; omega)) _) | (with_reducible refine Below.drew ?_) | (with_reducible refine below_drewN ?_ _) | (with_reducible refine Below.trans ?_ (Below.mono (by assumption) (by first | omega | (simp; done) | (simp; omega)))))))).mono ?_); rintro e w1 ⟨rfl, hb⟩; obtain ⟨hc, hf, hz⟩ := bcall hb; (try simp at hc hf hz)) | (go_at_call 12; (with_reducible refine (CE2.out _ (by (repeat' (first | (with_reducible exact Below.refl _ _) | (with_reducible refine Below.setCell ?_ (by first | omega | (simp; done) | (simp; omega)) _) | (with_reducible refine Below.alloc ?_ (by first | omega | (simp; done) | (simp; omega)) _) | (with_reducible refine Below.drew ?_) | (with_reducible refine below_drewN ?_ _) | (with_reducible refine Below.trans ?_ (Below.mono (by assumption) (by first | omega | (simp; done) | (simp; omega)))))))).mono ?_); rintro e w1 ⟨rfl, hb⟩; obtain ⟨hc, hf, hz⟩ := bcall hb; (try simp at hc hf hz)) | (go_at_call 13; (with_reducible refine (DE1.out _ (by (repeat' (first | (with_reducible exact Below.refl _ _) | (with_reducible refine Below.setCell ?_ (by first | omega | (simp; done) | (simp; omega)) _) | (with_reducible refine Below.alloc ?_ (by first | omega | (simp; done) | (simp; omega)) _) | (with_reducible refine Below.drew ?_) | (with_reducible refine below_drewN ?_ _) | (with_reducible refine Below.trans ?_ (Below.mono (by assumption) (by first | omega | (simp; done) | (simp; omega)))))))).mono ?_); rintro e w1 ⟨rfl, hb⟩; obtain ⟨hc, hf, hz⟩ := bcall hb; (try simp at hc hf hz)) | (go_at_call 14; (with_reducible refine (DE2.out _ (by (repeat' (first | (with_reducible exact Below.refl _ _) | (with_reducible refine Below.setCell ?_ (by first | omega | (simp; done) | (simp; omega)) _) | (with_reducible refine Below.alloc ?_ (by first | omega | (simp; done) | (simp; omega)) _) | (with_reducible refine Below.drew ?_) | (with_reducible refine below_drewN ?_ _) | (with_reducible refine Below.trans ?_ (Below.mono (by assumption) (by first | omega | (simp; done) | (simp; omega)))))))).mono ?_); rintro e w1 ⟨rfl, hb⟩; obtain ⟨hc, hf, hz⟩ := bcall hb; (try simp at hc hf hz)) | (go_at_call 15; (with_reducible refine (VE1.out _ (by (repeat' (first | (with_reducible exact Below.refl _ _) | (with_reducible refine Below.setCell ?_ (by first | omega | (simp; done) | (simp; omega)) _) | (with_reducible refine Below.alloc ?_ (by first | omega | (simp; done) | (simp; omega)) _) | (with_reducible refine Below.drew ?_) | (with_reducible refine below_drewN ?_ _) | (with_reducible refine Below.trans ?_ (Below.mono (by assumption) (by first | omega | (simp; done) | (simp; omega)))))))).mono ?_); rintro e w1 ⟨rfl, hb⟩; obtain ⟨hc, hf, hz⟩ := bcall hb; (try simp at hc hf hz)) | (go_at_call 16; (with_reducible refine (VE2.out _ (by (repeat' (first | (with_reducible exact Below.refl _ _) | (with_reducible refine Below.setCell ?_ (by first | omega | (simp; done) | (simp; omega)) _) | (with_reducible refine Below.alloc ?_ (by first | omega | (simp; done) | (simp; omega)) _) | (with_reducible refine Below.drew ?_) | (with_reducible refine below_drewN ?_ _) | (with_reducible refine Below.trans ?_ (Below.mono (by assumption) (by first | omega | (simp; done) | (simp; omega)))))))).mono ?_); rintro e w1 ⟨rfl, hb⟩; obtain ⟨hc, hf, hz⟩ := bcall hb; (try simp at hc hf hz)) | (go_at_call 17; (with_reducible refine (DN1.out _ (by (repeat' (first | (with_reducible exact Below.refl _ _) | (with_reducible refine Below.setCell ?_ (by first | omega | (simp; done) | (simp; omega)) _) | (with_reducible refine Below.alloc ?_ (by first | omega | (simp; done) | (simp; omega)) _) | (with_reducible refine Below.drew ?_) | (with_reducible refine below_drewN ?_ _) | (with_reducible refine Below.trans ?_ (Below.mono (by assumption) (by first | omega | (simp; done) | (simp; omega)))))))).mono ?_); rintro e w1 ⟨rfl, hb⟩; obtain ⟨hc, hf, hz⟩ := bcall hb; (try simp at hc hf hz)) | (go_at_call 18; (with_reducible refine (DN2.out _ (by (repeat' (first | (with_reducible exact Below.refl _ _) | (with_reducible refine Below.setCell ?_ (by first | omega | (simp; done) | (simp; omega)) _) | (with_reducible refine Below.alloc ?_ (by first | omega | (simp; done) | (simp; omega)) _) | (with_reducible refine Below.drew ?_) | (with_reducible refine below_drewN ?_ _) | (with_reducible refine Below.trans ?_ (Below.mono (by assumption) (by first | omega | (simp; done) | (simp; omega)))))))).mono ?_); rintro e w1 ⟨rfl, hb⟩; obtain ⟨hc, hf, hz⟩ := bcall hb; (try simp at hc hf hz)))
  (go_at_call 19; (refine (TA1.out _ (by (repeat' (first | (with_reducible exact Below.refl _ _) | (with_reducible refine Below.setCell ?_ (by first | omega | (simp; done) | (simp; omega)) _) | (with_reducible refine Below.alloc ?_ (by first | omega | (simp; done) | (simp; omega)) _) | (with_reducible refine Below.drew ?_) | (with_reducible refine below_drewN ?_ _) | (with_reducible refine Below.trans ?_ (Below.mono (by assumption) (by first | omega | (simp; done) | (simp; omega)))))))).mono ?_); rintro e w21 ⟨a21, q21, rfl, N21, hb21⟩)
  have N21 := Lib.hid N21
  obtain ⟨hc21, hf21, hz21⟩ := bcall hb21
  (try simp at hc21 hf21 hz21)
  go_wp2_with fail
  (go_at_call 20; (refine (TA2.out _ (by (repeat' (first | (with_reducible exact Below.refl _ _) | (with_reducible refine Below.setCell ?_ (by first | omega | (simp; done) | (simp; omega)) _) | (with_reducible refine Below.alloc ?_ (by first | omega | (simp; done) | (simp; omega)) _) | (with_reducible refine Below.drew ?_) | (with_reducible refine below_drewN ?_ _) | (with_reducible refine Below.trans ?_ (Below.mono (by assumption) (by first | omega | (simp; done) | (simp; omega)))))))).mono ?_); rintro e w22 ⟨a22, q22, rfl, N22, hb22⟩)
  have N22 := Lib.hid N22
  obtain ⟨hc22, hf22, hz22⟩ := bcall hb22
  (try simp at hc22 hf22 hz22)
  go_wp2_with fail
  (go_at_call 21; (refine (sameInts6_yes a21 a22 tk q21 q22 TK _ ht (N21.out.below (by (repeat' (first | (with_reducible exact Below.refl _ _) | (with_reducible refine Below.setCell ?_ (by first | omega | (simp; done) | (simp; omega)) _) | (with_reducible refine Below.alloc ?_ (by first | omega | (simp; done) | (simp; omega)) _) | (with_reducible refine Below.drew ?_) | (with_reducible refine below_drewN ?_ _) | (with_reducible refine Below.trans ?_ (Below.mono (by assumption) (by first | omega | (simp; done) | (simp; omega)))))))) (N22.out.below (by (repeat' (first | (with_reducible exact Below.refl _ _) | (with_reducible refine Below.setCell ?_ (by first | omega | (simp; done) | (simp; omega)) _) | (with_reducible refine Below.alloc ?_ (by first | omega | (simp; done) | (simp; omega)) _) | (with_reducible refine Below.drew ?_) | (with_reducible refine below_drewN ?_ _) | (with_reducible refine Below.trans ?_ (Below.mono (by assumption) (by first | omega | (simp; done) | (simp; omega))))))))).mono ?_); rintro e w22s ⟨rfl, hb22s⟩)
  obtain ⟨hc22s, hf22s, hz22s⟩ := bcall hb22s
  (try simp at hc22s hf22s hz22s)
  go_wp2_with fail
  (go_at_call 22; (refine (PR1.out _ (by (repeat' (first | (with_reducible exact Below.refl _ _) | (with_reducible refine Below.setCell ?_ (by first | omega | (simp; done) | (simp; omega)) _) | (with_reducible refine Below.alloc ?_ (by first | omega | (simp; done) | (simp; omega)) _) | (with_reducible refine Below.drew ?_) | (with_reducible refine below_drewN ?_ _) | (with_reducible refine Below.trans ?_ (Below.mono (by assumption) (by first | omega | (simp; done) | (simp; omega)))))))).mono ?_); rintro e w23 ⟨a23, q23, rfl, N23, hb23⟩)
  have N23 := Lib.hid N23
  obtain ⟨hc23, hf23, hz23⟩ := bcall hb23
  (try simp at hc23 hf23 hz23)
  go_wp2_with fail
  (go_at_call 23; (refine (PR2.out _ (by (repeat' (first | (with_reducible exact Below.refl _ _) | (with_reducible refine Below.setCell ?_ (by first | omega | (simp; done) | (simp; omega)) _) | (with_reducible refine Below.alloc ?_ (by first | omega | (simp; done) | (simp; omega)) _) | (with_reducible refine Below.drew ?_) | (with_reducible refine below_drewN ?_ _) | (with_reducible refine Below.trans ?_ (Below.mono (by assumption) (by first | omega | (simp; done) | (simp; omega)))))))).mono ?_); rintro e w24 ⟨a24, q24, rfl, N24, hb24⟩)
  have N24 := Lib.hid N24
  obtain ⟨hc24, hf24, hz24⟩ := bcall hb24
  (try simp at hc24 hf24 hz24)
  go_wp2_with fail
  (go_at_call 21; (refine (sameInts6_yes a23 a24 rk q23 q24 RK _ hr (N23.out.below (by (repeat' (first | (with_reducible exact Below.refl _ _) | (with_reducible refine Below.setCell ?_ (by first | omega | (simp; done) | (simp; omega)) _) | (with_reducible refine Below.alloc ?_ (by first | omega | (simp; done) | (simp; omega)) _) | (with_reducible refine Below.drew ?_) | (with_reducible refine below_drewN ?_ _) | (with_reducible refine Below.trans ?_ (Below.mono (by assumption) (by first | omega | (simp; done) | (simp; omega)))))))) (N24.out.below (by (repeat' (first | (with_reducible exact Below.refl _ _) | (with_reducible refine Below.setCell ?_ (by first | omega | (simp; done) | (simp; omega)) _) | (with_reducible refine Below.alloc ?_ (by first | omega | (simp; done) | (simp; omega)) _) | (with_reducible refine Below.drew ?_) | (with_reducible refine below_drewN ?_ _) | (with_reducible refine Below.trans ?_ (Below.mono (by assumption) (by first | omega | (simp; done) | (simp; omega))))))))).mono ?_); rintro e w24s ⟨rfl, hb24s⟩)
  obtain ⟨hc24s, hf24s, hz24s⟩ := bcall hb24s
  (try simp at hc24s hf24s hz24s)
  go_wp2_with (go_at_call 24; (with_reducible refine (MS.out _ (by (repeat' (first | (with_reducible exact Below.refl _ _) | (with_reducible refine Below.setCell ?_ (by first | omega | (simp; done) | (simp; omega)) _) | (with_reducible refine Below.alloc ?_ (by first | omega | (simp; done) | (simp; omega)) _) | (with_reducible refine Below.drew ?_) | (with_reducible refine below_drewN ?_ _) | (with_reducible refine Below.trans ?_ (Below.mono (by assumption) (by first | omega | (simp; done) | (simp; omega)))))))).mono ?_); rintro e w1 ⟨rfl, hb⟩; obtain ⟨hc, hf, hz⟩ := bcall hb; (try simp at hc hf hz))
  obtain ⟨wl, hwl⟩ : ∃ wl, wl = w1 := ⟨_, rfl⟩
  subst hwl
  rcases Nat.eq_zero_or_pos rk with h0 | h0
  · subst h0
    simp only [sm]
    refine wp_loop_rounds 1 ?_
    rw [rounds_succ]
    go_wp2
    go_ret
    refine ⟨by simp, ?_⟩
    (repeat' (first | (with_reducible exact Below.refl _ _) | (with_reducible refine Below.setCell ?_ (by first | omega | (simp; done) | (simp; omega)) _) | (with_reducible refine Below.alloc ?_ (by first | omega | (simp; done) | (simp; omega)) _) | (with_reducible refine Below.drew ?_) | (with_reducible refine below_drewN ?_ _) | (with_reducible refine Below.trans ?_ (Below.mono (by assumption) (by first | omega | (simp; done) | (simp; omega))))))
  · have N5 := N23.out.below (show Below w23.heap.size w23 wl by (repeat' (first | (with_reducible exact Below.refl _ _) | (with_reducible refine Below.setCell ?_ (by first | omega | (simp; done) | (simp; omega)) _) | (with_reducible refine Below.alloc ?_ (by first | omega | (simp; done) | (simp; omega)) _) | (with_reducible refine Below.drew ?_) | (with_reducible refine below_drewN ?_ _) | (with_reducible refine Below.trans ?_ (Below.mono (by assumption) (by first | omega | (simp; done) | (simp; omega)))))))
    obtain ⟨g, o, rfl, hg, hc⟩ := numsAt_of N5 h0
    have HC := Lib.hid hc
    clear hc N5
    go_loopw [27, 29] (fun a i wr => ∃ k : Nat, k ≤ rk ∧ i = .int .i64 (k : Int) ∧ a = .int .i64 (sm rk RK - sm k RK) ∧ Below wl.heap.size wl wr) (fun _ i _ => rk - (Go.RowKit.intOf i).toNat)
    case atStart => exact ⟨0, Nat.zero_le _, rfl, by simp [sm], Below.refl _ _⟩
    case round =>
      obtain ⟨k, hk, rfl, rfl, hB⟩ := hrel
      have hbk := HB.out k hk
      by_cases hlk : k < rk
      · have hbk2 := HB.out (k + 1) hlk
        have c0 := HC.out.get hB hg hlk
        have p0 : (0 : Int) ≤ (k : Int) := by omega
        have p1 : (k : Int) < (rk : Int) := by omega
        have hs : sm rk RK - sm (k + 1) RK = sm rk RK - sm k RK - RK k := by simp only [sm]; omega
        rw [hs] at hbk2
        have HSS := Lib.hid hs
        obtain ⟨x, hx⟩ : ∃ x, x = sm rk RK - sm k RK := ⟨_, rfl⟩
        rw [← hx] at hbk2 HSS ⊢
        obtain ⟨y, hy⟩ : ∃ y, y = RK k := ⟨_, rfl⟩
        rw [← hy] at hbk2 HSS c0
        have e5 : IntKind.i64.wrap (x - y) = x - y := IntWalk.i64_in _ ⟨by omega, by omega⟩
        clear hs hx hy hbk hbk2
        go_wp2
        go_roundw
        case rel => exact ⟨k + 1, by omega, by go_num, by rw [HSS.out], hB⟩
        case measure => simp [Go.RowKit.intOf]; omega
      · obtain rfl : rk = k := by omega
        have h00 : sm rk RK - sm rk RK = 0 := by omega
        rw [h00]
        clear h00 hbk
        go_wp2
        go_ret
        refine ⟨by simp, ?_⟩
        (repeat' (first | (with_reducible exact Below.refl _ _) | (with_reducible refine Below.setCell ?_ (by first | omega | (simp; done) | (simp; omega)) _) | (with_reducible refine Below.alloc ?_ (by first | omega | (simp; done) | (simp; omega)) _) | (with_reducible refine Below.drew ?_) | (with_reducible refine below_drewN ?_ _) | (with_reducible refine Below.trans ?_ (Below.mono (by assumption) (by first | omega | (simp; done) | (simp; omega))))))
end Go.Proofs.YtmdeooflgkjbbaaDoor

/- What both sides give of a grid's means: the same. -/






namespace Go.Proofs.YtmdeooflgkjbbaaDoor
set_option linter.unusedSimpArgs false
set_option linter.unusedVariables false
open Go.RowKit Go.Shelf
attribute [local go_sem] Oper.semAt_some

/-- Corners that are right, as natural numbers. -/
theorem blkOk_nat {W H ax ay bx yb : Int} (h : BlkOk W H ax ay bx yb) : ∃ a b c d : Nat, ax = a ∧ ay = b ∧ bx = c ∧ yb = d ∧ a ≤ c ∧ (c : Int) < W ∧ b ≤ d ∧ (d : Int) < H := by
  obtain ⟨⟨⟨⟨k1, k2⟩, k3, k4⟩, ⟨k5, k6⟩, k7, k8⟩, k9, k10⟩ := h
  exact ⟨ax.toNat, ay.toNat, bx.toNat, yb.toNat, by omega, by omega, by omega, by omega, by omega, by omega, by omega, by omega⟩
theorem gaveI_of {K : Nat → Int} {k : Nat} (h1 : 1 ≤ k) {wx w' : World} {e : Ending} (h : ∃ v, e = .returned (.tuple #[v, .int .i64 0]) ∧ w'.ownsRow wx.heap.size 3 1 v k (iV (fnL K k)) ∧ Below wx.heap.size wx w') : GaveI 0 k K wx e w' := by
  obtain ⟨v, rfl, hr, hb⟩ := h
  have h' := hr
  rcases hr.2 with ⟨_, h0⟩ | ⟨g, c, cur, rfl, hg, hh, _⟩
  · omega
  · refine ⟨_, c, rfl, .inr ⟨g, 0, rfl, (Array.getElem?_eq_some_iff.1 hh).1, fun i hi => ?_⟩, hb⟩
    rw [Nat.zero_add, h'.cellAt i (by omega)]
    exact iV_get (fnL_get K hi)
theorem gaveI_nil {er : Int} {K : Nat → Int} {wx w' : World} {e : Ending} (h : e = .returned (.tuple #[.slice none 0 0, .int .i64 er]) ∧ Below wx.heap.size wx w') : GaveI er 0 K wx e w' :=
  ⟨none, 0, h.1, .inl rfl, h.2⟩
section
variable (W H : Int) (ao : Option Addr) (n cap : Nat) (G : Nat → Nat → Int) (w : World) (hC : CellsIn w ao n G)
include hC
theorem cells_both (a0 a1 b0 b1 : Int) : ∃ x er : Int, (∀ wx, Below w.heap.size w wx → Calls Tryd.prog 11 #[.agg #[.int .i64 W, .int .i64 H, .slice (ao) n cap], .agg #[.int .i64 a0, .int .i64 a1], .agg #[.int .i64 b0, .int .i64 b1]] wx fun e w' => e = .returned (.tuple #[.int .i64 x, .int .i64 er]) ∧ Below wx.heap.size wx w') ∧
    (∀ wx, Below w.heap.size w wx → Calls Tryd.prog 12 #[.agg #[.int .i64 W, .int .i64 H, .slice (ao) n cap], .agg #[.int .i64 a0, .int .i64 a1], .agg #[.int .i64 b0, .int .i64 b1]] wx fun e w' => e = .returned (.tuple #[.int .i64 x, .int .i64 er]) ∧ Below wx.heap.size wx w') := by
  by_cases hv : VG W H n G
  · by_cases hk : BlkOk W H a0 a1 b0 b1
    · obtain ⟨W', H', rfl, rfl, s, hG⟩ := Sides.vg hv
      obtain ⟨b, off, rfl, hlt, hGr⟩ := cells_of s hC
      obtain ⟨ax, ay, bx, yb, rfl, rfl, rfl, rfl, h1, h2, h3, h4⟩ := blkOk_nat hk
      exact ⟨_, _, fun wx hb => fCells_ok W' H' n cap b off G ax ay bx yb wx s hG (Nat.lt_of_lt_of_le hlt hb.size) (hGr.below hb hlt) h1 (by omega) h3 (by omega),
        fun wx hb => rCells_ok W' H' n cap b off G ax ay bx yb wx s hG (Nat.lt_of_lt_of_le hlt hb.size) (hGr.below hb hlt) h1 (by omega) h3 (by omega)⟩
    · exact ⟨_, _, fun wx hb => fCells_rng W H ao n cap G a0 a1 b0 b1 wx (hC.below hb) hv hk, fun wx hb => rCells_rng W H ao n cap G a0 a1 b0 b1 wx (hC.below hb) hv hk⟩
  · exact ⟨_, _, fun wx hb => fCells_bad W H ao n cap G a0 a1 b0 b1 wx (hC.below hb) hv, fun wx hb => rCells_bad W H ao n cap G a0 a1 b0 b1 wx (hC.below hb) hv⟩
theorem dens_both (a0 a1 b0 b1 : Int) : ∃ x y er : Int, (∀ wx, Below w.heap.size w wx → Calls Tryd.prog 13 #[.agg #[.int .i64 W, .int .i64 H, .slice (ao) n cap], .agg #[.int .i64 a0, .int .i64 a1], .agg #[.int .i64 b0, .int .i64 b1]] wx fun e w' => e = .returned (.tuple #[.agg #[.int .i64 x, .int .i64 y], .int .i64 er]) ∧ Below wx.heap.size wx w') ∧
    (∀ wx, Below w.heap.size w wx → Calls Tryd.prog 14 #[.agg #[.int .i64 W, .int .i64 H, .slice (ao) n cap], .agg #[.int .i64 a0, .int .i64 a1], .agg #[.int .i64 b0, .int .i64 b1]] wx fun e w' => e = .returned (.tuple #[.agg #[.int .i64 x, .int .i64 y], .int .i64 er]) ∧ Below wx.heap.size wx w') := by
  by_cases hv : VG W H n G
  · by_cases hk : BlkOk W H a0 a1 b0 b1
    · obtain ⟨W', H', rfl, rfl, s, hG⟩ := Sides.vg hv
      obtain ⟨b, off, rfl, hlt, hGr⟩ := cells_of s hC
      obtain ⟨ax, ay, bx, yb, rfl, rfl, rfl, rfl, h1, h2, h3, h4⟩ := blkOk_nat hk
      exact ⟨_, _, _, fun wx hb => fdens_bl W' H' n cap b off G ax ay bx yb wx s hG (Nat.lt_of_lt_of_le hlt hb.size) (hGr.below hb hlt) h1 (by omega) h3 (by omega),
        fun wx hb => rDens_ok W' H' n cap b off G ax ay bx yb wx s hG (Nat.lt_of_lt_of_le hlt hb.size) (hGr.below hb hlt) h1 (by omega) h3 (by omega)⟩
    · exact ⟨_, _, _, fun wx hb => fDensity_rng W H ao n cap G a0 a1 b0 b1 wx (hC.below hb) hv hk, fun wx hb => rDensity_rng W H ao n cap G a0 a1 b0 b1 wx (hC.below hb) hv hk⟩
  · exact ⟨_, _, _, fun wx hb => fDensity_bad W H ao n cap G a0 a1 b0 b1 wx (hC.below hb) hv, fun wx hb => rDensity_bad W H ao n cap G a0 a1 b0 b1 wx (hC.below hb) hv⟩
theorem vel_both (a0 a1 b0 b1 : Int) : ∃ x y z u er : Int, (∀ wx, Below w.heap.size w wx → Calls Tryd.prog 15 #[.agg #[.int .i64 W, .int .i64 H, .slice (ao) n cap], .agg #[.int .i64 a0, .int .i64 a1], .agg #[.int .i64 b0, .int .i64 b1]] wx fun e w' => e = .returned (.tuple #[.agg #[.int .i64 x, .int .i64 y], .agg #[.int .i64 z, .int .i64 u], .int .i64 er]) ∧ Below wx.heap.size wx w') ∧
    (∀ wx, Below w.heap.size w wx → Calls Tryd.prog 16 #[.agg #[.int .i64 W, .int .i64 H, .slice (ao) n cap], .agg #[.int .i64 a0, .int .i64 a1], .agg #[.int .i64 b0, .int .i64 b1]] wx fun e w' => e = .returned (.tuple #[.agg #[.int .i64 x, .int .i64 y], .agg #[.int .i64 z, .int .i64 u], .int .i64 er]) ∧ Below wx.heap.size wx w') := by
  by_cases hv : VG W H n G
  · by_cases hk : BlkOk W H a0 a1 b0 b1
    · obtain ⟨W', H', rfl, rfl, s, hG⟩ := Sides.vg hv
      obtain ⟨b, off, rfl, hlt, hGr⟩ := cells_of s hC
      obtain ⟨ax, ay, bx, yb, rfl, rfl, rfl, rfl, h1, h2, h3, h4⟩ := blkOk_nat hk
      have h2 : bx < W' := by omega
      have h4 : yb < H' := by omega
      have hbd := blS_bd (tells_bd hG).1 s.n0 s.n1 s.w1 s.h1 h1 h2 h3 h4
      have hnn : 0 ≤ blS (msC G) W' ax ay bx yb := by
        unfold blS
        refine sumT_nn _ fun q hq => ?_
        obtain ⟨a0, a1, a2, a3, _⟩ := hG.1 q (by rw [s.n0]; exact recN_lt hq (by omega) (by omega))
        show 0 ≤ G q 0 + G q 1 + G q 2 + G q 3
        omega
      by_cases h0 : blS (msC G) W' ax ay bx yb = 0
      · exact ⟨_, _, _, _, _, fun wx hb => fVel_none W' H' n cap b off G ax ay bx yb wx s hG (Nat.lt_of_lt_of_le hlt hb.size) (hGr.below hb hlt) h1 h2 h3 h4 h0,
          fun wx hb => rVel_none W' H' n cap b off G ax ay bx yb wx s hG (Nat.lt_of_lt_of_le hlt hb.size) (hGr.below hb hlt) h1 h2 h3 h4 h0⟩
      · obtain ⟨m, hm⟩ := Int.eq_ofNat_of_zero_le hnn
        exact ⟨_, _, _, _, _, fun wx hb => fVel_ok W' H' n cap b off G ax ay bx yb wx s hG (Nat.lt_of_lt_of_le hlt hb.size) (hGr.below hb hlt) h1 h2 h3 h4 m hm (by omega) (by omega),
          fun wx hb => rVel_ok W' H' n cap b off G ax ay bx yb wx s hG (Nat.lt_of_lt_of_le hlt hb.size) (hGr.below hb hlt) h1 h2 h3 h4 m hm (by omega) (by omega)⟩
    · exact ⟨_, _, _, _, _, fun wx hb => fVel_rng W H ao n cap G a0 a1 b0 b1 wx (hC.below hb) hv hk, fun wx hb => rVel_rng W H ao n cap G a0 a1 b0 b1 wx (hC.below hb) hv hk⟩
  · exact ⟨_, _, _, _, _, fun wx hb => fVel_bad W H ao n cap G a0 a1 b0 b1 wx (hC.below hb) hv, fun wx hb => rVel_bad W H ao n cap G a0 a1 b0 b1 wx (hC.below hb) hv⟩
theorem dnst_both (wi hi : Int) : ∃ x y er : Int, (∀ wx, Below w.heap.size w wx → Calls Tryd.prog 17 #[.agg #[.int .i64 W, .int .i64 H, .slice (ao) n cap], .int .i64 wi, .int .i64 hi] wx fun e w' => e = .returned (.tuple #[.agg #[.int .i64 x, .int .i64 y], .int .i64 er]) ∧ Below wx.heap.size wx w') ∧
    (∀ wx, Below w.heap.size w wx → Calls Tryd.prog 18 #[.agg #[.int .i64 W, .int .i64 H, .slice (ao) n cap], .int .i64 wi, .int .i64 hi] wx fun e w' => e = .returned (.tuple #[.agg #[.int .i64 x, .int .i64 y], .int .i64 er]) ∧ Below wx.heap.size wx w') := by
  by_cases hv : VG W H n G
  · by_cases hk : SidOk W H wi hi
    · obtain ⟨W', H', rfl, rfl, s, hG⟩ := Sides.vg hv
      obtain ⟨b, off, rfl, hlt, hGr⟩ := cells_of s hC
      obtain ⟨⟨k1, k2⟩, k3, k4⟩ := hk
      obtain ⟨d, rfl⟩ := Int.eq_ofNat_of_zero_le (show 0 ≤ wi by omega)
      obtain ⟨f, rfl⟩ := Int.eq_ofNat_of_zero_le (show 0 ≤ hi by omega)
      obtain ⟨nx, hx⟩ : ∃ nx, nx = W' + 1 - d := ⟨_, rfl⟩
      obtain ⟨ny, hy⟩ : ∃ ny, ny = H' + 1 - f := ⟨_, rfl⟩
      obtain ⟨p, hp⟩ := bstB_some (dnsP G W' d f) (recP nx ny) (fun e => by have h := recP_len nx ny; rw [e] at h; have h2 := Nat.mul_le_mul (show 1 ≤ ny by omega) (show 1 ≤ nx by omega); simp only [List.length_nil, Nat.mul_one] at h h2; omega)
      refine ⟨p.1, p.2, 0, fun wx hb => ?_, fun wx hb => ?_⟩
      · refine (fDensest_ok W' H' n cap b off d f nx ny G wx s hG (Nat.lt_of_lt_of_le hlt hb.size) (hGr.below hb hlt) (by omega) (by omega) (by omega) (by omega) (by omega) (by omega)).mono ?_
        rintro e w' ⟨⟨q, hq, rfl⟩, hb'⟩
        rw [hp] at hq
        cases hq
        exact ⟨rfl, hb'⟩
      · refine (rDensest_ok W' H' n cap b off d f nx ny G wx s hG (Nat.lt_of_lt_of_le hlt hb.size) (hGr.below hb hlt) (by omega) (by omega) (by omega) (by omega) (by omega) (by omega)).mono ?_
        rintro e w' ⟨⟨q, hq, rfl⟩, hb'⟩
        rw [hp] at hq
        cases hq
        exact ⟨rfl, hb'⟩
    · exact ⟨_, _, _, fun wx hb => fDensest_rng W H ao n cap G wi hi wx (hC.below hb) hv hk, fun wx hb => rDensest_rng W H ao n cap G wi hi wx (hC.below hb) hv hk⟩
  · exact ⟨_, _, _, fun wx hb => fDensest_bad W H ao n cap G wi hi wx (hC.below hb) hv, fun wx hb => rDensest_bad W H ao n cap G wi hi wx (hC.below hb) hv⟩
/-- Sides that divide a grid: its table. -/
theorem table_ok (W' H' m M wi hi b off : Nat) (hW : W = W') (hH : H = H') (ha : ao = some ⟨b, off, none⟩) (s : Sides W' H' n) (hG : OkG n G) (hlt : b < w.heap.size) (hGr : Grd w b off n G) (h1 : 1 ≤ wi) (h2 : 1 ≤ hi) (hWm : W' = wi * m) (hHm : H' = hi * M) (hm1 : 1 ≤ m) (hM1 : 1 ≤ M) :
    (∀ wx, Below w.heap.size w wx → Calls Tryd.prog 19 #[.agg #[.int .i64 W, .int .i64 H, .slice (ao) n cap], .int .i64 ((wi : Int)), .int .i64 ((hi : Int))] wx fun e w' => GaveI 0 (M * m) (tabS (msC G) W' m wi hi) wx e w') ∧
    (∀ wx, Below w.heap.size w wx → Calls Tryd.prog 20 #[.agg #[.int .i64 W, .int .i64 H, .slice (ao) n cap], .int .i64 ((wi : Int)), .int .i64 ((hi : Int))] wx fun e w' => GaveI 0 (M * m) (tabS (msC G) W' m wi hi) wx e w') := by
  have h11 : 1 * 1 ≤ M * m := Nat.mul_le_mul hM1 hm1
  subst hW hH ha
  exact ⟨fun wx hb => (callsIn_wide.1 (fTable_in W' H' n cap b off wi hi m M G wx s hG (Nat.lt_of_lt_of_le hlt hb.size) (hGr.below hb hlt) h1 h2 hWm hHm hm1 hM1)).mono fun e w' h => gaveI_of (by omega) h,
    fun wx hb => (rTable_ok W' H' n cap b off wi hi m M G wx s hG (Nat.lt_of_lt_of_le hlt hb.size) (hGr.below hb hlt) h1 h2 hWm hHm hm1 hM1).mono fun e w' h => gaveI_of (by omega) h⟩
/-- What a table is: an error, or sides that divide the grid. -/
theorem table_cases (wi hi : Int) : (∃ er : Int, (er = 1 ∨ er = 7 ∨ er = 9) ∧ (∀ wx, Below w.heap.size w wx → Calls Tryd.prog 19 #[.agg #[.int .i64 W, .int .i64 H, .slice (ao) n cap], .int .i64 wi, .int .i64 hi] wx fun e w' => e = .returned (.tuple #[.slice none 0 0, .int .i64 er]) ∧ Below wx.heap.size wx w') ∧
    (∀ wx, Below w.heap.size w wx → Calls Tryd.prog 20 #[.agg #[.int .i64 W, .int .i64 H, .slice (ao) n cap], .int .i64 wi, .int .i64 hi] wx fun e w' => e = .returned (.tuple #[.slice none 0 0, .int .i64 er]) ∧ Below wx.heap.size wx w')) ∨
    (∃ W' H' m M d f b off : Nat, W = W' ∧ H = H' ∧ wi = d ∧ hi = f ∧ ao = some ⟨b, off, none⟩ ∧ Sides W' H' n ∧ OkG n G ∧ b < w.heap.size ∧ Grd w b off n G ∧ 1 ≤ d ∧ 1 ≤ f ∧ W' = d * m ∧ H' = f * M ∧ 1 ≤ m ∧ 1 ≤ M) := by
  by_cases hv : VG W H n G
  · by_cases hk : SidOk W H wi hi
    · by_cases hr : Int.tmod W wi ≠ 0 ∨ (Int.tmod W wi = 0 ∧ Int.tmod H hi ≠ 0)
      · exact .inl ⟨9, .inr (.inr rfl), fun wx hb => fTable_size W H ao n cap G wi hi wx (hC.below hb) hv hk _ _ rfl rfl hr, fun wx hb => rTable_size W H ao n cap G wi hi wx (hC.below hb) hv hk _ _ rfl rfl hr⟩
      · obtain ⟨W', H', rfl, rfl, s, hG⟩ := Sides.vg hv
        obtain ⟨b, off, rfl, hlt, hGr⟩ := cells_of s hC
        obtain ⟨⟨k1, k2⟩, k3, k4⟩ := hk
        obtain ⟨d, rfl⟩ := Int.eq_ofNat_of_zero_le (show 0 ≤ wi by omega)
        obtain ⟨f, rfl⟩ := Int.eq_ofNat_of_zero_le (show 0 ≤ hi by omega)
        have e1 : Int.tmod (W' : Int) (d : Int) = 0 := Classical.byContradiction fun h => hr (.inl h)
        have e2 : Int.tmod (H' : Int) (f : Int) = 0 := Classical.byContradiction fun h => hr (.inr ⟨e1, h⟩)
        have e1 : W' % d = 0 := by rw [Int.tmod_eq_emod_of_nonneg (by omega)] at e1; omega
        have e2 : H' % f = 0 := by rw [Int.tmod_eq_emod_of_nonneg (by omega)] at e2; omega
        have f1 := Nat.div_add_mod W' d
        have f2 := Nat.div_add_mod H' f
        have g1 : 1 ≤ W' / d := (Nat.le_div_iff_mul_le (by omega)).2 (by omega)
        have g2 : 1 ≤ H' / f := (Nat.le_div_iff_mul_le (by omega)).2 (by omega)
        exact .inr ⟨W', H', W' / d, H' / f, d, f, b, off, rfl, rfl, rfl, rfl, rfl, s, hG, hlt, hGr, by omega, by omega, by omega, by omega, g1, g2⟩
    · exact .inl ⟨7, .inr (.inl rfl), fun wx hb => fTable_rng W H ao n cap G wi hi wx (hC.below hb) hv hk, fun wx hb => rTable_rng W H ao n cap G wi hi wx (hC.below hb) hv hk⟩
  · exact .inl ⟨1, .inl rfl, fun wx hb => fTable_bad W H ao n cap G wi hi wx (hC.below hb) hv, fun wx hb => rTable_bad W H ao n cap G wi hi wx (hC.below hb) hv⟩
theorem table_both (wi hi : Int) : ∃ (er : Int) (k : Nat) (K : Nat → Int), k ≤ 1000000 ∧ (∀ wx, Below w.heap.size w wx → Calls Tryd.prog 19 #[.agg #[.int .i64 W, .int .i64 H, .slice (ao) n cap], .int .i64 wi, .int .i64 hi] wx fun e w' => GaveI er k K wx e w') ∧
    (∀ wx, Below w.heap.size w wx → Calls Tryd.prog 20 #[.agg #[.int .i64 W, .int .i64 H, .slice (ao) n cap], .int .i64 wi, .int .i64 hi] wx fun e w' => GaveI er k K wx e w') := by
  rcases table_cases W H ao n cap G w hC wi hi with ⟨er, _, h1, h2⟩ | ⟨W', H', m, M, d, f, b, off, hW, hH, rfl, rfl, ha, s, hG, hlt, hGr, k1, k2, k3, k4, k5, k6⟩
  · exact ⟨er, 0, fun _ => 0, Nat.zero_le _, fun wx hb => (h1 wx hb).mono fun e w' h => gaveI_nil h, fun wx hb => (h2 wx hb).mono fun e w' h => gaveI_nil h⟩
  · obtain ⟨h1, h2⟩ := table_ok W H ao n cap G w hC W' H' m M d f b off hW hH ha s hG hlt hGr k1 k2 k3 k4 k5 k6
    have hMm : M * m ≤ 64 * 64 := Nat.mul_le_mul (by have := Nat.le_mul_of_pos_left M k2; have := s.h1; omega) (by have := Nat.le_mul_of_pos_left m k1; have := s.w1; omega)
    exact ⟨0, M * m, _, by omega, h1, h2⟩
end
end Go.Proofs.YtmdeooflgkjbbaaDoor
