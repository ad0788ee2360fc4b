/- The law PhaseExchanges: the walk. -/
import Derived.Test.YtjlebdjnjjdnpaaDoorKExch2
import Derived.Test.YtjlebdjnjjdnpaaDoorKRefG4
import Derived.Test.YtjlebdjnjjdnpaaDoorKBase
namespace Go.Proofs.YtjlebdjnjjdnpaaDoor
set_option linter.unusedSimpArgs false
set_option linter.unusedVariables false
open Go.RowKit

set_option maxRecDepth 100000 in
set_option maxHeartbeats 2000000 in
theorem impulse_in (b off n cap : Nat) (G : Nat → Nat → Int) (w : World) (hn : n ≤ 1000000) (hok : ∀ i, i < n → Ok4 (G i 0) (G i 1) (G i 2) (G i 3)) (hlt : b < w.heap.size) (hG : Grd w b off n G) :
    Calls Tryd.prog 35 #[.slice (some ⟨b, off, none⟩) n cap] w fun e w' => e = .returned (.tuple #[.int .i64 (imE G n), .int .i64 (imN G n)]) ∧ Below w.heap.size w w' := by
  have HO := Lib.hid hok; clear hok
  have HG := Lib.hid hG; clear hG
  go_enter Tryd.func35, Tryd.ntmps35
  go_wp2
  go_loopw [4, 5, 6] (fun x y i wr => ∃ k : Nat, k ≤ n ∧ i = .int .i64 k ∧ x = .int .i64 (imE G k) ∧ y = .int .i64 (imN G k) ∧ Below w.heap.size w wr) (fun _ _ i _ => n - (intOf i).toNat)
  case atStart => exact ⟨0, Nat.zero_le _, rfl, rfl, rfl, Below.refl _ _⟩
  case round =>
    obtain ⟨k, hk, rfl, rfl, rfl, hB⟩ := hrel
    by_cases hlk : k < n
    · obtain ⟨c0, c1, c2, c3⟩ := HG.out.get hB hlt hlk
      obtain ⟨x0, x1, x2, x3, x4⟩ := HO.out k hlk
      obtain ⟨w10, w11, w12, w13⟩ := im_bd HO.out k hk
      have p0 : (0 : Int) ≤ (k : Int) := by omega
      have p1 : (k : Int) < (n : Int) := by omega
      have s1 : IntKind.i64.wrap (imE G k + G k 0) = imE G k + G k 0 := IntWalk.i64_in _ ⟨by omega, by omega⟩
      have s2 : IntKind.i64.wrap (imE G k + G k 0 - G k 2) = imE G k + G k 0 - G k 2 := IntWalk.i64_in _ ⟨by omega, by omega⟩
      have s3 : IntKind.i64.wrap (imN G k + G k 1) = imN G k + G k 1 := IntWalk.i64_in _ ⟨by omega, by omega⟩
      have s4 : IntKind.i64.wrap (imN G k + G k 1 - G k 3) = imN G k + G k 1 - G k 3 := IntWalk.i64_in _ ⟨by omega, by omega⟩
      go_wp2
      go_quiet (fail)
      go_wp2
      go_quiet (fail)
      clear s1 s2 s3 s4
      go_wp2
      go_roundw
      case rel => exact ⟨k + 1, by omega, by go_num, congrArg (Value.int IntKind.i64) (show imE G k + G k 0 - G k 2 = imE G k + (G k 0 - G k 2) by omega), congrArg (Value.int IntKind.i64) (show imN G k + G k 1 - G k 3 = imN G k + (G k 1 - G k 3) by omega), below_drewN hB _⟩
      case measure => simp [intOf]; omega
    · obtain rfl : n = k := by omega
      go_wp2
      go_ret2
      exact ⟨rfl, hB⟩

/-- Two cells as a grid. -/
def two (a b c d a' b' c' d' : Int) : Nat → Nat → Int := fun i j => if i = 0 then (if j = 0 then a else if j = 1 then b else if j = 2 then c else d) else (if j = 0 then a' else if j = 1 then b' else if j = 2 then c' else d')
theorem impulse_two (b cap : Nat) (a b0 c d a' b' c' d' : Int) (w : World) (h : Ok4 a b0 c d) (g : Ok4 a' b' c' d') (hlt : b < w.heap.size)
    (h0 : w.cell? ⟨b, 0, none⟩ = some (.int .i64 a)) (h1 : w.cell? ⟨b, 1, none⟩ = some (.int .i64 b0)) (h2 : w.cell? ⟨b, 2, none⟩ = some (.int .i64 c)) (h3 : w.cell? ⟨b, 3, none⟩ = some (.int .i64 d)) (h4 : w.cell? ⟨b, 4, none⟩ = some (.int .i64 a')) (h5 : w.cell? ⟨b, 5, none⟩ = some (.int .i64 b')) (h6 : w.cell? ⟨b, 6, none⟩ = some (.int .i64 c')) (h7 : w.cell? ⟨b, 7, none⟩ = some (.int .i64 d')) :
    Calls Tryd.prog 35 #[.slice (some ⟨b, 0, none⟩) 2 cap] w fun e w' => e = .returned (.tuple #[.int .i64 (a - c + (a' - c')), .int .i64 (b0 - d + (b' - d'))]) ∧ Below w.heap.size w w' := by
  have hG : Grd w b 0 2 (two a b0 c d a' b' c' d') := by
    intro i hi
    match i, hi with
    | 0, _ => exact ⟨h0, h1, h2, h3⟩
    | 1, _ => exact ⟨h4, h5, h6, h7⟩
  have := impulse_in b 0 2 cap _ w (by omega) (by
    intro i hi
    match i, hi with
    | 0, _ => exact h
    | 1, _ => exact g) hlt hG
  have e1 : imE (two a b0 c d a' b' c' d') 2 = a - c + (a' - c') := by simp [imE, two]
  have e2 : imN (two a b0 c d a' b' c' d') 2 = b0 - d + (b' - d') := by simp [imN, two]
  rw [e1, e2] at this
  exact this

theorem sum4_any (a b c d : Int) (w : World) (h : Ok4 a b c d) : Calls Tryd.prog 34 #[.agg #[.int .i64 a, .int .i64 b, .int .i64 c, .int .i64 d]] w fun e w' => e = .returned (.int .i64 (a + b + c + d)) ∧ Below w.heap.size w w' := by
  obtain ⟨_, _, _, _, _⟩ := h
  have s1 : IntKind.i64.wrap (a + b) = a + b := IntWalk.i64_in _ ⟨by omega, by omega⟩
  have s2 : IntKind.i64.wrap (a + b + c) = a + b + c := IntWalk.i64_in _ ⟨by omega, by omega⟩
  have s3 : IntKind.i64.wrap (a + b + c + d) = a + b + c + d := IntWalk.i64_in _ ⟨by omega, by omega⟩
  go_enter Tryd.func34, Tryd.ntmps34
  go_wp2
  go_ret
  refine ⟨rfl, ?_⟩
  (repeat' (first | (with_reducible exact Below.refl _ _) | (with_reducible refine Below.setCell ?_ (by first | omega | (simp; done) | (simp; omega)) _) | (with_reducible refine Below.alloc ?_ (by first | omega | (simp; done) | (simp; omega)) _) | (with_reducible refine Below.drew ?_) | (with_reducible refine below_drewN ?_ _) | (with_reducible refine Below.trans ?_ (Below.mono (by assumption) (by first | omega | (simp; done) | (simp; omega))))))

theorem awake4_any (w : World) (hT : Ends w) : Calls Tryd.prog 11 #[] w fun e w' => e = .returned (.bool true) ∧ Below w.heap.size w w' := by
  have X := Lib.hid (fun wx (hb : Below w.heap.size w wx) => gExchange0 3 0 0 0 1 0 2 0 1 0 (-2) wx (hT.below hb) ⟨by omega, by omega, by omega, by omega, by omega⟩ ⟨by omega, by omega, by omega, by omega, by omega⟩ ⟨by omega, by omega, by omega, by omega, by omega⟩ (.inl ⟨.inr rfl, rfl⟩) (by decide))
  clear hT
  simp only [show (3 : Int) + -2 = 1 by decide, show (0 : Int) - -2 = 2 by decide, show (1 : Int) - -2 = 3 by decide, show (2 : Int) + -2 = 0 by decide] at X
  go_enter Tryd.func11, Tryd.ntmps11
  go_wp2_with (go_at_call 30; (with_reducible refine (X.out _ (by (repeat' (first | (with_reducible exact Below.refl _ _) | (with_reducible refine Below.setCell ?_ (by first | omega | (simp; done) | (simp; omega)) _) | (with_reducible refine Below.alloc ?_ (by first | omega | (simp; done) | (simp; omega)) _) | (with_reducible refine Below.drew ?_) | (with_reducible refine below_drewN ?_ _) | (with_reducible refine Below.trans ?_ (Below.mono (by assumption) (by first | omega | (simp; done) | (simp; omega)))))))).mono ?_); rintro e w1 ⟨rfl, hb⟩; obtain ⟨hc, hf, hz⟩ := bcall hb; (try simp at hc hf hz))
  go_ret
  refine ⟨by simp, ?_⟩
  (repeat' (first | (with_reducible exact Below.refl _ _) | (with_reducible refine Below.setCell ?_ (by first | omega | (simp; done) | (simp; omega)) _) | (with_reducible refine Below.alloc ?_ (by first | omega | (simp; done) | (simp; omega)) _) | (with_reducible refine Below.drew ?_) | (with_reducible refine below_drewN ?_ _) | (with_reducible refine Below.trans ?_ (Below.mono (by assumption) (by first | omega | (simp; done) | (simp; omega))))))

set_option maxRecDepth 100000 in
set_option maxHeartbeats 8000000 in
theorem phaseExch_bad (a b c d a' b' c' d' k y l z : Int) (w : World) (hT : Ends w) (hz : z ≠ 0)
    (e1 : ∀ wx, Below w.heap.size w wx → Calls Tryd.prog 30 #[.agg #[.int .i64 a, .int .i64 b, .int .i64 c, .int .i64 d], .agg #[.int .i64 a', .int .i64 b', .int .i64 c', .int .i64 d'], .agg #[.int .i64 k, .int .i64 y], .int .i64 l] wx fun e w' => e = .returned (.tuple #[.agg #[.int .i64 0, .int .i64 0, .int .i64 0, .int .i64 0], .agg #[.int .i64 0, .int .i64 0, .int .i64 0, .int .i64 0], .int .i64 z]) ∧ Below wx.heap.size wx w')
    (e2 : ∀ wx, Below w.heap.size w wx → Calls Tryd.prog 31 #[.agg #[.int .i64 a, .int .i64 b, .int .i64 c, .int .i64 d], .agg #[.int .i64 a', .int .i64 b', .int .i64 c', .int .i64 d'], .agg #[.int .i64 k, .int .i64 y], .int .i64 l] wx fun e w' => e = .returned (.tuple #[.agg #[.int .i64 0, .int .i64 0, .int .i64 0, .int .i64 0], .agg #[.int .i64 0, .int .i64 0, .int .i64 0, .int .i64 0], .int .i64 z]) ∧ Below wx.heap.size wx w')
    (e3 : ∀ wx, Below w.heap.size w wx → Calls Tryd.prog 32 #[.agg #[.int .i64 a, .int .i64 b, .int .i64 c, .int .i64 d], .agg #[.int .i64 a', .int .i64 b', .int .i64 c', .int .i64 d'], .agg #[.int .i64 k, .int .i64 y], .int .i64 l] wx fun e w' => e = .returned (.tuple #[.agg #[.int .i64 0, .int .i64 0, .int .i64 0, .int .i64 0], .agg #[.int .i64 0, .int .i64 0, .int .i64 0, .int .i64 0], .int .i64 z]) ∧ Below wx.heap.size wx w')
    (e4 : ∀ wx, Below w.heap.size w wx → Calls Tryd.prog 33 #[.agg #[.int .i64 a, .int .i64 b, .int .i64 c, .int .i64 d], .agg #[.int .i64 a', .int .i64 b', .int .i64 c', .int .i64 d'], .agg #[.int .i64 k, .int .i64 y], .int .i64 l] wx fun e w' => e = .returned (.tuple #[.agg #[.int .i64 0, .int .i64 0, .int .i64 0, .int .i64 0], .agg #[.int .i64 0, .int .i64 0, .int .i64 0, .int .i64 0], .int .i64 z]) ∧ Below wx.heap.size wx w') :
    Calls Tryd.prog 5 #[.agg #[.int .i64 a, .int .i64 b, .int .i64 c, .int .i64 d, .int .i64 a', .int .i64 b', .int .i64 c', .int .i64 d'], .agg #[.int .i64 k, .int .i64 y], .int .i64 l] w fun e w' => e = .returned (.bool true) ∧ Below w.heap.size w w' := by
  have T := Lib.hid hT; clear hT
  have E1 := Lib.hid e1; clear e1
  have E2 := Lib.hid e2; clear e2
  have E3 := Lib.hid e3; clear e3
  have E4 := Lib.hid e4; clear e4
  have q0 : (z == 0) = false := beq_eq_false_iff_ne.2 hz
  have q1 : (z != 0) = true := by simp [bne, q0]
  clear hz q0
  go_enter Tryd.func5, Tryd.ntmps5
  go_wp2_with (first | (go_at_call 30; (with_reducible refine (E1.out _ (by (repeat' (first | (with_reducible exact Below.refl _ _) | (with_reducible refine Below.setCell ?_ (by first | omega | (simp; done) | (simp; omega)) _) | (with_reducible refine Below.alloc ?_ (by first | omega | (simp; done) | (simp; omega)) _) | (with_reducible refine Below.drew ?_) | (with_reducible refine below_drewN ?_ _) | (with_reducible refine Below.trans ?_ (Below.mono (by assumption) (by first | omega | (simp; done) | (simp; omega)))))))).mono ?_); rintro e w1 ⟨rfl, hb⟩; obtain ⟨hc, hf, hz⟩ := bcall hb; (try simp at hc hf hz)) | (go_at_call 31; (with_reducible refine (E2.out _ (by (repeat' (first | (with_reducible exact Below.refl _ _) | (with_reducible refine Below.setCell ?_ (by first | omega | (simp; done) | (simp; omega)) _) | (with_reducible refine Below.alloc ?_ (by first | omega | (simp; done) | (simp; omega)) _) | (with_reducible refine Below.drew ?_) | (with_reducible refine below_drewN ?_ _) | (with_reducible refine Below.trans ?_ (Below.mono (by assumption) (by first | omega | (simp; done) | (simp; omega)))))))).mono ?_); rintro e w1 ⟨rfl, hb⟩; obtain ⟨hc, hf, hz⟩ := bcall hb; (try simp at hc hf hz)) | (go_at_call 32; (with_reducible refine (E3.out _ (by (repeat' (first | (with_reducible exact Below.refl _ _) | (with_reducible refine Below.setCell ?_ (by first | omega | (simp; done) | (simp; omega)) _) | (with_reducible refine Below.alloc ?_ (by first | omega | (simp; done) | (simp; omega)) _) | (with_reducible refine Below.drew ?_) | (with_reducible refine below_drewN ?_ _) | (with_reducible refine Below.trans ?_ (Below.mono (by assumption) (by first | omega | (simp; done) | (simp; omega)))))))).mono ?_); rintro e w1 ⟨rfl, hb⟩; obtain ⟨hc, hf, hz⟩ := bcall hb; (try simp at hc hf hz)) | (go_at_call 33; (with_reducible refine (E4.out _ (by (repeat' (first | (with_reducible exact Below.refl _ _) | (with_reducible refine Below.setCell ?_ (by first | omega | (simp; done) | (simp; omega)) _) | (with_reducible refine Below.alloc ?_ (by first | omega | (simp; done) | (simp; omega)) _) | (with_reducible refine Below.drew ?_) | (with_reducible refine below_drewN ?_ _) | (with_reducible refine Below.trans ?_ (Below.mono (by assumption) (by first | omega | (simp; done) | (simp; omega)))))))).mono ?_); rintro e w1 ⟨rfl, hb⟩; obtain ⟨hc, hf, hz⟩ := bcall hb; (try simp at hc hf hz)) | (go_at_call 11; (with_reducible refine (awake4_any _ (T.out.below (by (repeat' (first | (with_reducible exact Below.refl _ _) | (with_reducible refine Below.setCell ?_ (by first | omega | (simp; done) | (simp; omega)) _) | (with_reducible refine Below.alloc ?_ (by first | omega | (simp; done) | (simp; omega)) _) | (with_reducible refine Below.drew ?_) | (with_reducible refine below_drewN ?_ _) | (with_reducible refine Below.trans ?_ (Below.mono (by assumption) (by first | omega | (simp; done) | (simp; omega))))))))).mono ?_); rintro e w1 ⟨rfl, hb⟩; obtain ⟨hc, hf, hz⟩ := bcall hb; (try simp at hc hf hz)))
  go_ret
  refine ⟨rfl, ?_⟩
  (repeat' (first | (with_reducible exact Below.refl _ _) | (with_reducible refine Below.setCell ?_ (by first | omega | (simp; done) | (simp; omega)) _) | (with_reducible refine Below.alloc ?_ (by first | omega | (simp; done) | (simp; omega)) _) | (with_reducible refine Below.drew ?_) | (with_reducible refine below_drewN ?_ _) | (with_reducible refine Below.trans ?_ (Below.mono (by assumption) (by first | omega | (simp; done) | (simp; omega))))))

set_option maxRecDepth 100000 in
set_option maxHeartbeats 8000000 in
theorem phaseExch_ok (a b c d a' b' c' d' k y l p0 p1 p2 p3 p4 p5 p6 p7 u0 u1 u2 u3 u4 u5 u6 u7 : Int) (w : World) (hT : Ends w)
    (h : Ok4 a b c d) (g : Ok4 a' b' c' d') (hp : Ok4 p0 p1 p2 p3) (gp : Ok4 p4 p5 p6 p7) (s1 : p0 + p1 + p2 + p3 = a + b + c + d) (s2 : p4 + p5 + p6 + p7 = a' + b' + c' + d') (m1 : p0 - p2 + (p4 - p6) = a - c + (a' - c')) (m2 : p1 - p3 + (p5 - p7) = b - d + (b' - d'))
    (e1 : ∀ wx, Below w.heap.size w wx → Calls Tryd.prog 30 #[.agg #[.int .i64 a, .int .i64 b, .int .i64 c, .int .i64 d], .agg #[.int .i64 a', .int .i64 b', .int .i64 c', .int .i64 d'], .agg #[.int .i64 k, .int .i64 y], .int .i64 l] wx fun e w' => e = .returned (.tuple #[.agg #[.int .i64 p0, .int .i64 p1, .int .i64 p2, .int .i64 p3], .agg #[.int .i64 p4, .int .i64 p5, .int .i64 p6, .int .i64 p7], .int .i64 0]) ∧ Below wx.heap.size wx w')
    (e2 : ∀ wx, Below w.heap.size w wx → Calls Tryd.prog 31 #[.agg #[.int .i64 a, .int .i64 b, .int .i64 c, .int .i64 d], .agg #[.int .i64 a', .int .i64 b', .int .i64 c', .int .i64 d'], .agg #[.int .i64 k, .int .i64 y], .int .i64 l] wx fun e w' => e = .returned (.tuple #[.agg #[.int .i64 p0, .int .i64 p1, .int .i64 p2, .int .i64 p3], .agg #[.int .i64 p4, .int .i64 p5, .int .i64 p6, .int .i64 p7], .int .i64 0]) ∧ Below wx.heap.size wx w')
    (e3 : ∀ wx, Below w.heap.size w wx → Calls Tryd.prog 32 #[.agg #[.int .i64 a, .int .i64 b, .int .i64 c, .int .i64 d], .agg #[.int .i64 a', .int .i64 b', .int .i64 c', .int .i64 d'], .agg #[.int .i64 k, .int .i64 y], .int .i64 l] wx fun e w' => e = .returned (.tuple #[.agg #[.int .i64 u0, .int .i64 u1, .int .i64 u2, .int .i64 u3], .agg #[.int .i64 u4, .int .i64 u5, .int .i64 u6, .int .i64 u7], .int .i64 0]) ∧ Below wx.heap.size wx w')
    (e4 : ∀ wx, Below w.heap.size w wx → Calls Tryd.prog 33 #[.agg #[.int .i64 a, .int .i64 b, .int .i64 c, .int .i64 d], .agg #[.int .i64 a', .int .i64 b', .int .i64 c', .int .i64 d'], .agg #[.int .i64 k, .int .i64 y], .int .i64 l] wx fun e w' => e = .returned (.tuple #[.agg #[.int .i64 u0, .int .i64 u1, .int .i64 u2, .int .i64 u3], .agg #[.int .i64 u4, .int .i64 u5, .int .i64 u6, .int .i64 u7], .int .i64 0]) ∧ Below wx.heap.size wx w')
    (e5 : ∀ wx, Below w.heap.size w wx → Calls Tryd.prog 32 #[.agg #[.int .i64 p0, .int .i64 p1, .int .i64 p2, .int .i64 p3], .agg #[.int .i64 p4, .int .i64 p5, .int .i64 p6, .int .i64 p7], .agg #[.int .i64 k, .int .i64 y], .int .i64 l] wx fun e w' => e = .returned (.tuple #[.agg #[.int .i64 a, .int .i64 b, .int .i64 c, .int .i64 d], .agg #[.int .i64 a', .int .i64 b', .int .i64 c', .int .i64 d'], .int .i64 0]) ∧ Below wx.heap.size wx w') :
    Calls Tryd.prog 5 #[.agg #[.int .i64 a, .int .i64 b, .int .i64 c, .int .i64 d, .int .i64 a', .int .i64 b', .int .i64 c', .int .i64 d'], .agg #[.int .i64 k, .int .i64 y], .int .i64 l] w fun e w' => e = .returned (.bool true) ∧ Below w.heap.size w w' := by
  have T := Lib.hid hT; clear hT
  have E1 := Lib.hid e1; clear e1
  have E2 := Lib.hid e2; clear e2
  have E3 := Lib.hid e3; clear e3
  have E4 := Lib.hid e4; clear e4
  have E5 := Lib.hid e5; clear e5
  have SA := Lib.hid (fun wx => sum4_any a b c d wx h)
  have SB := Lib.hid (fun wx => sum4_any a' b' c' d' wx g)
  have SP := Lib.hid (fun wx => sum4_any p0 p1 p2 p3 wx hp)
  have SQ := Lib.hid (fun wx => sum4_any p4 p5 p6 p7 wx gp)
  rw [s1] at SP
  rw [s2] at SQ
  obtain ⟨x1, hx1⟩ : ∃ x, x = a + b + c + d := ⟨_, rfl⟩
  obtain ⟨x2, hx2⟩ : ∃ x, x = a' + b' + c' + d' := ⟨_, rfl⟩
  rw [← hx1] at SA SP
  rw [← hx2] at SB SQ
  have IA := Lib.hid (fun wx bl cap => impulse_two bl cap a b c d a' b' c' d' wx h g)
  have IP := Lib.hid (fun wx bl cap => impulse_two bl cap p0 p1 p2 p3 p4 p5 p6 p7 wx hp gp)
  rw [m1, m2] at IP
  obtain ⟨x3, hx3⟩ : ∃ x, x = a - c + (a' - c') := ⟨_, rfl⟩
  obtain ⟨x4, hx4⟩ : ∃ x, x = b - d + (b' - d') := ⟨_, rfl⟩
  rw [← hx3, ← hx4] at IA IP
  clear h g hp gp s1 s2 m1 m2 hx1 hx2 hx3 hx4
  go_enter Tryd.func5, Tryd.ntmps5
  go_wp2_with (first | (go_at_call 30; (with_reducible refine (E1.out _ (by (repeat' (first | (with_reducible exact Below.refl _ _) | (with_reducible refine Below.setCell ?_ (by first | omega | (simp; done) | (simp; omega)) _) | (with_reducible refine Below.alloc ?_ (by first | omega | (simp; done) | (simp; omega)) _) | (with_reducible refine Below.drew ?_) | (with_reducible refine below_drewN ?_ _) | (with_reducible refine Below.trans ?_ (Below.mono (by assumption) (by first | omega | (simp; done) | (simp; omega)))))))).mono ?_); rintro e w1 ⟨rfl, hb1⟩; obtain ⟨hc1, hf1, hz1⟩ := bcall hb1; (try simp at hc1 hf1 hz1)) | (go_at_call 31; (with_reducible refine (E2.out _ (by (repeat' (first | (with_reducible exact Below.refl _ _) | (with_reducible refine Below.setCell ?_ (by first | omega | (simp; done) | (simp; omega)) _) | (with_reducible refine Below.alloc ?_ (by first | omega | (simp; done) | (simp; omega)) _) | (with_reducible refine Below.drew ?_) | (with_reducible refine below_drewN ?_ _) | (with_reducible refine Below.trans ?_ (Below.mono (by assumption) (by first | omega | (simp; done) | (simp; omega)))))))).mono ?_); rintro e w2 ⟨rfl, hb2⟩; obtain ⟨hc2, hf2, hz2⟩ := bcall hb2; (try simp at hc2 hf2 hz2)) | (go_at_call 32; (with_reducible refine (E3.out _ (by (repeat' (first | (with_reducible exact Below.refl _ _) | (with_reducible refine Below.setCell ?_ (by first | omega | (simp; done) | (simp; omega)) _) | (with_reducible refine Below.alloc ?_ (by first | omega | (simp; done) | (simp; omega)) _) | (with_reducible refine Below.drew ?_) | (with_reducible refine below_drewN ?_ _) | (with_reducible refine Below.trans ?_ (Below.mono (by assumption) (by first | omega | (simp; done) | (simp; omega)))))))).mono ?_); rintro e w3 ⟨rfl, hb3⟩; obtain ⟨hc3, hf3, hz3⟩ := bcall hb3; (try simp at hc3 hf3 hz3)) | (go_at_call 33; (with_reducible refine (E4.out _ (by (repeat' (first | (with_reducible exact Below.refl _ _) | (with_reducible refine Below.setCell ?_ (by first | omega | (simp; done) | (simp; omega)) _) | (with_reducible refine Below.alloc ?_ (by first | omega | (simp; done) | (simp; omega)) _) | (with_reducible refine Below.drew ?_) | (with_reducible refine below_drewN ?_ _) | (with_reducible refine Below.trans ?_ (Below.mono (by assumption) (by first | omega | (simp; done) | (simp; omega)))))))).mono ?_); rintro e w4 ⟨rfl, hb4⟩; obtain ⟨hc4, hf4, hz4⟩ := bcall hb4; (try simp at hc4 hf4 hz4)))
  go_region_held3 (fun w' => w'.cell? ⟨w1.heap.size, 0, none⟩ = some (.int .i64 p0) ∧ w'.cell? ⟨w1.heap.size, 1, none⟩ = some (.int .i64 p1) ∧ w'.cell? ⟨w1.heap.size, 2, none⟩ = some (.int .i64 p2) ∧ w'.cell? ⟨w1.heap.size, 3, none⟩ = some (.int .i64 p3) ∧ w'.cell? ⟨w1.heap.size + 1, 0, none⟩ = some (.int .i64 p4) ∧ w'.cell? ⟨w1.heap.size + 1, 1, none⟩ = some (.int .i64 p5) ∧ w'.cell? ⟨w1.heap.size + 1, 2, none⟩ = some (.int .i64 p6) ∧ w'.cell? ⟨w1.heap.size + 1, 3, none⟩ = some (.int .i64 p7) ∧ w'.cell? ⟨w.heap.size, 0, none⟩ = some (.int .i64 a) ∧ w'.cell? ⟨w.heap.size, 1, none⟩ = some (.int .i64 b) ∧ w'.cell? ⟨w.heap.size, 2, none⟩ = some (.int .i64 c) ∧ w'.cell? ⟨w.heap.size, 3, none⟩ = some (.int .i64 d) ∧ w'.cell? ⟨w.heap.size, 4, none⟩ = some (.int .i64 a') ∧ w'.cell? ⟨w.heap.size, 5, none⟩ = some (.int .i64 b') ∧ w'.cell? ⟨w.heap.size, 6, none⟩ = some (.int .i64 c') ∧ w'.cell? ⟨w.heap.size, 7, none⟩ = some (.int .i64 d')) (first | (go_split_ands; (try dsimp only); refine ⟨?_, ?_, ?_, ?_, ?_, ?_, ?_, ?_, ?_, ?_, ?_, ?_, ?_, ?_, ?_, ?_⟩ <;> (first | (with_reducible assumption) | (with_reducible exact keep_cell (by assumption) (by first | omega | (simp; done) | (simp; omega)) (by assumption)) | (simp [go_sem]; with_reducible assumption))) | (simp [go_sem, ↓IntWalk.iteOmega, *]; done)) (first | (go_at_call 34; (with_reducible refine (SA.out _).mono ?_); rintro e w5 ⟨rfl, hb5⟩; obtain ⟨hc5, hf5, hz5⟩ := bcall hb5; (try simp at hc5 hf5 hz5)) | (go_at_call 34; (with_reducible refine (SP.out _).mono ?_); rintro e w5 ⟨rfl, hb5⟩; obtain ⟨hc5, hf5, hz5⟩ := bcall hb5; (try simp at hc5 hf5 hz5)) | (go_at_call 34; (with_reducible refine (SB.out _).mono ?_); rintro e w5 ⟨rfl, hb5⟩; obtain ⟨hc5, hf5, hz5⟩ := bcall hb5; (try simp at hc5 hf5 hz5)) | (go_at_call 34; (with_reducible refine (SQ.out _).mono ?_); rintro e w5 ⟨rfl, hb5⟩; obtain ⟨hc5, hf5, hz5⟩ := bcall hb5; (try simp at hc5 hf5 hz5)))
  go_wp2_with fail
  go_at_call 35
  refine (IP.out _ _ _ (by simp) (by simp [go_sem, ↓IntWalk.iteOmega]) (by simp [go_sem, ↓IntWalk.iteOmega]) (by simp [go_sem, ↓IntWalk.iteOmega]) (by simp [go_sem, ↓IntWalk.iteOmega]) (by simp [go_sem, ↓IntWalk.iteOmega]) (by simp [go_sem, ↓IntWalk.iteOmega]) (by simp [go_sem, ↓IntWalk.iteOmega]) (by simp [go_sem, ↓IntWalk.iteOmega])).mono ?_
  rintro e w6 ⟨rfl, hb6⟩
  obtain ⟨hc6, hf6, hz6⟩ := bcall hb6
  (try simp at hc6 hf6 hz6)
  go_wp2_with fail
  go_at_call 35
  refine (IA.out _ _ _ (by simp) (by simp [go_sem, ↓IntWalk.iteOmega]) (by simp [go_sem, ↓IntWalk.iteOmega]) (by simp [go_sem, ↓IntWalk.iteOmega]) (by simp [go_sem, ↓IntWalk.iteOmega]) (by simp [go_sem, ↓IntWalk.iteOmega]) (by simp [go_sem, ↓IntWalk.iteOmega]) (by simp [go_sem, ↓IntWalk.iteOmega]) (by simp [go_sem, ↓IntWalk.iteOmega])).mono ?_
  rintro e w6 ⟨rfl, hb6⟩
  obtain ⟨hc6, hf6, hz6⟩ := bcall hb6
  (try simp at hc6 hf6 hz6)
  go_wp2_with (first | (go_at_call 32; (with_reducible refine (E5.out _ (by (repeat' (first | (with_reducible exact Below.refl _ _) | (with_reducible refine Below.setCell ?_ (by first | omega | (simp; done) | (simp; omega)) _) | (with_reducible refine Below.alloc ?_ (by first | omega | (simp; done) | (simp; omega)) _) | (with_reducible refine Below.drew ?_) | (with_reducible refine below_drewN ?_ _) | (with_reducible refine Below.trans ?_ (Below.mono (by assumption) (by first | omega | (simp; done) | (simp; omega)))))))).mono ?_); rintro e w7 ⟨rfl, hb7⟩; obtain ⟨hc7, hf7, hz7⟩ := bcall hb7; (try simp at hc7 hf7 hz7)) | (go_at_call 11; (with_reducible refine (awake4_any _ (T.out.below (by (repeat' (first | (with_reducible exact Below.refl _ _) | (with_reducible refine Below.setCell ?_ (by first | omega | (simp; done) | (simp; omega)) _) | (with_reducible refine Below.alloc ?_ (by first | omega | (simp; done) | (simp; omega)) _) | (with_reducible refine Below.drew ?_) | (with_reducible refine below_drewN ?_ _) | (with_reducible refine Below.trans ?_ (Below.mono (by assumption) (by first | omega | (simp; done) | (simp; omega))))))))).mono ?_); rintro e w1 ⟨rfl, hb⟩; obtain ⟨hc, hf, hz⟩ := bcall hb; (try simp at hc hf hz)))
  go_ret
  refine ⟨by simp, ?_⟩
  (repeat' (first | (with_reducible exact Below.refl _ _) | (with_reducible refine Below.setCell ?_ (by first | omega | (simp; done) | (simp; omega)) _) | (with_reducible refine Below.alloc ?_ (by first | omega | (simp; done) | (simp; omega)) _) | (with_reducible refine Below.drew ?_) | (with_reducible refine below_drewN ?_ _) | (with_reducible refine Below.trans ?_ (Below.mono (by assumption) (by first | omega | (simp; done) | (simp; omega))))))

set_option maxHeartbeats 1000000 in
theorem phaseExch_line0 (a b c d a' b' c' d' k y : Int) (w : World) (hT : Ends w) (h : Ok4 a b c d) (g : Ok4 a' b' c' d') (s : Ok4 (a + a') (b + b') (c + c') (d + d')) (hr : OkR k y) :
    Calls Tryd.prog 5 #[.agg #[.int .i64 a, .int .i64 b, .int .i64 c, .int .i64 d, .int .i64 a', .int .i64 b', .int .i64 c', .int .i64 d'], .agg #[.int .i64 k, .int .i64 y], .int .i64 0] w fun e w' => e = .returned (.bool true) ∧ Below w.heap.size w w' := by
  obtain ⟨t, ht⟩ : ∃ t, t = em a c a' c' k y := ⟨_, rfl⟩
  obtain ⟨u, hu⟩ : ∃ u, u = em a c a' c' k (-y) := ⟨_, rfl⟩
  have h' := h
  have g' := g
  have s' := s
  obtain ⟨_, _, _, _, _⟩ := h
  obtain ⟨_, _, _, _, _⟩ := g
  obtain ⟨_, _, _, _, _⟩ := s
  have tb := @em_bd a c a' c' k y (by omega) (by omega) (by omega) (by omega)
  rw [← ht] at tb
  have hb : em (a + t) (c - t) (a' - t) (c' + t) k (-y) = -t := by rw [ht]; exact em_back hr (by omega) (by omega) (by omega) (by omega)
  have hp : Ok4 (a + t) (b) (c - t) (d) := ⟨by omega, by omega, by omega, by omega, by omega⟩
  have hq : Ok4 (a' - t) (b') (c' + t) (d') := ⟨by omega, by omega, by omega, by omega, by omega⟩
  have hs : Ok4 (a + t + (a' - t)) (b + (b')) (c - t + (c' + t)) (d + (d')) := ⟨by omega, by omega, by omega, by omega, by omega⟩
  refine phaseExch_ok a b c d a' b' c' d' k y 0 (a + t) (b) (c - t) (d) (a' - t) (b') (c' + t) (d') (a + u) (b) (c - u) (d) (a' - u) (b') (c' + u) (d') w hT h' g' hp hq (by omega) (by omega) (by omega) (by omega)
    (fun wx hb => gExchange0 a b c d a' b' c' d' k y t wx (hT.below hb) h' g' s' hr ht) (fun wx hb => rExchange0 a b c d a' b' c' d' k y t wx h' g' s' hr ht)
    (fun wx hb => gUnexchange0 a b c d a' b' c' d' k y u wx (hT.below hb) h' g' s' hr hu) (fun wx hb => rUnexchange0 a b c d a' b' c' d' k y u wx h' g' s' hr hu) (fun wx hb1 => ?_)
  have X := gUnexchange0 (a + t) (b) (c - t) (d) (a' - t) (b') (c' + t) (d') k y (-t) wx (hT.below hb1) hp hq hs hr hb.symm
  have e1 : a + t + -t = a := by omega
  have e2 : c - t - -t = c := by omega
  have e3 : a' - t - -t = a' := by omega
  have e4 : c' + t + -t = c' := by omega
  rw [e1, e2, e3, e4] at X
  exact X

set_option maxHeartbeats 1000000 in
theorem phaseExch_line1 (a b c d a' b' c' d' k y : Int) (w : World) (hT : Ends w) (h : Ok4 a b c d) (g : Ok4 a' b' c' d') (s : Ok4 (a + a') (b + b') (c + c') (d + d')) (hr : OkR k y) :
    Calls Tryd.prog 5 #[.agg #[.int .i64 a, .int .i64 b, .int .i64 c, .int .i64 d, .int .i64 a', .int .i64 b', .int .i64 c', .int .i64 d'], .agg #[.int .i64 k, .int .i64 y], .int .i64 1] w fun e w' => e = .returned (.bool true) ∧ Below w.heap.size w w' := by
  obtain ⟨t, ht⟩ : ∃ t, t = em b d b' d' k y := ⟨_, rfl⟩
  obtain ⟨u, hu⟩ : ∃ u, u = em b d b' d' k (-y) := ⟨_, rfl⟩
  have h' := h
  have g' := g
  have s' := s
  obtain ⟨_, _, _, _, _⟩ := h
  obtain ⟨_, _, _, _, _⟩ := g
  obtain ⟨_, _, _, _, _⟩ := s
  have tb := @em_bd b d b' d' k y (by omega) (by omega) (by omega) (by omega)
  rw [← ht] at tb
  have hb : em (b + t) (d - t) (b' - t) (d' + t) k (-y) = -t := by rw [ht]; exact em_back hr (by omega) (by omega) (by omega) (by omega)
  have hp : Ok4 (a) (b + t) (c) (d - t) := ⟨by omega, by omega, by omega, by omega, by omega⟩
  have hq : Ok4 (a') (b' - t) (c') (d' + t) := ⟨by omega, by omega, by omega, by omega, by omega⟩
  have hs : Ok4 (a + (a')) (b + t + (b' - t)) (c + (c')) (d - t + (d' + t)) := ⟨by omega, by omega, by omega, by omega, by omega⟩
  refine phaseExch_ok a b c d a' b' c' d' k y 1 (a) (b + t) (c) (d - t) (a') (b' - t) (c') (d' + t) (a) (b + u) (c) (d - u) (a') (b' - u) (c') (d' + u) w hT h' g' hp hq (by omega) (by omega) (by omega) (by omega)
    (fun wx hb => gExchange1 a b c d a' b' c' d' k y t wx (hT.below hb) h' g' s' hr ht) (fun wx hb => rExchange1 a b c d a' b' c' d' k y t wx h' g' s' hr ht)
    (fun wx hb => gUnexchange1 a b c d a' b' c' d' k y u wx (hT.below hb) h' g' s' hr hu) (fun wx hb => rUnexchange1 a b c d a' b' c' d' k y u wx h' g' s' hr hu) (fun wx hb1 => ?_)
  have X := gUnexchange1 (a) (b + t) (c) (d - t) (a') (b' - t) (c') (d' + t) k y (-t) wx (hT.below hb1) hp hq hs hr hb.symm
  have e1 : b + t + -t = b := by omega
  have e2 : d - t - -t = d := by omega
  have e3 : b' - t - -t = b' := by omega
  have e4 : d' + t + -t = d' := by omega
  rw [e1, e2, e3, e4] at X
  exact X

theorem phaseExch_row (a b c d a' b' c' d' k y l : Int) (w : World) (hT : Ends w) (_ : Wf l) :
    Calls Tryd.prog 5 #[.agg #[.int .i64 a, .int .i64 b, .int .i64 c, .int .i64 d, .int .i64 a', .int .i64 b', .int .i64 c', .int .i64 d'], .agg #[.int .i64 k, .int .i64 y], .int .i64 l] w fun e w' => e = .returned (.bool true) ∧ Below w.heap.size w w' := by
  by_cases h1 : (Ok4 a b c d ∧ Ok4 a' b' c' d') ∧ OkR k y
  · by_cases h2 : l = 0 ∨ l = 1
    · by_cases h3 : Ok4 (a + a') (b + b') (c + c') (d + d')
      · rcases h2 with rfl | rfl
        · exact phaseExch_line0 a b c d a' b' c' d' k y w hT h1.1.1 h1.1.2 h3 h1.2
        · exact phaseExch_line1 a b c d a' b' c' d' k y w hT h1.1.1 h1.1.2 h3 h1.2
      · have X : XErr a b c d a' b' c' d' k y l 4 := .inr (.inr ⟨rfl, h1, h2, h3⟩)
        exact phaseExch_bad a b c d a' b' c' d' k y l 4 w hT (by decide) (fun wx _ => gExchange_err a b c d a' b' c' d' k y l 4 wx X) (fun wx _ => rExchange_err a b c d a' b' c' d' k y l 4 wx X) (fun wx _ => gUnexchange_err a b c d a' b' c' d' k y l 4 wx X) (fun wx _ => rUnexchange_err a b c d a' b' c' d' k y l 4 wx X)
    · have X : XErr a b c d a' b' c' d' k y l 7 := .inr (.inl ⟨rfl, h1, by omega, by omega⟩)
      exact phaseExch_bad a b c d a' b' c' d' k y l 7 w hT (by decide) (fun wx _ => gExchange_err a b c d a' b' c' d' k y l 7 wx X) (fun wx _ => rExchange_err a b c d a' b' c' d' k y l 7 wx X) (fun wx _ => gUnexchange_err a b c d a' b' c' d' k y l 7 wx X) (fun wx _ => rUnexchange_err a b c d a' b' c' d' k y l 7 wx X)
  · have X : XErr a b c d a' b' c' d' k y l 1 := .inl ⟨rfl, h1⟩
    exact phaseExch_bad a b c d a' b' c' d' k y l 1 w hT (by decide) (fun wx _ => gExchange_err a b c d a' b' c' d' k y l 1 wx X) (fun wx _ => rExchange_err a b c d a' b' c' d' k y l 1 wx X) (fun wx _ => gUnexchange_err a b c d a' b' c' d' k y l 1 wx X) (fun wx _ => rUnexchange_err a b c d a' b' c' d' k y l 1 wx X)
end Go.Proofs.YtjlebdjnjjdnpaaDoor
