/- The law FieldJoins: all cases. -/
import Derived.Test.YtmpfchgampiohaaDoorKLawFJ1
import Derived.Test.YtmpfchgampiohaaDoorKLawFJ2
import Derived.Test.YtmpfchgampiohaaDoorKEnds
namespace Go.Proofs.YtmpfchgampiohaaDoor
set_option linter.unusedSimpArgs false
set_option linter.unusedVariables false
open Go.RowKit Go.Shelf
attribute [local go_sem] Oper.semAt_some

set_option maxRecDepth 100000 in
set_option maxHeartbeats 4000000 in
theorem fj_big (W H a0 a1 b0 b1 mid : Int) (ao : Option Addr) (n cap : Nat) (w : World) (hM : Mvs w)
    (BG : ∀ wx, Calls Tryd.prog 18 #[.agg #[.int .i64 W, .int .i64 H, .slice (ao) n cap]] wx fun e w' => e = .returned (.bool true) ∧ Below wx.heap.size wx w') :
    Calls Tryd.prog 4 #[.agg #[.int .i64 W, .int .i64 H, .slice (ao) n cap], .agg #[.int .i64 a0, .int .i64 a1], .agg #[.int .i64 b0, .int .i64 b1], .int .i64 mid] w fun e w' => e = .returned (.bool true) ∧ Below w.heap.size w w' := by
  have HM := Lib.hid hM
  have BG := Lib.hid BG
  clear hM
  go_enter Tryd.func4, Tryd.ntmps4
  go_wp2_with (first | (go_at_call 17; (with_reducible refine (awake08_any _ (HM.out.below (by (repeat' (first | (with_reducible exact Below.refl _ _) | (with_reducible refine Below.setCell ?_ (by first | omega | (simp; done) | (simp; omega)) _) | (with_reducible refine Below.alloc ?_ (by first | omega | (simp; done) | (simp; omega)) _) | (with_reducible refine Below.drew ?_) | (with_reducible refine below_drewN ?_ _) | (with_reducible refine Below.trans ?_ (Below.mono (by assumption) (by first | omega | (simp; done) | (simp; omega))))))))).mono ?_); rintro e w1 ⟨rfl, hb⟩; obtain ⟨hc, hf, hz⟩ := bcall hb; (try simp at hc hf hz)) | (go_at_call 18; (with_reducible refine (BG.out _).mono ?_); rintro e w1 ⟨rfl, hb⟩; obtain ⟨hc, hf, hz⟩ := bcall hb; (try simp at hc hf hz)))
  go_ret
  refine ⟨by simp, ?_⟩
  (repeat' (first | (with_reducible exact Below.refl _ _) | (with_reducible refine Below.setCell ?_ (by first | omega | (simp; done) | (simp; omega)) _) | (with_reducible refine Below.alloc ?_ (by first | omega | (simp; done) | (simp; omega)) _) | (with_reducible refine Below.drew ?_) | (with_reducible refine below_drewN ?_ _) | (with_reducible refine Below.trans ?_ (Below.mono (by assumption) (by first | omega | (simp; done) | (simp; omega))))))
set_option maxRecDepth 100000 in
set_option maxHeartbeats 4000000 in
theorem fj_err (W H a0 a1 b0 b1 mid : Int) (ao : Option Addr) (n cap : Nat) (er : Int) (her : er = 1 ∨ er = 7) (w : World) (hM : Mvs w)
    (BG : ∀ wx, Calls Tryd.prog 18 #[.agg #[.int .i64 W, .int .i64 H, .slice (ao) n cap]] wx fun e w' => e = .returned (.bool false) ∧ Below wx.heap.size wx w')
    (CI : ∀ wx, Below w.heap.size w wx → Calls Tryd.prog 19 #[.agg #[.int .i64 W, .int .i64 H, .slice (ao) n cap], .agg #[.int .i64 a0, .int .i64 a1], .agg #[.int .i64 b0, .int .i64 b1]] wx fun e w' => e = .returned (.tuple #[.int .i64 0, .int .i64 er]) ∧ Below wx.heap.size wx w') :
    Calls Tryd.prog 4 #[.agg #[.int .i64 W, .int .i64 H, .slice (ao) n cap], .agg #[.int .i64 a0, .int .i64 a1], .agg #[.int .i64 b0, .int .i64 b1], .int .i64 mid] w fun e w' => e = .returned (.bool true) ∧ Below w.heap.size w w' := by
  have HM := Lib.hid hM
  have BG := Lib.hid BG
  have CI := Lib.hid CI
  have e1 : (er == 0) = false := by rcases her with rfl | rfl <;> decide
  have e2 : (er != 0) = true := by rcases her with rfl | rfl <;> decide
  have e3 : ¬ (er = 0) := by rcases her with rfl | rfl <;> decide
  clear hM her
  go_enter Tryd.func4, Tryd.ntmps4
  go_wp2_with (first | (go_at_call 17; (with_reducible refine (awake08_any _ (HM.out.below (by (repeat' (first | (with_reducible exact Below.refl _ _) | (with_reducible refine Below.setCell ?_ (by first | omega | (simp; done) | (simp; omega)) _) | (with_reducible refine Below.alloc ?_ (by first | omega | (simp; done) | (simp; omega)) _) | (with_reducible refine Below.drew ?_) | (with_reducible refine below_drewN ?_ _) | (with_reducible refine Below.trans ?_ (Below.mono (by assumption) (by first | omega | (simp; done) | (simp; omega))))))))).mono ?_); rintro e w1 ⟨rfl, hb⟩; obtain ⟨hc, hf, hz⟩ := bcall hb; (try simp at hc hf hz)) | (go_at_call 18; (with_reducible refine (BG.out _).mono ?_); rintro e w1 ⟨rfl, hb⟩; obtain ⟨hc, hf, hz⟩ := bcall hb; (try simp at hc hf hz)) | (go_at_call 19; (with_reducible refine (CI.out _ (by (repeat' (first | (with_reducible exact Below.refl _ _) | (with_reducible refine Below.setCell ?_ (by first | omega | (simp; done) | (simp; omega)) _) | (with_reducible refine Below.alloc ?_ (by first | omega | (simp; done) | (simp; omega)) _) | (with_reducible refine Below.drew ?_) | (with_reducible refine below_drewN ?_ _) | (with_reducible refine Below.trans ?_ (Below.mono (by assumption) (by first | omega | (simp; done) | (simp; omega)))))))).mono ?_); rintro e w1 ⟨rfl, hb⟩; obtain ⟨hc, hf, hz⟩ := bcall hb; (try simp at hc hf hz)))
  go_ret
  refine ⟨by simp, ?_⟩
  (repeat' (first | (with_reducible exact Below.refl _ _) | (with_reducible refine Below.setCell ?_ (by first | omega | (simp; done) | (simp; omega)) _) | (with_reducible refine Below.alloc ?_ (by first | omega | (simp; done) | (simp; omega)) _) | (with_reducible refine Below.drew ?_) | (with_reducible refine below_drewN ?_ _) | (with_reducible refine Below.trans ?_ (Below.mono (by assumption) (by first | omega | (simp; done) | (simp; omega))))))
theorem fieldJoins_any (W H : Int) (ao : Option Addr) (n cap : Nat) (G : Nat → Nat → Int) (a0 a1 b0 b1 mid : Int) (w : World) (hM : Mvs w) (_ : Wf W) (_ : Wf H) (_ : n ≤ cap) (_ : cap ≤ maxLen) (hC : CellsIn w ao n G) (_ : Wf mid) :
    Calls Tryd.prog 4 #[.agg #[.int .i64 W, .int .i64 H, .slice (ao) n cap], .agg #[.int .i64 a0, .int .i64 a1], .agg #[.int .i64 b0, .int .i64 b1], .int .i64 mid] w fun e w' => e = .returned (.bool true) ∧ Below w.heap.size w w' := by
  obtain ⟨bb, hbb, BG⟩ := fbig_any W H ao n cap w
  cases bb with
  | true => exact fj_big W H a0 a1 b0 b1 mid ao n cap w hM BG
  | false =>
    by_cases hv : VG W H n G
    · by_cases hk : BlkOk W H a0 a1 b0 b1
      · have hn : n ≤ 100 := by
          have := hv.1.bd
          have := hv.2.1
          rcases hbb rfl with h | h <;> omega
        obtain ⟨W', H', rfl, rfl, s, hG⟩ := Sides.vg hv
        obtain ⟨b, off, rfl, hlt, hGr⟩ := cells_of s hC
        obtain ⟨⟨⟨⟨k1, k2⟩, k3, k4⟩, ⟨k5, k6⟩, k7, k8⟩, k9, k10⟩ := hk
        obtain ⟨ax, rfl⟩ := Int.eq_ofNat_of_zero_le k1
        obtain ⟨ay, rfl⟩ := Int.eq_ofNat_of_zero_le k3
        obtain ⟨bx, rfl⟩ := Int.eq_ofNat_of_zero_le k5
        obtain ⟨yb, rfl⟩ := Int.eq_ofNat_of_zero_le k7
        have h1 : ax ≤ bx := by omega
        have h2 : bx < W' := by omega
        have h3 : ay ≤ yb := by omega
        have h4 : yb < H' := by omega
        rcases (show (mid : Int) < (ay : Int) ∨ (ay : Int) ≤ (mid : Int) by omega) with hA | hA
        · rcases (show (mid : Int) < (ax : Int) ∨ (ax : Int) ≤ (mid : Int) by omega) with hB | hB
          · exact fj_lt_lt W' H' n cap b off ax ay bx yb mid G w s hG hlt hGr hn hM h1 h2 h3 h4 hA hB
          · rcases (show (bx : Int) < (mid : Int) ∨ (mid : Int) ≤ (bx : Int) by omega) with hB2 | hB2
            · exact fj_lt_gt W' H' n cap b off ax ay bx yb mid G w s hG hlt hGr hn hM h1 h2 h3 h4 hA hB2
            · exact fj_lt_in W' H' n cap b off ax ay bx yb mid G w s hG hlt hGr hn hM h1 h2 h3 h4 hA ⟨hB, hB2⟩
        · rcases (show (yb : Int) < (mid : Int) ∨ (mid : Int) ≤ (yb : Int) by omega) with hA2 | hA2
          · rcases (show (mid : Int) < (ax : Int) ∨ (ax : Int) ≤ (mid : Int) by omega) with hB | hB
            · exact fj_gt_lt W' H' n cap b off ax ay bx yb mid G w s hG hlt hGr hn hM h1 h2 h3 h4 hA2 hB
            · rcases (show (bx : Int) < (mid : Int) ∨ (mid : Int) ≤ (bx : Int) by omega) with hB2 | hB2
              · exact fj_gt_gt W' H' n cap b off ax ay bx yb mid G w s hG hlt hGr hn hM h1 h2 h3 h4 hA2 hB2
              · exact fj_gt_in W' H' n cap b off ax ay bx yb mid G w s hG hlt hGr hn hM h1 h2 h3 h4 hA2 ⟨hB, hB2⟩
          · rcases (show (mid : Int) < (ax : Int) ∨ (ax : Int) ≤ (mid : Int) by omega) with hB | hB
            · exact fj_in_lt W' H' n cap b off ax ay bx yb mid G w s hG hlt hGr hn hM h1 h2 h3 h4 ⟨hA, hA2⟩ hB
            · rcases (show (bx : Int) < (mid : Int) ∨ (mid : Int) ≤ (bx : Int) by omega) with hB2 | hB2
              · exact fj_in_gt W' H' n cap b off ax ay bx yb mid G w s hG hlt hGr hn hM h1 h2 h3 h4 ⟨hA, hA2⟩ hB2
              · exact fj_in_in W' H' n cap b off ax ay bx yb mid G w s hG hlt hGr hn hM h1 h2 h3 h4 ⟨hA, hA2⟩ ⟨hB, hB2⟩
      · exact fj_err W H a0 a1 b0 b1 mid ao n cap 7 (.inr rfl) w hM BG (fun wx hb => fCirc_rng W H ao n cap G a0 a1 b0 b1 wx (hC.below hb) hv hk)
    · exact fj_err W H a0 a1 b0 b1 mid ao n cap 1 (.inl rfl) w hM BG (fun wx hb => fCirc_bad W H ao n cap G a0 a1 b0 b1 wx (hC.below hb) hv)
end Go.Proofs.YtmpfchgampiohaaDoor
