/- The law FieldLoops: what both sides give; large grids, corners that are wrong. -/
import Derived.Test.YtmpfchgampiohaaDoorKFR8W
import Derived.Test.YtmpfchgampiohaaDoorKFAwkL
namespace Go.Proofs.YtmpfchgampiohaaDoor
set_option linter.unusedSimpArgs false
set_option linter.unusedVariables false
open Go.RowKit Go.Shelf
attribute [local go_sem] Oper.semAt_some

section
variable (W H : Int) (ao : Option Addr) (n cap : Nat) (G : Nat → Nat → Int) (w : World) (hC : CellsIn w ao n G)
include hC
/-- Vortex by both: the same answer. -/
theorem vortex_both (sd : Int) : ∃ x y z er : Int, (∀ wx, Below w.heap.size w wx → Calls Tryd.prog 23 #[.agg #[.int .i64 W, .int .i64 H, .slice (ao) n cap], .int .i64 sd] wx fun e w' => e = .returned (.tuple #[.agg #[.int .i64 x, .int .i64 y], .int .i64 z, .int .i64 er]) ∧ Below wx.heap.size wx w') ∧
    (∀ wx, Below w.heap.size w wx → Calls Tryd.prog 24 #[.agg #[.int .i64 W, .int .i64 H, .slice (ao) n cap], .int .i64 sd] wx fun e w' => e = .returned (.tuple #[.agg #[.int .i64 x, .int .i64 y], .int .i64 z, .int .i64 er]) ∧ Below wx.heap.size wx w') := by
  by_cases hv : VG W H n G
  · by_cases hk : SidOk W H sd sd
    · obtain ⟨W', H', rfl, rfl, s, hG⟩ := Sides.vg hv
      obtain ⟨b, off, rfl, hlt, hGr⟩ := cells_of s hC
      obtain ⟨⟨k1, k2⟩, k3, k4⟩ := hk
      obtain ⟨d, rfl⟩ := Int.eq_ofNat_of_zero_le (show 0 ≤ sd by omega)
      obtain ⟨nx, hx⟩ : ∃ nx, nx = W' + 1 - d := ⟨_, rfl⟩
      obtain ⟨ny, hy⟩ : ∃ ny, ny = H' + 1 - d := ⟨_, rfl⟩
      obtain ⟨p, hp⟩ := bstB_some (fun p => ((cirP G W' d p).natAbs : Int)) (recP nx ny) (fun e => by have h := recP_len nx ny; rw [e] at h; have h2 := Nat.mul_le_mul (show 1 ≤ ny by omega) (show 1 ≤ nx by omega); simp only [List.length_nil, Nat.mul_one] at h h2; omega)
      refine ⟨p.1, p.2, cirP G W' d p, 0, fun wx hb => ?_, fun wx hb => ?_⟩
      · refine (fVortex_ok W' H' n cap b off d nx ny G wx s hG (Nat.lt_of_lt_of_le hlt hb.size) (hGr.below hb hlt) (by omega) (by omega) (by omega) (by omega) (by omega)).mono ?_
        rintro e w' ⟨⟨q, hq, rfl⟩, hb'⟩
        rw [hp] at hq
        cases hq
        exact ⟨rfl, hb'⟩
      · refine (rVortex_ok W' H' n cap b off d nx ny G wx s hG (Nat.lt_of_lt_of_le hlt hb.size) (hGr.below hb hlt) (by omega) (by omega) (by omega) (by omega) (by omega)).mono ?_
        rintro e w' ⟨⟨q, hq, rfl⟩, hb'⟩
        rw [hp] at hq
        cases hq
        exact ⟨rfl, hb'⟩
    · exact ⟨0, 0, 0, 7, fun wx hb => fVortex_rng W H ao n cap G wx (hC.below hb) sd hv hk, fun wx hb => rVortex_rng W H ao n cap G sd wx (hC.below hb) hv hk⟩
  · exact ⟨0, 0, 0, 1, fun wx hb => fVortex_bad W H ao n cap G wx (hC.below hb) sd hv, fun wx hb => rVortex_bad W H ao n cap G sd wx (hC.below hb) hv⟩
end
set_option maxRecDepth 100000 in
set_option maxHeartbeats 4000000 in
theorem fl_big (W H a0 a1 b0 b1 sd : Int) (ao : Option Addr) (n cap : Nat) (w : World) (hM : Mvs w)
    (BG : ∀ wx, Calls Tryd.prog 18 #[.agg #[.int .i64 W, .int .i64 H, .slice (ao) n cap]] wx fun e w' => e = .returned (.bool true) ∧ Below wx.heap.size wx w') :
    Calls Tryd.prog 5 #[.agg #[.int .i64 W, .int .i64 H, .slice (ao) n cap], .agg #[.int .i64 a0, .int .i64 a1], .agg #[.int .i64 b0, .int .i64 b1], .int .i64 sd] w fun e w' => e = .returned (.bool true) ∧ Below w.heap.size w w' := by
  have HM := Lib.hid hM
  have BG := Lib.hid BG
  clear hM
  go_enter Tryd.func5, Tryd.ntmps5
  go_wp2_with (first | (go_at_call 17; (with_reducible refine (awake08_any _ (HM.out.below (by (repeat' (first | (with_reducible exact Below.refl _ _) | (with_reducible refine Below.setCell ?_ (by first | omega | (simp; done) | (simp; omega)) _) | (with_reducible refine Below.alloc ?_ (by first | omega | (simp; done) | (simp; omega)) _) | (with_reducible refine Below.drew ?_) | (with_reducible refine below_drewN ?_ _) | (with_reducible refine Below.trans ?_ (Below.mono (by assumption) (by first | omega | (simp; done) | (simp; omega))))))))).mono ?_); rintro e w1 ⟨rfl, hb⟩; obtain ⟨hc, hf, hz⟩ := bcall hb; (try simp at hc hf hz)) | (go_at_call 18; (with_reducible refine (BG.out _).mono ?_); rintro e w1 ⟨rfl, hb⟩; obtain ⟨hc, hf, hz⟩ := bcall hb; (try simp at hc hf hz)))
  go_ret
  refine ⟨by simp, ?_⟩
  (repeat' (first | (with_reducible exact Below.refl _ _) | (with_reducible refine Below.setCell ?_ (by first | omega | (simp; done) | (simp; omega)) _) | (with_reducible refine Below.alloc ?_ (by first | omega | (simp; done) | (simp; omega)) _) | (with_reducible refine Below.drew ?_) | (with_reducible refine below_drewN ?_ _) | (with_reducible refine Below.trans ?_ (Below.mono (by assumption) (by first | omega | (simp; done) | (simp; omega))))))
set_option maxRecDepth 100000 in
set_option maxHeartbeats 8000000 in
theorem fl_err (W H a0 a1 b0 b1 sd : Int) (ao : Option Addr) (n cap : Nat) (er x y z er2 : Int) (her : er = 1 ∨ er = 7) (w : World) (hM : Mvs w)
    (BG : ∀ wx, Calls Tryd.prog 18 #[.agg #[.int .i64 W, .int .i64 H, .slice (ao) n cap]] wx fun e w' => e = .returned (.bool false) ∧ Below wx.heap.size wx w')
    (CI : ∀ wx, Below w.heap.size w wx → Calls Tryd.prog 19 #[.agg #[.int .i64 W, .int .i64 H, .slice (ao) n cap], .agg #[.int .i64 a0, .int .i64 a1], .agg #[.int .i64 b0, .int .i64 b1]] wx fun e w' => e = .returned (.tuple #[.int .i64 0, .int .i64 er]) ∧ Below wx.heap.size wx w')
    (CR : ∀ wx, Below w.heap.size w wx → Calls Tryd.prog 22 #[.agg #[.int .i64 W, .int .i64 H, .slice (ao) n cap], .agg #[.int .i64 a0, .int .i64 a1], .agg #[.int .i64 b0, .int .i64 b1]] wx fun e w' => e = .returned (.tuple #[.int .i64 0, .int .i64 er]) ∧ Below wx.heap.size wx w')
    (VI : ∀ wx, Below w.heap.size w wx → Calls Tryd.prog 23 #[.agg #[.int .i64 W, .int .i64 H, .slice (ao) n cap], .int .i64 sd] wx fun e w' => e = .returned (.tuple #[.agg #[.int .i64 x, .int .i64 y], .int .i64 z, .int .i64 er2]) ∧ Below wx.heap.size wx w')
    (VR : ∀ wx, Below w.heap.size w wx → Calls Tryd.prog 24 #[.agg #[.int .i64 W, .int .i64 H, .slice (ao) n cap], .int .i64 sd] wx fun e w' => e = .returned (.tuple #[.agg #[.int .i64 x, .int .i64 y], .int .i64 z, .int .i64 er2]) ∧ Below wx.heap.size wx w') :
    Calls Tryd.prog 5 #[.agg #[.int .i64 W, .int .i64 H, .slice (ao) n cap], .agg #[.int .i64 a0, .int .i64 a1], .agg #[.int .i64 b0, .int .i64 b1], .int .i64 sd] w fun e w' => e = .returned (.bool true) ∧ Below w.heap.size w w' := by
  have HM := Lib.hid hM
  have BG := Lib.hid BG
  have CI := Lib.hid CI
  have CR := Lib.hid CR
  have VI := Lib.hid VI
  have VR := Lib.hid VR
  have e1 : (er == 0) = false := by rcases her with rfl | rfl <;> decide
  have e2 : (er != 0) = true := by rcases her with rfl | rfl <;> decide
  have e3 : ¬ (er = 0) := by rcases her with rfl | rfl <;> decide
  clear hM her
  go_enter Tryd.func5, Tryd.ntmps5
  go_wp2_with (first | (go_at_call 17; (with_reducible refine (awake08_any _ (HM.out.below (by (repeat' (first | (with_reducible exact Below.refl _ _) | (with_reducible refine Below.setCell ?_ (by first | omega | (simp; done) | (simp; omega)) _) | (with_reducible refine Below.alloc ?_ (by first | omega | (simp; done) | (simp; omega)) _) | (with_reducible refine Below.drew ?_) | (with_reducible refine below_drewN ?_ _) | (with_reducible refine Below.trans ?_ (Below.mono (by assumption) (by first | omega | (simp; done) | (simp; omega))))))))).mono ?_); rintro e w1 ⟨rfl, hb⟩; obtain ⟨hc, hf, hz⟩ := bcall hb; (try simp at hc hf hz)) | (go_at_call 18; (with_reducible refine (BG.out _).mono ?_); rintro e w1 ⟨rfl, hb⟩; obtain ⟨hc, hf, hz⟩ := bcall hb; (try simp at hc hf hz)) | (go_at_call 19; (with_reducible refine (CI.out _ (by (repeat' (first | (with_reducible exact Below.refl _ _) | (with_reducible refine Below.setCell ?_ (by first | omega | (simp; done) | (simp; omega)) _) | (with_reducible refine Below.alloc ?_ (by first | omega | (simp; done) | (simp; omega)) _) | (with_reducible refine Below.drew ?_) | (with_reducible refine below_drewN ?_ _) | (with_reducible refine Below.trans ?_ (Below.mono (by assumption) (by first | omega | (simp; done) | (simp; omega)))))))).mono ?_); rintro e w1 ⟨rfl, hb⟩; obtain ⟨hc, hf, hz⟩ := bcall hb; (try simp at hc hf hz)) | (go_at_call 22; (with_reducible refine (CR.out _ (by (repeat' (first | (with_reducible exact Below.refl _ _) | (with_reducible refine Below.setCell ?_ (by first | omega | (simp; done) | (simp; omega)) _) | (with_reducible refine Below.alloc ?_ (by first | omega | (simp; done) | (simp; omega)) _) | (with_reducible refine Below.drew ?_) | (with_reducible refine below_drewN ?_ _) | (with_reducible refine Below.trans ?_ (Below.mono (by assumption) (by first | omega | (simp; done) | (simp; omega)))))))).mono ?_); rintro e w1 ⟨rfl, hb⟩; obtain ⟨hc, hf, hz⟩ := bcall hb; (try simp at hc hf hz)) | (go_at_call 23; (with_reducible refine (VI.out _ (by (repeat' (first | (with_reducible exact Below.refl _ _) | (with_reducible refine Below.setCell ?_ (by first | omega | (simp; done) | (simp; omega)) _) | (with_reducible refine Below.alloc ?_ (by first | omega | (simp; done) | (simp; omega)) _) | (with_reducible refine Below.drew ?_) | (with_reducible refine below_drewN ?_ _) | (with_reducible refine Below.trans ?_ (Below.mono (by assumption) (by first | omega | (simp; done) | (simp; omega)))))))).mono ?_); rintro e w1 ⟨rfl, hb⟩; obtain ⟨hc, hf, hz⟩ := bcall hb; (try simp at hc hf hz)) | (go_at_call 24; (with_reducible refine (VR.out _ (by (repeat' (first | (with_reducible exact Below.refl _ _) | (with_reducible refine Below.setCell ?_ (by first | omega | (simp; done) | (simp; omega)) _) | (with_reducible refine Below.alloc ?_ (by first | omega | (simp; done) | (simp; omega)) _) | (with_reducible refine Below.drew ?_) | (with_reducible refine below_drewN ?_ _) | (with_reducible refine Below.trans ?_ (Below.mono (by assumption) (by first | omega | (simp; done) | (simp; omega)))))))).mono ?_); rintro e w1 ⟨rfl, hb⟩; obtain ⟨hc, hf, hz⟩ := bcall hb; (try simp at hc hf hz)))
  go_ret
  refine ⟨by simp, ?_⟩
  (repeat' (first | (with_reducible exact Below.refl _ _) | (with_reducible refine Below.setCell ?_ (by first | omega | (simp; done) | (simp; omega)) _) | (with_reducible refine Below.alloc ?_ (by first | omega | (simp; done) | (simp; omega)) _) | (with_reducible refine Below.drew ?_) | (with_reducible refine below_drewN ?_ _) | (with_reducible refine Below.trans ?_ (Below.mono (by assumption) (by first | omega | (simp; done) | (simp; omega))))))
end Go.Proofs.YtmpfchgampiohaaDoor
