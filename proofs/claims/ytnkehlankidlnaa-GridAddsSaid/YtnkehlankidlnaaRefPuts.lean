/- Put and Take: by the reference. -/
import Derived.Test.YtnkehlankidlnaaPuts
import Derived.Test.YtnkehlankidlnaaRefMv
namespace Go.Proofs.Ytnkehlankidlnaa
set_option linter.unusedSimpArgs false
set_option linter.unusedVariables false
open Go.RowKit

set_option maxHeartbeats 1000000 in
theorem rOn_yes (W H px py : Int) (ao : Option Addr) (n cap : Nat) (w : World) (w0 : 1 ≤ W) (w1 : W ≤ 64) (h0 : 1 ≤ H) (h1 : H ≤ 64) (h : 0 ≤ px ∧ px < W ∧ 0 ≤ py ∧ py < H) :
    Calls Try.prog 108 #[.agg #[.int .i64 W, .int .i64 H, .slice (ao) n cap], .agg #[.int .i64 px, .int .i64 py]] w fun e w' => e = .returned (.bool true) ∧ Below w.heap.size w w' := by
  obtain ⟨k0, k1, k2, k3⟩ := h
  go_enter Try.func108, Try.ntmps108
  go_wp2_with (go_at_call 109; (with_reducible refine (within2_yes _ _ _ _ (by omega) (by omega)).mono ?_); rintro e w1 ⟨rfl, rfl⟩)
  go_ret
  refine ⟨by simp, ?_⟩
  (repeat' (first | (with_reducible exact Below.refl _ _) | (with_reducible refine Below.setCell ?_ (by first | omega | (simp; done) | (simp; omega)) _) | (with_reducible refine Below.alloc ?_ (by first | omega | (simp; done) | (simp; omega)) _) | (with_reducible refine Below.drew ?_) | (with_reducible refine below_drewN ?_ _) | (with_reducible refine Below.trans ?_ (Below.mono (by assumption) (by first | omega | (simp; done) | (simp; omega))))))
set_option maxHeartbeats 2000000 in
theorem rOn_no (W H px py : Int) (ao : Option Addr) (n cap : Nat) (w : World) (w0 : 1 ≤ W) (w1 : W ≤ 64) (h0 : 1 ≤ H) (h1 : H ≤ 64) (h : ¬ (0 ≤ px ∧ px < W ∧ 0 ≤ py ∧ py < H)) :
    Calls Try.prog 108 #[.agg #[.int .i64 W, .int .i64 H, .slice (ao) n cap], .agg #[.int .i64 px, .int .i64 py]] w fun e w' => e = .returned (.bool false) ∧ Below w.heap.size w w' := by
  by_cases hx : 0 ≤ px ∧ px < W
  · have hy : py < 0 ∨ H - 1 < py := by omega
    obtain ⟨x0, x1⟩ := hx
    clear h
    go_enter Try.func108, Try.ntmps108
    go_wp2_with (first | (go_at_call 109; (with_reducible refine (within2_yes px 0 (W - 1) _ (by omega) (by omega)).mono ?_); rintro e w1 ⟨rfl, rfl⟩) | (go_at_call 109; (with_reducible refine (within2_no py 0 (H - 1) _ hy).mono ?_); rintro e w1 ⟨rfl, rfl⟩))
    go_ret
    refine ⟨by simp, ?_⟩
    (repeat' (first | (with_reducible exact Below.refl _ _) | (with_reducible refine Below.setCell ?_ (by first | omega | (simp; done) | (simp; omega)) _) | (with_reducible refine Below.alloc ?_ (by first | omega | (simp; done) | (simp; omega)) _) | (with_reducible refine Below.drew ?_) | (with_reducible refine below_drewN ?_ _) | (with_reducible refine Below.trans ?_ (Below.mono (by assumption) (by first | omega | (simp; done) | (simp; omega))))))
  · have hy : px < 0 ∨ W - 1 < px := by omega
    clear h hx
    go_enter Try.func108, Try.ntmps108
    go_wp2_with (go_at_call 109; (with_reducible refine (within2_no px 0 (W - 1) _ hy).mono ?_); rintro e w1 ⟨rfl, rfl⟩)
    go_ret
    refine ⟨by simp, ?_⟩
    (repeat' (first | (with_reducible exact Below.refl _ _) | (with_reducible refine Below.setCell ?_ (by first | omega | (simp; done) | (simp; omega)) _) | (with_reducible refine Below.alloc ?_ (by first | omega | (simp; done) | (simp; omega)) _) | (with_reducible refine Below.drew ?_) | (with_reducible refine below_drewN ?_ _) | (with_reducible refine Below.trans ?_ (Below.mono (by assumption) (by first | omega | (simp; done) | (simp; omega))))))

set_option maxHeartbeats 2000000 in
theorem pErr_ok (W H : Int) (ao : Option Addr) (n cap : Nat) (G : Nat → Nat → Int) (px py d v : Int) (w : World) (hv : VG W H n G) (hC : CellsIn w ao n G) (hp : Pop W H px py d) (hc' : Cnt v) :
    Calls Try.prog 73 #[.agg #[.int .i64 W, .int .i64 H, .slice (ao) n cap], .agg #[.int .i64 px, .int .i64 py], .int .i64 d, .int .i64 v] w fun e w' => e = .returned (.int .i64 0) ∧ Below w.heap.size w w' := by
  obtain ⟨s0, s1, s2, s3, s4⟩ := hv.1
  obtain ⟨p0, p1, p2, p3, p4, p5⟩ := hp
  obtain ⟨v0, v1⟩ := hc'
  have HV := Lib.hid hv; clear hv
  have HC := Lib.hid hC; clear hC
  clear s4
  go_enter Try.func73, Try.ntmps73
  go_wp2_with (first | (go_at_call 59; (with_reducible refine (rValid_ok W H ao n cap G _ HV.out (HC.out.below (by (repeat' (first | (with_reducible exact Below.refl _ _) | (with_reducible refine Below.setCell ?_ (by first | omega | (simp; done) | (simp; omega)) _) | (with_reducible refine Below.alloc ?_ (by first | omega | (simp; done) | (simp; omega)) _) | (with_reducible refine Below.drew ?_) | (with_reducible refine below_drewN ?_ _) | (with_reducible refine Below.trans ?_ (Below.mono (by assumption) (by first | omega | (simp; done) | (simp; omega))))))))).mono ?_); rintro e w1 ⟨rfl, hb⟩; obtain ⟨hc, hf, hz⟩ := bcall hb; (try simp at hc hf hz)) | (go_at_call 108; (with_reducible refine (rOn_yes W H px py ao n cap _ s0 s1 s2 s3 ⟨p0, p1, p2, p3⟩).mono ?_); rintro e w1 ⟨rfl, hb⟩; obtain ⟨hc, hf, hz⟩ := bcall hb; (try simp at hc hf hz)) | (go_at_call 109; (with_reducible refine (within2_yes d 0 3 _ (by omega) (by omega)).mono ?_); rintro e w1 ⟨rfl, rfl⟩) | (go_at_call 109; (with_reducible refine (within2_yes v 0 1000000000 _ (by omega) (by omega)).mono ?_); rintro e w1 ⟨rfl, rfl⟩))
  go_ret
  refine ⟨by simp, ?_⟩
  (repeat' (first | (with_reducible exact Below.refl _ _) | (with_reducible refine Below.setCell ?_ (by first | omega | (simp; done) | (simp; omega)) _) | (with_reducible refine Below.alloc ?_ (by first | omega | (simp; done) | (simp; omega)) _) | (with_reducible refine Below.drew ?_) | (with_reducible refine below_drewN ?_ _) | (with_reducible refine Below.trans ?_ (Below.mono (by assumption) (by first | omega | (simp; done) | (simp; omega))))))
set_option maxHeartbeats 1000000 in
theorem pErr_inv (W H : Int) (ao : Option Addr) (n cap : Nat) (G : Nat → Nat → Int) (px py d v : Int) (w : World) (hv : ¬ VG W H n G) (hC : CellsIn w ao n G) :
    Calls Try.prog 73 #[.agg #[.int .i64 W, .int .i64 H, .slice (ao) n cap], .agg #[.int .i64 px, .int .i64 py], .int .i64 d, .int .i64 v] w fun e w' => e = .returned (.int .i64 1) ∧ Below w.heap.size w w' := by
  have HV := Lib.hid hv; clear hv
  have HC := Lib.hid hC; clear hC
  go_enter Try.func73, Try.ntmps73
  go_wp2_with (go_at_call 59; (with_reducible refine (rValid_bad W H ao n cap G _ HV.out (HC.out.below (by (repeat' (first | (with_reducible exact Below.refl _ _) | (with_reducible refine Below.setCell ?_ (by first | omega | (simp; done) | (simp; omega)) _) | (with_reducible refine Below.alloc ?_ (by first | omega | (simp; done) | (simp; omega)) _) | (with_reducible refine Below.drew ?_) | (with_reducible refine below_drewN ?_ _) | (with_reducible refine Below.trans ?_ (Below.mono (by assumption) (by first | omega | (simp; done) | (simp; omega))))))))).mono ?_); rintro e w1 ⟨rfl, hb⟩; obtain ⟨hc, hf, hz⟩ := bcall hb; (try simp at hc hf hz))
  go_ret
  refine ⟨by simp, ?_⟩
  (repeat' (first | (with_reducible exact Below.refl _ _) | (with_reducible refine Below.setCell ?_ (by first | omega | (simp; done) | (simp; omega)) _) | (with_reducible refine Below.alloc ?_ (by first | omega | (simp; done) | (simp; omega)) _) | (with_reducible refine Below.drew ?_) | (with_reducible refine below_drewN ?_ _) | (with_reducible refine Below.trans ?_ (Below.mono (by assumption) (by first | omega | (simp; done) | (simp; omega))))))
set_option maxHeartbeats 4000000 in
theorem pErr_range (W H : Int) (ao : Option Addr) (n cap : Nat) (G : Nat → Nat → Int) (px py d v : Int) (w : World) (hv : VG W H n G) (hC : CellsIn w ao n G) (hr : ¬ (Pop W H px py d ∧ Cnt v)) :
    Calls Try.prog 73 #[.agg #[.int .i64 W, .int .i64 H, .slice (ao) n cap], .agg #[.int .i64 px, .int .i64 py], .int .i64 d, .int .i64 v] w fun e w' => e = .returned (.int .i64 7) ∧ Below w.heap.size w w' := by
  obtain ⟨s0, s1, s2, s3, s4⟩ := hv.1
  have HV := Lib.hid hv; clear hv
  have HC := Lib.hid hC; clear hC
  clear s4
  by_cases hon : 0 ≤ px ∧ px < W ∧ 0 ≤ py ∧ py < H
  · by_cases hd : 0 ≤ d ∧ d ≤ 3
    · have hv' : v < 0 ∨ 1000000000 < v := by
        rcases Int.lt_or_le v 0 with h | h
        · exact .inl h
        · rcases Int.lt_or_le 1000000000 v with h' | h'
          · exact .inr h'
          · exact absurd ⟨⟨hon.1, hon.2.1, hon.2.2.1, hon.2.2.2, hd.1, hd.2⟩, h, h'⟩ hr
      have HN := Lib.hid hon
      have HVV := Lib.hid hv'
      obtain ⟨d0, d1⟩ := hd
      clear hr hon hv'
      go_enter Try.func73, Try.ntmps73
      go_wp2_with (first | (go_at_call 59; (with_reducible refine (rValid_ok W H ao n cap G _ HV.out (HC.out.below (by (repeat' (first | (with_reducible exact Below.refl _ _) | (with_reducible refine Below.setCell ?_ (by first | omega | (simp; done) | (simp; omega)) _) | (with_reducible refine Below.alloc ?_ (by first | omega | (simp; done) | (simp; omega)) _) | (with_reducible refine Below.drew ?_) | (with_reducible refine below_drewN ?_ _) | (with_reducible refine Below.trans ?_ (Below.mono (by assumption) (by first | omega | (simp; done) | (simp; omega))))))))).mono ?_); rintro e w1 ⟨rfl, hb⟩; obtain ⟨hc, hf, hz⟩ := bcall hb; (try simp at hc hf hz)) | (go_at_call 108; (with_reducible refine (rOn_yes W H px py ao n cap _ s0 s1 s2 s3 HN.out).mono ?_); rintro e w1 ⟨rfl, hb⟩; obtain ⟨hc, hf, hz⟩ := bcall hb; (try simp at hc hf hz)) | (go_at_call 109; (with_reducible refine (within2_yes d 0 3 _ (by omega) (by omega)).mono ?_); rintro e w1 ⟨rfl, rfl⟩) | (go_at_call 109; (with_reducible refine (within2_no v 0 1000000000 _ HVV.out).mono ?_); rintro e w1 ⟨rfl, rfl⟩))
      go_ret
      refine ⟨by simp, ?_⟩
      (repeat' (first | (with_reducible exact Below.refl _ _) | (with_reducible refine Below.setCell ?_ (by first | omega | (simp; done) | (simp; omega)) _) | (with_reducible refine Below.alloc ?_ (by first | omega | (simp; done) | (simp; omega)) _) | (with_reducible refine Below.drew ?_) | (with_reducible refine below_drewN ?_ _) | (with_reducible refine Below.trans ?_ (Below.mono (by assumption) (by first | omega | (simp; done) | (simp; omega))))))
    · have HN := Lib.hid hon
      have HD := Lib.hid (show d < 0 ∨ 3 < d by omega)
      clear hr hon hd
      go_enter Try.func73, Try.ntmps73
      go_wp2_with (first | (go_at_call 59; (with_reducible refine (rValid_ok W H ao n cap G _ HV.out (HC.out.below (by (repeat' (first | (with_reducible exact Below.refl _ _) | (with_reducible refine Below.setCell ?_ (by first | omega | (simp; done) | (simp; omega)) _) | (with_reducible refine Below.alloc ?_ (by first | omega | (simp; done) | (simp; omega)) _) | (with_reducible refine Below.drew ?_) | (with_reducible refine below_drewN ?_ _) | (with_reducible refine Below.trans ?_ (Below.mono (by assumption) (by first | omega | (simp; done) | (simp; omega))))))))).mono ?_); rintro e w1 ⟨rfl, hb⟩; obtain ⟨hc, hf, hz⟩ := bcall hb; (try simp at hc hf hz)) | (go_at_call 108; (with_reducible refine (rOn_yes W H px py ao n cap _ s0 s1 s2 s3 HN.out).mono ?_); rintro e w1 ⟨rfl, hb⟩; obtain ⟨hc, hf, hz⟩ := bcall hb; (try simp at hc hf hz)) | (go_at_call 109; (with_reducible refine (within2_no d 0 3 _ HD.out).mono ?_); rintro e w1 ⟨rfl, rfl⟩))
      go_ret
      refine ⟨by simp, ?_⟩
      (repeat' (first | (with_reducible exact Below.refl _ _) | (with_reducible refine Below.setCell ?_ (by first | omega | (simp; done) | (simp; omega)) _) | (with_reducible refine Below.alloc ?_ (by first | omega | (simp; done) | (simp; omega)) _) | (with_reducible refine Below.drew ?_) | (with_reducible refine below_drewN ?_ _) | (with_reducible refine Below.trans ?_ (Below.mono (by assumption) (by first | omega | (simp; done) | (simp; omega))))))
  · have HN := Lib.hid hon
    clear hr hon
    go_enter Try.func73, Try.ntmps73
    go_wp2_with (first | (go_at_call 59; (with_reducible refine (rValid_ok W H ao n cap G _ HV.out (HC.out.below (by (repeat' (first | (with_reducible exact Below.refl _ _) | (with_reducible refine Below.setCell ?_ (by first | omega | (simp; done) | (simp; omega)) _) | (with_reducible refine Below.alloc ?_ (by first | omega | (simp; done) | (simp; omega)) _) | (with_reducible refine Below.drew ?_) | (with_reducible refine below_drewN ?_ _) | (with_reducible refine Below.trans ?_ (Below.mono (by assumption) (by first | omega | (simp; done) | (simp; omega))))))))).mono ?_); rintro e w1 ⟨rfl, hb⟩; obtain ⟨hc, hf, hz⟩ := bcall hb; (try simp at hc hf hz)) | (go_at_call 108; (with_reducible refine (rOn_no W H px py ao n cap _ s0 s1 s2 s3 HN.out).mono ?_); rintro e w1 ⟨rfl, hb⟩; obtain ⟨hc, hf, hz⟩ := bcall hb; (try simp at hc hf hz)))
    go_ret
    refine ⟨by simp, ?_⟩
    (repeat' (first | (with_reducible exact Below.refl _ _) | (with_reducible refine Below.setCell ?_ (by first | omega | (simp; done) | (simp; omega)) _) | (with_reducible refine Below.alloc ?_ (by first | omega | (simp; done) | (simp; omega)) _) | (with_reducible refine Below.drew ?_) | (with_reducible refine below_drewN ?_ _) | (with_reducible refine Below.trans ?_ (Below.mono (by assumption) (by first | omega | (simp; done) | (simp; omega))))))
end Go.Proofs.Ytnkehlankidlnaa
