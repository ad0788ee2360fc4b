/- Levels: Refine and Coarsen by the reference; both sides as one form. -/
import Derived.Test.YtpnfppcmklcinaaKLevG
namespace Go.Proofs.Ytpnfppcmklcinaa
set_option linter.unusedSimpArgs false
set_option linter.unusedVariables false
open Go.RowKit

attribute [local irreducible] wpStill
set_option maxRecDepth 100000 in
set_option maxHeartbeats 2000000 in
theorem rrefine_bad (W H : Int) (n cap : Nat) (ao : Option Addr) (G : Nat → Nat → Int) (w : World) (hv : ¬ VG W H n G) (hC : CellsIn w ao n G) :
    Calls Try.prog 45 #[.agg #[.int .i64 W, .int .i64 H, .slice (ao) n cap]] w fun e w' => e = .returned (.tuple #[.agg #[.int .i64 0, .int .i64 0, .slice (none) 0 0], .int .i64 1]) ∧ Below w.heap.size w w' := by
  have GV := Lib.hid (fun w' (hb : Below w.heap.size w w') => rValid_bad W H ao n cap G w' hv (hC.below hb))
  clear hv hC
  go_enter Try.func45, Try.ntmps45
  go_wp2_with (go_at_call 80; (with_reducible refine (GV.out _ (by (repeat' (first | (with_reducible exact Below.refl _ _) | (with_reducible refine Below.setCell ?_ (by first | omega | (simp; done) | (simp; omega)) _) | (with_reducible refine Below.alloc ?_ (by first | omega | (simp; done) | (simp; omega)) _) | (with_reducible refine Below.drew ?_) | (with_reducible refine below_drewN ?_ _) | (with_reducible refine Below.trans ?_ (Below.mono (by assumption) (by first | omega | (simp; done) | (simp; omega)))))))).mono ?_); rintro e w1 ⟨rfl, hb⟩; obtain ⟨hc, hf, hz⟩ := bcall hb; (try simp at hc hf hz))
  refine bodyPost_ret (v := .tuple #[.agg #[.int .i64 0, .int .i64 0, .slice (none) 0 0], .int .i64 1]) (by simp [results, Try.results45, go_sem, ↓IntWalk.iteOmega, *]) rfl ⟨rfl, ?_⟩
  (repeat' (first | (with_reducible exact Below.refl _ _) | (with_reducible refine Below.setCell ?_ (by first | omega | (simp; done) | (simp; omega)) _) | (with_reducible refine Below.alloc ?_ (by first | omega | (simp; done) | (simp; omega)) _) | (with_reducible refine Below.drew ?_) | (with_reducible refine below_drewN ?_ _) | (with_reducible refine Below.trans ?_ (Below.mono (by assumption) (by first | omega | (simp; done) | (simp; omega))))))
set_option maxRecDepth 100000 in
set_option maxHeartbeats 2000000 in
theorem rrefine_limit (W H n cap : Nat) (ao : Option Addr) (G : Nat → Nat → Int) (w : World) (s : Sides W H n) (hG : OkG n G) (hC : CellsIn w ao n G) (h : ¬ Sides (2 * W) (2 * H) (n * 4)) :
    Calls Try.prog 45 #[.agg #[.int .i64 W, .int .i64 H, .slice (ao) n cap]] w fun e w' => e = .returned (.tuple #[.agg #[.int .i64 0, .int .i64 0, .slice (none) 0 0], .int .i64 4]) ∧ Below w.heap.size w w' := by
  have GV := Lib.hid (fun w' (hb : Below w.heap.size w w') => rValid_ok W H ao n cap G w' (vg_of s hG) (hC.below hb))
  have hp : (2 * (W : Int)) * (2 * (H : Int)) = 4 * (n : Int) := by rw [s.n0, Int.natCast_mul, show (2 * (W : Int)) * (2 * (H : Int)) = (2 * 2) * ((W : Int) * (H : Int)) from by simp only [Int.mul_assoc, Int.mul_left_comm]]; rfl
  have hn1 := s.n1
  have b1 := s.w1
  have b2 := s.h1
  have SM := Lib.hid (fun w' => small6_no (2 * (W : Int)) (2 * (H : Int)) (4 * (n : Int)) w' hp (by omega) (by omega) (by
    have h1 := s.w0
    have h2 := s.h0
    by_cases g1 : 64 < 2 * W
    · exact .inl (.inl (.inr (by omega)))
    · by_cases g2 : 64 < 2 * H
      · exact .inl (.inr (.inr (by omega)))
      · refine .inr ⟨⟨⟨by omega, by omega⟩, ⟨by omega, by omega⟩⟩, ?_⟩
        rcases Nat.lt_or_ge 1024 (n * 4) with g3 | g3
        · omega
        · exact absurd ⟨by omega, by omega, by omega, by omega, by rw [s.n0, Nat.mul_mul_mul_comm, Nat.mul_comm], g3⟩ h))
  clear s hG hC h hp hn1
  go_enter Try.func45, Try.ntmps45
  go_wp2_with (first | (go_at_call 80; (with_reducible refine (GV.out _ (by (repeat' (first | (with_reducible exact Below.refl _ _) | (with_reducible refine Below.setCell ?_ (by first | omega | (simp; done) | (simp; omega)) _) | (with_reducible refine Below.alloc ?_ (by first | omega | (simp; done) | (simp; omega)) _) | (with_reducible refine Below.drew ?_) | (with_reducible refine below_drewN ?_ _) | (with_reducible refine Below.trans ?_ (Below.mono (by assumption) (by first | omega | (simp; done) | (simp; omega)))))))).mono ?_); rintro e w1 ⟨rfl, hb⟩; obtain ⟨hc, hf, hz⟩ := bcall hb; (try simp at hc hf hz)) | (go_at_call 111; (with_reducible refine (SM.out _).mono ?_); rintro e w1 ⟨rfl, rfl⟩))
  refine bodyPost_ret (v := .tuple #[.agg #[.int .i64 0, .int .i64 0, .slice (none) 0 0], .int .i64 4]) (by simp [results, Try.results45, go_sem, ↓IntWalk.iteOmega, *]) rfl ⟨rfl, ?_⟩
  (repeat' (first | (with_reducible exact Below.refl _ _) | (with_reducible refine Below.setCell ?_ (by first | omega | (simp; done) | (simp; omega)) _) | (with_reducible refine Below.alloc ?_ (by first | omega | (simp; done) | (simp; omega)) _) | (with_reducible refine Below.drew ?_) | (with_reducible refine below_drewN ?_ _) | (with_reducible refine Below.trans ?_ (Below.mono (by assumption) (by first | omega | (simp; done) | (simp; omega))))))
set_option maxRecDepth 100000 in
set_option maxHeartbeats 2000000 in
theorem rrefine_in (W H b off n m cap : Nat) (G : Nat → Nat → Int) (w : World) (s : Sides W H n) (hG : OkG n G) (hlt : b < w.heap.size) (hC : Grd w b off n G) (hm : m = n * 4) (h2 : Sides (2 * W) (2 * H) m) :
    Calls Try.prog 45 #[.agg #[.int .i64 W, .int .i64 H, .slice (some ⟨b, off, none⟩) n cap]] w (Made (2 * (W : Int)) (2 * (H : Int)) m (refG W G) w) := by
  have GV := Lib.hid (fun w' (hb : Below w.heap.size w w') => rValid_ok W H (some ⟨b, off, none⟩) n cap G w' (vg_of s hG) (getI hC hb hlt))
  have RF := Lib.hid (fun w' (hb : Below w.heap.size w w') => refined_in W H b off n m cap G w' s hG (Nat.lt_of_lt_of_le hlt hb.size) (hC.below hb hlt) hm h2)
  have SM := Lib.hid (fun w' => small6_yes (2 * (W : Int)) (2 * (H : Int)) (m : Int) w' (by have := s.w0; omega) (by have := h2.w1; omega) (by have := s.h0; omega) (by have := h2.h1; omega) (by rw [h2.n0]; push_cast; rfl) (by have := h2.n1; omega) (by omega))
  obtain ⟨b1, b2, b3⟩ := h2.twice
  clear s hG hC h2 hm
  go_enter Try.func45, Try.ntmps45
  go_wp2_with (first | (go_at_call 80; (with_reducible refine (GV.out _ (by (repeat' (first | (with_reducible exact Below.refl _ _) | (with_reducible refine Below.setCell ?_ (by first | omega | (simp; done) | (simp; omega)) _) | (with_reducible refine Below.alloc ?_ (by first | omega | (simp; done) | (simp; omega)) _) | (with_reducible refine Below.drew ?_) | (with_reducible refine below_drewN ?_ _) | (with_reducible refine Below.trans ?_ (Below.mono (by assumption) (by first | omega | (simp; done) | (simp; omega)))))))).mono ?_); rintro e w1 ⟨rfl, hb⟩; obtain ⟨hc, hf, hz⟩ := bcall hb; (try simp at hc hf hz)) | (go_at_call 111; (with_reducible refine (SM.out _).mono ?_); rintro e w1 ⟨rfl, rfl⟩) | (go_at_call 112; (with_reducible refine (RF.out _ (by (repeat' (first | (with_reducible exact Below.refl _ _) | (with_reducible refine Below.setCell ?_ (by first | omega | (simp; done) | (simp; omega)) _) | (with_reducible refine Below.alloc ?_ (by first | omega | (simp; done) | (simp; omega)) _) | (with_reducible refine Below.drew ?_) | (with_reducible refine below_drewN ?_ _) | (with_reducible refine Below.trans ?_ (Below.mono (by assumption) (by first | omega | (simp; done) | (simp; omega)))))))).mono ?_); rintro e w7 ⟨o, co, rfl, ho, lo, hb⟩; have HO := Lib.hid ho; have BW := Lib.hid (show Below w.heap.size w w7 from by (repeat' (first | (with_reducible exact Below.refl _ _) | (with_reducible refine Below.setCell ?_ (by first | omega | (simp; done) | (simp; omega)) _) | (with_reducible refine Below.alloc ?_ (by first | omega | (simp; done) | (simp; omega)) _) | (with_reducible refine Below.drew ?_) | (with_reducible refine below_drewN ?_ _) | (with_reducible refine Below.trans ?_ (Below.mono (by assumption) (by first | omega | (simp; done) | (simp; omega))))))); clear ho; obtain ⟨hc, hf, hz⟩ := bcall hb; (try simp at hc hf hz lo)))
  refine bodyPost_ret (v := .tuple #[.agg #[.int .i64 (2 * (W : Int)), .int .i64 (2 * (H : Int)), .slice (some ⟨o, 0, none⟩) m co], .int .i64 0]) (by simp [results, Try.results45, go_sem, ↓IntWalk.iteOmega, *]) rfl ?_
  exact made_pass HO.out.cellsIn BW.out (by omega) (by omega)

set_option maxRecDepth 100000 in
set_option maxHeartbeats 2000000 in
theorem even6_bad (W H : Int) (n cap : Nat) (ao : Option Addr) (G : Nat → Nat → Int) (w : World) (hv : ¬ VG W H n G) (hC : CellsIn w ao n G) :
    Calls Try.prog 113 #[.agg #[.int .i64 W, .int .i64 H, .slice (ao) n cap]] w fun e w' => e = .returned (.int .i64 1) ∧ Below w.heap.size w w' := by
  have GV := Lib.hid (fun w' (hb : Below w.heap.size w w') => rValid_bad W H ao n cap G w' hv (hC.below hb))
  clear hv hC
  go_enter Try.func113, Try.ntmps113
  go_wp2_with (go_at_call 80; (with_reducible refine (GV.out _ (by (repeat' (first | (with_reducible exact Below.refl _ _) | (with_reducible refine Below.setCell ?_ (by first | omega | (simp; done) | (simp; omega)) _) | (with_reducible refine Below.alloc ?_ (by first | omega | (simp; done) | (simp; omega)) _) | (with_reducible refine Below.drew ?_) | (with_reducible refine below_drewN ?_ _) | (with_reducible refine Below.trans ?_ (Below.mono (by assumption) (by first | omega | (simp; done) | (simp; omega)))))))).mono ?_); rintro e w1 ⟨rfl, hb⟩; obtain ⟨hc, hf, hz⟩ := bcall hb; (try simp at hc hf hz))
  go_ret
  refine ⟨rfl, ?_⟩
  (repeat' (first | (with_reducible exact Below.refl _ _) | (with_reducible refine Below.setCell ?_ (by first | omega | (simp; done) | (simp; omega)) _) | (with_reducible refine Below.alloc ?_ (by first | omega | (simp; done) | (simp; omega)) _) | (with_reducible refine Below.drew ?_) | (with_reducible refine below_drewN ?_ _) | (with_reducible refine Below.trans ?_ (Below.mono (by assumption) (by first | omega | (simp; done) | (simp; omega))))))
set_option maxRecDepth 100000 in
set_option maxHeartbeats 2000000 in
theorem even6_odd (W H n cap : Nat) (ao : Option Addr) (G : Nat → Nat → Int) (w : World) (s : Sides W H n) (hG : OkG n G) (hC : CellsIn w ao n G) (h : W % 2 ≠ 0 ∨ H % 2 ≠ 0) :
    Calls Try.prog 113 #[.agg #[.int .i64 W, .int .i64 H, .slice (ao) n cap]] w fun e w' => e = .returned (.int .i64 9) ∧ Below w.heap.size w w' := by
  have GV := Lib.hid (fun w' (hb : Below w.heap.size w w') => rValid_ok W H ao n cap G w' (vg_of s hG) (hC.below hb))
  have t1 : (W : Int).tmod 2 = ((W % 2 : Nat) : Int) := by rw [Int.tmod_eq_emod_of_nonneg (by omega)]; rfl
  have t2 : (H : Int).tmod 2 = ((H % 2 : Nat) : Int) := by rw [Int.tmod_eq_emod_of_nonneg (by omega)]; rfl
  have b1 := s.w1
  have b2 := s.h1
  clear s hG hC
  have u1 : W % 2 < 2 := Nat.mod_lt _ (by omega)
  have u2 : H % 2 < 2 := Nat.mod_lt _ (by omega)
  by_cases g : W % 2 = 0
  · have g2 : H % 2 = 1 := by omega
    rw [g] at t1
    rw [g2] at t2
    clear h g g2 u1 u2
    go_enter Try.func113, Try.ntmps113
    go_wp2_with (go_at_call 80; (with_reducible refine (GV.out _ (by (repeat' (first | (with_reducible exact Below.refl _ _) | (with_reducible refine Below.setCell ?_ (by first | omega | (simp; done) | (simp; omega)) _) | (with_reducible refine Below.alloc ?_ (by first | omega | (simp; done) | (simp; omega)) _) | (with_reducible refine Below.drew ?_) | (with_reducible refine below_drewN ?_ _) | (with_reducible refine Below.trans ?_ (Below.mono (by assumption) (by first | omega | (simp; done) | (simp; omega)))))))).mono ?_); rintro e w1 ⟨rfl, hb⟩; obtain ⟨hc, hf, hz⟩ := bcall hb; (try simp at hc hf hz))
    go_ret
    refine ⟨rfl, ?_⟩
    (repeat' (first | (with_reducible exact Below.refl _ _) | (with_reducible refine Below.setCell ?_ (by first | omega | (simp; done) | (simp; omega)) _) | (with_reducible refine Below.alloc ?_ (by first | omega | (simp; done) | (simp; omega)) _) | (with_reducible refine Below.drew ?_) | (with_reducible refine below_drewN ?_ _) | (with_reducible refine Below.trans ?_ (Below.mono (by assumption) (by first | omega | (simp; done) | (simp; omega))))))
  · have g1 : W % 2 = 1 := by omega
    rw [g1] at t1
    clear h g g1 u1 u2 t2
    go_enter Try.func113, Try.ntmps113
    go_wp2_with (go_at_call 80; (with_reducible refine (GV.out _ (by (repeat' (first | (with_reducible exact Below.refl _ _) | (with_reducible refine Below.setCell ?_ (by first | omega | (simp; done) | (simp; omega)) _) | (with_reducible refine Below.alloc ?_ (by first | omega | (simp; done) | (simp; omega)) _) | (with_reducible refine Below.drew ?_) | (with_reducible refine below_drewN ?_ _) | (with_reducible refine Below.trans ?_ (Below.mono (by assumption) (by first | omega | (simp; done) | (simp; omega)))))))).mono ?_); rintro e w1 ⟨rfl, hb⟩; obtain ⟨hc, hf, hz⟩ := bcall hb; (try simp at hc hf hz))
    go_ret
    refine ⟨rfl, ?_⟩
    (repeat' (first | (with_reducible exact Below.refl _ _) | (with_reducible refine Below.setCell ?_ (by first | omega | (simp; done) | (simp; omega)) _) | (with_reducible refine Below.alloc ?_ (by first | omega | (simp; done) | (simp; omega)) _) | (with_reducible refine Below.drew ?_) | (with_reducible refine below_drewN ?_ _) | (with_reducible refine Below.trans ?_ (Below.mono (by assumption) (by first | omega | (simp; done) | (simp; omega))))))
set_option maxRecDepth 100000 in
set_option maxHeartbeats 2000000 in
theorem even6_ok (W H m cap : Nat) (ao : Option Addr) (G : Nat → Nat → Int) (w : World) (h2 : Sides (2 * W) (2 * H) m) (hG : OkG m G) (hC : CellsIn w ao m G) :
    Calls Try.prog 113 #[.agg #[.int .i64 (2 * (W : Int)), .int .i64 (2 * (H : Int)), .slice (ao) m cap]] w fun e w' => e = .returned (.int .i64 0) ∧ Below w.heap.size w w' := by
  have GV := Lib.hid (fun w' (hb : Below w.heap.size w w') => show Calls Try.prog 80 #[.agg #[.int .i64 (2 * (W : Int)), .int .i64 (2 * (H : Int)), .slice (ao) m cap]] w' fun e w'' => e = .returned (.bool true) ∧ Below w'.heap.size w' w'' from rValid_ok (2 * W : Nat) (2 * H : Nat) ao m cap G w' (vg_of h2 hG) (hC.below hb))
  have t1 : (2 * (W : Int)).tmod 2 = 0 := by rw [Int.tmod_eq_emod_of_nonneg (by omega)]; omega
  have t2 : (2 * (H : Int)).tmod 2 = 0 := by rw [Int.tmod_eq_emod_of_nonneg (by omega)]; omega
  obtain ⟨b1, b2, b3⟩ := h2.twice
  clear h2 hG hC
  go_enter Try.func113, Try.ntmps113
  go_wp2_with (go_at_call 80; (with_reducible refine (GV.out _ (by (repeat' (first | (with_reducible exact Below.refl _ _) | (with_reducible refine Below.setCell ?_ (by first | omega | (simp; done) | (simp; omega)) _) | (with_reducible refine Below.alloc ?_ (by first | omega | (simp; done) | (simp; omega)) _) | (with_reducible refine Below.drew ?_) | (with_reducible refine below_drewN ?_ _) | (with_reducible refine Below.trans ?_ (Below.mono (by assumption) (by first | omega | (simp; done) | (simp; omega)))))))).mono ?_); rintro e w1 ⟨rfl, hb⟩; obtain ⟨hc, hf, hz⟩ := bcall hb; (try simp at hc hf hz))
  go_ret
  refine ⟨rfl, ?_⟩
  (repeat' (first | (with_reducible exact Below.refl _ _) | (with_reducible refine Below.setCell ?_ (by first | omega | (simp; done) | (simp; omega)) _) | (with_reducible refine Below.alloc ?_ (by first | omega | (simp; done) | (simp; omega)) _) | (with_reducible refine Below.drew ?_) | (with_reducible refine below_drewN ?_ _) | (with_reducible refine Below.trans ?_ (Below.mono (by assumption) (by first | omega | (simp; done) | (simp; omega))))))

set_option maxRecDepth 100000 in
set_option maxHeartbeats 2000000 in
theorem rcoarsen_err (W H : Int) (n cap : Nat) (ao : Option Addr) (z : Int) (w : World) (hz : z ≠ 0) (h : ∀ w', Below w.heap.size w w' → Calls Try.prog 113 #[.agg #[.int .i64 W, .int .i64 H, .slice (ao) n cap]] w' fun e w'' => e = .returned (.int .i64 z) ∧ Below w'.heap.size w' w'') :
    Calls Try.prog 48 #[.agg #[.int .i64 W, .int .i64 H, .slice (ao) n cap]] w fun e w' => e = .returned (.tuple #[.agg #[.int .i64 0, .int .i64 0, .slice (none) 0 0], .int .i64 z]) ∧ Below w.heap.size w w' := by
  have EV := Lib.hid h
  have z0 : (z == 0) = false := beq_eq_false_iff_ne.2 hz
  have z1 : (z != 0) = true := by simp [bne, z0]
  clear h hz
  go_enter Try.func48, Try.ntmps48
  go_wp2_with (go_at_call 113; (with_reducible refine (EV.out _ (by (repeat' (first | (with_reducible exact Below.refl _ _) | (with_reducible refine Below.setCell ?_ (by first | omega | (simp; done) | (simp; omega)) _) | (with_reducible refine Below.alloc ?_ (by first | omega | (simp; done) | (simp; omega)) _) | (with_reducible refine Below.drew ?_) | (with_reducible refine below_drewN ?_ _) | (with_reducible refine Below.trans ?_ (Below.mono (by assumption) (by first | omega | (simp; done) | (simp; omega)))))))).mono ?_); rintro e w1 ⟨rfl, hb⟩; obtain ⟨hc, hf, hz⟩ := bcall hb; (try simp at hc hf hz))
  refine bodyPost_ret (v := .tuple #[.agg #[.int .i64 0, .int .i64 0, .slice (none) 0 0], .int .i64 z]) (by simp [results, Try.results48, go_sem, ↓IntWalk.iteOmega, *]) rfl ⟨rfl, ?_⟩
  (repeat' (first | (with_reducible exact Below.refl _ _) | (with_reducible refine Below.setCell ?_ (by first | omega | (simp; done) | (simp; omega)) _) | (with_reducible refine Below.alloc ?_ (by first | omega | (simp; done) | (simp; omega)) _) | (with_reducible refine Below.drew ?_) | (with_reducible refine below_drewN ?_ _) | (with_reducible refine Below.trans ?_ (Below.mono (by assumption) (by first | omega | (simp; done) | (simp; omega))))))
set_option maxRecDepth 100000 in
set_option maxHeartbeats 2000000 in
theorem rcoarsen_in (W H b off n m cap : Nat) (G : Nat → Nat → Int) (w : World) (s : Sides W H n) (hm : m = n * 4) (h2 : Sides (2 * W) (2 * H) m) (hG : OkG m G) (hlt : b < w.heap.size) (hC : Grd w b off m G) :
    Calls Try.prog 48 #[.agg #[.int .i64 (2 * (W : Int)), .int .i64 (2 * (H : Int)), .slice (some ⟨b, off, none⟩) m cap]] w (Made W H n (coaG W G) w) := by
  have EV := Lib.hid (fun w' (hb : Below w.heap.size w w') => even6_ok W H m cap (some ⟨b, off, none⟩) G w' h2 hG (getI hC hb hlt))
  have CO := Lib.hid (fun w' (hb : Below w.heap.size w w') => coarsened_in W H b off n m cap G w' s hm h2 hG (Nat.lt_of_lt_of_le hlt hb.size) (hC.below hb hlt))
  clear s hG hC h2 hm
  go_enter Try.func48, Try.ntmps48
  go_wp2_with (first | (go_at_call 113; (with_reducible refine (EV.out _ (by (repeat' (first | (with_reducible exact Below.refl _ _) | (with_reducible refine Below.setCell ?_ (by first | omega | (simp; done) | (simp; omega)) _) | (with_reducible refine Below.alloc ?_ (by first | omega | (simp; done) | (simp; omega)) _) | (with_reducible refine Below.drew ?_) | (with_reducible refine below_drewN ?_ _) | (with_reducible refine Below.trans ?_ (Below.mono (by assumption) (by first | omega | (simp; done) | (simp; omega)))))))).mono ?_); rintro e w1 ⟨rfl, hb⟩; obtain ⟨hc, hf, hz⟩ := bcall hb; (try simp at hc hf hz)) | (go_at_call 114; (with_reducible refine (CO.out _ (by (repeat' (first | (with_reducible exact Below.refl _ _) | (with_reducible refine Below.setCell ?_ (by first | omega | (simp; done) | (simp; omega)) _) | (with_reducible refine Below.alloc ?_ (by first | omega | (simp; done) | (simp; omega)) _) | (with_reducible refine Below.drew ?_) | (with_reducible refine below_drewN ?_ _) | (with_reducible refine Below.trans ?_ (Below.mono (by assumption) (by first | omega | (simp; done) | (simp; omega)))))))).mono ?_); rintro e w7 ⟨o, co, rfl, ho, lo, hb⟩; have HO := Lib.hid ho; have BW := Lib.hid (show Below w.heap.size w w7 from by (repeat' (first | (with_reducible exact Below.refl _ _) | (with_reducible refine Below.setCell ?_ (by first | omega | (simp; done) | (simp; omega)) _) | (with_reducible refine Below.alloc ?_ (by first | omega | (simp; done) | (simp; omega)) _) | (with_reducible refine Below.drew ?_) | (with_reducible refine below_drewN ?_ _) | (with_reducible refine Below.trans ?_ (Below.mono (by assumption) (by first | omega | (simp; done) | (simp; omega))))))); clear ho; obtain ⟨hc, hf, hz⟩ := bcall hb; (try simp at hc hf hz lo)))
  refine bodyPost_ret (v := .tuple #[.agg #[.int .i64 W, .int .i64 H, .slice (some ⟨o, 0, none⟩) n co], .int .i64 0]) (by simp [results, Try.results48, go_sem, ↓IntWalk.iteOmega, *]) rfl ?_
  exact made_pass HO.out.cellsIn BW.out (by omega) (by omega)

/-- A grid that can be refined. -/
def CanRef (W H : Int) (n : Nat) (G : Nat → Nat → Int) (W0 H0 : Nat) : Prop := W = W0 ∧ H = H0 ∧ Sides W0 H0 n ∧ OkG n G ∧ Sides (2 * W0) (2 * H0) (n * 4)
theorem refine_gz (W H : Int) (ao : Option Addr) (n cap : Nat) (G : Nat → Nat → Int) : ∃ (W' H' : Int) (n' : Nat) (K : Nat → Nat → Int) (z : Int),
    (∀ w, CellsIn w ao n G → Calls Try.prog 44 #[.agg #[.int .i64 W, .int .i64 H, .slice (ao) n cap]] w (GZ W' H' n' K z w)) ∧ (∀ w, CellsIn w ao n G → Calls Try.prog 45 #[.agg #[.int .i64 W, .int .i64 H, .slice (ao) n cap]] w (GZ W' H' n' K z w)) ∧ n' ≤ 1024 ∧
    (z = 0 → ∃ W0 H0 : Nat, CanRef W H n G W0 H0 ∧ W' = 2 * (W0 : Int) ∧ H' = 2 * (H0 : Int) ∧ n' = n * 4 ∧ K = refG W0 G) := by
  by_cases hv : VG W H n G
  · obtain ⟨W0, H0, rfl, rfl, s, hG⟩ := Sides.vg hv
    by_cases h2 : Sides (2 * W0) (2 * H0) (n * 4)
    · refine ⟨2 * (W0 : Int), 2 * (H0 : Int), n * 4, refG W0 G, 0, fun w hC => ?_, fun w hC => ?_, h2.n1, fun _ => ⟨W0, H0, ⟨rfl, rfl, s, hG, h2⟩, rfl, rfl, rfl, rfl⟩⟩
      · obtain ⟨b, off, rfl, hlt, hGr⟩ := cells_of1 s hC
        exact (refine_in W0 H0 b off n (n * 4) cap G w s hG hlt hGr rfl h2).mono fun _ _ h => gz_made h
      · obtain ⟨b, off, rfl, hlt, hGr⟩ := cells_of1 s hC
        exact (rrefine_in W0 H0 b off n (n * 4) cap G w s hG hlt hGr rfl h2).mono fun _ _ h => gz_made h
    · exact ⟨0, 0, 0, G, 4, fun w hC => (refine_limit W0 H0 n cap ao G w s hG hC h2).mono fun _ _ h => gz_err h, fun w hC => (rrefine_limit W0 H0 n cap ao G w s hG hC h2).mono fun _ _ h => gz_err h, by omega, fun h => by omega⟩
  · exact ⟨0, 0, 0, G, 1, fun w hC => (refine_bad W H n cap ao G w hv hC).mono fun _ _ h => gz_err h, fun w hC => (rrefine_bad W H n cap ao G w hv hC).mono fun _ _ h => gz_err h, by omega, fun h => by omega⟩

/-- A grid that can be made coarse. -/
def CanCoa (W H : Int) (m : Nat) (G : Nat → Nat → Int) (W0 H0 n : Nat) : Prop := W = 2 * (W0 : Int) ∧ H = 2 * (H0 : Int) ∧ Sides W0 H0 n ∧ m = n * 4 ∧ Sides (2 * W0) (2 * H0) m ∧ OkG m G
theorem canCoa_of {W0 H0 m : Nat} {G : Nat → Nat → Int} (s : Sides W0 H0 m) (hG : OkG m G) (hw : W0 % 2 = 0) (hh : H0 % 2 = 0) : CanCoa W0 H0 m G (W0 / 2) (H0 / 2) (W0 / 2 * (H0 / 2)) := by
  have ew : 2 * (W0 / 2) = W0 := by omega
  have eh : 2 * (H0 / 2) = H0 := by omega
  have em : m = W0 / 2 * (H0 / 2) * 4 := by
    rw [s.n0]
    conv => lhs; rw [← ew, ← eh]
    rw [Nat.mul_mul_mul_comm, Nat.mul_comm]
  refine ⟨by omega, by omega, ⟨by have := s.w0; omega, by have := s.w1; omega, by have := s.h0; omega, by have := s.h1; omega, rfl, by have := s.n1; omega⟩, em, ?_, hG⟩
  rw [ew, eh]
  exact s
theorem coarsen_gz (W H : Int) (ao : Option Addr) (m cap : Nat) (G : Nat → Nat → Int) : ∃ (W' H' : Int) (n' : Nat) (K : Nat → Nat → Int) (z : Int),
    (∀ w, CellsIn w ao m G → Calls Try.prog 47 #[.agg #[.int .i64 W, .int .i64 H, .slice (ao) m cap]] w (GZ W' H' n' K z w)) ∧ (∀ w, CellsIn w ao m G → Calls Try.prog 48 #[.agg #[.int .i64 W, .int .i64 H, .slice (ao) m cap]] w (GZ W' H' n' K z w)) ∧ n' ≤ 1024 ∧
    ((z = 0 ∧ ∃ W0 H0 n : Nat, CanCoa W H m G W0 H0 n ∧ W' = (W0 : Int) ∧ H' = (H0 : Int) ∧ n' = n ∧ K = coaG W0 G) ∨ (z ≠ 0 ∧ n' = 0 ∧ W' = 0 ∧ H' = 0 ∧ ∀ W1 H1 n1 : Nat, ¬ CanCoa W H m G W1 H1 n1)) ∧ (z ≠ 0 → ∀ w, CellsIn w ao m G → Calls Try.prog 113 #[.agg #[.int .i64 W, .int .i64 H, .slice (ao) m cap]] w fun e w' => e = .returned (.int .i64 z) ∧ Below w.heap.size w w') := by
  by_cases hv : VG W H m G
  · obtain ⟨W0, H0, rfl, rfl, s, hG⟩ := Sides.vg hv
    by_cases h2 : W0 % 2 = 0 ∧ H0 % 2 = 0
    · obtain ⟨e1, e2, c1, c2, c3, c4⟩ := canCoa_of s hG h2.1 h2.2
      refine ⟨(W0 / 2 : Nat), (H0 / 2 : Nat), W0 / 2 * (H0 / 2), coaG (W0 / 2) G, 0, fun w hC => ?_, fun w hC => ?_, c1.n1, .inl ⟨rfl, W0 / 2, H0 / 2, _, ⟨e1, e2, c1, c2, c3, c4⟩, rfl, rfl, rfl, rfl⟩, fun h => absurd rfl h⟩
      · obtain ⟨b, off, rfl, hlt, hGr⟩ := cells_of1 s hC
        rw [e1, e2]
        exact (coarsen_in (W0 / 2) (H0 / 2) b off _ m cap G w c1 c2 c3 hG hlt hGr).mono fun _ _ h => gz_made h
      · obtain ⟨b, off, rfl, hlt, hGr⟩ := cells_of1 s hC
        rw [e1, e2]
        exact (rcoarsen_in (W0 / 2) (H0 / 2) b off _ m cap G w c1 c2 c3 hG hlt hGr).mono fun _ _ h => gz_made h
    · have ho : W0 % 2 ≠ 0 ∨ H0 % 2 ≠ 0 := by omega
      exact ⟨0, 0, 0, G, 9, fun w hC => (coarsen_size W0 H0 m cap ao G w s hG hC ho).mono fun _ _ h => gz_err h, fun w hC => (rcoarsen_err W0 H0 m cap ao 9 w (by omega) (fun w' hb => even6_odd W0 H0 m cap ao G w' s hG (hC.below hb) ho)).mono fun _ _ h => gz_err h, by omega, .inr ⟨by omega, rfl, rfl, rfl, fun W1 H1 n1 c => by have := c.1; have := c.2.1; omega⟩, fun _ w hC => even6_odd W0 H0 m cap ao G w s hG hC ho⟩
  · exact ⟨0, 0, 0, G, 1, fun w hC => (coarsen_bad W H m cap ao G w hv hC).mono fun _ _ h => gz_err h, fun w hC => (rcoarsen_err W H m cap ao 1 w (by omega) (fun w' hb => even6_bad W H m cap ao G w' hv (hC.below hb))).mono fun _ _ h => gz_err h, by omega, .inr ⟨by omega, rfl, rfl, rfl, fun W1 H1 n1 c => hv (by obtain ⟨rfl, rfl, _, _, c3, c4⟩ := c; exact vg_of c3 c4)⟩, fun _ w hC => even6_bad W H m cap ao G w hv hC⟩
end Go.Proofs.Ytpnfppcmklcinaa
