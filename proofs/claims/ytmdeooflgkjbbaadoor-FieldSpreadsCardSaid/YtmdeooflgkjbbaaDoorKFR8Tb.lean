/- Cells, Density, Velocity: by the reference of the fields. -/
import Derived.Test.YtmdeooflgkjbbaaDoorKFTab
import Derived.Test.YtmdeooflgkjbbaaDoorKFVor
namespace Go.Proofs.YtmdeooflgkjbbaaDoor
set_option linter.unusedSimpArgs false
set_option linter.unusedVariables false
open Go.RowKit Go.Shelf
attribute [local go_sem] Oper.semAt_some

section
variable (W H : Int) (ao : Option Addr) (n cap : Nat) (G : Nat → Nat → Int) (ax ay bx yb : Int) (w : World) (hG : CellsIn w ao n G)
include hG
set_option maxRecDepth 100000 in
set_option maxHeartbeats 4000000 in
theorem rCells_bad (hv : ¬ VG W H n G) : Calls Tryd.prog 12 #[.agg #[.int .i64 W, .int .i64 H, .slice (ao) n cap], .agg #[.int .i64 ax, .int .i64 ay], .agg #[.int .i64 bx, .int .i64 yb]] w fun e w' => e = .returned (.tuple #[.int .i64 0, .int .i64 1]) ∧ Below w.heap.size w w' := by
  have BL := Lib.hid (fun wx (hb : Below w.heap.size w wx) => rblocked_bad W H ao n cap G ax ay bx yb wx (hG.below hb) hv)
  clear hv hG
  go_enter Tryd.func12, Tryd.ntmps12
  go_wp2_with (go_at_call 63; (with_reducible refine (BL.out _ (by (repeat' (first | (with_reducible exact Below.refl _ _) | (with_reducible refine Below.setCell ?_ (by first | omega | (simp; done) | (simp; omega)) _) | (with_reducible refine Below.alloc ?_ (by first | omega | (simp; done) | (simp; omega)) _) | (with_reducible refine Below.drew ?_) | (with_reducible refine below_drewN ?_ _) | (with_reducible refine Below.trans ?_ (Below.mono (by assumption) (by first | omega | (simp; done) | (simp; omega)))))))).mono ?_); rintro e w1 ⟨rfl, hb⟩; obtain ⟨hc, hf, hz⟩ := bcall hb; (try simp at hc hf hz))
  refine bodyPost_ret (v := .tuple #[.int .i64 0, .int .i64 1]) (by simp [results, Tryd.results12, go_sem, ↓IntWalk.iteOmega, *]) rfl ⟨rfl, ?_⟩
  (repeat' (first | (with_reducible exact Below.refl _ _) | (with_reducible refine Below.setCell ?_ (by first | omega | (simp; done) | (simp; omega)) _) | (with_reducible refine Below.alloc ?_ (by first | omega | (simp; done) | (simp; omega)) _) | (with_reducible refine Below.drew ?_) | (with_reducible refine below_drewN ?_ _) | (with_reducible refine Below.trans ?_ (Below.mono (by assumption) (by first | omega | (simp; done) | (simp; omega))))))
set_option maxRecDepth 100000 in
set_option maxHeartbeats 4000000 in
theorem rCells_rng (hv : VG W H n G) (h : ¬ BlkOk W H ax ay bx yb) : Calls Tryd.prog 12 #[.agg #[.int .i64 W, .int .i64 H, .slice (ao) n cap], .agg #[.int .i64 ax, .int .i64 ay], .agg #[.int .i64 bx, .int .i64 yb]] w fun e w' => e = .returned (.tuple #[.int .i64 0, .int .i64 7]) ∧ Below w.heap.size w w' := by
  have BL := Lib.hid (fun wx (hb : Below w.heap.size w wx) => rblocked_rng W H ao n cap G ax ay bx yb wx (hG.below hb) hv h)
  clear hv hG h
  go_enter Tryd.func12, Tryd.ntmps12
  go_wp2_with (go_at_call 63; (with_reducible refine (BL.out _ (by (repeat' (first | (with_reducible exact Below.refl _ _) | (with_reducible refine Below.setCell ?_ (by first | omega | (simp; done) | (simp; omega)) _) | (with_reducible refine Below.alloc ?_ (by first | omega | (simp; done) | (simp; omega)) _) | (with_reducible refine Below.drew ?_) | (with_reducible refine below_drewN ?_ _) | (with_reducible refine Below.trans ?_ (Below.mono (by assumption) (by first | omega | (simp; done) | (simp; omega)))))))).mono ?_); rintro e w1 ⟨rfl, hb⟩; obtain ⟨hc, hf, hz⟩ := bcall hb; (try simp at hc hf hz))
  refine bodyPost_ret (v := .tuple #[.int .i64 0, .int .i64 7]) (by simp [results, Tryd.results12, go_sem, ↓IntWalk.iteOmega, *]) rfl ⟨rfl, ?_⟩
  (repeat' (first | (with_reducible exact Below.refl _ _) | (with_reducible refine Below.setCell ?_ (by first | omega | (simp; done) | (simp; omega)) _) | (with_reducible refine Below.alloc ?_ (by first | omega | (simp; done) | (simp; omega)) _) | (with_reducible refine Below.drew ?_) | (with_reducible refine below_drewN ?_ _) | (with_reducible refine Below.trans ?_ (Below.mono (by assumption) (by first | omega | (simp; done) | (simp; omega))))))
set_option maxRecDepth 100000 in
set_option maxHeartbeats 4000000 in
theorem rDensity_bad (hv : ¬ VG W H n G) : Calls Tryd.prog 14 #[.agg #[.int .i64 W, .int .i64 H, .slice (ao) n cap], .agg #[.int .i64 ax, .int .i64 ay], .agg #[.int .i64 bx, .int .i64 yb]] w fun e w' => e = .returned (.tuple #[.agg #[.int .i64 0, .int .i64 0], .int .i64 1]) ∧ Below w.heap.size w w' := by
  have BL := Lib.hid (fun wx (hb : Below w.heap.size w wx) => rblocked_bad W H ao n cap G ax ay bx yb wx (hG.below hb) hv)
  clear hv hG
  go_enter Tryd.func14, Tryd.ntmps14
  go_wp2_with (go_at_call 63; (with_reducible refine (BL.out _ (by (repeat' (first | (with_reducible exact Below.refl _ _) | (with_reducible refine Below.setCell ?_ (by first | omega | (simp; done) | (simp; omega)) _) | (with_reducible refine Below.alloc ?_ (by first | omega | (simp; done) | (simp; omega)) _) | (with_reducible refine Below.drew ?_) | (with_reducible refine below_drewN ?_ _) | (with_reducible refine Below.trans ?_ (Below.mono (by assumption) (by first | omega | (simp; done) | (simp; omega)))))))).mono ?_); rintro e w1 ⟨rfl, hb⟩; obtain ⟨hc, hf, hz⟩ := bcall hb; (try simp at hc hf hz))
  refine bodyPost_ret (v := .tuple #[.agg #[.int .i64 0, .int .i64 0], .int .i64 1]) (by simp [results, Tryd.results14, go_sem, ↓IntWalk.iteOmega, *]) rfl ⟨rfl, ?_⟩
  (repeat' (first | (with_reducible exact Below.refl _ _) | (with_reducible refine Below.setCell ?_ (by first | omega | (simp; done) | (simp; omega)) _) | (with_reducible refine Below.alloc ?_ (by first | omega | (simp; done) | (simp; omega)) _) | (with_reducible refine Below.drew ?_) | (with_reducible refine below_drewN ?_ _) | (with_reducible refine Below.trans ?_ (Below.mono (by assumption) (by first | omega | (simp; done) | (simp; omega))))))
set_option maxRecDepth 100000 in
set_option maxHeartbeats 4000000 in
theorem rDensity_rng (hv : VG W H n G) (h : ¬ BlkOk W H ax ay bx yb) : Calls Tryd.prog 14 #[.agg #[.int .i64 W, .int .i64 H, .slice (ao) n cap], .agg #[.int .i64 ax, .int .i64 ay], .agg #[.int .i64 bx, .int .i64 yb]] w fun e w' => e = .returned (.tuple #[.agg #[.int .i64 0, .int .i64 0], .int .i64 7]) ∧ Below w.heap.size w w' := by
  have BL := Lib.hid (fun wx (hb : Below w.heap.size w wx) => rblocked_rng W H ao n cap G ax ay bx yb wx (hG.below hb) hv h)
  clear hv hG h
  go_enter Tryd.func14, Tryd.ntmps14
  go_wp2_with (go_at_call 63; (with_reducible refine (BL.out _ (by (repeat' (first | (with_reducible exact Below.refl _ _) | (with_reducible refine Below.setCell ?_ (by first | omega | (simp; done) | (simp; omega)) _) | (with_reducible refine Below.alloc ?_ (by first | omega | (simp; done) | (simp; omega)) _) | (with_reducible refine Below.drew ?_) | (with_reducible refine below_drewN ?_ _) | (with_reducible refine Below.trans ?_ (Below.mono (by assumption) (by first | omega | (simp; done) | (simp; omega)))))))).mono ?_); rintro e w1 ⟨rfl, hb⟩; obtain ⟨hc, hf, hz⟩ := bcall hb; (try simp at hc hf hz))
  refine bodyPost_ret (v := .tuple #[.agg #[.int .i64 0, .int .i64 0], .int .i64 7]) (by simp [results, Tryd.results14, go_sem, ↓IntWalk.iteOmega, *]) rfl ⟨rfl, ?_⟩
  (repeat' (first | (with_reducible exact Below.refl _ _) | (with_reducible refine Below.setCell ?_ (by first | omega | (simp; done) | (simp; omega)) _) | (with_reducible refine Below.alloc ?_ (by first | omega | (simp; done) | (simp; omega)) _) | (with_reducible refine Below.drew ?_) | (with_reducible refine below_drewN ?_ _) | (with_reducible refine Below.trans ?_ (Below.mono (by assumption) (by first | omega | (simp; done) | (simp; omega))))))
set_option maxRecDepth 100000 in
set_option maxHeartbeats 4000000 in
theorem rVel_bad (hv : ¬ VG W H n G) : Calls Tryd.prog 16 #[.agg #[.int .i64 W, .int .i64 H, .slice (ao) n cap], .agg #[.int .i64 ax, .int .i64 ay], .agg #[.int .i64 bx, .int .i64 yb]] w fun e w' => e = .returned (.tuple #[.agg #[.int .i64 0, .int .i64 0], .agg #[.int .i64 0, .int .i64 0], .int .i64 1]) ∧ Below w.heap.size w w' := by
  have BL := Lib.hid (fun wx (hb : Below w.heap.size w wx) => rblocked_bad W H ao n cap G ax ay bx yb wx (hG.below hb) hv)
  clear hv hG
  go_enter Tryd.func16, Tryd.ntmps16
  go_wp2_with (go_at_call 63; (with_reducible refine (BL.out _ (by (repeat' (first | (with_reducible exact Below.refl _ _) | (with_reducible refine Below.setCell ?_ (by first | omega | (simp; done) | (simp; omega)) _) | (with_reducible refine Below.alloc ?_ (by first | omega | (simp; done) | (simp; omega)) _) | (with_reducible refine Below.drew ?_) | (with_reducible refine below_drewN ?_ _) | (with_reducible refine Below.trans ?_ (Below.mono (by assumption) (by first | omega | (simp; done) | (simp; omega)))))))).mono ?_); rintro e w1 ⟨rfl, hb⟩; obtain ⟨hc, hf, hz⟩ := bcall hb; (try simp at hc hf hz))
  refine bodyPost_ret (v := .tuple #[.agg #[.int .i64 0, .int .i64 0], .agg #[.int .i64 0, .int .i64 0], .int .i64 1]) (by simp [results, Tryd.results16, go_sem, ↓IntWalk.iteOmega, *]) rfl ⟨rfl, ?_⟩
  (repeat' (first | (with_reducible exact Below.refl _ _) | (with_reducible refine Below.setCell ?_ (by first | omega | (simp; done) | (simp; omega)) _) | (with_reducible refine Below.alloc ?_ (by first | omega | (simp; done) | (simp; omega)) _) | (with_reducible refine Below.drew ?_) | (with_reducible refine below_drewN ?_ _) | (with_reducible refine Below.trans ?_ (Below.mono (by assumption) (by first | omega | (simp; done) | (simp; omega))))))
set_option maxRecDepth 100000 in
set_option maxHeartbeats 4000000 in
theorem rVel_rng (hv : VG W H n G) (h : ¬ BlkOk W H ax ay bx yb) : Calls Tryd.prog 16 #[.agg #[.int .i64 W, .int .i64 H, .slice (ao) n cap], .agg #[.int .i64 ax, .int .i64 ay], .agg #[.int .i64 bx, .int .i64 yb]] w fun e w' => e = .returned (.tuple #[.agg #[.int .i64 0, .int .i64 0], .agg #[.int .i64 0, .int .i64 0], .int .i64 7]) ∧ Below w.heap.size w w' := by
  have BL := Lib.hid (fun wx (hb : Below w.heap.size w wx) => rblocked_rng W H ao n cap G ax ay bx yb wx (hG.below hb) hv h)
  clear hv hG h
  go_enter Tryd.func16, Tryd.ntmps16
  go_wp2_with (go_at_call 63; (with_reducible refine (BL.out _ (by (repeat' (first | (with_reducible exact Below.refl _ _) | (with_reducible refine Below.setCell ?_ (by first | omega | (simp; done) | (simp; omega)) _) | (with_reducible refine Below.alloc ?_ (by first | omega | (simp; done) | (simp; omega)) _) | (with_reducible refine Below.drew ?_) | (with_reducible refine below_drewN ?_ _) | (with_reducible refine Below.trans ?_ (Below.mono (by assumption) (by first | omega | (simp; done) | (simp; omega)))))))).mono ?_); rintro e w1 ⟨rfl, hb⟩; obtain ⟨hc, hf, hz⟩ := bcall hb; (try simp at hc hf hz))
  refine bodyPost_ret (v := .tuple #[.agg #[.int .i64 0, .int .i64 0], .agg #[.int .i64 0, .int .i64 0], .int .i64 7]) (by simp [results, Tryd.results16, go_sem, ↓IntWalk.iteOmega, *]) rfl ⟨rfl, ?_⟩
  (repeat' (first | (with_reducible exact Below.refl _ _) | (with_reducible refine Below.setCell ?_ (by first | omega | (simp; done) | (simp; omega)) _) | (with_reducible refine Below.alloc ?_ (by first | omega | (simp; done) | (simp; omega)) _) | (with_reducible refine Below.drew ?_) | (with_reducible refine below_drewN ?_ _) | (with_reducible refine Below.trans ?_ (Below.mono (by assumption) (by first | omega | (simp; done) | (simp; omega))))))
end
section
variable (W H n cap b off : Nat) (G : Nat → Nat → Int) (ax ay bx yb : Nat) (w : World) (s : Sides W H n) (hO : OkG n G) (lb : b < w.heap.size) (hG : Grd w b off n G) (h1 : ax ≤ bx) (h2 : bx < W) (h3 : ay ≤ yb) (h4 : yb < H)
include s hO lb hG h1 h2 h3 h4
set_option maxRecDepth 100000 in
set_option maxHeartbeats 8000000 in
theorem rCells_ok : Calls Tryd.prog 12 #[.agg #[.int .i64 W, .int .i64 H, .slice (some ⟨b, off, none⟩) n cap], .agg #[.int .i64 ((ax : Int)), .int .i64 ((ay : Int))], .agg #[.int .i64 ((bx : Int)), .int .i64 ((yb : Int))]] w fun e w' => e = .returned (.tuple #[.int .i64 ((((bx + 1 - ax) * (yb + 1 - ay) : Nat) : Int)), .int .i64 0]) ∧ Below w.heap.size w w' := by
  have HV := vg_of s hO
  have HC := show CellsIn w (some ⟨b, off, none⟩) n G from Or.inr ⟨b, off, rfl, lb, hG⟩
  have HB := blkOk_of h1 h2 h3 h4
  have BL := Lib.hid (fun wx (hb : Below w.heap.size w wx) => rblocked_ok W H (some ⟨b, off, none⟩) n cap G ax ay bx yb wx (HC.below hb) HV HB)
  have CL := Lib.hid (rcells_bl W H n cap b off ax ay bx yb G w s lb hG h1 h2 h3 h4)
  have hlen : ((recN W ax (bx + 1 - ax) ay (yb + 1 - ay)).length : Int) = (((bx + 1 - ax) * (yb + 1 - ay) : Nat) : Int) := by rw [recN_len, Nat.mul_comm]
  have hmx : (bx + 1 - ax) * (yb + 1 - ay) ≤ 64 * 64 := Nat.mul_le_mul (by have := s.w1; omega) (by have := s.h1; omega)
  have hm1 : 1 * 1 ≤ (bx + 1 - ax) * (yb + 1 - ay) := Nat.mul_le_mul (by omega) (by omega)
  rw [← hlen]
  obtain ⟨L, hL⟩ : ∃ L, L = recN W ax (bx + 1 - ax) ay (yb + 1 - ay) := ⟨_, rfl⟩
  rw [← hL] at CL ⊢
  clear hL hlen hmx hm1 HV HC HB h1 h2 h3 h4 hG lb s hO
  go_enter Tryd.func12, Tryd.ntmps12
  go_wp2_with (go_at_call 63; (with_reducible refine (BL.out _ (by (repeat' (first | (with_reducible exact Below.refl _ _) | (with_reducible refine Below.setCell ?_ (by first | omega | (simp; done) | (simp; omega)) _) | (with_reducible refine Below.alloc ?_ (by first | omega | (simp; done) | (simp; omega)) _) | (with_reducible refine Below.drew ?_) | (with_reducible refine below_drewN ?_ _) | (with_reducible refine Below.trans ?_ (Below.mono (by assumption) (by first | omega | (simp; done) | (simp; omega)))))))).mono ?_); rintro e w1 ⟨rfl, hb⟩; obtain ⟨hc, hf, hz⟩ := bcall hb; (try simp at hc hf hz))
  (go_at_call 64; (refine (CL.out _ (by (repeat' (first | (with_reducible exact Below.refl _ _) | (with_reducible refine Below.setCell ?_ (by first | omega | (simp; done) | (simp; omega)) _) | (with_reducible refine Below.alloc ?_ (by first | omega | (simp; done) | (simp; omega)) _) | (with_reducible refine Below.drew ?_) | (with_reducible refine below_drewN ?_ _) | (with_reducible refine Below.trans ?_ (Below.mono (by assumption) (by first | omega | (simp; done) | (simp; omega)))))))).mono ?_); rintro e w2 ⟨v2, rfl, hv2, hb2⟩)
  have V2 := Lib.hid hv2
  obtain ⟨g2, c2, rfl, lg2, hv2⟩ := hv2
  obtain ⟨hc2, hf2, hz2⟩ := bcall hb2
  (try simp at hc2 hf2 hz2)
  clear hv2
  go_wp2
  refine bodyPost_ret (v := .tuple #[.int .i64 ((L.length : Int)), .int .i64 0]) (by simp [results, Tryd.results12, go_sem, ↓IntWalk.iteOmega, *]) rfl ⟨rfl, ?_⟩
  (repeat' (first | (with_reducible exact Below.refl _ _) | (with_reducible refine Below.setCell ?_ (by first | omega | (simp; done) | (simp; omega)) _) | (with_reducible refine Below.alloc ?_ (by first | omega | (simp; done) | (simp; omega)) _) | (with_reducible refine Below.drew ?_) | (with_reducible refine below_drewN ?_ _) | (with_reducible refine Below.trans ?_ (Below.mono (by assumption) (by first | omega | (simp; done) | (simp; omega))))))
set_option maxRecDepth 100000 in
set_option maxHeartbeats 8000000 in
theorem rDens_ok : Calls Tryd.prog 14 #[.agg #[.int .i64 W, .int .i64 H, .slice (some ⟨b, off, none⟩) n cap], .agg #[.int .i64 ((ax : Int)), .int .i64 ((ay : Int))], .agg #[.int .i64 ((bx : Int)), .int .i64 ((yb : Int))]] w fun e w' => e = .returned (.tuple #[.agg #[.int .i64 (ltN (blS (msC G) W ax ay bx yb) ((bx + 1 - ax) * (yb + 1 - ay))), .int .i64 (((ltD (blS (msC G) W ax ay bx yb) ((bx + 1 - ax) * (yb + 1 - ay)) : Nat) : Int))], .int .i64 0]) ∧ Below w.heap.size w w' := by
  have HV := vg_of s hO
  have HC := show CellsIn w (some ⟨b, off, none⟩) n G from Or.inr ⟨b, off, rfl, lb, hG⟩
  have HB := blkOk_of h1 h2 h3 h4
  have BL := Lib.hid (fun wx (hb : Below w.heap.size w wx) => rblocked_ok W H (some ⟨b, off, none⟩) n cap G ax ay bx yb wx (HC.below hb) HV HB)
  have CL := Lib.hid (rcells_bl W H n cap b off ax ay bx yb G w s lb hG h1 h2 h3 h4)
  have hlen : ((recN W ax (bx + 1 - ax) ay (yb + 1 - ay)).length : Int) = (((bx + 1 - ax) * (yb + 1 - ay) : Nat) : Int) := by rw [recN_len, Nat.mul_comm]
  have hmx : (bx + 1 - ax) * (yb + 1 - ay) ≤ 64 * 64 := Nat.mul_le_mul (by have := s.w1; omega) (by have := s.h1; omega)
  have hm1 : 1 * 1 ≤ (bx + 1 - ax) * (yb + 1 - ay) := Nat.mul_le_mul (by omega) (by omega)
  have SU := Lib.hid (rsums_bl W H n ax ay bx yb G s hO h1 h2 h3 h4)
  have RA := Lib.hid (fun wx => rRatio_lt (blS (msC G) W ax ay bx yb) ((bx + 1 - ax) * (yb + 1 - ay)) wx (by omega) (by omega) (by have := blS_bd (tells_bd hO).1 s.n0 s.n1 s.w1 s.h1 h1 h2 h3 h4; omega))
  rw [← hlen] at RA
  obtain ⟨z1, hz1⟩ : ∃ z, z = blS (msC G) W ax ay bx yb := ⟨_, rfl⟩
  obtain ⟨z2, hz2⟩ : ∃ z, z = blS (eaC G) W ax ay bx yb := ⟨_, rfl⟩
  obtain ⟨z3, hz3⟩ : ∃ z, z = blS (noC G) W ax ay bx yb := ⟨_, rfl⟩
  rw [← hz1, ← hz2, ← hz3] at SU
  rw [← hz1] at RA ⊢
  obtain ⟨kN, hkN⟩ : ∃ k, k = ltN z1 ((bx + 1 - ax) * (yb + 1 - ay)) := ⟨_, rfl⟩
  obtain ⟨kD, hkD⟩ : ∃ k : Int, k = ((ltD z1 ((bx + 1 - ax) * (yb + 1 - ay)) : Nat) : Int) := ⟨_, rfl⟩
  rw [← hkN, ← hkD] at RA ⊢
  obtain ⟨L, hL⟩ : ∃ L, L = recN W ax (bx + 1 - ax) ay (yb + 1 - ay) := ⟨_, rfl⟩
  rw [← hL] at CL RA SU
  clear hL hlen hmx hm1 HV HC HB h1 h2 h3 h4 hG lb s hO hkN hkD hz1 hz2 hz3
  go_enter Tryd.func14, Tryd.ntmps14
  go_wp2_with (go_at_call 63; (with_reducible refine (BL.out _ (by (repeat' (first | (with_reducible exact Below.refl _ _) | (with_reducible refine Below.setCell ?_ (by first | omega | (simp; done) | (simp; omega)) _) | (with_reducible refine Below.alloc ?_ (by first | omega | (simp; done) | (simp; omega)) _) | (with_reducible refine Below.drew ?_) | (with_reducible refine below_drewN ?_ _) | (with_reducible refine Below.trans ?_ (Below.mono (by assumption) (by first | omega | (simp; done) | (simp; omega)))))))).mono ?_); rintro e w1 ⟨rfl, hb⟩; obtain ⟨hc, hf, hz⟩ := bcall hb; (try simp at hc hf hz))
  (go_at_call 64; (refine (CL.out _ (by (repeat' (first | (with_reducible exact Below.refl _ _) | (with_reducible refine Below.setCell ?_ (by first | omega | (simp; done) | (simp; omega)) _) | (with_reducible refine Below.alloc ?_ (by first | omega | (simp; done) | (simp; omega)) _) | (with_reducible refine Below.drew ?_) | (with_reducible refine below_drewN ?_ _) | (with_reducible refine Below.trans ?_ (Below.mono (by assumption) (by first | omega | (simp; done) | (simp; omega)))))))).mono ?_); rintro e w2 ⟨v2, rfl, hv2, hb2⟩)
  have V2 := Lib.hid hv2
  obtain ⟨g2, c2, rfl, lg2, hv2⟩ := hv2
  obtain ⟨hc2, hf2, hz2⟩ := bcall hb2
  (try simp at hc2 hf2 hz2)
  clear hv2
  go_wp2_with (first | (go_at_call 68; (with_reducible refine (SU.out _ _ V2.out).mono ?_); rintro e w1 ⟨rfl, hb⟩; obtain ⟨hc, hf, hz⟩ := bcall hb; (try simp at hc hf hz)) | (go_at_call 69; (with_reducible refine (RA.out _).mono ?_); rintro e w1 ⟨rfl, hb⟩; obtain ⟨hc, hf, hz⟩ := bcall hb; (try simp at hc hf hz)))
  refine bodyPost_ret (v := .tuple #[.agg #[.int .i64 kN, .int .i64 kD], .int .i64 0]) (by simp [results, Tryd.results14, go_sem, ↓IntWalk.iteOmega, *]) rfl ⟨rfl, ?_⟩
  (repeat' (first | (with_reducible exact Below.refl _ _) | (with_reducible refine Below.setCell ?_ (by first | omega | (simp; done) | (simp; omega)) _) | (with_reducible refine Below.alloc ?_ (by first | omega | (simp; done) | (simp; omega)) _) | (with_reducible refine Below.drew ?_) | (with_reducible refine below_drewN ?_ _) | (with_reducible refine Below.trans ?_ (Below.mono (by assumption) (by first | omega | (simp; done) | (simp; omega))))))
set_option maxRecDepth 100000 in
set_option maxHeartbeats 8000000 in
theorem rVel_none (h0 : blS (msC G) W ax ay bx yb = 0) : Calls Tryd.prog 16 #[.agg #[.int .i64 W, .int .i64 H, .slice (some ⟨b, off, none⟩) n cap], .agg #[.int .i64 ((ax : Int)), .int .i64 ((ay : Int))], .agg #[.int .i64 ((bx : Int)), .int .i64 ((yb : Int))]] w fun e w' => e = .returned (.tuple #[.agg #[.int .i64 0, .int .i64 0], .agg #[.int .i64 0, .int .i64 0], .int .i64 8]) ∧ Below w.heap.size w w' := by
  have HV := vg_of s hO
  have HC := show CellsIn w (some ⟨b, off, none⟩) n G from Or.inr ⟨b, off, rfl, lb, hG⟩
  have HB := blkOk_of h1 h2 h3 h4
  have BL := Lib.hid (fun wx (hb : Below w.heap.size w wx) => rblocked_ok W H (some ⟨b, off, none⟩) n cap G ax ay bx yb wx (HC.below hb) HV HB)
  have CL := Lib.hid (rcells_bl W H n cap b off ax ay bx yb G w s lb hG h1 h2 h3 h4)
  have hlen : ((recN W ax (bx + 1 - ax) ay (yb + 1 - ay)).length : Int) = (((bx + 1 - ax) * (yb + 1 - ay) : Nat) : Int) := by rw [recN_len, Nat.mul_comm]
  have hmx : (bx + 1 - ax) * (yb + 1 - ay) ≤ 64 * 64 := Nat.mul_le_mul (by have := s.w1; omega) (by have := s.h1; omega)
  have hm1 : 1 * 1 ≤ (bx + 1 - ax) * (yb + 1 - ay) := Nat.mul_le_mul (by omega) (by omega)
  have SU := Lib.hid (rsums_bl W H n ax ay bx yb G s hO h1 h2 h3 h4)
  rw [h0] at SU
  obtain ⟨z2, hz2⟩ : ∃ z, z = blS (eaC G) W ax ay bx yb := ⟨_, rfl⟩
  obtain ⟨z3, hz3⟩ : ∃ z, z = blS (noC G) W ax ay bx yb := ⟨_, rfl⟩
  rw [← hz2, ← hz3] at SU
  obtain ⟨L, hL⟩ : ∃ L, L = recN W ax (bx + 1 - ax) ay (yb + 1 - ay) := ⟨_, rfl⟩
  rw [← hL] at CL SU
  clear hL hlen hmx hm1 HV HC HB h1 h2 h3 h4 hG lb s hO h0 hz2 hz3
  go_enter Tryd.func16, Tryd.ntmps16
  go_wp2_with (go_at_call 63; (with_reducible refine (BL.out _ (by (repeat' (first | (with_reducible exact Below.refl _ _) | (with_reducible refine Below.setCell ?_ (by first | omega | (simp; done) | (simp; omega)) _) | (with_reducible refine Below.alloc ?_ (by first | omega | (simp; done) | (simp; omega)) _) | (with_reducible refine Below.drew ?_) | (with_reducible refine below_drewN ?_ _) | (with_reducible refine Below.trans ?_ (Below.mono (by assumption) (by first | omega | (simp; done) | (simp; omega)))))))).mono ?_); rintro e w1 ⟨rfl, hb⟩; obtain ⟨hc, hf, hz⟩ := bcall hb; (try simp at hc hf hz))
  (go_at_call 64; (refine (CL.out _ (by (repeat' (first | (with_reducible exact Below.refl _ _) | (with_reducible refine Below.setCell ?_ (by first | omega | (simp; done) | (simp; omega)) _) | (with_reducible refine Below.alloc ?_ (by first | omega | (simp; done) | (simp; omega)) _) | (with_reducible refine Below.drew ?_) | (with_reducible refine below_drewN ?_ _) | (with_reducible refine Below.trans ?_ (Below.mono (by assumption) (by first | omega | (simp; done) | (simp; omega)))))))).mono ?_); rintro e w2 ⟨v2, rfl, hv2, hb2⟩)
  have V2 := Lib.hid hv2
  obtain ⟨g2, c2, rfl, lg2, hv2⟩ := hv2
  obtain ⟨hc2, hf2, hz2⟩ := bcall hb2
  (try simp at hc2 hf2 hz2)
  clear hv2
  go_wp2_with (go_at_call 68; (with_reducible refine (SU.out _ _ V2.out).mono ?_); rintro e w1 ⟨rfl, hb⟩; obtain ⟨hc, hf, hz⟩ := bcall hb; (try simp at hc hf hz))
  refine bodyPost_ret (v := .tuple #[.agg #[.int .i64 0, .int .i64 0], .agg #[.int .i64 0, .int .i64 0], .int .i64 8]) (by simp [results, Tryd.results16, go_sem, ↓IntWalk.iteOmega, *]) rfl ⟨rfl, ?_⟩
  (repeat' (first | (with_reducible exact Below.refl _ _) | (with_reducible refine Below.setCell ?_ (by first | omega | (simp; done) | (simp; omega)) _) | (with_reducible refine Below.alloc ?_ (by first | omega | (simp; done) | (simp; omega)) _) | (with_reducible refine Below.drew ?_) | (with_reducible refine below_drewN ?_ _) | (with_reducible refine Below.trans ?_ (Below.mono (by assumption) (by first | omega | (simp; done) | (simp; omega))))))
set_option maxRecDepth 100000 in
set_option maxHeartbeats 8000000 in
theorem rVel_ok (m : Nat) (h0 : blS (msC G) W ax ay bx yb = (m : Int)) (hm : 1 ≤ m) (hm2 : m ≤ 2000000000000) : Calls Tryd.prog 16 #[.agg #[.int .i64 W, .int .i64 H, .slice (some ⟨b, off, none⟩) n cap], .agg #[.int .i64 ((ax : Int)), .int .i64 ((ay : Int))], .agg #[.int .i64 ((bx : Int)), .int .i64 ((yb : Int))]] w fun e w' => e = .returned (.tuple #[.agg #[.int .i64 (ltN (blS (eaC G) W ax ay bx yb) m), .int .i64 (((ltD (blS (eaC G) W ax ay bx yb) m : Nat) : Int))], .agg #[.int .i64 (ltN (blS (noC G) W ax ay bx yb) m), .int .i64 (((ltD (blS (noC G) W ax ay bx yb) m : Nat) : Int))], .int .i64 0]) ∧ Below w.heap.size w w' := by
  have HV := vg_of s hO
  have HC := show CellsIn w (some ⟨b, off, none⟩) n G from Or.inr ⟨b, off, rfl, lb, hG⟩
  have HB := blkOk_of h1 h2 h3 h4
  have BL := Lib.hid (fun wx (hb : Below w.heap.size w wx) => rblocked_ok W H (some ⟨b, off, none⟩) n cap G ax ay bx yb wx (HC.below hb) HV HB)
  have CL := Lib.hid (rcells_bl W H n cap b off ax ay bx yb G w s lb hG h1 h2 h3 h4)
  have hlen : ((recN W ax (bx + 1 - ax) ay (yb + 1 - ay)).length : Int) = (((bx + 1 - ax) * (yb + 1 - ay) : Nat) : Int) := by rw [recN_len, Nat.mul_comm]
  have hmx : (bx + 1 - ax) * (yb + 1 - ay) ≤ 64 * 64 := Nat.mul_le_mul (by have := s.w1; omega) (by have := s.h1; omega)
  have hm1 : 1 * 1 ≤ (bx + 1 - ax) * (yb + 1 - ay) := Nat.mul_le_mul (by omega) (by omega)
  have SU := Lib.hid (rsums_bl W H n ax ay bx yb G s hO h1 h2 h3 h4)
  rw [h0] at SU
  have RA := Lib.hid (fun wx => rRatio_lt (blS (eaC G) W ax ay bx yb) m wx hm (by omega) (by have := blS_bd (tells_bd hO).2.1 s.n0 s.n1 s.w1 s.h1 h1 h2 h3 h4; omega))
  have RB := Lib.hid (fun wx => rRatio_lt (blS (noC G) W ax ay bx yb) m wx hm (by omega) (by have := blS_bd (tells_bd hO).2.2 s.n0 s.n1 s.w1 s.h1 h1 h2 h3 h4; omega))
  obtain ⟨z2, hz2⟩ : ∃ z, z = blS (eaC G) W ax ay bx yb := ⟨_, rfl⟩
  obtain ⟨z3, hz3⟩ : ∃ z, z = blS (noC G) W ax ay bx yb := ⟨_, rfl⟩
  rw [← hz2, ← hz3] at SU ⊢
  rw [← hz2] at RA
  rw [← hz3] at RB
  obtain ⟨kN, hkN⟩ : ∃ k, k = ltN z2 m := ⟨_, rfl⟩
  obtain ⟨kD, hkD⟩ : ∃ k : Int, k = ((ltD z2 m : Nat) : Int) := ⟨_, rfl⟩
  obtain ⟨jN, hjN⟩ : ∃ k, k = ltN z3 m := ⟨_, rfl⟩
  obtain ⟨jD, hjD⟩ : ∃ k : Int, k = ((ltD z3 m : Nat) : Int) := ⟨_, rfl⟩
  rw [← hkN, ← hkD] at RA ⊢
  rw [← hjN, ← hjD] at RB ⊢
  obtain ⟨L, hL⟩ : ∃ L, L = recN W ax (bx + 1 - ax) ay (yb + 1 - ay) := ⟨_, rfl⟩
  rw [← hL] at CL SU
  have hm0 : ¬ (m : Int) = 0 := by omega
  have hm0' : ¬ m = 0 := by omega
  clear hL hlen hmx hm1 HV HC HB h1 h2 h3 h4 hG lb s hO hkN hkD hjN hjD hz2 hz3 hm hm2 h0
  go_enter Tryd.func16, Tryd.ntmps16
  go_wp2_with (go_at_call 63; (with_reducible refine (BL.out _ (by (repeat' (first | (with_reducible exact Below.refl _ _) | (with_reducible refine Below.setCell ?_ (by first | omega | (simp; done) | (simp; omega)) _) | (with_reducible refine Below.alloc ?_ (by first | omega | (simp; done) | (simp; omega)) _) | (with_reducible refine Below.drew ?_) | (with_reducible refine below_drewN ?_ _) | (with_reducible refine Below.trans ?_ (Below.mono (by assumption) (by first | omega | (simp; done) | (simp; omega)))))))).mono ?_); rintro e w1 ⟨rfl, hb⟩; obtain ⟨hc, hf, hz⟩ := bcall hb; (try simp at hc hf hz))
  (go_at_call 64; (refine (CL.out _ (by (repeat' (first | (with_reducible exact Below.refl _ _) | (with_reducible refine Below.setCell ?_ (by first | omega | (simp; done) | (simp; omega)) _) | (with_reducible refine Below.alloc ?_ (by first | omega | (simp; done) | (simp; omega)) _) | (with_reducible refine Below.drew ?_) | (with_reducible refine below_drewN ?_ _) | (with_reducible refine Below.trans ?_ (Below.mono (by assumption) (by first | omega | (simp; done) | (simp; omega)))))))).mono ?_); rintro e w2 ⟨v2, rfl, hv2, hb2⟩)
  have V2 := Lib.hid hv2
  obtain ⟨g2, c2, rfl, lg2, hv2⟩ := hv2
  obtain ⟨hc2, hf2, hz2⟩ := bcall hb2
  (try simp at hc2 hf2 hz2)
  clear hv2
  go_wp2_with (first | (go_at_call 68; (with_reducible refine (SU.out _ _ V2.out).mono ?_); rintro e w1 ⟨rfl, hb⟩; obtain ⟨hc, hf, hz⟩ := bcall hb; (try simp at hc hf hz)) | (go_at_call 69; (with_reducible refine (RA.out _).mono ?_); rintro e w1 ⟨rfl, hb⟩; obtain ⟨hc, hf, hz⟩ := bcall hb; (try simp at hc hf hz)) | (go_at_call 69; (with_reducible refine (RB.out _).mono ?_); rintro e w1 ⟨rfl, hb⟩; obtain ⟨hc, hf, hz⟩ := bcall hb; (try simp at hc hf hz)))
  refine bodyPost_ret (v := .tuple #[.agg #[.int .i64 kN, .int .i64 kD], .agg #[.int .i64 jN, .int .i64 jD], .int .i64 0]) (by simp [results, Tryd.results16, go_sem, ↓IntWalk.iteOmega, *]) rfl ⟨rfl, ?_⟩
  (repeat' (first | (with_reducible exact Below.refl _ _) | (with_reducible refine Below.setCell ?_ (by first | omega | (simp; done) | (simp; omega)) _) | (with_reducible refine Below.alloc ?_ (by first | omega | (simp; done) | (simp; omega)) _) | (with_reducible refine Below.drew ?_) | (with_reducible refine below_drewN ?_ _) | (with_reducible refine Below.trans ?_ (Below.mono (by assumption) (by first | omega | (simp; done) | (simp; omega))))))
end
end Go.Proofs.YtmdeooflgkjbbaaDoor

/- The block with the greatest circulation: by the reference of the fields. -/

namespace Go.Proofs.YtmdeooflgkjbbaaDoor
set_option linter.unusedSimpArgs false
set_option linter.unusedVariables false
open Go.RowKit Go.Shelf
attribute [local go_sem] Oper.semAt_some

section
variable (W H : Int) (ao : Option Addr) (n cap : Nat) (G : Nat → Nat → Int) (sd : Int) (w : World) (hG : CellsIn w ao n G)
include hG
end
/-- What the loops hold: the best place so far, and its circulation. -/
def plO (o : Option (Nat × Nat)) : Nat × Nat := o.getD (0, 0)
def cvO (c : Nat × Nat → Int) : Option (Nat × Nat) → Int
  | none => 0
  | some p => c p
def VoI (w1 : World) (P : Nat) (c : Nat × Nat → Int) (L : List (Nat × Nat)) (m f : Value) (wr : World) : Prop :=
  (m = .int .i64 (cvO c (bstB (fun p => ((c p).natAbs : Int)) L)) ∧ f = .bool (bstB (fun p => ((c p).natAbs : Int)) L).isSome) ∧ Two wr P 26 (.int .i64 (((plO (bstB (fun p => ((c p).natAbs : Int)) L)).1 : Int))) (.int .i64 (((plO (bstB (fun p => ((c p).natAbs : Int)) L)).2 : Int))) ∧ Below w1.heap.size w1 wr
theorem voI_new {w1 : World} {P : Nat} {c : Nat × Nat → Int} {L : List (Nat × Nat)} {m f : Value} {wr X : World} {x : Nat × Nat} (h : VoI w1 P c L m f wr) (hP : w1.heap.size ≤ P) (hX : Below wr.heap.size wr X) (hm : ∀ q, bstB (fun p => ((c p).natAbs : Int)) L = some q → ((c q).natAbs : Int) < ((c x).natAbs : Int)) {z jx ky : Int} (hz : z = c x) (h0 : jx = (x.1 : Int)) (h1 : ky = (x.2 : Int)) :
    VoI w1 P c (L ++ [x]) (.int .i64 z) (.bool true) ((X.setCell ⟨P, 0, none⟩ (.int .i64 jx)).setCell ⟨P, 1, none⟩ (.int .i64 ky)) := by
  have e : bstB (fun p => ((c p).natAbs : Int)) (L ++ [x]) = some x := by
    rw [bstB_app]
    unfold stpB
    split
    · rfl
    · rename_i q hq
      rw [if_pos (hm _ hq)]
  unfold VoI
  rw [e]
  subst hz h0 h1
  refine ⟨⟨rfl, rfl⟩, (h.2.1.below hX h.2.1.lt).set2 _ _, ?_⟩
  exact (((h.2.2.trans (hX.mono h.2.2.size)).setCell (p := ⟨P, 0, none⟩) hP _).setCell (p := ⟨P, 1, none⟩) hP _)
theorem voI_same {w1 : World} {P : Nat} {c : Nat × Nat → Int} {L : List (Nat × Nat)} {m f : Value} {wr X : World} {x q : Nat × Nat} (h : VoI w1 P c L m f wr) (hX : Below wr.heap.size wr X) (hk : bstB (fun p => ((c p).natAbs : Int)) L = some q) (hm : ¬ ((c q).natAbs : Int) < ((c x).natAbs : Int)) :
    VoI w1 P c (L ++ [x]) m f X := by
  have e : bstB (fun p => ((c p).natAbs : Int)) (L ++ [x]) = bstB (fun p => ((c p).natAbs : Int)) L := by rw [bstB_app, hk]; unfold stpB; simp only; rw [if_neg hm]
  unfold VoI
  rw [e]
  exact ⟨h.1, h.2.1.below hX h.2.1.lt, h.2.2.trans (hX.mono h.2.2.size)⟩
section
variable (W H n cap b off sd nx ny : Nat) (G : Nat → Nat → Int) (w : World) (s : Sides W H n) (hO : OkG n G) (lb : b < w.heap.size) (hG : Grd w b off n G) (h1 : 1 ≤ sd) (hx : nx + sd = W + 1) (hy : ny + sd = H + 1) (hx1 : 1 ≤ nx) (hy1 : 1 ≤ ny)
include s hO lb hG h1 hx hy hx1 hy1
end
end Go.Proofs.YtmdeooflgkjbbaaDoor

/- The block with the greatest mass: by the reference of the fields. -/


namespace Go.Proofs.YtmdeooflgkjbbaaDoor
set_option linter.unusedSimpArgs false
set_option linter.unusedVariables false
open Go.RowKit Go.Shelf
attribute [local go_sem] Oper.semAt_some

section
variable (W H : Int) (ao : Option Addr) (n cap : Nat) (G : Nat → Nat → Int) (wi hi : Int) (w : World) (hG : CellsIn w ao n G)
include hG
set_option maxRecDepth 100000 in
set_option maxHeartbeats 4000000 in
theorem rDensest_bad (hv : ¬ VG W H n G) : Calls Tryd.prog 18 #[.agg #[.int .i64 W, .int .i64 H, .slice (ao) n cap], .int .i64 wi, .int .i64 hi] w fun e w' => e = .returned (.tuple #[.agg #[.int .i64 0, .int .i64 0], .int .i64 1]) ∧ Below w.heap.size w w' := by
  have CS := Lib.hid (fun wx (hb : Below w.heap.size w wx) => rsided_bad W H ao n cap G wi hi wx (hG.below hb) hv)
  clear hv hG
  go_enter Tryd.func18, Tryd.ntmps18
  go_wp2_with (go_at_call 76; (with_reducible refine (CS.out _ (by (repeat' (first | (with_reducible exact Below.refl _ _) | (with_reducible refine Below.setCell ?_ (by first | omega | (simp; done) | (simp; omega)) _) | (with_reducible refine Below.alloc ?_ (by first | omega | (simp; done) | (simp; omega)) _) | (with_reducible refine Below.drew ?_) | (with_reducible refine below_drewN ?_ _) | (with_reducible refine Below.trans ?_ (Below.mono (by assumption) (by first | omega | (simp; done) | (simp; omega)))))))).mono ?_); rintro e w1 ⟨rfl, hb⟩; obtain ⟨hc, hf, hz⟩ := bcall hb; (try simp at hc hf hz))
  refine bodyPost_ret (v := .tuple #[.agg #[.int .i64 0, .int .i64 0], .int .i64 1]) (by simp [results, Tryd.results18, go_sem, ↓IntWalk.iteOmega, *]) rfl ⟨rfl, ?_⟩
  (repeat' (first | (with_reducible exact Below.refl _ _) | (with_reducible refine Below.setCell ?_ (by first | omega | (simp; done) | (simp; omega)) _) | (with_reducible refine Below.alloc ?_ (by first | omega | (simp; done) | (simp; omega)) _) | (with_reducible refine Below.drew ?_) | (with_reducible refine below_drewN ?_ _) | (with_reducible refine Below.trans ?_ (Below.mono (by assumption) (by first | omega | (simp; done) | (simp; omega))))))
set_option maxRecDepth 100000 in
set_option maxHeartbeats 4000000 in
theorem rDensest_rng (hv : VG W H n G) (h : ¬ SidOk W H wi hi) : Calls Tryd.prog 18 #[.agg #[.int .i64 W, .int .i64 H, .slice (ao) n cap], .int .i64 wi, .int .i64 hi] w fun e w' => e = .returned (.tuple #[.agg #[.int .i64 0, .int .i64 0], .int .i64 7]) ∧ Below w.heap.size w w' := by
  have CS := Lib.hid (fun wx (hb : Below w.heap.size w wx) => rsided_rng W H ao n cap G wi hi wx (hG.below hb) hv h)
  clear hv hG h
  go_enter Tryd.func18, Tryd.ntmps18
  go_wp2_with (go_at_call 76; (with_reducible refine (CS.out _ (by (repeat' (first | (with_reducible exact Below.refl _ _) | (with_reducible refine Below.setCell ?_ (by first | omega | (simp; done) | (simp; omega)) _) | (with_reducible refine Below.alloc ?_ (by first | omega | (simp; done) | (simp; omega)) _) | (with_reducible refine Below.drew ?_) | (with_reducible refine below_drewN ?_ _) | (with_reducible refine Below.trans ?_ (Below.mono (by assumption) (by first | omega | (simp; done) | (simp; omega)))))))).mono ?_); rintro e w1 ⟨rfl, hb⟩; obtain ⟨hc, hf, hz⟩ := bcall hb; (try simp at hc hf hz))
  refine bodyPost_ret (v := .tuple #[.agg #[.int .i64 0, .int .i64 0], .int .i64 7]) (by simp [results, Tryd.results18, go_sem, ↓IntWalk.iteOmega, *]) rfl ⟨rfl, ?_⟩
  (repeat' (first | (with_reducible exact Below.refl _ _) | (with_reducible refine Below.setCell ?_ (by first | omega | (simp; done) | (simp; omega)) _) | (with_reducible refine Below.alloc ?_ (by first | omega | (simp; done) | (simp; omega)) _) | (with_reducible refine Below.drew ?_) | (with_reducible refine below_drewN ?_ _) | (with_reducible refine Below.trans ?_ (Below.mono (by assumption) (by first | omega | (simp; done) | (simp; omega))))))
end
theorem sumT_nn {tv : Nat → Int} (L : List Nat) (h : ∀ q ∈ L, 0 ≤ tv q) : 0 ≤ sumT tv L := by
  induction L with
  | nil => simp [sumT]
  | cons a L ih =>
    have h1 := h a (by simp)
    have h2 := ih (fun q hq => h q (by simp [hq]))
    simp only [sumT]
    omega
/-- What the loops hold: the best place so far, and its mass. -/
def mosM (c : Nat × Nat → Int) : Option (Nat × Nat) → Int
  | none => -1
  | some p => c p
def DnI (w1 : World) (P : Nat) (c : Nat × Nat → Int) (L : List (Nat × Nat)) (m : Value) (wr : World) : Prop :=
  m = .int .i64 (mosM c (bstB c L)) ∧ Two wr P 26 (.int .i64 (((plO (bstB c L)).1 : Int))) (.int .i64 (((plO (bstB c L)).2 : Int))) ∧ Below w1.heap.size w1 wr
theorem dnI_new {w1 : World} {P : Nat} {c : Nat × Nat → Int} {L : List (Nat × Nat)} {m : Value} {wr X : World} {x : Nat × Nat} (h : DnI w1 P c L m wr) (hP : w1.heap.size ≤ P) (hX : Below wr.heap.size wr X) (hm : mosM c (bstB c L) < c x) {z jx ky : Int} (hz : z = c x) (h0 : jx = (x.1 : Int)) (h1 : ky = (x.2 : Int)) :
    DnI w1 P c (L ++ [x]) (.int .i64 z) ((X.setCell ⟨P, 0, none⟩ (.int .i64 jx)).setCell ⟨P, 1, none⟩ (.int .i64 ky)) := by
  have e : bstB c (L ++ [x]) = some x := by
    rw [bstB_app]
    unfold stpB
    split
    · rfl
    · rename_i q hq
      rw [hq] at hm
      rw [if_pos (show c q < c x from hm)]
  unfold DnI
  rw [e]
  subst hz h0 h1
  refine ⟨rfl, (h.2.1.below hX h.2.1.lt).set2 _ _, ?_⟩
  exact (((h.2.2.trans (hX.mono h.2.2.size)).setCell (p := ⟨P, 0, none⟩) hP _).setCell (p := ⟨P, 1, none⟩) hP _)
theorem dnI_same {w1 : World} {P : Nat} {c : Nat × Nat → Int} {L : List (Nat × Nat)} {m : Value} {wr X : World} {x : Nat × Nat} (h : DnI w1 P c L m wr) (hX : Below wr.heap.size wr X) (h0 : 0 ≤ c x) (hm : ¬ mosM c (bstB c L) < c x) :
    DnI w1 P c (L ++ [x]) m X := by
  have e : bstB c (L ++ [x]) = bstB c L := by
    rw [bstB_app]
    unfold stpB
    split
    · rename_i hq
      rw [hq] at hm
      exact absurd (show (-1 : Int) < c x by omega) hm
    · rename_i q hq
      rw [hq] at hm
      rw [if_neg (show ¬ c q < c x from hm)]
      exact hq.symm
  unfold DnI
  rw [e]
  exact ⟨h.1, h.2.1.below hX h.2.1.lt, h.2.2.trans (hX.mono h.2.2.size)⟩
/-- The cells of the block with two sides at a place. -/
def recB (W wi hi : Nat) (p : Nat × Nat) : List Nat := recN W p.1 (p.1 + wi - 1 + 1 - p.1) p.2 (p.2 + hi - 1 + 1 - p.2)
section
variable (W H n cap b off wi hi nx ny : Nat) (G : Nat → Nat → Int) (w : World) (s : Sides W H n) (hO : OkG n G) (lb : b < w.heap.size) (hG : Grd w b off n G) (h1 : 1 ≤ wi) (h2 : 1 ≤ hi) (hx : nx + wi = W + 1) (hy : ny + hi = H + 1)
include s hO lb hG h1 h2 hx hy
omit lb hG in
theorem dns_bd (p : Nat × Nat) (hp : p.1 < nx ∧ p.2 < ny) : 0 ≤ dnsP G W wi hi p ∧ dnsP G W wi hi p ≤ 10000000000000 := by
  have hB := blS_bd (tells_bd hO).1 s.n0 s.n1 s.w1 s.h1 (show p.1 ≤ p.1 + wi - 1 by omega) (by omega) (show p.2 ≤ p.2 + hi - 1 by omega) (by omega)
  refine ⟨?_, by unfold dnsP; omega⟩
  unfold dnsP blS
  refine sumT_nn _ fun q hq => ?_
  have hq2 : q < n := by rw [s.n0]; exact recN_lt hq (by omega) (by omega)
  have := (hO.1 q hq2)
  obtain ⟨a0, a1, a2, a3, _⟩ := this
  show 0 ≤ G q 0 + G q 1 + G q 2 + G q 3
  omega
omit hO in
theorem rcells_at (wx : World) (hb : Below w.heap.size w wx) (p : Nat × Nat) (hp : p.1 < nx ∧ p.2 < ny) : Calls Tryd.prog 64 #[.agg #[.int .i64 W, .int .i64 H, .slice (some ⟨b, off, none⟩) n cap], .agg #[.int .i64 ((p.1 : Int)), .int .i64 ((p.2 : Int))], .agg #[.int .i64 ((p.1 : Int) + (wi : Int) - 1), .int .i64 ((p.2 : Int) + (hi : Int) - 1)]] wx fun e w' => ∃ v, e = .returned v ∧ RowC w' v G (recB W wi hi p) ∧ Below wx.heap.size wx w' := by
  rw [show (p.1 : Int) + (wi : Int) - 1 = ((p.1 + wi - 1 : Nat) : Int) from by omega, show (p.2 : Int) + (hi : Int) - 1 = ((p.2 + hi - 1 : Nat) : Int) from by omega]
  exact rcells_bl W H n cap b off p.1 p.2 (p.1 + wi - 1) (p.2 + hi - 1) G w s lb hG (by omega) (by omega) (by omega) (by omega) wx hb
omit lb hG in
theorem rsums_at (wx : World) (v : Value) (p : Nat × Nat) (hp : p.1 < nx ∧ p.2 < ny) (hv : RowC wx v G (recB W wi hi p)) : Calls Tryd.prog 68 #[v] wx fun e w' => (∃ a c, e = .returned (.tuple #[.int .i64 (dnsP G W wi hi p), .int .i64 a, .int .i64 c])) ∧ Below wx.heap.size wx w' := by
  refine (rsums_bl W H n p.1 p.2 (p.1 + wi - 1) (p.2 + hi - 1) G s hO (by omega) (by omega) (by omega) (by omega) wx v hv).mono ?_
  rintro e w' ⟨rfl, hb⟩
  exact ⟨⟨_, _, rfl⟩, hb⟩
end
section
variable (W H n cap b off wi hi nx ny : Nat) (G : Nat → Nat → Int) (w : World) (s : Sides W H n) (hO : OkG n G) (lb : b < w.heap.size) (hG : Grd w b off n G) (h1 : 1 ≤ wi) (h2 : 1 ≤ hi) (hx : nx + wi = W + 1) (hy : ny + hi = H + 1) (hx1 : 1 ≤ nx) (hy1 : 1 ≤ ny)
include s hO lb hG h1 h2 hx hy hx1 hy1
set_option maxRecDepth 100000 in
set_option maxHeartbeats 32000000 in
theorem rDensest_ok : Calls Tryd.prog 18 #[.agg #[.int .i64 W, .int .i64 H, .slice (some ⟨b, off, none⟩) n cap], .int .i64 ((wi : Int)), .int .i64 ((hi : Int))] w fun e w' => (∃ p, bstB (dnsP G W wi hi) (recP nx ny) = some p ∧ e = .returned (.tuple #[.agg #[.int .i64 ((p.1 : Int)), .int .i64 ((p.2 : Int))], .int .i64 0])) ∧ Below w.heap.size w w' := by
  have CS := Lib.hid (fun wx (hb : Below w.heap.size w wx) => rsided_ok W H (some ⟨b, off, none⟩) n cap G wi hi wx ((show CellsIn w (some ⟨b, off, none⟩) n G from Or.inr ⟨b, off, rfl, lb, hG⟩).below hb) (vg_of s hO) ⟨⟨by omega, by omega⟩, by omega, by omega⟩)
  have CC := Lib.hid (fun wx (hb : Below w.heap.size w wx) p hp => rcells_at W H n cap b off wi hi nx ny G w s lb hG h1 h2 hx hy wx hb p hp)
  have CU := Lib.hid (fun wx v p hp hv => rsums_at W H n wi hi nx ny G s hO h1 h2 hx hy wx v p hp hv)
  have BD := Lib.hid (fun p hp => dns_bd W H n wi hi nx ny G s hO h1 h2 hx hy p hp)
  have hW1 := s.w1
  have hH1 := s.h1
  obtain ⟨c, hc⟩ : ∃ c, c = dnsP G W wi hi := ⟨_, rfl⟩
  obtain ⟨RB, hRB⟩ : ∃ RB, RB = recB W wi hi := ⟨_, rfl⟩
  rw [← hc] at CU BD ⊢
  rw [← hRB] at CC CU
  clear hc hRB s hO lb hG
  go_enter Tryd.func18, Tryd.ntmps18
  obtain ⟨w1, hw1⟩ : ∃ w1, w1 = (w.alloc (.cells #[.int .i64 W, .int .i64 H, .slice (some ⟨b, off, none⟩) n cap] 24)).alloc (.cells #[.int .i64 0, .int .i64 0] 26) := ⟨_, rfl⟩
  have t0 := three_alloc (Three.new0 w 24 (.int .i64 W) (.int .i64 H) (.slice (some ⟨b, off, none⟩) n cap)) (.cells #[.int .i64 0, .int .i64 0] 26)
  have t1 := Two.new (w.alloc (.cells #[.int .i64 W, .int .i64 H, .slice (some ⟨b, off, none⟩) n cap] 24)) 26 (.int .i64 0) (.int .i64 0)
  simp only [World.size_alloc] at t1
  have hb1 : Below w.heap.size w ((w.alloc (.cells #[.int .i64 W, .int .i64 H, .slice (some ⟨b, off, none⟩) n cap] 24)).alloc (.cells #[.int .i64 0, .int .i64 0] 26)) := by (repeat' (first | (with_reducible exact Below.refl _ _) | (with_reducible refine Below.setCell ?_ (by first | omega | (simp; done) | (simp; omega)) _) | (with_reducible refine Below.alloc ?_ (by first | omega | (simp; done) | (simp; omega)) _) | (with_reducible refine Below.drew ?_) | (with_reducible refine below_drewN ?_ _) | (with_reducible refine Below.trans ?_ (Below.mono (by assumption) (by first | omega | (simp; done) | (simp; omega))))))
  rw [← hw1] at t0 t1 hb1
  go_wp2_with fail
  rw [← hw1]
  clear hw1
  have s1 := hb1.size
  have l0 := t0.lt
  have l1 := t1.lt
  (go_at_call 76; (refine (CS.out _ hb1).mono ?_); rintro e wa ⟨rfl, hba⟩)
  have t0 := t0.below hba l0
  have t1 := t1.below hba l1
  have hb1 := hb1.trans (hba.mono s1)
  have sa := hba.size
  clear hba
  go_wp2_with fail
  have v8 := Two.new wa 26 (.int .i64 0) (.int .i64 0)
  have b8 : Below wa.heap.size wa (wa.alloc (.cells #[.int .i64 0, .int .i64 0] 26)) := (Below.refl _ _).alloc (Nat.le_refl _) _
  obtain ⟨w2, hw2⟩ : ∃ w2, w2 = wa.alloc (.cells #[.int .i64 0, .int .i64 0] 26) := ⟨_, rfl⟩
  obtain ⟨P, hP⟩ : ∃ P, P = wa.heap.size := ⟨_, rfl⟩
  rw [← hw2, ← hP] at v8 ⊢
  rw [← hw2] at b8
  have hPle : wa.heap.size ≤ P := by omega
  have hP0 : w.heap.size ≤ P := by have := hb1.size; omega
  clear hw2 hP
  have l0 := t0.lt
  have l1 := t1.lt
  have sw := hb1.size
  go_loopw [10, 11, 12, 13, 14, 15, 16, 17] (fun m y _ _ _ _ _ _ wr => ∃ k : Nat, k ≤ ny ∧ y = .int .i64 (k : Int) ∧ Hid (DnI wa P c (recP nx k) m wr)) (fun _ y _ _ _ _ _ _ _ => ny - (Go.RowKit.intOf y).toNat)
  case atStart => exact ⟨0, Nat.zero_le _, rfl, Lib.hid ⟨rfl, v8, b8⟩⟩
  case round =>
    obtain ⟨k, hk, rfl, HH⟩ := hrel
    obtain ⟨rfl, hT, hBw⟩ := id HH.out
    have u0 := t0.below hBw l0
    have g1 := u0.c1
    have e1 : IntKind.i64.wrap ((k : Int) + (hi : Int)) = (k : Int) + (hi : Int) := IntWalk.i64_in _ ⟨by omega, by omega⟩
    by_cases hlk : k < ny
    · have q1 : (k : Int) + (hi : Int) ≤ (H : Int) := by omega
      clear u0 hT
      go_wp2
      obtain ⟨wo, hwo⟩ : ∃ wo, wo = wr := ⟨_, rfl⟩
      subst hwo
      clear g1
      go_loopw [10, 12, 13, 14, 15, 16, 17] (fun m x _ _ _ _ _ wr => ∃ j : Nat, j ≤ nx ∧ x = .int .i64 (j : Int) ∧ Hid (DnI wa P c (recP nx k ++ rowP k j) m wr)) (fun _ x _ _ _ _ _ _ => nx - (Go.RowKit.intOf x).toNat)
      case atStart => exact ⟨0, Nat.zero_le _, rfl, by rw [show rowP k 0 = [] from rfl, List.append_nil]; exact HH⟩
      case round =>
        obtain ⟨j, hj, rfl, HJ⟩ := hrel
        obtain ⟨rfl, hT, hBr⟩ := id HJ.out
        have u0 := t0.below hBr l0
        have g0 := u0.c0
        have e2 : IntKind.i64.wrap ((j : Int) + (wi : Int)) = (j : Int) + (wi : Int) := IntWalk.i64_in _ ⟨by omega, by omega⟩
        have lP := hT.lt
        have szr := hBr.size
        by_cases hlj : j < nx
        · have q2 : (j : Int) + (wi : Int) ≤ (W : Int) := by omega
          have hRP := Lib.hid (show recP nx k ++ rowP k (j + 1) = recP nx k ++ rowP k j ++ [(j, k)] from by rw [List.append_assoc]; rfl)
          obtain ⟨L, hL⟩ : ∃ L, L = recP nx k ++ rowP k j := ⟨_, rfl⟩
          rw [← hL] at HJ hT hRP ⊢
          have CR := Lib.hid (fun wx => rcorner_in (j : Int) (k : Int) (wi : Int) (hi : Int) wx ⟨by omega, by omega⟩ ⟨by omega, by omega⟩ ⟨by omega, by omega⟩ ⟨by omega, by omega⟩)
          have CP := Lib.hid (fun wx (hb : Below w.heap.size w wx) => CC.out wx hb (j, k) ⟨hlj, hlk⟩)
          have SP := Lib.hid (fun wx v hv => CU.out wx v (j, k) ⟨hlj, hlk⟩ hv)
          have BZ := BD.out (j, k) ⟨hlj, hlk⟩
          dsimp only at CP
          obtain ⟨z, hz⟩ : ∃ z, z = c (j, k) := ⟨_, rfl⟩
          rw [← hz] at SP BZ
          obtain ⟨m, hm⟩ : ∃ m, m = mosM c (bstB c L) := ⟨_, rfl⟩
          rw [← hm]
          obtain ⟨jx, hjx⟩ : ∃ jx : Int, jx = (j : Int) := ⟨_, rfl⟩
          obtain ⟨ky, hky⟩ : ∃ ky : Int, ky = (k : Int) := ⟨_, rfl⟩
          have e3 : IntKind.i64.wrap (jx + 1) = jx + 1 := IntWalk.i64_in _ ⟨by omega, by omega⟩
          have HJK := Lib.hid (And.intro hlj (And.intro hlk (And.intro hjx hky)))
          have HZM := Lib.hid (And.intro hz (And.intro hm BZ.1))
          obtain ⟨bx, hbx⟩ : ∃ bx : Int, bx = (j : Int) + (wi : Int) - 1 := ⟨_, rfl⟩
          obtain ⟨yb, hyb⟩ : ∃ yb : Int, yb = (k : Int) + (hi : Int) - 1 := ⟨_, rfl⟩
          rw [← hbx, ← hyb] at CR CP
          rw [← hjx] at CR CP e2 q2 ⊢
          rw [← hky] at CR CP e1 q1 ⊢
          have U0 := Lib.hid u0
          have T8 := Lib.hid hT
          have BR := Lib.hid hBr
          have lr0 := u0.lt
          clear hbx hyb hjx hky hz hm BZ hL u0 hT hBr hlj
          go_wp2_with fail
          (go_at_call 77; (refine (CR.out _).mono ?_); rintro e wc ⟨rfl, hbc⟩)
          have u0 := U0.out.below hbc lr0
          have g0 := u0.c0
          have g1 := u0.c1
          have g2 := u0.c2
          have lc0 := u0.lt
          have szc := hbc.size
          have B2 := Lib.hid hbc
          clear hbc u0
          go_wp2_with fail
          have HBw := hb1.trans (BR.out.mono sw)
          have HBc := HBw.trans (B2.out.mono HBw.size)
          have hx1 := HBc.alloc HBc.size (.cells #[.int .i64 jx, .int .i64 ky] 26)
          have hx2 := hx1.alloc hx1.size (.cells #[.int .i64 bx, .int .i64 yb] 26)
          have hr1 := B2.out.alloc B2.out.size (.cells #[.int .i64 jx, .int .i64 ky] 26)
          have hr2 := hr1.alloc hr1.size (.cells #[.int .i64 bx, .int .i64 yb] 26)
          have v13 := (Two.new wc 26 (.int .i64 jx) (.int .i64 ky)).alloc (.cells #[.int .i64 bx, .int .i64 yb] 26)
          have lz : wc.heap.size < ((wc.alloc (.cells #[.int .i64 jx, .int .i64 ky] 26)).alloc (.cells #[.int .i64 bx, .int .i64 yb] 26)).heap.size := by simp; omega
          obtain ⟨wz, hwz⟩ : ∃ wz, wz = (wc.alloc (.cells #[.int .i64 jx, .int .i64 ky] 26)).alloc (.cells #[.int .i64 bx, .int .i64 yb] 26) := ⟨_, rfl⟩
          rw [← hwz] at hx2 hr2 v13 lz ⊢
          (go_at_call 64; (refine (CP.out _ hx2).mono ?_); rintro e we ⟨v, rfl, hv, hbe⟩)
          have HV := Lib.hid hv
          have HBE := Lib.hid hbe
          clear hv hbe
          go_wp2_with fail
          (go_at_call 68; (refine (SP.out _ _ HV.out).mono ?_); rintro e wd ⟨⟨sa1, sa2, rfl⟩, hbd⟩)
          have hbd := HBE.out.trans (hbd.mono HBE.out.size)
          have hrd := hr2.trans (hbd.mono hr2.size)
          have vP := T8.out.below hrd lP
          have v13 := v13.below hbd lz
          have szd := hbd.size
          have szr2 := hrd.size
          have p0 := vP.c0
          have p1 := vP.c1
          have f0 := vP.f0 0
          have f1 := vP.f0 1
          have m0 := v13.c0
          have m1 := v13.c1
          have l13 := v13.lt
          have lPd := vP.lt
          have HRD := Lib.hid hrd
          have HXS := Lib.hid (And.intro hPle hP0)
          obtain ⟨Q, hQ⟩ : ∃ Q, Q = wc.heap.size := ⟨_, rfl⟩
          rw [← hQ] at m0 m1 l13 szc lz ⊢
          have hQP : ¬ (Q = P) := by omega
          have hPQ : ¬ (P = Q) := by omega
          clear hQ hrd vP v13 hbd hx1 hx2 hr1 hr2 HBw HBc hwz g0 g1 g2
          by_cases hlt : m < z
          · have HN := Lib.hid (show mosM c (bstB c L) < c (j, k) from by rw [← HZM.out.1, ← HZM.out.2.1]; exact hlt)
            go_wp2_with fail
            go_roundw
            case rel => exact ⟨j + 1, by have := HJK.out.1; omega, by have hh := HJK.out.2.2.1; subst hh; go_num, Lib.hid (by rw [hRP.out]; exact dnI_new HJ.out HXS.out.1 HRD.out HN.out HZM.out.1 HJK.out.2.2.1 HJK.out.2.2.2)⟩
            case measure => have hh := HJK.out.2.2.1; have h2 := HJK.out.1; subst hh; simp [Go.RowKit.intOf]; omega
          · have HN := Lib.hid (show c (j, k) ≤ mosM c (bstB c L) from by rw [← HZM.out.1, ← HZM.out.2.1]; exact Int.not_lt.1 hlt)
            have HMM := Lib.hid (show (.int .i64 m : Value) = .int .i64 (mosM c (bstB c L)) from by rw [HZM.out.2.1])
            go_wp2_with fail
            go_roundw
            case rel => exact ⟨j + 1, by have := HJK.out.1; omega, by have hh := HJK.out.2.2.1; subst hh; go_num, Lib.hid (by rw [hRP.out, HMM.out]; exact dnI_same HJ.out HRD.out (by rw [← HZM.out.1]; exact HZM.out.2.2) (Int.not_lt.2 HN.out))⟩
            case measure => have hh := HJK.out.2.2.1; have h2 := HJK.out.1; subst hh; simp [Go.RowKit.intOf]; omega
        · have hjn : j = nx := by omega
          subst hjn
          have q2 : ¬ (j : Int) + (wi : Int) ≤ (W : Int) := by omega
          clear u0 hT
          go_wp2
          go_roundw
          case rel => exact ⟨k + 1, by omega, by go_num, HJ⟩
          case measure => simp [Go.RowKit.intOf]; omega
    · have hkn : k = ny := by omega
      subst hkn
      have q1 : ¬ (k : Int) + (hi : Int) ≤ (H : Int) := by omega
      obtain ⟨p, hp⟩ := bstB_some c (recP nx k) (fun e => by have h := recP_len nx k; rw [e] at h; have h2 := Nat.mul_le_mul hy1 hx1; simp only [List.length_nil, Nat.mul_one] at h h2; omega)
      have hT2 := hT
      rw [hp] at hT2
      have u1 := t1.below hBw l1
      have p0 := hT2.c0
      have p1 := hT2.c1
      have r0 := u1.c0
      have r1 := u1.c1
      have f0 := u1.f0 0
      have f1 := u1.f0 1
      have lr := u1.lt
      have lr2 := hT2.lt
      rw [hp]
      dsimp only [mosM, plO, Option.getD] at p0 p1 ⊢
      obtain ⟨x, hx⟩ : ∃ x : Int, x = (p.1 : Int) := ⟨_, rfl⟩
      obtain ⟨y, hy⟩ : ∃ y : Int, y = (p.2 : Int) := ⟨_, rfl⟩
      have HP := Lib.hid (show ∃ p, bstB c (recP nx k) = some p ∧ (Ending.returned (.tuple #[.agg #[.int .i64 x, .int .i64 y], .int .i64 0])) = Ending.returned (.tuple #[.agg #[.int .i64 ((p.1 : Int)), .int .i64 ((p.2 : Int))], .int .i64 0]) from ⟨p, hp, by rw [hx, hy]⟩)
      rw [← hx] at p0
      rw [← hy] at p1
      have HBR := Lib.hid (hb1.trans (hBw.mono sw))
      have hx2 := (u1.set2 (.int .i64 x) (.int .i64 y))
      have s0 := hx2.c0
      have s1 := hx2.c1
      clear hx hy hp hT hT2 u0 u1 hx2 HH hBw
      go_wp2
      refine bodyPost_ret (v := .tuple #[.agg #[.int .i64 x, .int .i64 y], .int .i64 0]) (by simp [results, Tryd.results18, go_sem, ↓IntWalk.iteOmega, *]) rfl ⟨by obtain ⟨p, hp1, hp2⟩ := HP.out; exact ⟨p.1, p.2, hp1, hp2⟩, ?_⟩
      exact (HBR.out.setCell (p := ⟨w.heap.size + 1, 0, none⟩) (show w.heap.size ≤ w.heap.size + 1 by omega) _).setCell (p := ⟨w.heap.size + 1, 1, none⟩) (show w.heap.size ≤ w.heap.size + 1 by omega) _
end
end Go.Proofs.YtmdeooflgkjbbaaDoor

/- Table and Profile: by the reference of the fields. -/


namespace Go.Proofs.YtmdeooflgkjbbaaDoor
set_option linter.unusedSimpArgs false
set_option linter.unusedVariables false
open Go.RowKit Go.Shelf
attribute [local go_sem] Oper.semAt_some

section
variable (W H : Int) (ao : Option Addr) (n cap : Nat) (G : Nat → Nat → Int) (wi hi : Int) (w : World) (hG : CellsIn w ao n G)
include hG
set_option maxRecDepth 100000 in
set_option maxHeartbeats 4000000 in
theorem rTable_bad (hv : ¬ VG W H n G) : Calls Tryd.prog 20 #[.agg #[.int .i64 W, .int .i64 H, .slice (ao) n cap], .int .i64 wi, .int .i64 hi] w fun e w' => e = .returned (.tuple #[.slice none 0 0, .int .i64 1]) ∧ Below w.heap.size w w' := by
  have CS := Lib.hid (fun wx (hb : Below w.heap.size w wx) => rsided_bad W H ao n cap G wi hi wx (hG.below hb) hv)
  clear hv hG
  go_enter Tryd.func20, Tryd.ntmps20
  go_wp2_with (go_at_call 76; (with_reducible refine (CS.out _ (by (repeat' (first | (with_reducible exact Below.refl _ _) | (with_reducible refine Below.setCell ?_ (by first | omega | (simp; done) | (simp; omega)) _) | (with_reducible refine Below.alloc ?_ (by first | omega | (simp; done) | (simp; omega)) _) | (with_reducible refine Below.drew ?_) | (with_reducible refine below_drewN ?_ _) | (with_reducible refine Below.trans ?_ (Below.mono (by assumption) (by first | omega | (simp; done) | (simp; omega)))))))).mono ?_); rintro e w1 ⟨rfl, hb⟩; obtain ⟨hc, hf, hz⟩ := bcall hb; (try simp at hc hf hz))
  refine bodyPost_ret (v := .tuple #[.slice none 0 0, .int .i64 1]) (by simp [results, Tryd.results20, go_sem, ↓IntWalk.iteOmega, *]) rfl ⟨rfl, ?_⟩
  (repeat' (first | (with_reducible exact Below.refl _ _) | (with_reducible refine Below.setCell ?_ (by first | omega | (simp; done) | (simp; omega)) _) | (with_reducible refine Below.alloc ?_ (by first | omega | (simp; done) | (simp; omega)) _) | (with_reducible refine Below.drew ?_) | (with_reducible refine below_drewN ?_ _) | (with_reducible refine Below.trans ?_ (Below.mono (by assumption) (by first | omega | (simp; done) | (simp; omega))))))
set_option maxRecDepth 100000 in
set_option maxHeartbeats 4000000 in
theorem rTable_rng (hv : VG W H n G) (h : ¬ SidOk W H wi hi) : Calls Tryd.prog 20 #[.agg #[.int .i64 W, .int .i64 H, .slice (ao) n cap], .int .i64 wi, .int .i64 hi] w fun e w' => e = .returned (.tuple #[.slice none 0 0, .int .i64 7]) ∧ Below w.heap.size w w' := by
  have CS := Lib.hid (fun wx (hb : Below w.heap.size w wx) => rsided_rng W H ao n cap G wi hi wx (hG.below hb) hv h)
  clear hv hG h
  go_enter Tryd.func20, Tryd.ntmps20
  go_wp2_with (go_at_call 76; (with_reducible refine (CS.out _ (by (repeat' (first | (with_reducible exact Below.refl _ _) | (with_reducible refine Below.setCell ?_ (by first | omega | (simp; done) | (simp; omega)) _) | (with_reducible refine Below.alloc ?_ (by first | omega | (simp; done) | (simp; omega)) _) | (with_reducible refine Below.drew ?_) | (with_reducible refine below_drewN ?_ _) | (with_reducible refine Below.trans ?_ (Below.mono (by assumption) (by first | omega | (simp; done) | (simp; omega)))))))).mono ?_); rintro e w1 ⟨rfl, hb⟩; obtain ⟨hc, hf, hz⟩ := bcall hb; (try simp at hc hf hz))
  refine bodyPost_ret (v := .tuple #[.slice none 0 0, .int .i64 7]) (by simp [results, Tryd.results20, go_sem, ↓IntWalk.iteOmega, *]) rfl ⟨rfl, ?_⟩
  (repeat' (first | (with_reducible exact Below.refl _ _) | (with_reducible refine Below.setCell ?_ (by first | omega | (simp; done) | (simp; omega)) _) | (with_reducible refine Below.alloc ?_ (by first | omega | (simp; done) | (simp; omega)) _) | (with_reducible refine Below.drew ?_) | (with_reducible refine below_drewN ?_ _) | (with_reducible refine Below.trans ?_ (Below.mono (by assumption) (by first | omega | (simp; done) | (simp; omega))))))
set_option maxRecDepth 100000 in
set_option maxHeartbeats 4000000 in
theorem rTable_size (hv : VG W H n G) (h : SidOk W H wi hi) (r s : Int) (e1 : Int.tmod W wi = r) (e2 : Int.tmod H hi = s) (hrs : r ≠ 0 ∨ (r = 0 ∧ s ≠ 0)) : Calls Tryd.prog 20 #[.agg #[.int .i64 W, .int .i64 H, .slice (ao) n cap], .int .i64 wi, .int .i64 hi] w fun e w' => e = .returned (.tuple #[.slice none 0 0, .int .i64 9]) ∧ Below w.heap.size w w' := by
  have CS := Lib.hid (fun wx (hb : Below w.heap.size w wx) => rsided_ok W H ao n cap G wi hi wx (hG.below hb) hv h)
  have n1 : ¬ wi = 0 := by have := h.1.1; omega
  have n2 : ¬ hi = 0 := by have := h.2.1; omega
  have r1 := rem_in ⟨hv.1.1, hv.1.2.1⟩ h.1 e1
  have r2 := rem_in ⟨hv.1.2.2.1, hv.1.2.2.2.1⟩ h.2 e2
  have h3 := h.1.2
  have h4 := h.2.2
  have h5 := hv.1.2.1
  have h6 := hv.1.2.2.2.1
  have x1 : IntKind.i64.wrap r = r := IntWalk.i64_in _ ⟨by omega, by omega⟩
  have x2 : IntKind.i64.wrap s = s := IntWalk.i64_in _ ⟨by omega, by omega⟩
  clear hG h r1 r2 h3 h4 h5 h6 hv
  rcases hrs with h1 | ⟨rfl, h1⟩
  all_goals
    go_enter Tryd.func20, Tryd.ntmps20
    go_wp2_with (go_at_call 76; (with_reducible refine (CS.out _ (by (repeat' (first | (with_reducible exact Below.refl _ _) | (with_reducible refine Below.setCell ?_ (by first | omega | (simp; done) | (simp; omega)) _) | (with_reducible refine Below.alloc ?_ (by first | omega | (simp; done) | (simp; omega)) _) | (with_reducible refine Below.drew ?_) | (with_reducible refine below_drewN ?_ _) | (with_reducible refine Below.trans ?_ (Below.mono (by assumption) (by first | omega | (simp; done) | (simp; omega)))))))).mono ?_); rintro e w1 ⟨rfl, hb⟩; obtain ⟨hc, hf, hz⟩ := bcall hb; (try simp at hc hf hz))
    refine bodyPost_ret (v := .tuple #[.slice none 0 0, .int .i64 9]) (by simp [results, Tryd.results20, go_sem, ↓IntWalk.iteOmega, *]) rfl ⟨rfl, ?_⟩
    (repeat' (first | (with_reducible exact Below.refl _ _) | (with_reducible refine Below.setCell ?_ (by first | omega | (simp; done) | (simp; omega)) _) | (with_reducible refine Below.alloc ?_ (by first | omega | (simp; done) | (simp; omega)) _) | (with_reducible refine Below.drew ?_) | (with_reducible refine below_drewN ?_ _) | (with_reducible refine Below.trans ?_ (Below.mono (by assumption) (by first | omega | (simp; done) | (simp; omega))))))
end
section
variable (W H n cap b off wi hi m M : Nat) (G : Nat → Nat → Int) (w : World) (s : Sides W H n) (hO : OkG n G) (lb : b < w.heap.size) (hG : Grd w b off n G) (h1 : 1 ≤ wi) (h2 : 1 ≤ hi) (hW : W = wi * m) (hH : H = hi * M) (hm1 : 1 ≤ m) (hM1 : 1 ≤ M)
include s hO lb hG h1 h2 hW hH hm1 hM1
set_option maxRecDepth 100000 in
set_option maxHeartbeats 32000000 in
theorem rTable_ok : Calls Tryd.prog 20 #[.agg #[.int .i64 W, .int .i64 H, .slice (some ⟨b, off, none⟩) n cap], .int .i64 ((wi : Int)), .int .i64 ((hi : Int))] w fun e w' => ∃ v, e = .returned (.tuple #[v, .int .i64 0]) ∧ w'.ownsRow w.heap.size 3 1 v (M * m) (iV (fnL (tabS (msC G) W m wi hi) (M * m))) ∧ Below w.heap.size w w' := by
  obtain ⟨i0, hif, hz0, hz1, hz2⟩ := info_parts info_intF
  have hwW : wi ≤ W := by rw [hW]; exact Nat.le_mul_of_pos_right _ hm1
  have hhH : hi ≤ H := by rw [hH]; exact Nat.le_mul_of_pos_right _ hM1
  obtain ⟨nx, hnx⟩ : ∃ nx, nx = W + 1 - wi := ⟨_, rfl⟩
  obtain ⟨ny, hny⟩ : ∃ ny, ny = H + 1 - hi := ⟨_, rfl⟩
  have CS := Lib.hid (fun wx (hb : Below w.heap.size w wx) => rsided_ok W H (some ⟨b, off, none⟩) n cap G wi hi wx ((show CellsIn w (some ⟨b, off, none⟩) n G from Or.inr ⟨b, off, rfl, lb, hG⟩).below hb) (vg_of s hO) ⟨⟨by omega, by omega⟩, by omega, by omega⟩)
  have CC := Lib.hid (fun wx (hb : Below w.heap.size w wx) p hp => rcells_at W H n cap b off wi hi nx ny G w s lb hG h1 h2 (by omega) (by omega) wx hb p hp)
  have CU := Lib.hid (fun wx v p hp hv => rsums_at W H n wi hi nx ny G s hO h1 h2 (by omega) (by omega) wx v p hp hv)
  have hW1 := s.w1
  have hH1 := s.h1
  have hMm : M * m ≤ 64 * 64 := Nat.mul_le_mul (by have := Nat.le_mul_of_pos_left M h2; omega) (by have := Nat.le_mul_of_pos_left m h1; omega)
  have ES : ∀ k j, j < m → tabS (msC G) W m wi hi (k * m + j) = dnsP G W wi hi (j * wi, k * hi) := fun k j hj => by
    unfold tabS dnsP tabP
    rw [Nat.mul_comm k m, Nat.mul_add_mod, Nat.mod_eq_of_lt hj, Nat.mul_add_div (by omega), Nat.div_eq_of_lt hj, Nat.add_zero]
  have ES := Lib.hid ES
  obtain ⟨S, hS⟩ : ∃ S, S = tabS (msC G) W m wi hi := ⟨_, rfl⟩
  obtain ⟨c, hc⟩ : ∃ c, c = dnsP G W wi hi := ⟨_, rfl⟩
  obtain ⟨RB, hRB⟩ : ∃ RB, RB = recB W wi hi := ⟨_, rfl⟩
  rw [← hc] at CU ES
  rw [← hS] at ES ⊢
  rw [← hRB] at CC CU
  have t1 : Int.tmod (W : Int) (wi : Int) = 0 := by rw [hW]; push_cast; exact Int.mul_tmod_right _ _
  have t2 : Int.tmod (H : Int) (hi : Int) = 0 := by rw [hH]; push_cast; exact Int.mul_tmod_right _ _
  have t3 : (W : Int) % (wi : Int) = 0 := by rw [hW]; push_cast; exact Int.mul_emod_right _ _
  have t4 : (H : Int) % (hi : Int) = 0 := by rw [hH]; push_cast; exact Int.mul_emod_right _ _
  have t5 : W % wi = 0 := by rw [hW]; exact Nat.mul_mod_right _ _
  have t6 : H % hi = 0 := by rw [hH]; exact Nat.mul_mod_right _ _
  have n1 : ¬ (wi : Int) = 0 := by omega
  have n2 : ¬ (hi : Int) = 0 := by omega
  have n3 : ¬ wi = 0 := by omega
  have n4 : ¬ hi = 0 := by omega
  have HWH := Lib.hid (And.intro hW (And.intro hH (And.intro hnx hny)))
  clear hS hc hRB s hO lb hG hW hH hnx hny
  go_enter Tryd.func20, Tryd.ntmps20
  have t0 := Three.new0 w 24 (.int .i64 W) (.int .i64 H) (.slice (some ⟨b, off, none⟩) n cap)
  have hb1 : Below w.heap.size w (w.alloc (.cells #[.int .i64 W, .int .i64 H, .slice (some ⟨b, off, none⟩) n cap] 24)) := by (repeat' (first | (with_reducible exact Below.refl _ _) | (with_reducible refine Below.setCell ?_ (by first | omega | (simp; done) | (simp; omega)) _) | (with_reducible refine Below.alloc ?_ (by first | omega | (simp; done) | (simp; omega)) _) | (with_reducible refine Below.drew ?_) | (with_reducible refine below_drewN ?_ _) | (with_reducible refine Below.trans ?_ (Below.mono (by assumption) (by first | omega | (simp; done) | (simp; omega))))))
  obtain ⟨w1, hw1⟩ : ∃ w1, w1 = w.alloc (.cells #[.int .i64 W, .int .i64 H, .slice (some ⟨b, off, none⟩) n cap] 24) := ⟨_, rfl⟩
  rw [← hw1] at t0 hb1
  go_wp2_with fail
  rw [← hw1]
  clear hw1
  have s1 := hb1.size
  have l0 := t0.lt
  (go_at_call 76; (refine (CS.out _ hb1).mono ?_); rintro e wa ⟨rfl, hba⟩)
  have t0 := t0.below hba l0
  have hb1 := hb1.trans (hba.mono s1)
  have sa := hba.size
  clear hba
  have g0 := t0.c0
  have g1 := t0.c1
  go_wp2_with fail
  clear t1 t2 t3 t4 t5 t6 g0 g1
  have l0 := t0.lt
  have sw := hb1.size
  go_loopw [9, 10, 11, 12, 13, 14, 15, 16] (fun o y _ _ _ _ _ _ wr => ∃ k Y : Nat, k ≤ M ∧ Y ≤ H ∧ y = .int .i64 (Y : Int) ∧ Hid (Y = k * hi) ∧ Hid (wr.ownsRow wa.heap.size 3 1 o (fnL S (k * m)).length (iV (fnL S (k * m))) ∧ Below wa.heap.size wa wr)) (fun _ y _ _ _ _ _ _ _ => H - (Go.RowKit.intOf y).toNat)
  case atStart => exact ⟨0, 0, Nat.zero_le _, Nat.zero_le _, rfl, Lib.hid (by omega), Lib.hid ⟨by rw [Nat.zero_mul]; exact World.ownsRow_nil _ _ _ _, Below.refl _ _⟩⟩
  case round =>
    obtain ⟨k, Y, hk, hYH, rfl, hY, HH⟩ := hrel
    have hBw := HH.out.2
    have u0 := t0.below hBw l0
    have g1 := u0.c1
    by_cases hlk : k < M
    · have hY2 : Y + hi ≤ H := by
        have := Nat.mul_le_mul_right hi (show k + 1 ≤ M by omega)
        rw [Nat.add_mul, Nat.one_mul, ← hY.out] at this
        rw [HWH.out.2.1, Nat.mul_comm hi M]
        exact this
      have q1 : (Y : Int) < (H : Int) := by omega
      have q1n : Y < H := by omega
      have e1 : IntKind.i64.wrap ((Y : Int) + (hi : Int)) = (Y : Int) + (hi : Int) := IntWalk.i64_in _ ⟨by omega, by omega⟩
      clear u0
      go_wp2
      obtain ⟨wo, hwo⟩ : ∃ wo, wo = wr := ⟨_, rfl⟩
      subst hwo
      clear g1
      go_loopw [9, 11, 12, 13, 14, 15, 16] (fun o x _ _ _ _ _ wr => ∃ j X : Nat, j ≤ m ∧ X ≤ W ∧ x = .int .i64 (X : Int) ∧ Hid (X = j * wi) ∧ Hid (wr.ownsRow wa.heap.size 3 1 o (fnL S (k * m + j)).length (iV (fnL S (k * m + j))) ∧ Below wa.heap.size wa wr)) (fun _ x _ _ _ _ _ _ => W - (Go.RowKit.intOf x).toNat)
      case atStart => exact ⟨0, 0, Nat.zero_le _, Nat.zero_le _, rfl, Lib.hid (by omega), HH⟩
      case round =>
        obtain ⟨j, X, hj, hXW, rfl, hX, HJ⟩ := hrel
        have hBr := HJ.out.2
        have u0 := t0.below hBr l0
        have g0 := u0.c0
        have szr := hBr.size
        by_cases hlj : j < m
        · have hX2 : X + wi ≤ W := by
            have := Nat.mul_le_mul_right wi (show j + 1 ≤ m by omega)
            rw [Nat.add_mul, Nat.one_mul, ← hX.out] at this
            rw [HWH.out.1, Nat.mul_comm wi m]
            exact this
          have q2 : (X : Int) < (W : Int) := by omega
          have q2n : X < W := by omega
          have e2 : IntKind.i64.wrap ((X : Int) + (wi : Int)) = (X : Int) + (wi : Int) := IntWalk.i64_in _ ⟨by omega, by omega⟩
          have CR := Lib.hid (fun wx => rcorner_in (X : Int) (Y : Int) (wi : Int) (hi : Int) wx ⟨by omega, by omega⟩ ⟨by omega, by omega⟩ ⟨by omega, by omega⟩ ⟨by omega, by omega⟩)
          have CP := Lib.hid (fun wx (hb : Below w.heap.size w wx) => CC.out wx hb (X, Y) ⟨by have := HWH.out.2.2.1; omega, by have := HWH.out.2.2.2; omega⟩)
          have SP := Lib.hid (fun wx v hv => CU.out wx v (X, Y) ⟨by have := HWH.out.2.2.1; omega, by have := HWH.out.2.2.2; omega⟩ hv)
          have HD := Lib.hid (show fnL S (k * m + (j + 1)) = fnL S (k * m + j) ++ [c (X, Y)] from by rw [← Nat.add_assoc]; show fnL S (k * m + j) ++ [S (k * m + j)] = _; rw [ES.out k j hlj, hX.out, hY.out])
          have hlen := fnL_len S (k * m + j)
          have hlt : k * m + j < M * m := by
            have := Nat.mul_le_mul_right m (show k + 1 ≤ M by omega)
            rw [Nat.add_mul, Nat.one_mul] at this
            omega
          dsimp only at CP
          obtain ⟨z, hz⟩ : ∃ z, z = c (X, Y) := ⟨_, rfl⟩
          rw [← hz] at SP HD
          obtain ⟨L, hL⟩ : ∃ L, L = fnL S (k * m + j) := ⟨_, rfl⟩
          rw [← hL] at HD hlen HJ
          have HLN := Lib.hid (show L.length ≤ 5000 by omega)
          obtain ⟨jx, hjx⟩ : ∃ jx : Int, jx = (X : Int) := ⟨_, rfl⟩
          obtain ⟨ky, hky⟩ : ∃ ky : Int, ky = (Y : Int) := ⟨_, rfl⟩
          have HJK := Lib.hid (And.intro hlj (And.intro hX2 (And.intro hjx hky)))
          obtain ⟨bx, hbx⟩ : ∃ bx : Int, bx = (X : Int) + (wi : Int) - 1 := ⟨_, rfl⟩
          obtain ⟨yb, hyb⟩ : ∃ yb : Int, yb = (Y : Int) + (hi : Int) - 1 := ⟨_, rfl⟩
          rw [← hbx, ← hyb] at CR CP
          rw [← hjx] at CR CP e2 q2 ⊢
          rw [← hky] at CR CP e1 q1 ⊢
          have U0 := Lib.hid u0
          have BR := Lib.hid hBr
          have lr0 := u0.lt
          clear hbx hyb hjx hky hz hL u0 hBr hlj hlen hlt hX2 hY2 q1n q2n
          go_wp2_with fail
          (go_at_call 77; (refine (CR.out _).mono ?_); rintro e wc ⟨rfl, hbc⟩)
          have u0 := U0.out.below hbc lr0
          have g0 := u0.c0
          have g1 := u0.c1
          have g2 := u0.c2
          have lc0 := u0.lt
          have szc := hbc.size
          have B2 := Lib.hid hbc
          clear hbc u0
          go_wp2_with fail
          have HBw := hb1.trans (BR.out.mono sw)
          have HBc := HBw.trans (B2.out.mono HBw.size)
          have hx1 := HBc.alloc HBc.size (.cells #[.int .i64 jx, .int .i64 ky] 26)
          have hx2 := hx1.alloc hx1.size (.cells #[.int .i64 bx, .int .i64 yb] 26)
          have hr1 := B2.out.alloc B2.out.size (.cells #[.int .i64 jx, .int .i64 ky] 26)
          have hr2 := hr1.alloc hr1.size (.cells #[.int .i64 bx, .int .i64 yb] 26)
          obtain ⟨wz, hwz⟩ : ∃ wz, wz = (wc.alloc (.cells #[.int .i64 jx, .int .i64 ky] 26)).alloc (.cells #[.int .i64 bx, .int .i64 yb] 26) := ⟨_, rfl⟩
          rw [← hwz] at hx2 hr2 ⊢
          (go_at_call 64; (refine (CP.out _ hx2).mono ?_); rintro e we ⟨v, rfl, hv, hbe⟩)
          have HV := Lib.hid hv
          have HBE := Lib.hid hbe
          clear hv hbe
          go_wp2_with fail
          (go_at_call 68; (refine (SP.out _ _ HV.out).mono ?_); rintro e wd ⟨⟨sa1, sa2, rfl⟩, hbd⟩)
          have hbd := HBE.out.trans (hbd.mono HBE.out.size)
          have hrd := hr2.trans (hbd.mono hr2.size)
          have szd := hrd.size
          have hln := HLN.out
          clear hbd hx1 hx2 hr1 hr2 HBw HBc hwz g0 g1 g2
          go_wp2_with (at_builtin; refine wpList_append_own _ rfl _ _ 40 rfl wa.heap.size 3 i0 (.int .i64 0) 1 8 Tryd.underlying40 hif hz0 hz1 hz2 rfl (by omega) _ _ _ rfl (owns_below HJ.out.1 (by (repeat' (first | (with_reducible exact Below.refl _ _) | (with_reducible refine Below.setCell ?_ (by first | omega | (simp; done) | (simp; omega)) _) | (with_reducible refine Below.alloc ?_ (by first | omega | (simp; done) | (simp; omega)) _) | (with_reducible refine Below.drew ?_) | (with_reducible refine below_drewN ?_ _) | (with_reducible refine Below.trans ?_ (Below.mono (by assumption) (by first | omega | (simp; done) | (simp; omega)))))))) _ 1 1 [.int .i64 z] rfl rfl (by intro j u hu; match j with | 0 => (simp at hu; subst hu; simp only [Addr.add, Nat.zero_add]; exact (World.cell?_alloc_at _ _ _ _ (by simp)).trans rfl) | _ + 1 => simp at hu) (by intro u hu; simp at hu; subst hu; rfl) (by unfold maxLen; omega) (by omega) (by simp; omega) ?_; intro v' w6 hown hgrow _)
          have HN := Lib.hid (ints_appF (w0 := wa) HJ.out (by (repeat' (first | (with_reducible exact Below.refl _ _) | (with_reducible refine Below.setCell ?_ (by first | omega | (simp; done) | (simp; omega)) _) | (with_reducible refine Below.alloc ?_ (by first | omega | (simp; done) | (simp; omega)) _) | (with_reducible refine Below.drew ?_) | (with_reducible refine below_drewN ?_ _) | (with_reducible refine Below.trans ?_ (Below.mono (by assumption) (by first | omega | (simp; done) | (simp; omega))))))) hown hgrow)
          clear hown hgrow
          go_roundw
          case rel => exact ⟨j + 1, X + wi, by have := HJK.out.1; omega, by have := HJK.out.2.1; omega, by have hh := HJK.out.2.2.1; subst hh; push_cast; rfl, Lib.hid (by rw [hX.out, Nat.add_mul, Nat.one_mul]), Lib.hid (by rw [HD.out]; exact HN.out)⟩
          case measure => have hh := HJK.out.2.2.1; have h2 := HJK.out.2.1; subst hh; simp [Go.RowKit.intOf]; omega
        · have hjn : j = m := by omega
          subst hjn
          have hXW2 : X = W := by rw [hX.out, HWH.out.1, Nat.mul_comm]
          have q2 : ¬ (X : Int) < (W : Int) := by omega
          have q2n : ¬ X < W := by omega
          clear u0 hXW2
          go_wp2
          go_roundw
          case rel => exact ⟨k + 1, Y + hi, by omega, hY2, by push_cast; rfl, Lib.hid (by rw [hY.out, Nat.add_mul, Nat.one_mul]), Lib.hid (by rw [Nat.add_mul, Nat.one_mul]; exact HJ.out)⟩
          case measure => simp [Go.RowKit.intOf]; omega
    · have hkn : k = M := by omega
      subst hkn
      have hYH2 : Y = H := by rw [hY.out, HWH.out.2.1, Nat.mul_comm]
      have q1 : ¬ (Y : Int) < (H : Int) := by omega
      have q1n : ¬ Y < H := by omega
      have HR := ownsRow_base_a HH.out.1 sw
      rw [fnL_len] at HR
      have HR := Lib.hid HR
      have HBR := Lib.hid (hb1.trans (hBw.mono sw))
      clear u0 hYH2
      go_wp2
      go_ret2
      exact ⟨_, rfl, HR.out, HBR.out⟩
end
end Go.Proofs.YtmdeooflgkjbbaaDoor
