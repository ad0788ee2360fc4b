/- Sides, sums and validity of a grid, by the program. -/
import Derived.Test.YtmdeooflgkjbbaaDoorKEnds
import Derived.Test.YtmdeooflgkjbbaaDoorKGMath
import Derived.Test.YtmdeooflgkjbbaaDoorKColl
import Derived.LoopTactic
import Derived.Deep.RegionHeld3
namespace Go.Proofs.YtmdeooflgkjbbaaDoor
set_option linter.unusedSimpArgs false
set_option linter.unusedVariables false
open Go.RowKit

theorem Sd.bd {W H : Int} (h : Sd W H) : 1 ≤ W * H ∧ W * H ≤ 1024 := by
  obtain ⟨h1, _, h3, _, h5⟩ := h
  exact ⟨by have := Int.mul_le_mul h1 h3 (by omega) (by omega); simpa using this, h5⟩
theorem side_bd {W H : Int} (h1 : 1 ≤ W) (h2 : W ≤ 64) (h3 : 1 ≤ H) (h4 : H ≤ 64) : 1 ≤ W * H ∧ W * H ≤ 4096 :=
  ⟨by have := Int.mul_le_mul h1 h3 (by omega) (by omega); simpa using this, by have := Int.mul_le_mul h2 h4 (by omega) (by omega); simpa using this⟩

theorem isSide_yes (n : Int) (w : World) (h1 : 1 ≤ n) (h2 : n ≤ 64) : Calls Tryd.prog 135 #[.int .i64 n] w fun e w' => e = .returned (.bool true) ∧ w = w' := by
  go_enter Tryd.func135, Tryd.ntmps135
  go_wp2
  go_ret
  exact ⟨rfl, rfl⟩
theorem isSide_no (n : Int) (w : World) (h : n < 1 ∨ 64 < n) : Calls Tryd.prog 135 #[.int .i64 n] w fun e w' => e = .returned (.bool false) ∧ w = w' := by
  by_cases h1 : 1 ≤ n
  · have h2 : ¬ n ≤ 64 := by omega
    clear h
    go_enter Tryd.func135, Tryd.ntmps135
    go_wp2
    go_ret
    exact ⟨rfl, rfl⟩
  · clear h
    go_enter Tryd.func135, Tryd.ntmps135
    go_wp2
    go_ret
    exact ⟨rfl, rfl⟩

set_option maxHeartbeats 1000000 in
theorem size_ok (W H : Int) (n : Nat) (w : World) (h : Sd W H) (hn : (n : Int) = W * H) : Calls Tryd.prog 81 #[.int .i64 W, .int .i64 H] w fun e w' => e = .returned (.tuple #[.int .i64 n, .int .i64 0]) ∧ w = w' := by
  rw [hn]
  obtain ⟨b1, b2⟩ := h.bd
  obtain ⟨h1, h2, h3, h4, _⟩ := h
  clear hn
  go_enter Tryd.func81, Tryd.ntmps81
  go_wp2_with (go_at_call 135; (with_reducible refine (isSide_yes _ _ (by omega) (by omega)).mono ?_); rintro e w1 ⟨rfl, rfl⟩)
  go_ret2
  exact ⟨rfl, rfl⟩
set_option maxHeartbeats 1000000 in
theorem size_limit (W H : Int) (w : World) (h1 : 1 ≤ W) (h2 : W ≤ 64) (h3 : 1 ≤ H) (h4 : H ≤ 64) (h5 : 1024 < W * H) : Calls Tryd.prog 81 #[.int .i64 W, .int .i64 H] w fun e w' => e = .returned (.tuple #[.int .i64 0, .int .i64 4]) ∧ w = w' := by
  obtain ⟨b1, b2⟩ := side_bd h1 h2 h3 h4
  go_enter Tryd.func81, Tryd.ntmps81
  go_wp2_with (go_at_call 135; (with_reducible refine (isSide_yes _ _ (by omega) (by omega)).mono ?_); rintro e w1 ⟨rfl, rfl⟩)
  go_ret2
  exact ⟨rfl, rfl⟩
set_option maxHeartbeats 1000000 in
theorem size_range (W H : Int) (w : World) (h : (W < 1 ∨ 64 < W) ∨ (H < 1 ∨ 64 < H)) : Calls Tryd.prog 81 #[.int .i64 W, .int .i64 H] w fun e w' => e = .returned (.tuple #[.int .i64 0, .int .i64 7]) ∧ w = w' := by
  by_cases hW : W < 1 ∨ 64 < W
  · clear h
    go_enter Tryd.func81, Tryd.ntmps81
    go_wp2_with (go_at_call 135; (with_reducible refine (isSide_no _ _ hW).mono ?_); rintro e w1 ⟨rfl, rfl⟩)
    go_ret2
    exact ⟨rfl, rfl⟩
  · have hH : H < 1 ∨ 64 < H := by omega
    have h1 : 1 ≤ W := by omega
    have h2 : W ≤ 64 := by omega
    clear h hW
    go_enter Tryd.func81, Tryd.ntmps81
    go_wp2_with (first | (go_at_call 135; (with_reducible refine (isSide_yes _ _ h1 h2).mono ?_); rintro e w1 ⟨rfl, rfl⟩) | (go_at_call 135; (with_reducible refine (isSide_no _ _ hH).mono ?_); rintro e w1 ⟨rfl, rfl⟩))
    go_ret2
    exact ⟨rfl, rfl⟩

theorem Grd.get {w wr : World} {b off n : Nat} {G : Nat → Nat → Int} (h : Grd w b off n G) (hb : Below w.heap.size w wr) (hlt : b < w.heap.size) {k : Nat} (hk : k < n) :
    wr.cell? ⟨b, off + k * 4, none⟩ = some (.int .i64 (G k 0)) ∧ wr.cell? ⟨b, off + k * 4 + 1, none⟩ = some (.int .i64 (G k 1)) ∧ wr.cell? ⟨b, off + k * 4 + 2, none⟩ = some (.int .i64 (G k 2)) ∧ wr.cell? ⟨b, off + k * 4 + 3, none⟩ = some (.int .i64 (G k 3)) := h.below hb hlt k hk

set_option maxHeartbeats 4000000 in
theorem gMass_ok1 (W H : Int) (b off n cap : Nat) (G : Nat → Nat → Int) (w : World) (hv : VG W H n G) (hlt : b < w.heap.size) (hG : Grd w b off n G) :
    Calls Tryd.prog 24 #[.agg #[.int .i64 W, .int .i64 H, .slice (some ⟨b, off, none⟩) n cap]] w fun e w' => e = .returned (.tuple #[.int .i64 (wt G n), .int .i64 0]) ∧ Below w.heap.size w w' := by
  obtain ⟨hs, hn, hok, hw⟩ := hv
  have hn2 : (n : Int) ≤ 1024 := by have := hs.bd; omega
  have HS := Lib.hid hs; clear hs
  have HN := Lib.hid hn; clear hn
  have HO := Lib.hid hok; clear hok
  have HG := Lib.hid hG; clear hG
  have HW := Lib.hid hw; clear hw
  go_enter Tryd.func24, Tryd.ntmps24
  go_wp2_with (go_at_call 81; (with_reducible refine (size_ok W H n _ HS.out HN.out).mono ?_); rintro e w1 ⟨rfl, rfl⟩)
  go_loopw [6, 31] (fun t i wr => ∃ k : Nat, k ≤ n ∧ i = .int .i64 k ∧ t = .int .i64 (wt G k) ∧ Below w.heap.size w wr) (fun _ i _ => n - (intOf i).toNat)
  case atStart => exact ⟨0, Nat.zero_le _, rfl, rfl, by (repeat' (first | (with_reducible exact Below.refl _ _) | (with_reducible refine Below.setCell ?_ (by first | omega | (simp; done) | (simp; omega)) _) | (with_reducible refine Below.alloc ?_ (by first | omega | (simp; done) | (simp; omega)) _) | (with_reducible refine Below.drew ?_) | (with_reducible refine below_drewN ?_ _) | (with_reducible refine Below.trans ?_ (Below.mono (by assumption) (by first | omega | (simp; done) | (simp; omega))))))⟩
  case round =>
    obtain ⟨k, hk, rfl, rfl, hB⟩ := hrel
    by_cases hlk : k < n
    · obtain ⟨c0, c1, c2, c3⟩ := HG.out.get hB hlt hlk
      have HK := Lib.hid (HO.out k hlk)
      have hs := hB.size
      have w1 := wt_le HO.out k hk
      have w2 := wt_le HO.out (k + 1) hlk
      have w3 := HW.out
      have e : wt G (k + 1) = wt G k + (G k 0 + G k 1 + G k 2 + G k 3) := rfl
      rw [e] at w2
      obtain ⟨w10, w11⟩ := w1
      obtain ⟨w20, w21⟩ := w2
      have E := Lib.hid e
      clear e
      go_wp2_with (go_at_call 82; (with_reducible refine (mass_ok _ _ _ _ _ HK.out).mono ?_); rintro e w1 ⟨rfl, hb⟩; obtain ⟨hc, hf, hz⟩ := bcall hb; (try simp at hc hf hz))
      go_roundw
      case rel => exact ⟨k + 1, by omega, by go_num, by rw [E.out], by (repeat' (first | (with_reducible exact Below.refl _ _) | (with_reducible refine Below.setCell ?_ (by first | omega | (simp; done) | (simp; omega)) _) | (with_reducible refine Below.alloc ?_ (by first | omega | (simp; done) | (simp; omega)) _) | (with_reducible refine Below.drew ?_) | (with_reducible refine below_drewN ?_ _) | (with_reducible refine Below.trans ?_ (Below.mono (by assumption) (by first | omega | (simp; done) | (simp; omega))))))⟩
      case measure => simp [intOf]; omega
    · obtain rfl : n = k := by omega
      go_wp2
      go_ret2
      exact ⟨rfl, hB⟩

/-- Why a grid is not valid. -/
theorem not_vg {W H : Int} {n : Nat} {G : Nat → Nat → Int} (h : ¬ VG W H n G) : ((W < 1 ∨ 64 < W) ∨ (H < 1 ∨ 64 < H)) ∨ (((1 ≤ W ∧ W ≤ 64) ∧ (1 ≤ H ∧ H ≤ 64)) ∧ 1024 < W * H) ∨ (Sd W H ∧ (n : Int) ≠ W * H) ∨ (Sd W H ∧ (n : Int) = W * H ∧ ¬ OkG n G) := by
  by_cases h1 : (W < 1 ∨ 64 < W) ∨ (H < 1 ∨ 64 < H)
  · exact .inl h1
  · by_cases h2 : 1024 < W * H
    · exact .inr (.inl ⟨⟨⟨by omega, by omega⟩, ⟨by omega, by omega⟩⟩, h2⟩)
    · have hs : Sd W H := ⟨by omega, by omega, by omega, by omega, by omega⟩
      by_cases h3 : (n : Int) = W * H
      · exact .inr (.inr (.inr ⟨hs, h3, fun h4 => h ⟨hs, h3, h4⟩⟩))
      · exact .inr (.inr (.inl ⟨hs, h3⟩))

set_option maxHeartbeats 4000000 in
theorem gMass_bad0 (W H : Int) (b off n cap : Nat) (G : Nat → Nat → Int) (w : World) (hs : Sd W H) (hn : (n : Int) = W * H) (hv : ¬ OkG n G) (hlt : b < w.heap.size) (hG : Grd w b off n G) :
    Calls Tryd.prog 24 #[.agg #[.int .i64 W, .int .i64 H, .slice (some ⟨b, off, none⟩) n cap]] w fun e w' => e = .returned (.tuple #[.int .i64 0, .int .i64 1]) ∧ Below w.heap.size w w' := by
  have hn2 : (n : Int) ≤ 1024 := by have := hs.bd; omega
  have HS := Lib.hid hs; clear hs
  have HN := Lib.hid hn; clear hn
  have HV := Lib.hid hv; clear hv
  have HG := Lib.hid hG; clear hG
  go_enter Tryd.func24, Tryd.ntmps24
  go_wp2_with (go_at_call 81; (with_reducible refine (size_ok W H n _ HS.out HN.out).mono ?_); rintro e w1 ⟨rfl, rfl⟩)
  go_loopw [6, 31] (fun t i wr => ∃ k : Nat, k ≤ n ∧ i = .int .i64 k ∧ t = .int .i64 (wt G k) ∧ Below w.heap.size w wr ∧ Hid (∀ j, j < k → Ok4 (G j 0) (G j 1) (G j 2) (G j 3)) ∧ Hid (wt G k ≤ 1000000000)) (fun _ i _ => n - (intOf i).toNat)
  case atStart => exact ⟨0, Nat.zero_le _, rfl, rfl, by (repeat' (first | (with_reducible exact Below.refl _ _) | (with_reducible refine Below.setCell ?_ (by first | omega | (simp; done) | (simp; omega)) _) | (with_reducible refine Below.alloc ?_ (by first | omega | (simp; done) | (simp; omega)) _) | (with_reducible refine Below.drew ?_) | (with_reducible refine below_drewN ?_ _) | (with_reducible refine Below.trans ?_ (Below.mono (by assumption) (by first | omega | (simp; done) | (simp; omega)))))), Lib.hid (by omega), Lib.hid (by simp [wt])⟩
  case round =>
    obtain ⟨k, hk, rfl, rfl, hB, HO, HT⟩ := hrel
    by_cases hlk : k < n
    · obtain ⟨c0, c1, c2, c3⟩ := HG.out.get hB hlt hlk
      have hs := hB.size
      have w1 := wt_bd HO.out k (Nat.le_refl _)
      obtain ⟨w10, w11⟩ := w1
      have w12 := HT.out
      have e : wt G (k + 1) = wt G k + (G k 0 + G k 1 + G k 2 + G k 3) := rfl
      have E := Lib.hid e
      clear e
      by_cases hx : Ok4 (G k 0) (G k 1) (G k 2) (G k 3)
      · have HK := Lib.hid hx
        obtain ⟨x0, x1, x2, x3, x4⟩ := hx
        by_cases hy : wt G k + (G k 0 + G k 1 + G k 2 + G k 3) ≤ 1000000000
        · go_wp2_with (go_at_call 82; (with_reducible refine (mass_ok _ _ _ _ _ HK.out).mono ?_); rintro e w1 ⟨rfl, hb⟩; obtain ⟨hc, hf, hz⟩ := bcall hb; (try simp at hc hf hz))
          go_roundw
          case rel => exact ⟨k + 1, by omega, by go_num, by rw [E.out], by (repeat' (first | (with_reducible exact Below.refl _ _) | (with_reducible refine Below.setCell ?_ (by first | omega | (simp; done) | (simp; omega)) _) | (with_reducible refine Below.alloc ?_ (by first | omega | (simp; done) | (simp; omega)) _) | (with_reducible refine Below.drew ?_) | (with_reducible refine below_drewN ?_ _) | (with_reducible refine Below.trans ?_ (Below.mono (by assumption) (by first | omega | (simp; done) | (simp; omega)))))), Lib.hid (fun j hj => by
            by_cases ej : j = k
            · subst ej; exact HK.out
            · exact HO.out j (by omega)), Lib.hid (by rw [E.out]; exact hy)⟩
          case measure => simp [intOf]; omega
        · go_wp2_with (go_at_call 82; (with_reducible refine (mass_ok _ _ _ _ _ HK.out).mono ?_); rintro e w1 ⟨rfl, hb⟩; obtain ⟨hc, hf, hz⟩ := bcall hb; (try simp at hc hf hz))
          go_ret2
          refine ⟨rfl, ?_⟩
          (repeat' (first | (with_reducible exact Below.refl _ _) | (with_reducible refine Below.setCell ?_ (by first | omega | (simp; done) | (simp; omega)) _) | (with_reducible refine Below.alloc ?_ (by first | omega | (simp; done) | (simp; omega)) _) | (with_reducible refine Below.drew ?_) | (with_reducible refine below_drewN ?_ _) | (with_reducible refine Below.trans ?_ (Below.mono (by assumption) (by first | omega | (simp; done) | (simp; omega))))))
      · have HK := Lib.hid hx; clear hx
        go_wp2_with (go_at_call 82; (with_reducible refine (mass_bad _ _ _ _ _ HK.out).mono ?_); rintro e w1 ⟨rfl, hb⟩; obtain ⟨hc, hf, hz⟩ := bcall hb; (try simp at hc hf hz))
        go_ret2
        refine ⟨rfl, ?_⟩
        (repeat' (first | (with_reducible exact Below.refl _ _) | (with_reducible refine Below.setCell ?_ (by first | omega | (simp; done) | (simp; omega)) _) | (with_reducible refine Below.alloc ?_ (by first | omega | (simp; done) | (simp; omega)) _) | (with_reducible refine Below.drew ?_) | (with_reducible refine below_drewN ?_ _) | (with_reducible refine Below.trans ?_ (Below.mono (by assumption) (by first | omega | (simp; done) | (simp; omega))))))
    · obtain rfl : n = k := by omega
      exact absurd ⟨HO.out, HT.out⟩ HV.out

set_option maxHeartbeats 2000000 in
theorem gMass_bad1 (W H : Int) (ao : Option Addr) (n cap : Nat) (w : World) (h : ((W < 1 ∨ 64 < W) ∨ (H < 1 ∨ 64 < H)) ∨ (((1 ≤ W ∧ W ≤ 64) ∧ (1 ≤ H ∧ H ≤ 64)) ∧ 1024 < W * H)) :
    Calls Tryd.prog 24 #[.agg #[.int .i64 W, .int .i64 H, .slice (ao) n cap]] w fun e w' => e = .returned (.tuple #[.int .i64 0, .int .i64 1]) ∧ Below w.heap.size w w' := by
  rcases h with h | ⟨⟨⟨h1, h2⟩, h3, h4⟩, h5⟩
  · have HS := Lib.hid h; clear h
    go_enter Tryd.func24, Tryd.ntmps24
    go_wp2_with (go_at_call 81; (with_reducible refine (size_range W H _ HS.out).mono ?_); rintro e w1 ⟨rfl, rfl⟩)
    go_ret2
    refine ⟨rfl, ?_⟩
    (repeat' (first | (with_reducible exact Below.refl _ _) | (with_reducible refine Below.setCell ?_ (by first | omega | (simp; done) | (simp; omega)) _) | (with_reducible refine Below.alloc ?_ (by first | omega | (simp; done) | (simp; omega)) _) | (with_reducible refine Below.drew ?_) | (with_reducible refine below_drewN ?_ _) | (with_reducible refine Below.trans ?_ (Below.mono (by assumption) (by first | omega | (simp; done) | (simp; omega))))))
  · go_enter Tryd.func24, Tryd.ntmps24
    go_wp2_with (go_at_call 81; (with_reducible refine (size_limit W H _ h1 h2 h3 h4 h5).mono ?_); rintro e w1 ⟨rfl, rfl⟩)
    go_ret2
    refine ⟨rfl, ?_⟩
    (repeat' (first | (with_reducible exact Below.refl _ _) | (with_reducible refine Below.setCell ?_ (by first | omega | (simp; done) | (simp; omega)) _) | (with_reducible refine Below.alloc ?_ (by first | omega | (simp; done) | (simp; omega)) _) | (with_reducible refine Below.drew ?_) | (with_reducible refine below_drewN ?_ _) | (with_reducible refine Below.trans ?_ (Below.mono (by assumption) (by first | omega | (simp; done) | (simp; omega))))))

set_option maxHeartbeats 2000000 in
theorem gMass_bad2 (W H : Int) (ao : Option Addr) (n cap : Nat) (w : World) (hs : Sd W H) (hn : (n : Int) ≠ W * H) :
    Calls Tryd.prog 24 #[.agg #[.int .i64 W, .int .i64 H, .slice (ao) n cap]] w fun e w' => e = .returned (.tuple #[.int .i64 0, .int .i64 1]) ∧ Below w.heap.size w w' := by
  obtain ⟨m, hm⟩ : ∃ m : Nat, (m : Int) = W * H := by
    have := hs.bd
    exact ⟨(W * H).toNat, by omega⟩
  have HS := Lib.hid hs; clear hs
  have HM := Lib.hid hm
  rw [← hm] at hn
  clear hm
  have e0 : ((n : Int) == (m : Int)) = false := beq_eq_false_iff_ne.2 hn
  have e1 : ((n : Int) != (m : Int)) = true := by simp [bne, e0]
  clear hn
  go_enter Tryd.func24, Tryd.ntmps24
  go_wp2_with (go_at_call 81; (with_reducible refine (size_ok W H m _ HS.out HM.out).mono ?_); rintro e w1 ⟨rfl, rfl⟩)
  go_ret2
  refine ⟨rfl, ?_⟩
  (repeat' (first | (with_reducible exact Below.refl _ _) | (with_reducible refine Below.setCell ?_ (by first | omega | (simp; done) | (simp; omega)) _) | (with_reducible refine Below.alloc ?_ (by first | omega | (simp; done) | (simp; omega)) _) | (with_reducible refine Below.drew ?_) | (with_reducible refine below_drewN ?_ _) | (with_reducible refine Below.trans ?_ (Below.mono (by assumption) (by first | omega | (simp; done) | (simp; omega))))))

theorem gMass_ok (W H : Int) (ao : Option Addr) (n cap : Nat) (G : Nat → Nat → Int) (w : World) (hv : VG W H n G) (h : CellsIn w ao n G) :
    Calls Tryd.prog 24 #[.agg #[.int .i64 W, .int .i64 H, .slice (ao) n cap]] w fun e w' => e = .returned (.tuple #[.int .i64 (wt G n), .int .i64 0]) ∧ Below w.heap.size w w' := by
  rcases h with h | ⟨b, off, rfl, hlt, hG⟩
  · have := hv.1.bd
    have := hv.2.1
    omega
  · exact gMass_ok1 W H b off n cap G w hv hlt hG
theorem gMass_bad (W H : Int) (ao : Option Addr) (n cap : Nat) (G : Nat → Nat → Int) (w : World) (hv : ¬ VG W H n G) (h : CellsIn w ao n G) :
    Calls Tryd.prog 24 #[.agg #[.int .i64 W, .int .i64 H, .slice (ao) n cap]] w fun e w' => e = .returned (.tuple #[.int .i64 0, .int .i64 1]) ∧ Below w.heap.size w w' := by
  rcases not_vg hv with h1 | h1 | ⟨hs, hn⟩ | ⟨hs, hn, hb⟩
  · exact gMass_bad1 W H ao n cap w (.inl h1)
  · exact gMass_bad1 W H ao n cap w (.inr h1)
  · exact gMass_bad2 W H ao n cap w hs hn
  · rcases h with h | ⟨b, off, rfl, hlt, hG⟩
    · have := hs.bd
      omega
    · exact gMass_bad0 W H b off n cap G w hs hn hb hlt hG

set_option maxHeartbeats 1000000 in
theorem gValid_ok (W H : Int) (ao : Option Addr) (n cap : Nat) (G : Nat → Nat → Int) (w : World) (hv : VG W H n G) (h : CellsIn w ao n G) :
    Calls Tryd.prog 89 #[.agg #[.int .i64 W, .int .i64 H, .slice (ao) n cap]] w fun e w' => e = .returned (.bool true) ∧ Below w.heap.size w w' := by
  have HV := Lib.hid hv; clear hv
  have HC := Lib.hid h; clear h
  go_enter Tryd.func89, Tryd.ntmps89
  go_wp2_with (go_at_call 24; (with_reducible refine (gMass_ok W H ao n cap G _ HV.out (HC.out.below (by (repeat' (first | (with_reducible exact Below.refl _ _) | (with_reducible refine Below.setCell ?_ (by first | omega | (simp; done) | (simp; omega)) _) | (with_reducible refine Below.alloc ?_ (by first | omega | (simp; done) | (simp; omega)) _) | (with_reducible refine Below.drew ?_) | (with_reducible refine below_drewN ?_ _) | (with_reducible refine Below.trans ?_ (Below.mono (by assumption) (by first | omega | (simp; done) | (simp; omega))))))))).mono ?_); rintro e w1 ⟨rfl, hb⟩; obtain ⟨hc, hf, hz⟩ := bcall hb; (try simp at hc hf hz))
  go_ret
  refine ⟨rfl, ?_⟩
  (repeat' (first | (with_reducible exact Below.refl _ _) | (with_reducible refine Below.setCell ?_ (by first | omega | (simp; done) | (simp; omega)) _) | (with_reducible refine Below.alloc ?_ (by first | omega | (simp; done) | (simp; omega)) _) | (with_reducible refine Below.drew ?_) | (with_reducible refine below_drewN ?_ _) | (with_reducible refine Below.trans ?_ (Below.mono (by assumption) (by first | omega | (simp; done) | (simp; omega))))))
set_option maxHeartbeats 1000000 in
theorem gValid_bad (W H : Int) (ao : Option Addr) (n cap : Nat) (G : Nat → Nat → Int) (w : World) (hv : ¬ VG W H n G) (h : CellsIn w ao n G) :
    Calls Tryd.prog 89 #[.agg #[.int .i64 W, .int .i64 H, .slice (ao) n cap]] w fun e w' => e = .returned (.bool false) ∧ Below w.heap.size w w' := by
  have HV := Lib.hid hv; clear hv
  have HC := Lib.hid h; clear h
  go_enter Tryd.func89, Tryd.ntmps89
  go_wp2_with (go_at_call 24; (with_reducible refine (gMass_bad W H ao n cap G _ HV.out (HC.out.below (by (repeat' (first | (with_reducible exact Below.refl _ _) | (with_reducible refine Below.setCell ?_ (by first | omega | (simp; done) | (simp; omega)) _) | (with_reducible refine Below.alloc ?_ (by first | omega | (simp; done) | (simp; omega)) _) | (with_reducible refine Below.drew ?_) | (with_reducible refine below_drewN ?_ _) | (with_reducible refine Below.trans ?_ (Below.mono (by assumption) (by first | omega | (simp; done) | (simp; omega))))))))).mono ?_); rintro e w1 ⟨rfl, hb⟩; obtain ⟨hc, hf, hz⟩ := bcall hb; (try simp at hc hf hz))
  go_ret
  refine ⟨rfl, ?_⟩
  (repeat' (first | (with_reducible exact Below.refl _ _) | (with_reducible refine Below.setCell ?_ (by first | omega | (simp; done) | (simp; omega)) _) | (with_reducible refine Below.alloc ?_ (by first | omega | (simp; done) | (simp; omega)) _) | (with_reducible refine Below.drew ?_) | (with_reducible refine below_drewN ?_ _) | (with_reducible refine Below.trans ?_ (Below.mono (by assumption) (by first | omega | (simp; done) | (simp; omega))))))
end Go.Proofs.YtmdeooflgkjbbaaDoor

/- The places of neighbours, by the program. -/



namespace Go.Proofs.YtmdeooflgkjbbaaDoor
set_option linter.unusedSimpArgs false
set_option linter.unusedVariables false
open Go.RowKit

theorem tmod_pos {n m : Int} (h : 0 ≤ n) : n.tmod m = n % m := Int.tmod_eq_emod_of_nonneg h

set_option maxHeartbeats 400000 in
theorem around_any (n m : Int) (w : World) (h0 : -4000000000 ≤ n) (h1 : n ≤ 4000000000) (hm : 0 < m) (hm' : m ≤ 4000000000) :
    Calls Tryd.prog 217 #[.int .i64 n, .int .i64 m] w fun e w' => e = .returned (.int .i64 (n % m)) ∧ w = w' := by
  have q0 := Int.emod_nonneg n (show m ≠ 0 by omega)
  have q1 := Int.emod_lt_of_pos n hm
  by_cases hn : 0 ≤ n
  · go_enter Tryd.func217, Tryd.ntmps217
    go_wp2
    go_ret
    exact ⟨rfl, rfl⟩
  · rcases tmod_neg (n := n) (m := m) (by omega) hm with ⟨t0, t1⟩ | ⟨t0, t1⟩
    · have T := Lib.hid t1; clear t1
      have t2 : -4000000000 ≤ n.tmod m := by have := T.out; omega
      have t3 : n.tmod m + m ≤ 4000000000 := by have := T.out; omega
      go_enter Tryd.func217, Tryd.ntmps217
      go_wp2
      go_ret
      exact ⟨ret_i T.out, rfl⟩
    · have T := Lib.hid t1; clear t1
      have T0 := Lib.hid t0
      have t2 : 0 ≤ n.tmod m := by omega
      have t3 : n.tmod m ≤ 0 := by omega
      clear t0
      go_enter Tryd.func217, Tryd.ntmps217
      go_wp2
      go_ret
      exact ⟨ret_i (by rw [T.out, T0.out]), rfl⟩

/-- A place by its two coordinates. -/
def plc (W H x y : Int) : Int := x % W + W * (y % H)
theorem plc_bd {W H x y : Int} (h1 : 1 ≤ W) (h2 : W ≤ 64) (h3 : 1 ≤ H) (h4 : H ≤ 64) : 0 ≤ W * (y % H) ∧ W * (y % H) ≤ 4096 ∧ 0 ≤ plc W H x y ∧ plc W H x y ≤ 5000 := by
  have a0 := Int.emod_nonneg x (show W ≠ 0 by omega)
  have a1 := Int.emod_lt_of_pos x (show 0 < W by omega)
  have b0 := Int.emod_nonneg y (show H ≠ 0 by omega)
  have b1 := Int.emod_lt_of_pos y (show 0 < H by omega)
  have c0 : 0 ≤ W * (y % H) := Int.mul_nonneg (by omega) b0
  have c1 : W * (y % H) ≤ 64 * 64 := Int.mul_le_mul h2 (by omega) b0 (by omega)
  unfold plc
  omega

set_option maxHeartbeats 2000000 in
theorem neighbour0 (m : Nat) (W H x y way : Int) (w : World) (c0 : w.cell? ⟨m, 0, none⟩ = some (.int .i64 W)) (c1 : w.cell? ⟨m, 1, none⟩ = some (.int .i64 H)) (h1 : 1 ≤ W) (h2 : W ≤ 64) (h3 : 1 ≤ H) (h4 : H ≤ 64)
    (x0 : 0 ≤ x) (x1 : x ≤ 5000) (y0 : 0 ≤ y) (y1 : y ≤ 5000) (z0 : -1 ≤ way) (z1 : way ≤ 1) :
    Calls Tryd.prog 203 #[.pointer (some ⟨m, 0, none⟩), .int .i64 x, .int .i64 y, .int .i64 0, .int .i64 way] w fun e w' => e = .returned (.int .i64 (plc W H (x + way) y)) ∧ ∃ n, w' = w.drewN n := by
  obtain ⟨b0, b1, b2, b3⟩ := plc_bd (x := x + way) (y := y) h1 h2 h3 h4
  have s1 : IntKind.i64.wrap (W * (y % H)) = W * (y % H) := IntWalk.i64_in _ ⟨by omega, by omega⟩
  have s2 : IntKind.i64.wrap ((x + way) % W + W * (y % H)) = plc W H (x + way) y := IntWalk.i64_in _ (show _ ≤ plc W H (x + way) y ∧ plc W H (x + way) y ≤ _ from ⟨by omega, by omega⟩)
  clear b0 b1 b2 b3
  go_enter Tryd.func203, Tryd.ntmps203
  go_wp2
  go_quiet ((go_at_call 217; exact Calls.quiet_of_same ((around_any _ _ _ (by omega) (by omega) (by omega) (by omega)).mono fun _ _ h => ⟨h.1, h.2.symm⟩)))
  go_wp2
  go_ret
  exact ⟨rfl, _, rfl⟩

set_option maxHeartbeats 2000000 in
theorem neighbour1 (m : Nat) (W H x y way : Int) (w : World) (c0 : w.cell? ⟨m, 0, none⟩ = some (.int .i64 W)) (c1 : w.cell? ⟨m, 1, none⟩ = some (.int .i64 H)) (h1 : 1 ≤ W) (h2 : W ≤ 64) (h3 : 1 ≤ H) (h4 : H ≤ 64)
    (x0 : 0 ≤ x) (x1 : x ≤ 5000) (y0 : 0 ≤ y) (y1 : y ≤ 5000) (z0 : -1 ≤ way) (z1 : way ≤ 1) :
    Calls Tryd.prog 203 #[.pointer (some ⟨m, 0, none⟩), .int .i64 x, .int .i64 y, .int .i64 1, .int .i64 way] w fun e w' => e = .returned (.int .i64 (plc W H x (y + way))) ∧ ∃ n, w' = w.drewN n := by
  obtain ⟨b0, b1, b2, b3⟩ := plc_bd (x := x) (y := y + way) h1 h2 h3 h4
  have s1 : IntKind.i64.wrap (W * ((y + way) % H)) = W * ((y + way) % H) := IntWalk.i64_in _ ⟨by omega, by omega⟩
  have s2 : IntKind.i64.wrap (x % W + W * ((y + way) % H)) = plc W H x (y + way) := IntWalk.i64_in _ (show _ ≤ plc W H x (y + way) ∧ plc W H x (y + way) ≤ _ from ⟨by omega, by omega⟩)
  clear b0 b1 b2 b3
  go_enter Tryd.func203, Tryd.ntmps203
  go_wp2
  go_quiet ((go_at_call 217; exact Calls.quiet_of_same ((around_any _ _ _ (by omega) (by omega) (by omega) (by omega)).mono fun _ _ h => ⟨h.1, h.2.symm⟩)))
  go_wp2
  go_ret
  exact ⟨rfl, _, rfl⟩

set_option maxHeartbeats 2000000 in
theorem neighbour2 (m : Nat) (W H x y way : Int) (w : World) (c0 : w.cell? ⟨m, 0, none⟩ = some (.int .i64 W)) (c1 : w.cell? ⟨m, 1, none⟩ = some (.int .i64 H)) (h1 : 1 ≤ W) (h2 : W ≤ 64) (h3 : 1 ≤ H) (h4 : H ≤ 64)
    (x0 : 0 ≤ x) (x1 : x ≤ 5000) (y0 : 0 ≤ y) (y1 : y ≤ 5000) (z0 : -1 ≤ way) (z1 : way ≤ 1) :
    Calls Tryd.prog 203 #[.pointer (some ⟨m, 0, none⟩), .int .i64 x, .int .i64 y, .int .i64 2, .int .i64 way] w fun e w' => e = .returned (.int .i64 (plc W H (x - way) y)) ∧ ∃ n, w' = w.drewN n := by
  obtain ⟨b0, b1, b2, b3⟩ := plc_bd (x := x - way) (y := y) h1 h2 h3 h4
  have s1 : IntKind.i64.wrap (W * (y % H)) = W * (y % H) := IntWalk.i64_in _ ⟨by omega, by omega⟩
  have s2 : IntKind.i64.wrap ((x - way) % W + W * (y % H)) = plc W H (x - way) y := IntWalk.i64_in _ (show _ ≤ plc W H (x - way) y ∧ plc W H (x - way) y ≤ _ from ⟨by omega, by omega⟩)
  clear b0 b1 b2 b3
  go_enter Tryd.func203, Tryd.ntmps203
  go_wp2
  go_quiet ((go_at_call 217; exact Calls.quiet_of_same ((around_any _ _ _ (by omega) (by omega) (by omega) (by omega)).mono fun _ _ h => ⟨h.1, h.2.symm⟩)))
  go_wp2
  go_ret
  exact ⟨rfl, _, rfl⟩

set_option maxHeartbeats 2000000 in
theorem neighbour3 (m : Nat) (W H x y way : Int) (w : World) (c0 : w.cell? ⟨m, 0, none⟩ = some (.int .i64 W)) (c1 : w.cell? ⟨m, 1, none⟩ = some (.int .i64 H)) (h1 : 1 ≤ W) (h2 : W ≤ 64) (h3 : 1 ≤ H) (h4 : H ≤ 64)
    (x0 : 0 ≤ x) (x1 : x ≤ 5000) (y0 : 0 ≤ y) (y1 : y ≤ 5000) (z0 : -1 ≤ way) (z1 : way ≤ 1) :
    Calls Tryd.prog 203 #[.pointer (some ⟨m, 0, none⟩), .int .i64 x, .int .i64 y, .int .i64 3, .int .i64 way] w fun e w' => e = .returned (.int .i64 (plc W H x (y - way))) ∧ ∃ n, w' = w.drewN n := by
  obtain ⟨b0, b1, b2, b3⟩ := plc_bd (x := x) (y := y - way) h1 h2 h3 h4
  have s1 : IntKind.i64.wrap (W * ((y - way) % H)) = W * ((y - way) % H) := IntWalk.i64_in _ ⟨by omega, by omega⟩
  have s2 : IntKind.i64.wrap (x % W + W * ((y - way) % H)) = plc W H x (y - way) := IntWalk.i64_in _ (show _ ≤ plc W H x (y - way) ∧ plc W H x (y - way) ≤ _ from ⟨by omega, by omega⟩)
  clear b0 b1 b2 b3
  go_enter Tryd.func203, Tryd.ntmps203
  go_wp2
  go_quiet ((go_at_call 217; exact Calls.quiet_of_same ((around_any _ _ _ (by omega) (by omega) (by omega) (by omega)).mono fun _ _ h => ⟨h.1, h.2.symm⟩)))
  go_wp2
  go_ret
  exact ⟨rfl, _, rfl⟩
end Go.Proofs.YtmdeooflgkjbbaaDoor

/- The machine of a grid in memory: its block, its two rows of cells. -/

namespace Go.Proofs.YtmdeooflgkjbbaaDoor
set_option linter.unusedSimpArgs false
set_option linter.unusedVariables false
open Go.RowKit

/-- But for some blocks the world is as it was. -/
structure Ex (S : Nat → Prop) (w w' : World) : Prop where
  os : w'.os = w.os
  tape : w'.tape = w.tape
  output : w'.output = w.output
  size : w.heap.size ≤ w'.heap.size
  block : ∀ k, k < w.heap.size → ¬ S k → w'.heap[k]? = w.heap[k]?
theorem Ex.refl (S : Nat → Prop) (w : World) : Ex S w w := ⟨rfl, rfl, rfl, Nat.le_refl _, fun _ _ _ => rfl⟩
theorem Ex.trans {S : Nat → Prop} {a b c : World} (h : Ex S a b) (g : Ex S b c) : Ex S a c := ⟨g.os.trans h.os, g.tape.trans h.tape, g.output.trans h.output, Nat.le_trans h.size g.size, fun k hk hs => (g.block k (Nat.lt_of_lt_of_le hk h.size) hs).trans (h.block k hk hs)⟩
theorem Ex.mono {S S' : Nat → Prop} {a b : World} (h : Ex S a b) (hs : ∀ k, S k → S' k) : Ex S' a b := ⟨h.os, h.tape, h.output, h.size, fun k hk hn => h.block k hk (fun x => hn (hs k x))⟩
theorem Ex.of_below {S : Nat → Prop} {a b : World} (h : Below a.heap.size a b) : Ex S a b := ⟨h.os, h.tape, h.output, h.size, fun k hk _ => h.block k hk⟩
theorem Ex.below {S : Nat → Prop} {a b : World} (h : Ex S a b) {B : Nat} (hB : B ≤ a.heap.size) (hs : ∀ k, S k → B ≤ k) : Below B a b := ⟨h.os, h.tape, h.output, h.size, fun k hk => h.block k (Nat.lt_of_lt_of_le hk hB) (fun x => by have := hs k x; omega)⟩
theorem Ex.alloc {S : Nat → Prop} {a b : World} (h : Ex S a b) (o : Obj) : Ex S a (b.alloc o) := h.trans (Ex.of_below ((Below.refl _ b).alloc (Nat.le_refl _) o))
theorem Ex.drew {S : Nat → Prop} {a b : World} (h : Ex S a b) : Ex S a b.drew := ⟨h.os, h.tape, h.output, h.size, h.block⟩
theorem Ex.drewN {S : Nat → Prop} {a b : World} (h : Ex S a b) (n : Nat) : Ex S a (b.drewN n) := h.trans (Ex.of_below (by have := below_drewN (Below.refl b.heap.size b) n; exact this))
theorem Ex.setCell {S : Nat → Prop} {a b : World} (h : Ex S a b) {p : Addr} (hp : S p.block) (v : Value) : Ex S a (b.setCell p v) :=
  h.trans ⟨rfl, rfl, rfl, by simp [World.setCell], fun k _ hs => Below.heap_setCell _ _ _ _ (fun e => hs (by rw [e]; exact hp))⟩
theorem Ex.cell {S : Nat → Prop} {a b : World} (h : Ex S a b) {k o : Nat} (hk : k < a.heap.size) (hs : ¬ S k) : b.cell? ⟨k, o, none⟩ = a.cell? ⟨k, o, none⟩ := World.cell?_of_block (a := ⟨k, o, none⟩) (h.block k hk hs)
theorem Ex.frozen {S : Nat → Prop} {a b : World} (h : Ex S a b) {k o : Nat} (hk : k < a.heap.size) (hs : ¬ S k) : b.frozen? ⟨k, o, none⟩ = a.frozen? ⟨k, o, none⟩ := World.frozen?_of_block (a := ⟨k, o, none⟩) (h.block k hk hs)

/-- A row of cells that is one's own. -/
def Row (w : World) (b n : Nat) (G : Nat → Nat → Int) : Prop := b < w.heap.size ∧ ∀ j, j < n * 4 → w.cell? ⟨b, j, none⟩ = some (.int .i64 (G (j / 4) (j % 4))) ∧ w.frozen? ⟨b, j, none⟩ = false
theorem Row.ex {S : Nat → Prop} {w w' : World} {b n : Nat} {G : Nat → Nat → Int} (h : Row w b n G) (hx : Ex S w w') (hs : ¬ S b) : Row w' b n G :=
  ⟨Nat.lt_of_lt_of_le h.1 hx.size, fun j hj => ⟨(hx.cell h.1 hs).trans (h.2 j hj).1, (hx.frozen h.1 hs).trans (h.2 j hj).2⟩⟩
theorem Row.below {w w' : World} {b n m : Nat} {G : Nat → Nat → Int} (h : Row w b n G) (hx : Below m w w') (hs : b < m) : Row w' b n G :=
  ⟨Nat.lt_of_lt_of_le h.1 hx.size, fun j hj => ⟨(hx.cell (p := ⟨b, j, none⟩) hs).trans (h.2 j hj).1, (hx.frozen (p := ⟨b, j, none⟩) hs).trans (h.2 j hj).2⟩⟩
theorem Row.at {w : World} {b n : Nat} {G : Nat → Nat → Int} (h : Row w b n G) {i d : Nat} (hi : i < n) (hd : d < 4) : w.cell? ⟨b, i * 4 + d, none⟩ = some (.int .i64 (G i d)) ∧ w.frozen? ⟨b, i * 4 + d, none⟩ = false := by
  have := h.2 (i * 4 + d) (by omega)
  rw [show (i * 4 + d) / 4 = i by omega, show (i * 4 + d) % 4 = d by omega] at this
  exact this
theorem Row.at4 {w : World} {b n : Nat} {G : Nat → Nat → Int} (h : Row w b n G) {i : Nat} (hi : i < n) : w.cell? ⟨b, i * 4, none⟩ = some (.int .i64 (G i 0)) ∧ w.cell? ⟨b, i * 4 + 1, none⟩ = some (.int .i64 (G i 1)) ∧ w.cell? ⟨b, i * 4 + 2, none⟩ = some (.int .i64 (G i 2)) ∧ w.cell? ⟨b, i * 4 + 3, none⟩ = some (.int .i64 (G i 3)) :=
  ⟨(h.at hi (show 0 < 4 by omega)).1, (h.at hi (show 1 < 4 by omega)).1, (h.at hi (show 2 < 4 by omega)).1, (h.at hi (show 3 < 4 by omega)).1⟩
theorem Row.free4 {w : World} {b n : Nat} {G : Nat → Nat → Int} (h : Row w b n G) {i : Nat} (hi : i < n) : w.frozen? ⟨b, i * 4, none⟩ = false ∧ w.frozen? ⟨b, i * 4 + 1, none⟩ = false ∧ w.frozen? ⟨b, i * 4 + 2, none⟩ = false ∧ w.frozen? ⟨b, i * 4 + 3, none⟩ = false :=
  ⟨(h.at hi (show 0 < 4 by omega)).2, (h.at hi (show 1 < 4 by omega)).2, (h.at hi (show 2 < 4 by omega)).2, (h.at hi (show 3 < 4 by omega)).2⟩
theorem Row.grd {w : World} {b n : Nat} {G : Nat → Nat → Int} (h : Row w b n G) : Grd w b 0 n G := fun i hi => by
  rw [Nat.zero_add]
  exact h.at4 hi
theorem Row.cellsIn {w : World} {b n : Nat} {G : Nat → Nat → Int} (h : Row w b n G) : CellsIn w (some ⟨b, 0, none⟩) n G := .inr ⟨b, 0, rfl, h.1, h.grd⟩
theorem Row.eqG {w : World} {b n : Nat} {G K : Nat → Nat → Int} (h : Row w b n G) (e : EqG n G K) : Row w b n K := ⟨h.1, fun j hj => by
  rw [← e (j / 4) (by omega) (j % 4) (by omega)]
  exact h.2 j hj⟩

/-- One population is another one. -/
def upd (G : Nat → Nat → Int) (i d : Nat) (x : Int) : Nat → Nat → Int := fun i' d' => if i' = i ∧ d' = d then x else G i' d'
theorem upd_same (G : Nat → Nat → Int) (i d : Nat) (x : Int) : upd G i d x i d = x := by simp [upd]
theorem upd_other (G : Nat → Nat → Int) {i d i' d' : Nat} (x : Int) (h : ¬ (i' = i ∧ d' = d)) : upd G i d x i' d' = G i' d' := by simp [upd, h]
theorem Row.set {w : World} {b n : Nat} {G : Nat → Nat → Int} (h : Row w b n G) {i d : Nat} (hi : i < n) (hd : d < 4) (x : Int) {o : Nat} (ho : o = i * 4 + d) : Row (w.setCell ⟨b, o, none⟩ (.int .i64 x)) b n (upd G i d x) := by
  subst ho
  refine ⟨by simpa [World.setCell] using h.1, fun j hj => ⟨?_, by rw [World.frozen?_setCell]; exact (h.2 j hj).2⟩⟩
  by_cases e : i * 4 + d = j
  · subst e
    rw [World.cell?_setCell_same' _ _ _ (by rw [(h.at hi hd).1]; rfl)]
    rw [show (i * 4 + d) / 4 = i by omega, show (i * 4 + d) % 4 = d by omega, upd_same]
  · rw [World.cell?_setCell_other _ _ _ _ (by intro e'; cases e'; exact e rfl), upd_other _ _ (by omega)]
    exact (h.2 j hj).1

/-- The machine's block. -/
def Mch (w : World) (m : Nat) (W H : Int) (n b1 c1 : Nat) (rv : Value) (b2 c2 : Nat) : Prop :=
  w.heap[m]? = some (.cells #[.int .i64 W, .int .i64 H, .slice (some ⟨b1, 0, none⟩) n c1, rv, .slice (some ⟨b2, 0, none⟩) n c2] 177 (0, 0))
section
variable {w w' : World} {m n b1 c1 b2 c2 : Nat} {W H : Int} {rv : Value}
theorem Mch.lt (h : Mch w m W H n b1 c1 rv b2 c2) : m < w.heap.size := (Array.getElem?_eq_some_iff.1 h).1
theorem Mch.k0 (h : Mch w m W H n b1 c1 rv b2 c2) : w.cell? ⟨m, 0, none⟩ = some (.int .i64 W) := by simp [World.cell?, show w.heap[m]? = _ from h]
theorem Mch.k1 (h : Mch w m W H n b1 c1 rv b2 c2) : w.cell? ⟨m, 1, none⟩ = some (.int .i64 H) := by simp [World.cell?, show w.heap[m]? = _ from h]
theorem Mch.k2 (h : Mch w m W H n b1 c1 rv b2 c2) : w.cell? ⟨m, 2, none⟩ = some (.slice (some ⟨b1, 0, none⟩) n c1) := by simp [World.cell?, show w.heap[m]? = _ from h]
theorem Mch.k3 (h : Mch w m W H n b1 c1 rv b2 c2) : w.cell? ⟨m, 3, none⟩ = some rv := by simp [World.cell?, show w.heap[m]? = _ from h]
theorem Mch.k4 (h : Mch w m W H n b1 c1 rv b2 c2) : w.cell? ⟨m, 4, none⟩ = some (.slice (some ⟨b2, 0, none⟩) n c2) := by simp [World.cell?, show w.heap[m]? = _ from h]
theorem Mch.free (h : Mch w m W H n b1 c1 rv b2 c2) (i : Nat) : w.frozen? ⟨m, i, none⟩ = false := by simp [World.frozen?, show w.heap[m]? = _ from h]
theorem Mch.ex {S : Nat → Prop} (h : Mch w m W H n b1 c1 rv b2 c2) (hx : Ex S w w') (hs : ¬ S m) : Mch w' m W H n b1 c1 rv b2 c2 := (hx.block m h.lt hs).trans h
theorem Mch.swap (h : Mch w m W H n b1 c1 rv b2 c2) : Mch ((w.setCell ⟨m, 2, none⟩ (.slice (some ⟨b2, 0, none⟩) n c2)).setCell ⟨m, 4, none⟩ (.slice (some ⟨b1, 0, none⟩) n c1)) m W H n b2 c2 rv b1 c1 := by
  unfold Mch at *
  simp only [World.setCell, Array.getElem?_modify, ↓reduceIte, h, Option.map_some]
  rfl
end
end Go.Proofs.YtmdeooflgkjbbaaDoor
