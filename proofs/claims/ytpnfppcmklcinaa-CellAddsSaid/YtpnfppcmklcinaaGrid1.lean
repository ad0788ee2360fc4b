/- Sides, sums and validity of a grid, by the program. -/
import Derived.Test.YtpnfppcmklcinaaView
import Derived.Test.YtpnfppcmklcinaaGMath
import Derived.Test.YtpnfppcmklcinaaMom
import Derived.LoopTactic
namespace Go.Proofs.Ytpnfppcmklcinaa
set_option linter.unusedSimpArgs false
set_option linter.unusedVariables false
open Go.RowKit

theorem Sd.bd {W H : Int} (h : Sd W H) : 1 ≤ W * H ∧ W * H ≤ 1024 := by
  obtain ⟨h1, _, h3, _, h5⟩ := h
  exact ⟨by have := Int.mul_le_mul h1 h3 (by omega) (by omega); simpa using this, h5⟩
theorem side_bd {W H : Int} (h1 : 1 ≤ W) (h2 : W ≤ 64) (h3 : 1 ≤ H) (h4 : H ≤ 64) : 1 ≤ W * H ∧ W * H ≤ 4096 :=
  ⟨by have := Int.mul_le_mul h1 h3 (by omega) (by omega); simpa using this, by have := Int.mul_le_mul h2 h4 (by omega) (by omega); simpa using this⟩

theorem isSide_yes (n : Int) (w : World) (h1 : 1 ≤ n) (h2 : n ≤ 64) : Calls Try.prog 186 #[.int .i64 n] w fun e w' => e = .returned (.bool true) ∧ w = w' := by
  go_enter Try.func186, Try.ntmps186
  go_wp2
  go_ret
  exact ⟨rfl, rfl⟩
theorem isSide_no (n : Int) (w : World) (h : n < 1 ∨ 64 < n) : Calls Try.prog 186 #[.int .i64 n] w fun e w' => e = .returned (.bool false) ∧ w = w' := by
  by_cases h1 : 1 ≤ n
  · have h2 : ¬ n ≤ 64 := by omega
    clear h
    go_enter Try.func186, Try.ntmps186
    go_wp2
    go_ret
    exact ⟨rfl, rfl⟩
  · clear h
    go_enter Try.func186, Try.ntmps186
    go_wp2
    go_ret
    exact ⟨rfl, rfl⟩

set_option maxHeartbeats 1000000 in
theorem size_ok (W H : Int) (n : Nat) (w : World) (h : Sd W H) (hn : (n : Int) = W * H) : Calls Try.prog 161 #[.int .i64 W, .int .i64 H] w fun e w' => e = .returned (.tuple #[.int .i64 n, .int .i64 0]) ∧ w = w' := by
  rw [hn]
  obtain ⟨b1, b2⟩ := h.bd
  obtain ⟨h1, h2, h3, h4, _⟩ := h
  clear hn
  go_enter Try.func161, Try.ntmps161
  go_wp2_with (go_at_call 186; (with_reducible refine (isSide_yes _ _ (by omega) (by omega)).mono ?_); rintro e w1 ⟨rfl, rfl⟩)
  go_ret2
  exact ⟨rfl, rfl⟩
set_option maxHeartbeats 1000000 in
theorem size_limit (W H : Int) (w : World) (h1 : 1 ≤ W) (h2 : W ≤ 64) (h3 : 1 ≤ H) (h4 : H ≤ 64) (h5 : 1024 < W * H) : Calls Try.prog 161 #[.int .i64 W, .int .i64 H] w fun e w' => e = .returned (.tuple #[.int .i64 0, .int .i64 4]) ∧ w = w' := by
  obtain ⟨b1, b2⟩ := side_bd h1 h2 h3 h4
  go_enter Try.func161, Try.ntmps161
  go_wp2_with (go_at_call 186; (with_reducible refine (isSide_yes _ _ (by omega) (by omega)).mono ?_); rintro e w1 ⟨rfl, rfl⟩)
  go_ret2
  exact ⟨rfl, rfl⟩
set_option maxHeartbeats 1000000 in
theorem size_range (W H : Int) (w : World) (h : (W < 1 ∨ 64 < W) ∨ (H < 1 ∨ 64 < H)) : Calls Try.prog 161 #[.int .i64 W, .int .i64 H] w fun e w' => e = .returned (.tuple #[.int .i64 0, .int .i64 7]) ∧ w = w' := by
  by_cases hW : W < 1 ∨ 64 < W
  · clear h
    go_enter Try.func161, Try.ntmps161
    go_wp2_with (go_at_call 186; (with_reducible refine (isSide_no _ _ hW).mono ?_); rintro e w1 ⟨rfl, rfl⟩)
    go_ret2
    exact ⟨rfl, rfl⟩
  · have hH : H < 1 ∨ 64 < H := by omega
    have h1 : 1 ≤ W := by omega
    have h2 : W ≤ 64 := by omega
    clear h hW
    go_enter Try.func161, Try.ntmps161
    go_wp2_with (first | (go_at_call 186; (with_reducible refine (isSide_yes _ _ h1 h2).mono ?_); rintro e w1 ⟨rfl, rfl⟩) | (go_at_call 186; (with_reducible refine (isSide_no _ _ hH).mono ?_); rintro e w1 ⟨rfl, rfl⟩))
    go_ret2
    exact ⟨rfl, rfl⟩

theorem Grd.get {w wr : World} {b off n : Nat} {G : Nat → Nat → Int} (h : Grd w b off n G) (hb : Below w.heap.size w wr) (hlt : b < w.heap.size) {k : Nat} (hk : k < n) :
    wr.cell? ⟨b, off + k * 4, none⟩ = some (.int .i64 (G k 0)) ∧ wr.cell? ⟨b, off + k * 4 + 1, none⟩ = some (.int .i64 (G k 1)) ∧ wr.cell? ⟨b, off + k * 4 + 2, none⟩ = some (.int .i64 (G k 2)) ∧ wr.cell? ⟨b, off + k * 4 + 3, none⟩ = some (.int .i64 (G k 3)) := h.below hb hlt k hk

set_option maxHeartbeats 4000000 in
theorem gMass_ok1 (W H : Int) (b off n cap : Nat) (G : Nat → Nat → Int) (w : World) (hv : VG W H n G) (hlt : b < w.heap.size) (hG : Grd w b off n G) :
    Calls Try.prog 128 #[.agg #[.int .i64 W, .int .i64 H, .slice (some ⟨b, off, none⟩) n cap]] w fun e w' => e = .returned (.tuple #[.int .i64 (wt G n), .int .i64 0]) ∧ Below w.heap.size w w' := by
  obtain ⟨hs, hn, hok, hw⟩ := hv
  have hn2 : (n : Int) ≤ 1024 := by have := hs.bd; omega
  have HS := Lib.hid hs; clear hs
  have HN := Lib.hid hn; clear hn
  have HO := Lib.hid hok; clear hok
  have HG := Lib.hid hG; clear hG
  have HW := Lib.hid hw; clear hw
  go_enter Try.func128, Try.ntmps128
  go_wp2_with (go_at_call 161; (with_reducible refine (size_ok W H n _ HS.out HN.out).mono ?_); rintro e w1 ⟨rfl, rfl⟩)
  go_loopw [6, 31] (fun t i wr => ∃ k : Nat, k ≤ n ∧ i = .int .i64 k ∧ t = .int .i64 (wt G k) ∧ Below w.heap.size w wr) (fun _ i _ => n - (intOf i).toNat)
  case atStart => exact ⟨0, Nat.zero_le _, rfl, rfl, by (repeat' (first | (with_reducible exact Below.refl _ _) | (with_reducible refine Below.setCell ?_ (by first | omega | (simp; done) | (simp; omega)) _) | (with_reducible refine Below.alloc ?_ (by first | omega | (simp; done) | (simp; omega)) _) | (with_reducible refine Below.drew ?_) | (with_reducible refine below_drewN ?_ _) | (with_reducible refine Below.trans ?_ (Below.mono (by assumption) (by first | omega | (simp; done) | (simp; omega))))))⟩
  case round =>
    obtain ⟨k, hk, rfl, rfl, hB⟩ := hrel
    by_cases hlk : k < n
    · obtain ⟨c0, c1, c2, c3⟩ := HG.out.get hB hlt hlk
      have HK := Lib.hid (HO.out k hlk)
      have hs := hB.size
      have w1 := wt_le HO.out k hk
      have w2 := wt_le HO.out (k + 1) hlk
      have w3 := HW.out
      have e : wt G (k + 1) = wt G k + (G k 0 + G k 1 + G k 2 + G k 3) := rfl
      rw [e] at w2
      obtain ⟨w10, w11⟩ := w1
      obtain ⟨w20, w21⟩ := w2
      have E := Lib.hid e
      clear e
      go_wp2_with (go_at_call 116; (with_reducible refine (mass_ok _ _ _ _ _ HK.out).mono ?_); rintro e w1 ⟨rfl, hb⟩; obtain ⟨hc, hf, hz⟩ := bcall hb; (try simp at hc hf hz))
      go_roundw
      case rel => exact ⟨k + 1, by omega, by go_num, by rw [E.out], by (repeat' (first | (with_reducible exact Below.refl _ _) | (with_reducible refine Below.setCell ?_ (by first | omega | (simp; done) | (simp; omega)) _) | (with_reducible refine Below.alloc ?_ (by first | omega | (simp; done) | (simp; omega)) _) | (with_reducible refine Below.drew ?_) | (with_reducible refine below_drewN ?_ _) | (with_reducible refine Below.trans ?_ (Below.mono (by assumption) (by first | omega | (simp; done) | (simp; omega))))))⟩
      case measure => simp [intOf]; omega
    · obtain rfl : n = k := by omega
      go_wp2
      go_ret2
      exact ⟨rfl, hB⟩

/-- Why a grid is not valid. -/
theorem not_vg {W H : Int} {n : Nat} {G : Nat → Nat → Int} (h : ¬ VG W H n G) : ((W < 1 ∨ 64 < W) ∨ (H < 1 ∨ 64 < H)) ∨ (((1 ≤ W ∧ W ≤ 64) ∧ (1 ≤ H ∧ H ≤ 64)) ∧ 1024 < W * H) ∨ (Sd W H ∧ (n : Int) ≠ W * H) ∨ (Sd W H ∧ (n : Int) = W * H ∧ ¬ OkG n G) := by
  by_cases h1 : (W < 1 ∨ 64 < W) ∨ (H < 1 ∨ 64 < H)
  · exact .inl h1
  · by_cases h2 : 1024 < W * H
    · exact .inr (.inl ⟨⟨⟨by omega, by omega⟩, ⟨by omega, by omega⟩⟩, h2⟩)
    · have hs : Sd W H := ⟨by omega, by omega, by omega, by omega, by omega⟩
      by_cases h3 : (n : Int) = W * H
      · exact .inr (.inr (.inr ⟨hs, h3, fun h4 => h ⟨hs, h3, h4⟩⟩))
      · exact .inr (.inr (.inl ⟨hs, h3⟩))

set_option maxHeartbeats 4000000 in
theorem gMass_bad0 (W H : Int) (b off n cap : Nat) (G : Nat → Nat → Int) (w : World) (hs : Sd W H) (hn : (n : Int) = W * H) (hv : ¬ OkG n G) (hlt : b < w.heap.size) (hG : Grd w b off n G) :
    Calls Try.prog 128 #[.agg #[.int .i64 W, .int .i64 H, .slice (some ⟨b, off, none⟩) n cap]] w fun e w' => e = .returned (.tuple #[.int .i64 0, .int .i64 1]) ∧ Below w.heap.size w w' := by
  have hn2 : (n : Int) ≤ 1024 := by have := hs.bd; omega
  have HS := Lib.hid hs; clear hs
  have HN := Lib.hid hn; clear hn
  have HV := Lib.hid hv; clear hv
  have HG := Lib.hid hG; clear hG
  go_enter Try.func128, Try.ntmps128
  go_wp2_with (go_at_call 161; (with_reducible refine (size_ok W H n _ HS.out HN.out).mono ?_); rintro e w1 ⟨rfl, rfl⟩)
  go_loopw [6, 31] (fun t i wr => ∃ k : Nat, k ≤ n ∧ i = .int .i64 k ∧ t = .int .i64 (wt G k) ∧ Below w.heap.size w wr ∧ Hid (∀ j, j < k → Ok4 (G j 0) (G j 1) (G j 2) (G j 3)) ∧ Hid (wt G k ≤ 1000000000)) (fun _ i _ => n - (intOf i).toNat)
  case atStart => exact ⟨0, Nat.zero_le _, rfl, rfl, by (repeat' (first | (with_reducible exact Below.refl _ _) | (with_reducible refine Below.setCell ?_ (by first | omega | (simp; done) | (simp; omega)) _) | (with_reducible refine Below.alloc ?_ (by first | omega | (simp; done) | (simp; omega)) _) | (with_reducible refine Below.drew ?_) | (with_reducible refine below_drewN ?_ _) | (with_reducible refine Below.trans ?_ (Below.mono (by assumption) (by first | omega | (simp; done) | (simp; omega)))))), Lib.hid (by omega), Lib.hid (by simp [wt])⟩
  case round =>
    obtain ⟨k, hk, rfl, rfl, hB, HO, HT⟩ := hrel
    by_cases hlk : k < n
    · obtain ⟨c0, c1, c2, c3⟩ := HG.out.get hB hlt hlk
      have hs := hB.size
      have w1 := wt_bd HO.out k (Nat.le_refl _)
      obtain ⟨w10, w11⟩ := w1
      have w12 := HT.out
      have e : wt G (k + 1) = wt G k + (G k 0 + G k 1 + G k 2 + G k 3) := rfl
      have E := Lib.hid e
      clear e
      by_cases hx : Ok4 (G k 0) (G k 1) (G k 2) (G k 3)
      · have HK := Lib.hid hx
        obtain ⟨x0, x1, x2, x3, x4⟩ := hx
        by_cases hy : wt G k + (G k 0 + G k 1 + G k 2 + G k 3) ≤ 1000000000
        · go_wp2_with (go_at_call 116; (with_reducible refine (mass_ok _ _ _ _ _ HK.out).mono ?_); rintro e w1 ⟨rfl, hb⟩; obtain ⟨hc, hf, hz⟩ := bcall hb; (try simp at hc hf hz))
          go_roundw
          case rel => exact ⟨k + 1, by omega, by go_num, by rw [E.out], by (repeat' (first | (with_reducible exact Below.refl _ _) | (with_reducible refine Below.setCell ?_ (by first | omega | (simp; done) | (simp; omega)) _) | (with_reducible refine Below.alloc ?_ (by first | omega | (simp; done) | (simp; omega)) _) | (with_reducible refine Below.drew ?_) | (with_reducible refine below_drewN ?_ _) | (with_reducible refine Below.trans ?_ (Below.mono (by assumption) (by first | omega | (simp; done) | (simp; omega)))))), Lib.hid (fun j hj => by
            by_cases ej : j = k
            · subst ej; exact HK.out
            · exact HO.out j (by omega)), Lib.hid (by rw [E.out]; exact hy)⟩
          case measure => simp [intOf]; omega
        · go_wp2_with (go_at_call 116; (with_reducible refine (mass_ok _ _ _ _ _ HK.out).mono ?_); rintro e w1 ⟨rfl, hb⟩; obtain ⟨hc, hf, hz⟩ := bcall hb; (try simp at hc hf hz))
          go_ret2
          refine ⟨rfl, ?_⟩
          (repeat' (first | (with_reducible exact Below.refl _ _) | (with_reducible refine Below.setCell ?_ (by first | omega | (simp; done) | (simp; omega)) _) | (with_reducible refine Below.alloc ?_ (by first | omega | (simp; done) | (simp; omega)) _) | (with_reducible refine Below.drew ?_) | (with_reducible refine below_drewN ?_ _) | (with_reducible refine Below.trans ?_ (Below.mono (by assumption) (by first | omega | (simp; done) | (simp; omega))))))
      · have HK := Lib.hid hx; clear hx
        go_wp2_with (go_at_call 116; (with_reducible refine (mass_bad _ _ _ _ _ HK.out).mono ?_); rintro e w1 ⟨rfl, hb⟩; obtain ⟨hc, hf, hz⟩ := bcall hb; (try simp at hc hf hz))
        go_ret2
        refine ⟨rfl, ?_⟩
        (repeat' (first | (with_reducible exact Below.refl _ _) | (with_reducible refine Below.setCell ?_ (by first | omega | (simp; done) | (simp; omega)) _) | (with_reducible refine Below.alloc ?_ (by first | omega | (simp; done) | (simp; omega)) _) | (with_reducible refine Below.drew ?_) | (with_reducible refine below_drewN ?_ _) | (with_reducible refine Below.trans ?_ (Below.mono (by assumption) (by first | omega | (simp; done) | (simp; omega))))))
    · obtain rfl : n = k := by omega
      exact absurd ⟨HO.out, HT.out⟩ HV.out

set_option maxHeartbeats 2000000 in
theorem gMass_bad1 (W H : Int) (ao : Option Addr) (n cap : Nat) (w : World) (h : ((W < 1 ∨ 64 < W) ∨ (H < 1 ∨ 64 < H)) ∨ (((1 ≤ W ∧ W ≤ 64) ∧ (1 ≤ H ∧ H ≤ 64)) ∧ 1024 < W * H)) :
    Calls Try.prog 128 #[.agg #[.int .i64 W, .int .i64 H, .slice (ao) n cap]] w fun e w' => e = .returned (.tuple #[.int .i64 0, .int .i64 1]) ∧ Below w.heap.size w w' := by
  rcases h with h | ⟨⟨⟨h1, h2⟩, h3, h4⟩, h5⟩
  · have HS := Lib.hid h; clear h
    go_enter Try.func128, Try.ntmps128
    go_wp2_with (go_at_call 161; (with_reducible refine (size_range W H _ HS.out).mono ?_); rintro e w1 ⟨rfl, rfl⟩)
    go_ret2
    refine ⟨rfl, ?_⟩
    (repeat' (first | (with_reducible exact Below.refl _ _) | (with_reducible refine Below.setCell ?_ (by first | omega | (simp; done) | (simp; omega)) _) | (with_reducible refine Below.alloc ?_ (by first | omega | (simp; done) | (simp; omega)) _) | (with_reducible refine Below.drew ?_) | (with_reducible refine below_drewN ?_ _) | (with_reducible refine Below.trans ?_ (Below.mono (by assumption) (by first | omega | (simp; done) | (simp; omega))))))
  · go_enter Try.func128, Try.ntmps128
    go_wp2_with (go_at_call 161; (with_reducible refine (size_limit W H _ h1 h2 h3 h4 h5).mono ?_); rintro e w1 ⟨rfl, rfl⟩)
    go_ret2
    refine ⟨rfl, ?_⟩
    (repeat' (first | (with_reducible exact Below.refl _ _) | (with_reducible refine Below.setCell ?_ (by first | omega | (simp; done) | (simp; omega)) _) | (with_reducible refine Below.alloc ?_ (by first | omega | (simp; done) | (simp; omega)) _) | (with_reducible refine Below.drew ?_) | (with_reducible refine below_drewN ?_ _) | (with_reducible refine Below.trans ?_ (Below.mono (by assumption) (by first | omega | (simp; done) | (simp; omega))))))

set_option maxHeartbeats 2000000 in
theorem gMass_bad2 (W H : Int) (ao : Option Addr) (n cap : Nat) (w : World) (hs : Sd W H) (hn : (n : Int) ≠ W * H) :
    Calls Try.prog 128 #[.agg #[.int .i64 W, .int .i64 H, .slice (ao) n cap]] w fun e w' => e = .returned (.tuple #[.int .i64 0, .int .i64 1]) ∧ Below w.heap.size w w' := by
  obtain ⟨m, hm⟩ : ∃ m : Nat, (m : Int) = W * H := by
    have := hs.bd
    exact ⟨(W * H).toNat, by omega⟩
  have HS := Lib.hid hs; clear hs
  have HM := Lib.hid hm
  rw [← hm] at hn
  clear hm
  have e0 : ((n : Int) == (m : Int)) = false := beq_eq_false_iff_ne.2 hn
  have e1 : ((n : Int) != (m : Int)) = true := by simp [bne, e0]
  clear hn
  go_enter Try.func128, Try.ntmps128
  go_wp2_with (go_at_call 161; (with_reducible refine (size_ok W H m _ HS.out HM.out).mono ?_); rintro e w1 ⟨rfl, rfl⟩)
  go_ret2
  refine ⟨rfl, ?_⟩
  (repeat' (first | (with_reducible exact Below.refl _ _) | (with_reducible refine Below.setCell ?_ (by first | omega | (simp; done) | (simp; omega)) _) | (with_reducible refine Below.alloc ?_ (by first | omega | (simp; done) | (simp; omega)) _) | (with_reducible refine Below.drew ?_) | (with_reducible refine below_drewN ?_ _) | (with_reducible refine Below.trans ?_ (Below.mono (by assumption) (by first | omega | (simp; done) | (simp; omega))))))

theorem gMass_ok (W H : Int) (ao : Option Addr) (n cap : Nat) (G : Nat → Nat → Int) (w : World) (hv : VG W H n G) (h : CellsIn w ao n G) :
    Calls Try.prog 128 #[.agg #[.int .i64 W, .int .i64 H, .slice (ao) n cap]] w fun e w' => e = .returned (.tuple #[.int .i64 (wt G n), .int .i64 0]) ∧ Below w.heap.size w w' := by
  rcases h with h | ⟨b, off, rfl, hlt, hG⟩
  · have := hv.1.bd
    have := hv.2.1
    omega
  · exact gMass_ok1 W H b off n cap G w hv hlt hG
theorem gMass_bad (W H : Int) (ao : Option Addr) (n cap : Nat) (G : Nat → Nat → Int) (w : World) (hv : ¬ VG W H n G) (h : CellsIn w ao n G) :
    Calls Try.prog 128 #[.agg #[.int .i64 W, .int .i64 H, .slice (ao) n cap]] w fun e w' => e = .returned (.tuple #[.int .i64 0, .int .i64 1]) ∧ Below w.heap.size w w' := by
  rcases not_vg hv with h1 | h1 | ⟨hs, hn⟩ | ⟨hs, hn, hb⟩
  · exact gMass_bad1 W H ao n cap w (.inl h1)
  · exact gMass_bad1 W H ao n cap w (.inr h1)
  · exact gMass_bad2 W H ao n cap w hs hn
  · rcases h with h | ⟨b, off, rfl, hlt, hG⟩
    · have := hs.bd
      omega
    · exact gMass_bad0 W H b off n cap G w hs hn hb hlt hG

set_option maxHeartbeats 1000000 in
theorem gValid_ok (W H : Int) (ao : Option Addr) (n cap : Nat) (G : Nat → Nat → Int) (w : World) (hv : VG W H n G) (h : CellsIn w ao n G) :
    Calls Try.prog 108 #[.agg #[.int .i64 W, .int .i64 H, .slice (ao) n cap]] w fun e w' => e = .returned (.bool true) ∧ Below w.heap.size w w' := by
  have HV := Lib.hid hv; clear hv
  have HC := Lib.hid h; clear h
  go_enter Try.func108, Try.ntmps108
  go_wp2_with (go_at_call 128; (with_reducible refine (gMass_ok W H ao n cap G _ HV.out (HC.out.below (by (repeat' (first | (with_reducible exact Below.refl _ _) | (with_reducible refine Below.setCell ?_ (by first | omega | (simp; done) | (simp; omega)) _) | (with_reducible refine Below.alloc ?_ (by first | omega | (simp; done) | (simp; omega)) _) | (with_reducible refine Below.drew ?_) | (with_reducible refine below_drewN ?_ _) | (with_reducible refine Below.trans ?_ (Below.mono (by assumption) (by first | omega | (simp; done) | (simp; omega))))))))).mono ?_); rintro e w1 ⟨rfl, hb⟩; obtain ⟨hc, hf, hz⟩ := bcall hb; (try simp at hc hf hz))
  go_ret
  refine ⟨rfl, ?_⟩
  (repeat' (first | (with_reducible exact Below.refl _ _) | (with_reducible refine Below.setCell ?_ (by first | omega | (simp; done) | (simp; omega)) _) | (with_reducible refine Below.alloc ?_ (by first | omega | (simp; done) | (simp; omega)) _) | (with_reducible refine Below.drew ?_) | (with_reducible refine below_drewN ?_ _) | (with_reducible refine Below.trans ?_ (Below.mono (by assumption) (by first | omega | (simp; done) | (simp; omega))))))
set_option maxHeartbeats 1000000 in
theorem gValid_bad (W H : Int) (ao : Option Addr) (n cap : Nat) (G : Nat → Nat → Int) (w : World) (hv : ¬ VG W H n G) (h : CellsIn w ao n G) :
    Calls Try.prog 108 #[.agg #[.int .i64 W, .int .i64 H, .slice (ao) n cap]] w fun e w' => e = .returned (.bool false) ∧ Below w.heap.size w w' := by
  have HV := Lib.hid hv; clear hv
  have HC := Lib.hid h; clear h
  go_enter Try.func108, Try.ntmps108
  go_wp2_with (go_at_call 128; (with_reducible refine (gMass_bad W H ao n cap G _ HV.out (HC.out.below (by (repeat' (first | (with_reducible exact Below.refl _ _) | (with_reducible refine Below.setCell ?_ (by first | omega | (simp; done) | (simp; omega)) _) | (with_reducible refine Below.alloc ?_ (by first | omega | (simp; done) | (simp; omega)) _) | (with_reducible refine Below.drew ?_) | (with_reducible refine below_drewN ?_ _) | (with_reducible refine Below.trans ?_ (Below.mono (by assumption) (by first | omega | (simp; done) | (simp; omega))))))))).mono ?_); rintro e w1 ⟨rfl, hb⟩; obtain ⟨hc, hf, hz⟩ := bcall hb; (try simp at hc hf hz))
  go_ret
  refine ⟨rfl, ?_⟩
  (repeat' (first | (with_reducible exact Below.refl _ _) | (with_reducible refine Below.setCell ?_ (by first | omega | (simp; done) | (simp; omega)) _) | (with_reducible refine Below.alloc ?_ (by first | omega | (simp; done) | (simp; omega)) _) | (with_reducible refine Below.drew ?_) | (with_reducible refine below_drewN ?_ _) | (with_reducible refine Below.trans ?_ (Below.mono (by assumption) (by first | omega | (simp; done) | (simp; omega))))))
end Go.Proofs.Ytpnfppcmklcinaa
