/- The law GridPeriod: the walk. -/
import Derived.Test.YtloeggbndecbhaaLawParts
import Derived.Test.YtloeggbndecbhaaRefG7
namespace Go.Proofs.Ytloeggbndecbhaa
set_option linter.unusedSimpArgs false
set_option linter.unusedVariables false
open Go.RowKit

theorem per_or (W H n : Nat) (k y : Int) (G : Nat → Nat → Int) (m : Nat) : (∃ j : Nat, 1 ≤ j ∧ j ≤ m ∧ EqG n (itG W H k y G j) G ∧ ∀ i, 1 ≤ i → i < j → ¬ EqG n (itG W H k y G i) G) ∨ (∀ i, 1 ≤ i → i ≤ m → ¬ EqG n (itG W H k y G i) G) := by
  induction m with
  | zero => exact .inr (fun i h1 h2 => by omega)
  | succ m ih =>
    rcases ih with ⟨j, h1, h2, h3, h4⟩ | h
    · exact .inl ⟨j, h1, by omega, h3, h4⟩
    · by_cases e : EqG n (itG W H k y G (m + 1)) G
      · exact .inl ⟨m + 1, by omega, Nat.le_refl _, e, fun i h1 h2 => h i h1 (by omega)⟩
      · refine .inr (fun i h1 h2 => ?_)
        by_cases ei : i = m + 1
        · subst ei; exact e
        · exact h i h1 (by omega)
theorem perRes_yes {W H n most j : Nat} {k y : Int} {G : Nat → Nat → Int} {w w' : World} {e : Ending} (j1 : 1 ≤ j) (j2 : j ≤ most) (hy : EqG n (itG W H k y G j) G) (hno : ∀ i, 1 ≤ i → i < j → ¬ EqG n (itG W H k y G i) G) (h : PerRes W H n most k y G w e w') : e = .returned (.tuple #[.int .i64 j, .int .i64 0]) ∧ Below w.heap.size w w' := by
  obtain ⟨hb, ⟨i, i1, i2, iy, ino, rfl⟩ | ⟨ino, rfl⟩⟩ := h
  · have : i = j := by
      rcases Nat.lt_trichotomy i j with h | h | h
      · exact absurd iy (hno i i1 h)
      · exact h
      · exact absurd hy (ino j j1 h)
    subst this
    exact ⟨rfl, hb⟩
  · exact absurd hy (ino j j1 j2)
theorem perRes_no {W H n most : Nat} {k y : Int} {G : Nat → Nat → Int} {w w' : World} {e : Ending} (hno : ∀ i, 1 ≤ i → i ≤ most → ¬ EqG n (itG W H k y G i) G) (h : PerRes W H n most k y G w e w') : e = .returned (.tuple #[.int .i64 0, .int .i64 8]) ∧ Below w.heap.size w w' := by
  obtain ⟨hb, ⟨i, i1, i2, iy, ino, rfl⟩ | ⟨ino, rfl⟩⟩ := h
  · exact absurd iy (hno i i1 i2)
  · exact ⟨rfl, hb⟩
theorem rules_one {w : World} {blk : Nat} {k y : Int} (h0 : w.cell? ⟨blk, 0, none⟩ = some (.int .i64 k)) (h1 : w.cell? ⟨blk, 1, none⟩ = some (.int .i64 y)) (hl : blk < w.heap.size) : RulesIn w (some ⟨blk, 0, none⟩) 1 (fun _ => (k, y)) :=
  .inr ⟨blk, 0, rfl, hl, fun i hi => by
    obtain rfl : i = 0 := by omega
    exact ⟨h0, h1⟩⟩

set_option maxRecDepth 100000 in
set_option maxHeartbeats 4000000 in
theorem gridPeriod_yes (W H n cap most j : Nat) (ao : Option Addr) (G : Nat → Nat → Int) (k y : Int) (w : World) (s : Sides W H n) (hn : n ≤ 64) (hG : OkG n G) (hC : CellsIn w ao n G) (hk : OkR k y) (h1 : 1 ≤ most) (h2 : most ≤ 60) (j1 : 1 ≤ j) (j2 : j ≤ most) (hy : EqG n (itG W H k y G j) G) (hno : ∀ i, 1 ≤ i → i < j → ¬ EqG n (itG W H k y G i) G) :
    Calls Try.prog 11 #[.agg #[.int .i64 W, .int .i64 H, .slice (ao) n cap], .agg #[.int .i64 k, .int .i64 y], .int .i64 most] w fun e w' => e = .returned (.bool true) ∧ Below w.heap.size w w' := by
  have HP := Lib.hid (fun w' (hb : Below w.heap.size w w') => (period_any W H ao n cap most k y G w' s hG (hC.below hb) hk h1 (by omega)).mono (R' := fun e w1 => e = .returned (.tuple #[.int .i64 j, .int .i64 0]) ∧ Below w'.heap.size w' w1) fun _ _ h => perRes_yes j1 j2 hy hno h)
  have HQ := Lib.hid (fun w' (hb : Below w.heap.size w w') => (rPeriod_ok W H n cap most ao k y G w' s hG (hC.below hb) hk h1 (by omega)).mono (R' := fun e w1 => e = .returned (.tuple #[.int .i64 j, .int .i64 0]) ∧ Below w'.heap.size w' w1) fun _ _ h => perRes_yes j1 j2 hy hno h)
  have HS := Lib.hid s; clear s
  have HG := Lib.hid hG; clear hG
  have HC := Lib.hid hC; clear hC
  have HK := Lib.hid (show OkRs 1 (fun _ => (k, y)) from ⟨by omega, by omega, fun _ _ => hk⟩); clear hk
  have HY := Lib.hid hy; clear hy hno
  have HN := Lib.hid (show RunOk (7 : Nat) j from by unfold RunOk; omega)
  go_enter Try.func11, Try.ntmps11
  go_wp2_with (first | (go_at_call 28; (with_reducible refine (small_yes W H ao n cap 64 _ (by omega)).mono ?_); rintro e w1 ⟨rfl, hb⟩; obtain ⟨hc, hf, hz⟩ := bcall hb; (try simp at hc hf hz)) | (go_at_call 47; (with_reducible refine (HP.out _ (by (repeat' (first | (with_reducible exact Below.refl _ _) | (with_reducible refine Below.setCell ?_ (by first | omega | (simp; done) | (simp; omega)) _) | (with_reducible refine Below.alloc ?_ (by first | omega | (simp; done) | (simp; omega)) _) | (with_reducible refine Below.drew ?_) | (with_reducible refine below_drewN ?_ _) | (with_reducible refine Below.trans ?_ (Below.mono (by assumption) (by first | omega | (simp; done) | (simp; omega)))))))).mono ?_); rintro e w1 ⟨rfl, hb⟩; obtain ⟨hc, hf, hz⟩ := bcall hb; (try simp at hc hf hz)) | (go_at_call 48; (with_reducible refine (HQ.out _ (by (repeat' (first | (with_reducible exact Below.refl _ _) | (with_reducible refine Below.setCell ?_ (by first | omega | (simp; done) | (simp; omega)) _) | (with_reducible refine Below.alloc ?_ (by first | omega | (simp; done) | (simp; omega)) _) | (with_reducible refine Below.drew ?_) | (with_reducible refine below_drewN ?_ _) | (with_reducible refine Below.trans ?_ (Below.mono (by assumption) (by first | omega | (simp; done) | (simp; omega)))))))).mono ?_); rintro e w1 ⟨rfl, hb⟩; obtain ⟨hc, hf, hz⟩ := bcall hb; (try simp at hc hf hz)))
  go_at_call 43
  with_reducible refine (gRun_int W H n cap ao G _ 1 1 (fun _ => (k, y)) 7 (j : Int) 7 j _ rfl rfl HS.out HG.out ?hc ?hr HK.out HN.out).mono ?next
  case hc => exact HC.out.below (by (repeat' (first | (with_reducible exact Below.refl _ _) | (with_reducible refine Below.setCell ?_ (by first | omega | (simp; done) | (simp; omega)) _) | (with_reducible refine Below.alloc ?_ (by first | omega | (simp; done) | (simp; omega)) _) | (with_reducible refine Below.drew ?_) | (with_reducible refine below_drewN ?_ _) | (with_reducible refine Below.trans ?_ (Below.mono (by assumption) (by first | omega | (simp; done) | (simp; omega)))))))
  case hr => exact rules_one (by first | (simp [go_sem, ↓IntWalk.iteOmega, *]; done) | (trace_state; simp)) (by first | (simp [go_sem, ↓IntWalk.iteOmega, *]; done) | simp) (by simp)
  rintro e wa ⟨a, ca, rfl, ha, loa, hb⟩
  have Ca := Lib.hid ha
  clear ha loa
  obtain ⟨hc, hf, hz⟩ := bcall hb
  (try simp at hc hf hz)
  go_wp2_with (first | (go_at_call 32; (with_reducible refine (gSame_yes W H (some ⟨a, 0, none⟩) ao n ca cap _ G _ (by omega) (Ca.out.below (by (repeat' (first | (with_reducible exact Below.refl _ _) | (with_reducible refine Below.setCell ?_ (by first | omega | (simp; done) | (simp; omega)) _) | (with_reducible refine Below.alloc ?_ (by first | omega | (simp; done) | (simp; omega)) _) | (with_reducible refine Below.drew ?_) | (with_reducible refine below_drewN ?_ _) | (with_reducible refine Below.trans ?_ (Below.mono (by assumption) (by first | omega | (simp; done) | (simp; omega)))))))) (HC.out.below (by (repeat' (first | (with_reducible exact Below.refl _ _) | (with_reducible refine Below.setCell ?_ (by first | omega | (simp; done) | (simp; omega)) _) | (with_reducible refine Below.alloc ?_ (by first | omega | (simp; done) | (simp; omega)) _) | (with_reducible refine Below.drew ?_) | (with_reducible refine below_drewN ?_ _) | (with_reducible refine Below.trans ?_ (Below.mono (by assumption) (by first | omega | (simp; done) | (simp; omega)))))))) (by rw [runG_it]; exact HY.out)).mono ?_); rintro e w1 ⟨rfl, hb⟩; obtain ⟨hc, hf, hz⟩ := bcall hb; (try simp at hc hf hz)) | (go_at_call 29; (with_reducible refine (awake2_any _).mono ?_); rintro e w1 ⟨rfl, hb⟩; obtain ⟨hc, hf, hz⟩ := bcall hb; (try simp at hc hf hz)))
  go_ret
  refine ⟨by simp, ?_⟩
  (repeat' (first | (with_reducible exact Below.refl _ _) | (with_reducible refine Below.setCell ?_ (by first | omega | (simp; done) | (simp; omega)) _) | (with_reducible refine Below.alloc ?_ (by first | omega | (simp; done) | (simp; omega)) _) | (with_reducible refine Below.drew ?_) | (with_reducible refine below_drewN ?_ _) | (with_reducible refine Below.trans ?_ (Below.mono (by assumption) (by first | omega | (simp; done) | (simp; omega))))))

set_option maxRecDepth 100000 in
set_option maxHeartbeats 4000000 in
theorem gridPeriod_no (W H n cap most : Nat) (ao : Option Addr) (G : Nat → Nat → Int) (k y : Int) (w : World) (s : Sides W H n) (hn : n ≤ 64) (hG : OkG n G) (hC : CellsIn w ao n G) (hk : OkR k y) (h1 : 1 ≤ most) (h2 : most ≤ 60) (hno : ∀ i, 1 ≤ i → i ≤ most → ¬ EqG n (itG W H k y G i) G) :
    Calls Try.prog 11 #[.agg #[.int .i64 W, .int .i64 H, .slice (ao) n cap], .agg #[.int .i64 k, .int .i64 y], .int .i64 most] w fun e w' => e = .returned (.bool true) ∧ Below w.heap.size w w' := by
  have HP := Lib.hid (fun w' (hb : Below w.heap.size w w') => (period_any W H ao n cap most k y G w' s hG (hC.below hb) hk h1 (by omega)).mono (R' := fun e w1 => e = .returned (.tuple #[.int .i64 0, .int .i64 8]) ∧ Below w'.heap.size w' w1) fun _ _ h => perRes_no hno h)
  have HQ := Lib.hid (fun w' (hb : Below w.heap.size w w') => (rPeriod_ok W H n cap most ao k y G w' s hG (hC.below hb) hk h1 (by omega)).mono (R' := fun e w1 => e = .returned (.tuple #[.int .i64 0, .int .i64 8]) ∧ Below w'.heap.size w' w1) fun _ _ h => perRes_no hno h)
  clear s hG hC hk hno
  go_enter Try.func11, Try.ntmps11
  go_wp2_with (first | (go_at_call 28; (with_reducible refine (small_yes W H ao n cap 64 _ (by omega)).mono ?_); rintro e w1 ⟨rfl, hb⟩; obtain ⟨hc, hf, hz⟩ := bcall hb; (try simp at hc hf hz)) | (go_at_call 47; (with_reducible refine (HP.out _ (by (repeat' (first | (with_reducible exact Below.refl _ _) | (with_reducible refine Below.setCell ?_ (by first | omega | (simp; done) | (simp; omega)) _) | (with_reducible refine Below.alloc ?_ (by first | omega | (simp; done) | (simp; omega)) _) | (with_reducible refine Below.drew ?_) | (with_reducible refine below_drewN ?_ _) | (with_reducible refine Below.trans ?_ (Below.mono (by assumption) (by first | omega | (simp; done) | (simp; omega)))))))).mono ?_); rintro e w1 ⟨rfl, hb⟩; obtain ⟨hc, hf, hz⟩ := bcall hb; (try simp at hc hf hz)) | (go_at_call 48; (with_reducible refine (HQ.out _ (by (repeat' (first | (with_reducible exact Below.refl _ _) | (with_reducible refine Below.setCell ?_ (by first | omega | (simp; done) | (simp; omega)) _) | (with_reducible refine Below.alloc ?_ (by first | omega | (simp; done) | (simp; omega)) _) | (with_reducible refine Below.drew ?_) | (with_reducible refine below_drewN ?_ _) | (with_reducible refine Below.trans ?_ (Below.mono (by assumption) (by first | omega | (simp; done) | (simp; omega)))))))).mono ?_); rintro e w1 ⟨rfl, hb⟩; obtain ⟨hc, hf, hz⟩ := bcall hb; (try simp at hc hf hz)) | (go_at_call 29; (with_reducible refine (awake2_any _).mono ?_); rintro e w1 ⟨rfl, hb⟩; obtain ⟨hc, hf, hz⟩ := bcall hb; (try simp at hc hf hz)))
  go_ret
  refine ⟨by simp, ?_⟩
  (repeat' (first | (with_reducible exact Below.refl _ _) | (with_reducible refine Below.setCell ?_ (by first | omega | (simp; done) | (simp; omega)) _) | (with_reducible refine Below.alloc ?_ (by first | omega | (simp; done) | (simp; omega)) _) | (with_reducible refine Below.drew ?_) | (with_reducible refine below_drewN ?_ _) | (with_reducible refine Below.trans ?_ (Below.mono (by assumption) (by first | omega | (simp; done) | (simp; omega))))))

set_option maxRecDepth 100000 in
set_option maxHeartbeats 4000000 in
theorem gridPeriod_inv (W H : Int) (n cap : Nat) (ao : Option Addr) (G : Nat → Nat → Int) (k y most : Int) (w : World) (hn : n ≤ 64) (hm : most ≤ 60 ∨ 1000 < most) (hC : CellsIn w ao n G) (hk : ¬ (VG W H n G ∧ OkR k y)) :
    Calls Try.prog 11 #[.agg #[.int .i64 W, .int .i64 H, .slice (ao) n cap], .agg #[.int .i64 k, .int .i64 y], .int .i64 most] w fun e w' => e = .returned (.bool true) ∧ Below w.heap.size w w' := by
  have HC := Lib.hid hC; clear hC
  have HK := Lib.hid hk; clear hk
  have hm' : most ≤ 60 ∨ (60 < most ∧ 1000 < most) := by omega
  clear hm
  rcases hm' with hm | ⟨hm1, hm⟩
  all_goals
    go_enter Try.func11, Try.ntmps11
    go_wp2_with (first | (go_at_call 28; (with_reducible refine (small_yes W H ao n cap 64 _ (by omega)).mono ?_); rintro e w1 ⟨rfl, hb⟩; obtain ⟨hc, hf, hz⟩ := bcall hb; (try simp at hc hf hz)) | (go_at_call 47; (with_reducible refine (gPeriod_inv W H n cap ao G k y _ _ (HC.out.below (by (repeat' (first | (with_reducible exact Below.refl _ _) | (with_reducible refine Below.setCell ?_ (by first | omega | (simp; done) | (simp; omega)) _) | (with_reducible refine Below.alloc ?_ (by first | omega | (simp; done) | (simp; omega)) _) | (with_reducible refine Below.drew ?_) | (with_reducible refine below_drewN ?_ _) | (with_reducible refine Below.trans ?_ (Below.mono (by assumption) (by first | omega | (simp; done) | (simp; omega)))))))) HK.out).mono ?_); rintro e w1 ⟨rfl, hb⟩; obtain ⟨hc, hf, hz⟩ := bcall hb; (try simp at hc hf hz)) | (go_at_call 48; (with_reducible refine (rPeriod_inv W H n cap ao G k y _ _ (HC.out.below (by (repeat' (first | (with_reducible exact Below.refl _ _) | (with_reducible refine Below.setCell ?_ (by first | omega | (simp; done) | (simp; omega)) _) | (with_reducible refine Below.alloc ?_ (by first | omega | (simp; done) | (simp; omega)) _) | (with_reducible refine Below.drew ?_) | (with_reducible refine below_drewN ?_ _) | (with_reducible refine Below.trans ?_ (Below.mono (by assumption) (by first | omega | (simp; done) | (simp; omega)))))))) HK.out).mono ?_); rintro e w1 ⟨rfl, hb⟩; obtain ⟨hc, hf, hz⟩ := bcall hb; (try simp at hc hf hz)) | (go_at_call 29; (with_reducible refine (awake2_any _).mono ?_); rintro e w1 ⟨rfl, hb⟩; obtain ⟨hc, hf, hz⟩ := bcall hb; (try simp at hc hf hz)))
    go_ret
    refine ⟨by simp, ?_⟩
    (repeat' (first | (with_reducible exact Below.refl _ _) | (with_reducible refine Below.setCell ?_ (by first | omega | (simp; done) | (simp; omega)) _) | (with_reducible refine Below.alloc ?_ (by first | omega | (simp; done) | (simp; omega)) _) | (with_reducible refine Below.drew ?_) | (with_reducible refine below_drewN ?_ _) | (with_reducible refine Below.trans ?_ (Below.mono (by assumption) (by first | omega | (simp; done) | (simp; omega))))))

set_option maxRecDepth 100000 in
set_option maxHeartbeats 4000000 in
theorem gridPeriod_range (W H : Int) (n cap : Nat) (ao : Option Addr) (G : Nat → Nat → Int) (k y most : Int) (w : World) (hn : n ≤ 64) (hm : most < 1 ∨ 1000 < most) (hv : VG W H n G) (hC : CellsIn w ao n G) (hk : OkR k y) :
    Calls Try.prog 11 #[.agg #[.int .i64 W, .int .i64 H, .slice (ao) n cap], .agg #[.int .i64 k, .int .i64 y], .int .i64 most] w fun e w' => e = .returned (.bool true) ∧ Below w.heap.size w w' := by
  have HV := Lib.hid hv; clear hv
  have HC := Lib.hid hC; clear hC
  have HK := Lib.hid hk; clear hk
  have HM := Lib.hid hm
  have HM2 := Lib.hid (show most < 1 ∨ (1 ≤ most ∧ 1000 < most) by omega)
  have hm' : (most < 1 ∧ most ≤ 60) ∨ (60 < most ∧ 1000 < most) := by omega
  clear hm
  rcases hm' with ⟨hm1, hm⟩ | ⟨hm1, hm⟩
  all_goals
    go_enter Try.func11, Try.ntmps11
    go_wp2_with (first | (go_at_call 28; (with_reducible refine (small_yes W H ao n cap 64 _ (by omega)).mono ?_); rintro e w1 ⟨rfl, hb⟩; obtain ⟨hc, hf, hz⟩ := bcall hb; (try simp at hc hf hz)) | (go_at_call 47; (with_reducible refine (gPeriod_range W H n cap ao G k y _ _ HV.out (HC.out.below (by (repeat' (first | (with_reducible exact Below.refl _ _) | (with_reducible refine Below.setCell ?_ (by first | omega | (simp; done) | (simp; omega)) _) | (with_reducible refine Below.alloc ?_ (by first | omega | (simp; done) | (simp; omega)) _) | (with_reducible refine Below.drew ?_) | (with_reducible refine below_drewN ?_ _) | (with_reducible refine Below.trans ?_ (Below.mono (by assumption) (by first | omega | (simp; done) | (simp; omega)))))))) HK.out HM2.out).mono ?_); rintro e w1 ⟨rfl, hb⟩; obtain ⟨hc, hf, hz⟩ := bcall hb; (try simp at hc hf hz)) | (go_at_call 48; (with_reducible refine (rPeriod_range W H n cap ao G k y _ _ HV.out (HC.out.below (by (repeat' (first | (with_reducible exact Below.refl _ _) | (with_reducible refine Below.setCell ?_ (by first | omega | (simp; done) | (simp; omega)) _) | (with_reducible refine Below.alloc ?_ (by first | omega | (simp; done) | (simp; omega)) _) | (with_reducible refine Below.drew ?_) | (with_reducible refine below_drewN ?_ _) | (with_reducible refine Below.trans ?_ (Below.mono (by assumption) (by first | omega | (simp; done) | (simp; omega)))))))) HK.out HM.out).mono ?_); rintro e w1 ⟨rfl, hb⟩; obtain ⟨hc, hf, hz⟩ := bcall hb; (try simp at hc hf hz)) | (go_at_call 29; (with_reducible refine (awake2_any _).mono ?_); rintro e w1 ⟨rfl, hb⟩; obtain ⟨hc, hf, hz⟩ := bcall hb; (try simp at hc hf hz)))
    go_ret
    refine ⟨by simp, ?_⟩
    (repeat' (first | (with_reducible exact Below.refl _ _) | (with_reducible refine Below.setCell ?_ (by first | omega | (simp; done) | (simp; omega)) _) | (with_reducible refine Below.alloc ?_ (by first | omega | (simp; done) | (simp; omega)) _) | (with_reducible refine Below.drew ?_) | (with_reducible refine below_drewN ?_ _) | (with_reducible refine Below.trans ?_ (Below.mono (by assumption) (by first | omega | (simp; done) | (simp; omega))))))

set_option maxRecDepth 100000 in
set_option maxHeartbeats 4000000 in
theorem gridPeriod_out (W H : Int) (ao : Option Addr) (n cap : Nat) (k y most : Int) (w : World) (hn : n ≤ 9223372036854775807) (h : ¬ (n ≤ 64 ∧ (most ≤ 60 ∨ 1000 < most))) :
    Calls Try.prog 11 #[.agg #[.int .i64 W, .int .i64 H, .slice (ao) n cap], .agg #[.int .i64 k, .int .i64 y], .int .i64 most] w fun e w' => e = .returned (.bool true) ∧ Below w.heap.size w w' := by
  by_cases h1 : n ≤ 64
  · have h3 : 60 < most := by omega
    have h4 : most ≤ 1000 := by omega
    clear h
    go_enter Try.func11, Try.ntmps11
    go_wp2_with (first | (go_at_call 28; (with_reducible refine (small_yes W H ao n cap 64 _ (by omega)).mono ?_); rintro e w1 ⟨rfl, hb⟩; obtain ⟨hc, hf, hz⟩ := bcall hb; (try simp at hc hf hz)) | (go_at_call 29; (with_reducible refine (awake2_any _).mono ?_); rintro e w1 ⟨rfl, hb⟩; obtain ⟨hc, hf, hz⟩ := bcall hb; (try simp at hc hf hz)))
    go_ret
    refine ⟨rfl, ?_⟩
    (repeat' (first | (with_reducible exact Below.refl _ _) | (with_reducible refine Below.setCell ?_ (by first | omega | (simp; done) | (simp; omega)) _) | (with_reducible refine Below.alloc ?_ (by first | omega | (simp; done) | (simp; omega)) _) | (with_reducible refine Below.drew ?_) | (with_reducible refine below_drewN ?_ _) | (with_reducible refine Below.trans ?_ (Below.mono (by assumption) (by first | omega | (simp; done) | (simp; omega))))))
  · clear h
    go_enter Try.func11, Try.ntmps11
    go_wp2_with (first | (go_at_call 28; (with_reducible refine (small_no W H ao n cap 64 _ (by omega)).mono ?_); rintro e w1 ⟨rfl, hb⟩; obtain ⟨hc, hf, hz⟩ := bcall hb; (try simp at hc hf hz)) | (go_at_call 29; (with_reducible refine (awake2_any _).mono ?_); rintro e w1 ⟨rfl, hb⟩; obtain ⟨hc, hf, hz⟩ := bcall hb; (try simp at hc hf hz)))
    go_ret
    refine ⟨rfl, ?_⟩
    (repeat' (first | (with_reducible exact Below.refl _ _) | (with_reducible refine Below.setCell ?_ (by first | omega | (simp; done) | (simp; omega)) _) | (with_reducible refine Below.alloc ?_ (by first | omega | (simp; done) | (simp; omega)) _) | (with_reducible refine Below.drew ?_) | (with_reducible refine below_drewN ?_ _) | (with_reducible refine Below.trans ?_ (Below.mono (by assumption) (by first | omega | (simp; done) | (simp; omega))))))

theorem gridPeriod_row (W H : Int) (ao : Option Addr) (n cap : Nat) (G : Nat → Nat → Int) (k y most : Int) (w : World) (_ : Wf W) (_ : Wf H) (hn : n ≤ cap) (hm : cap ≤ maxLen) (hC : CellsIn w ao n G) (_ : Wf most) :
    Calls Try.prog 11 #[.agg #[.int .i64 W, .int .i64 H, .slice (ao) n cap], .agg #[.int .i64 k, .int .i64 y], .int .i64 most] w fun e w' => e = .returned (.bool true) ∧ Below w.heap.size w w' := by
  unfold maxLen at hm
  by_cases hs : n ≤ 64 ∧ (most ≤ 60 ∨ 1000 < most)
  · obtain ⟨h1, h3⟩ := hs
    by_cases hk : VG W H n G ∧ OkR k y
    · obtain ⟨hv, hk⟩ := hk
      by_cases hr : most < 1 ∨ 1000 < most
      · exact gridPeriod_range W H n cap ao G k y most w h1 hr hv hC hk
      · obtain ⟨W', H', rfl, rfl, s, hG⟩ := Sides.vg hv
        obtain ⟨m', rfl⟩ := Int.eq_ofNat_of_zero_le (show 0 ≤ most by omega)
        rcases per_or W' H' n k y G m' with ⟨j, j1, j2, hy, hno⟩ | hno
        · exact gridPeriod_yes W' H' n cap m' j ao G k y w s h1 hG hC hk (by omega) (by omega) j1 j2 hy hno
        · exact gridPeriod_no W' H' n cap m' ao G k y w s h1 hG hC hk (by omega) (by omega) hno
    · exact gridPeriod_inv W H n cap ao G k y most w h1 h3 hC hk
  · exact gridPeriod_out W H ao n cap k y most w (by omega) hs
end Go.Proofs.Ytloeggbndecbhaa
