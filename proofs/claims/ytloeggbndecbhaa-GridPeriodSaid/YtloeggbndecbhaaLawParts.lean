/- The law GridParts: the walk. -/
import Derived.Test.YtloeggbndecbhaaStepU
import Derived.Test.YtloeggbndecbhaaAwake2
namespace Go.Proofs.Ytloeggbndecbhaa
set_option linter.unusedSimpArgs false
set_option linter.unusedVariables false
open Go.RowKit

theorem runG_add (F : Stepper) (t c1 c2 : Nat) (G : Nat → Nat → Int) : runG F (t + c1) c2 (runG F t c1 G) = runG F t (c1 + c2) G := by
  induction c2 with
  | zero => rfl
  | succ c2 ih =>
    show F (t + c1 + c2) (runG F (t + c1) c2 (runG F t c1 G)) = F (t + (c1 + c2)) (runG F t (c1 + c2) G)
    rw [ih, Nat.add_assoc]
theorem okG_run {W H n len : Nat} {R : Nat → Int × Int} {t c : Nat} {G : Nat → Nat → Int} (hn : n = W * H) (h : OkG n G) : OkG n (runG (fwd W H len R) t c G) := by
  induction c with
  | zero => exact h
  | succ c ih => exact okG_fwd hn ih
theorem undo_congr {W H n len : Nat} {R : Nat → Int × Int} {t c : Nat} {A B : Nat → Nat → Int} (hn : n = W * H) (h : EqG n A B) : EqG n (undoR (bwd W H len R) t c A) (undoR (bwd W H len R) t c B) := by
  induction c generalizing A B with
  | zero => exact h
  | succ c ih => exact ih (EqG.col (EqG.pull hn h))
theorem undo_run {W H n len : Nat} {R : Nat → Int × Int} {t c : Nat} {G : Nat → Nat → Int} (hn : n = W * H) (hk : OkRs len R) (h : OkG n G) : EqG n (undoR (bwd W H len R) t c (runG (fwd W H len R) t c G)) G := by
  induction c with
  | zero => exact EqG.refl _ _
  | succ c ih => exact (undo_congr hn (fwd_bwd hn hk (okG_run hn h))).trans ih

theorem gRun_int (W H n cap : Nat) (ao : Option Addr) (G : Nat → Nat → Int) (ro : Option Addr) (len rc : Nat) (R : Nat → Int × Int) (ti ci : Int) (t c : Nat) (w : World) (et : ti = t) (ec : ci = c) (s : Sides W H n) (hG : OkG n G) (hC : CellsIn w ao n G) (hR : RulesIn w ro len R) (hk : OkRs len R) (hr : RunOk t c) :
    Calls Try.prog 43 #[.agg #[.int .i64 W, .int .i64 H, .slice (ao) n cap], .slice ro len rc, .int .i64 ti, .int .i64 ci] w (Made W H n (runG (fwd W H len R) t c G) w) := by
  subst et ec
  exact gRun_ok W H n cap ao G ro len rc R t c w s hG hC hR hk hr
theorem gUndo_int (W H n cap : Nat) (ao : Option Addr) (G : Nat → Nat → Int) (ro : Option Addr) (len rc : Nat) (R : Nat → Int × Int) (ti ci : Int) (t c : Nat) (w : World) (et : ti = t) (ec : ci = c) (s : Sides W H n) (hG : OkG n G) (hC : CellsIn w ao n G) (hR : RulesIn w ro len R) (hk : OkRs len R) (hr : RunOk t c) :
    Calls Try.prog 45 #[.agg #[.int .i64 W, .int .i64 H, .slice (ao) n cap], .slice ro len rc, .int .i64 ti, .int .i64 ci] w (Made W H n (undoR (bwd W H len R) t c G) w) := by
  subst et ec
  exact gUndo_ok W H n cap ao G ro len rc R t c w s hG hC hR hk hr

set_option maxRecDepth 100000 in
set_option maxHeartbeats 8000000 in
theorem gridParts_ok (W H n cap : Nat) (ao : Option Addr) (G : Nat → Nat → Int) (ro : Option Addr) (len rc : Nat) (R : Nat → Int × Int) (t x y : Nat) (w : World) (s : Sides W H n) (hn2 : n ≤ 200) (hG : OkG n G) (hC : CellsIn w ao n G) (hR : RulesIn w ro len R) (hk : OkRs len R) (ht : t ≤ 900000) (hx : x ≤ 30) (hy : y ≤ 30) :
    Calls Try.prog 10 #[.agg #[.int .i64 W, .int .i64 H, .slice (ao) n cap], .slice ro len rc, .agg #[.int .i64 t, .int .i64 x, .int .i64 y]] w fun e w' => e = .returned (.bool true) ∧ Below w.heap.size w w' := by
  have hl := hk.2.1
  have HS := Lib.hid s; clear s
  have HG := Lib.hid hG; clear hG
  have HC := Lib.hid hC; clear hC
  have HR := Lib.hid hR; clear hR
  have HK := Lib.hid hk; clear hk
  go_enter Try.func10, Try.ntmps10
  go_wp2_with (go_at_call 28; (with_reducible refine (small_yes W H ao n cap 200 _ (by omega)).mono ?_); rintro e w1 ⟨rfl, hb⟩; obtain ⟨hc, hf, hz⟩ := bcall hb; (try simp at hc hf hz))
  (go_at_call 43; (with_reducible refine (gRun_ok W H n cap ao G ro len rc R t x _ HS.out HG.out (HC.out.below (by (repeat' (first | (with_reducible exact Below.refl _ _) | (with_reducible refine Below.setCell ?_ (by first | omega | (simp; done) | (simp; omega)) _) | (with_reducible refine Below.alloc ?_ (by first | omega | (simp; done) | (simp; omega)) _) | (with_reducible refine Below.drew ?_) | (with_reducible refine below_drewN ?_ _) | (with_reducible refine Below.trans ?_ (Below.mono (by assumption) (by first | omega | (simp; done) | (simp; omega)))))))) (HR.out.below (by (repeat' (first | (with_reducible exact Below.refl _ _) | (with_reducible refine Below.setCell ?_ (by first | omega | (simp; done) | (simp; omega)) _) | (with_reducible refine Below.alloc ?_ (by first | omega | (simp; done) | (simp; omega)) _) | (with_reducible refine Below.drew ?_) | (with_reducible refine below_drewN ?_ _) | (with_reducible refine Below.trans ?_ (Below.mono (by assumption) (by first | omega | (simp; done) | (simp; omega)))))))) HK.out (by unfold RunOk; omega)).mono ?_); rintro e wa ⟨a, ca, rfl, ha, loa, hb⟩; have Ca := Lib.hid ha; clear ha loa; obtain ⟨hc, hf, hz⟩ := bcall hb; (try simp at hc hf hz))
  go_wp2_with fail
  (go_at_call 43; (with_reducible refine (gRun_int W H n ca (some ⟨a, 0, none⟩) (runG (fwd W H len R) t x G) ro len rc R _ _ (t + x) y _ (Int.natCast_add _ _).symm rfl HS.out (okG_run HS.out.n0 HG.out) (Ca.out.below (by (repeat' (first | (with_reducible exact Below.refl _ _) | (with_reducible refine Below.setCell ?_ (by first | omega | (simp; done) | (simp; omega)) _) | (with_reducible refine Below.alloc ?_ (by first | omega | (simp; done) | (simp; omega)) _) | (with_reducible refine Below.drew ?_) | (with_reducible refine below_drewN ?_ _) | (with_reducible refine Below.trans ?_ (Below.mono (by assumption) (by first | omega | (simp; done) | (simp; omega)))))))) (HR.out.below (by (repeat' (first | (with_reducible exact Below.refl _ _) | (with_reducible refine Below.setCell ?_ (by first | omega | (simp; done) | (simp; omega)) _) | (with_reducible refine Below.alloc ?_ (by first | omega | (simp; done) | (simp; omega)) _) | (with_reducible refine Below.drew ?_) | (with_reducible refine below_drewN ?_ _) | (with_reducible refine Below.trans ?_ (Below.mono (by assumption) (by first | omega | (simp; done) | (simp; omega)))))))) HK.out (by unfold RunOk; omega)).mono ?_); rintro e wp ⟨p, cp, rfl, hp, lop, hb⟩; have Cp := Lib.hid hp; clear hp lop; obtain ⟨hc, hf, hz⟩ := bcall hb; (try simp at hc hf hz))
  go_wp2_with fail
  (go_at_call 43; (with_reducible refine (gRun_int W H n cap ao G ro len rc R _ _ t (x + y) _ rfl (Int.natCast_add _ _).symm HS.out HG.out (HC.out.below (by (repeat' (first | (with_reducible exact Below.refl _ _) | (with_reducible refine Below.setCell ?_ (by first | omega | (simp; done) | (simp; omega)) _) | (with_reducible refine Below.alloc ?_ (by first | omega | (simp; done) | (simp; omega)) _) | (with_reducible refine Below.drew ?_) | (with_reducible refine below_drewN ?_ _) | (with_reducible refine Below.trans ?_ (Below.mono (by assumption) (by first | omega | (simp; done) | (simp; omega)))))))) (HR.out.below (by (repeat' (first | (with_reducible exact Below.refl _ _) | (with_reducible refine Below.setCell ?_ (by first | omega | (simp; done) | (simp; omega)) _) | (with_reducible refine Below.alloc ?_ (by first | omega | (simp; done) | (simp; omega)) _) | (with_reducible refine Below.drew ?_) | (with_reducible refine below_drewN ?_ _) | (with_reducible refine Below.trans ?_ (Below.mono (by assumption) (by first | omega | (simp; done) | (simp; omega)))))))) HK.out (by unfold RunOk; omega)).mono ?_); rintro e wd ⟨d, cd, rfl, hd, lod, hb⟩; have Cd := Lib.hid hd; clear hd lod; obtain ⟨hc, hf, hz⟩ := bcall hb; (try simp at hc hf hz))
  go_wp2_with fail
  (go_at_call 45; (with_reducible refine (gUndo_int W H n cd (some ⟨d, 0, none⟩) (runG (fwd W H len R) t (x + y) G) ro len rc R _ _ t (x + y) _ rfl (Int.natCast_add _ _).symm HS.out (okG_run HS.out.n0 HG.out) (Cd.out.below (by (repeat' (first | (with_reducible exact Below.refl _ _) | (with_reducible refine Below.setCell ?_ (by first | omega | (simp; done) | (simp; omega)) _) | (with_reducible refine Below.alloc ?_ (by first | omega | (simp; done) | (simp; omega)) _) | (with_reducible refine Below.drew ?_) | (with_reducible refine below_drewN ?_ _) | (with_reducible refine Below.trans ?_ (Below.mono (by assumption) (by first | omega | (simp; done) | (simp; omega)))))))) (HR.out.below (by (repeat' (first | (with_reducible exact Below.refl _ _) | (with_reducible refine Below.setCell ?_ (by first | omega | (simp; done) | (simp; omega)) _) | (with_reducible refine Below.alloc ?_ (by first | omega | (simp; done) | (simp; omega)) _) | (with_reducible refine Below.drew ?_) | (with_reducible refine below_drewN ?_ _) | (with_reducible refine Below.trans ?_ (Below.mono (by assumption) (by first | omega | (simp; done) | (simp; omega)))))))) HK.out (by unfold RunOk; omega)).mono ?_); rintro e wu ⟨u, cu, rfl, hu, lou, hb⟩; have Cu := Lib.hid hu; clear hu lou; obtain ⟨hc, hf, hz⟩ := bcall hb; (try simp at hc hf hz))
  go_wp2_with (first | (go_at_call 32; (with_reducible refine (gSame_yes W H (some ⟨p, 0, none⟩) (some ⟨d, 0, none⟩) n cp cd _ _ _ (by omega) (Cp.out.below (by (repeat' (first | (with_reducible exact Below.refl _ _) | (with_reducible refine Below.setCell ?_ (by first | omega | (simp; done) | (simp; omega)) _) | (with_reducible refine Below.alloc ?_ (by first | omega | (simp; done) | (simp; omega)) _) | (with_reducible refine Below.drew ?_) | (with_reducible refine below_drewN ?_ _) | (with_reducible refine Below.trans ?_ (Below.mono (by assumption) (by first | omega | (simp; done) | (simp; omega)))))))) (Cd.out.below (by (repeat' (first | (with_reducible exact Below.refl _ _) | (with_reducible refine Below.setCell ?_ (by first | omega | (simp; done) | (simp; omega)) _) | (with_reducible refine Below.alloc ?_ (by first | omega | (simp; done) | (simp; omega)) _) | (with_reducible refine Below.drew ?_) | (with_reducible refine below_drewN ?_ _) | (with_reducible refine Below.trans ?_ (Below.mono (by assumption) (by first | omega | (simp; done) | (simp; omega)))))))) (by rw [runG_add]; exact EqG.refl _ _)).mono ?_); rintro e w1 ⟨rfl, hb⟩; obtain ⟨hc, hf, hz⟩ := bcall hb; (try simp at hc hf hz)) | (go_at_call 32; (with_reducible refine (gSame_yes W H (some ⟨u, 0, none⟩) ao n cu cap _ G _ (by omega) (Cu.out.below (by (repeat' (first | (with_reducible exact Below.refl _ _) | (with_reducible refine Below.setCell ?_ (by first | omega | (simp; done) | (simp; omega)) _) | (with_reducible refine Below.alloc ?_ (by first | omega | (simp; done) | (simp; omega)) _) | (with_reducible refine Below.drew ?_) | (with_reducible refine below_drewN ?_ _) | (with_reducible refine Below.trans ?_ (Below.mono (by assumption) (by first | omega | (simp; done) | (simp; omega)))))))) (HC.out.below (by (repeat' (first | (with_reducible exact Below.refl _ _) | (with_reducible refine Below.setCell ?_ (by first | omega | (simp; done) | (simp; omega)) _) | (with_reducible refine Below.alloc ?_ (by first | omega | (simp; done) | (simp; omega)) _) | (with_reducible refine Below.drew ?_) | (with_reducible refine below_drewN ?_ _) | (with_reducible refine Below.trans ?_ (Below.mono (by assumption) (by first | omega | (simp; done) | (simp; omega)))))))) (undo_run HS.out.n0 HK.out HG.out)).mono ?_); rintro e w1 ⟨rfl, hb⟩; obtain ⟨hc, hf, hz⟩ := bcall hb; (try simp at hc hf hz)) | (go_at_call 29; (with_reducible refine (awake2_any _).mono ?_); rintro e w1 ⟨rfl, hb⟩; obtain ⟨hc, hf, hz⟩ := bcall hb; (try simp at hc hf hz)))
  go_ret
  refine ⟨by simp, ?_⟩
  (repeat' (first | (with_reducible exact Below.refl _ _) | (with_reducible refine Below.setCell ?_ (by first | omega | (simp; done) | (simp; omega)) _) | (with_reducible refine Below.alloc ?_ (by first | omega | (simp; done) | (simp; omega)) _) | (with_reducible refine Below.drew ?_) | (with_reducible refine below_drewN ?_ _) | (with_reducible refine Below.trans ?_ (Below.mono (by assumption) (by first | omega | (simp; done) | (simp; omega))))))

set_option maxRecDepth 100000 in
set_option maxHeartbeats 2000000 in
theorem gridParts_inv (W H : Int) (ao : Option Addr) (n cap : Nat) (G : Nat → Nat → Int) (ro : Option Addr) (len rc : Nat) (R : Nat → Int × Int) (t x y : Int) (w : World) (hn : n ≤ 200) (hl : len ≤ 20) (hC : CellsIn w ao n G) (hR : RulesIn w ro len R) (t0 : 0 ≤ t) (t1 : t ≤ 900000) (x0 : 0 ≤ x) (x1 : x ≤ 30) (y0 : 0 ≤ y) (y1 : y ≤ 30) (hk : ¬ (VG W H n G ∧ OkRs len R)) :
    Calls Try.prog 10 #[.agg #[.int .i64 W, .int .i64 H, .slice (ao) n cap], .slice ro len rc, .agg #[.int .i64 t, .int .i64 x, .int .i64 y]] w fun e w' => e = .returned (.bool true) ∧ Below w.heap.size w w' := by
  have HC := Lib.hid hC; clear hC
  have HR := Lib.hid hR; clear hR
  have HK := Lib.hid hk; clear hk
  go_enter Try.func10, Try.ntmps10
  go_wp2_with (first | (go_at_call 28; (with_reducible refine (small_yes W H ao n cap 200 _ (by omega)).mono ?_); rintro e w1 ⟨rfl, hb⟩; obtain ⟨hc, hf, hz⟩ := bcall hb; (try simp at hc hf hz)) | (go_at_call 43; (with_reducible refine (gRun_inv W H n cap ao G ro len rc R _ _ _ (HC.out.below (by (repeat' (first | (with_reducible exact Below.refl _ _) | (with_reducible refine Below.setCell ?_ (by first | omega | (simp; done) | (simp; omega)) _) | (with_reducible refine Below.alloc ?_ (by first | omega | (simp; done) | (simp; omega)) _) | (with_reducible refine Below.drew ?_) | (with_reducible refine below_drewN ?_ _) | (with_reducible refine Below.trans ?_ (Below.mono (by assumption) (by first | omega | (simp; done) | (simp; omega)))))))) (by omega) (HR.out.below (by (repeat' (first | (with_reducible exact Below.refl _ _) | (with_reducible refine Below.setCell ?_ (by first | omega | (simp; done) | (simp; omega)) _) | (with_reducible refine Below.alloc ?_ (by first | omega | (simp; done) | (simp; omega)) _) | (with_reducible refine Below.drew ?_) | (with_reducible refine below_drewN ?_ _) | (with_reducible refine Below.trans ?_ (Below.mono (by assumption) (by first | omega | (simp; done) | (simp; omega)))))))) HK.out).mono ?_); rintro e w1 ⟨rfl, hb⟩; obtain ⟨hc, hf, hz⟩ := bcall hb; (try simp at hc hf hz)) | (go_at_call 29; (with_reducible refine (awake2_any _).mono ?_); rintro e w1 ⟨rfl, hb⟩; obtain ⟨hc, hf, hz⟩ := bcall hb; (try simp at hc hf hz)))
  go_ret
  refine ⟨rfl, ?_⟩
  (repeat' (first | (with_reducible exact Below.refl _ _) | (with_reducible refine Below.setCell ?_ (by first | omega | (simp; done) | (simp; omega)) _) | (with_reducible refine Below.alloc ?_ (by first | omega | (simp; done) | (simp; omega)) _) | (with_reducible refine Below.drew ?_) | (with_reducible refine below_drewN ?_ _) | (with_reducible refine Below.trans ?_ (Below.mono (by assumption) (by first | omega | (simp; done) | (simp; omega))))))

set_option maxRecDepth 100000 in
set_option maxHeartbeats 8000000 in
theorem gridParts_out (W H : Int) (ao : Option Addr) (n cap : Nat) (ro : Option Addr) (len rc : Nat) (t x y : Int) (w : World) (hn : n ≤ 9223372036854775807) (hl : len ≤ 9223372036854775807) (h : ¬ (n ≤ 200 ∧ len ≤ 20 ∧ 0 ≤ t ∧ t ≤ 900000 ∧ 0 ≤ x ∧ x ≤ 30 ∧ 0 ≤ y ∧ y ≤ 30)) :
    Calls Try.prog 10 #[.agg #[.int .i64 W, .int .i64 H, .slice (ao) n cap], .slice ro len rc, .agg #[.int .i64 t, .int .i64 x, .int .i64 y]] w fun e w' => e = .returned (.bool true) ∧ Below w.heap.size w w' := by
  by_cases h1 : n ≤ 200
  · by_cases h2 : len ≤ 20
    · have h3 : t < 0 ∨ (0 ≤ t ∧ 900000 < t) ∨ (0 ≤ t ∧ t ≤ 900000 ∧ x < 0) ∨ (0 ≤ t ∧ t ≤ 900000 ∧ 0 ≤ x ∧ 30 < x) ∨ (0 ≤ t ∧ t ≤ 900000 ∧ 0 ≤ x ∧ x ≤ 30 ∧ y < 0) ∨ (0 ≤ t ∧ t ≤ 900000 ∧ 0 ≤ x ∧ x ≤ 30 ∧ 0 ≤ y ∧ 30 < y) := by omega
      clear h
      rcases h3 with h | ⟨a1, a2⟩ | ⟨a1, a2, a3⟩ | ⟨a1, a2, a3, a4⟩ | ⟨a1, a2, a3, a4, a5⟩ | ⟨a1, a2, a3, a4, a5, a6⟩
      all_goals
        go_enter Try.func10, Try.ntmps10
        go_wp2_with (first | (go_at_call 28; (with_reducible refine (small_yes W H ao n cap 200 _ (by omega)).mono ?_); rintro e w1 ⟨rfl, hb⟩; obtain ⟨hc, hf, hz⟩ := bcall hb; (try simp at hc hf hz)) | (go_at_call 29; (with_reducible refine (awake2_any _).mono ?_); rintro e w1 ⟨rfl, hb⟩; obtain ⟨hc, hf, hz⟩ := bcall hb; (try simp at hc hf hz)))
        go_ret
        refine ⟨rfl, ?_⟩
        (repeat' (first | (with_reducible exact Below.refl _ _) | (with_reducible refine Below.setCell ?_ (by first | omega | (simp; done) | (simp; omega)) _) | (with_reducible refine Below.alloc ?_ (by first | omega | (simp; done) | (simp; omega)) _) | (with_reducible refine Below.drew ?_) | (with_reducible refine below_drewN ?_ _) | (with_reducible refine Below.trans ?_ (Below.mono (by assumption) (by first | omega | (simp; done) | (simp; omega))))))
    · clear h
      go_enter Try.func10, Try.ntmps10
      go_wp2_with (first | (go_at_call 28; (with_reducible refine (small_yes W H ao n cap 200 _ (by omega)).mono ?_); rintro e w1 ⟨rfl, hb⟩; obtain ⟨hc, hf, hz⟩ := bcall hb; (try simp at hc hf hz)) | (go_at_call 29; (with_reducible refine (awake2_any _).mono ?_); rintro e w1 ⟨rfl, hb⟩; obtain ⟨hc, hf, hz⟩ := bcall hb; (try simp at hc hf hz)))
      go_ret
      refine ⟨rfl, ?_⟩
      (repeat' (first | (with_reducible exact Below.refl _ _) | (with_reducible refine Below.setCell ?_ (by first | omega | (simp; done) | (simp; omega)) _) | (with_reducible refine Below.alloc ?_ (by first | omega | (simp; done) | (simp; omega)) _) | (with_reducible refine Below.drew ?_) | (with_reducible refine below_drewN ?_ _) | (with_reducible refine Below.trans ?_ (Below.mono (by assumption) (by first | omega | (simp; done) | (simp; omega))))))
  · clear h
    go_enter Try.func10, Try.ntmps10
    go_wp2_with (first | (go_at_call 28; (with_reducible refine (small_no W H ao n cap 200 _ (by omega)).mono ?_); rintro e w1 ⟨rfl, hb⟩; obtain ⟨hc, hf, hz⟩ := bcall hb; (try simp at hc hf hz)) | (go_at_call 29; (with_reducible refine (awake2_any _).mono ?_); rintro e w1 ⟨rfl, hb⟩; obtain ⟨hc, hf, hz⟩ := bcall hb; (try simp at hc hf hz)))
    go_ret
    refine ⟨rfl, ?_⟩
    (repeat' (first | (with_reducible exact Below.refl _ _) | (with_reducible refine Below.setCell ?_ (by first | omega | (simp; done) | (simp; omega)) _) | (with_reducible refine Below.alloc ?_ (by first | omega | (simp; done) | (simp; omega)) _) | (with_reducible refine Below.drew ?_) | (with_reducible refine below_drewN ?_ _) | (with_reducible refine Below.trans ?_ (Below.mono (by assumption) (by first | omega | (simp; done) | (simp; omega))))))

theorem gridParts_row (W H : Int) (ao : Option Addr) (n cap : Nat) (G : Nat → Nat → Int) (ro : Option Addr) (len rc : Nat) (R : Nat → Int × Int) (t x y : Int) (w : World) (_ : Wf W) (_ : Wf H) (hn : n ≤ cap) (hm : cap ≤ maxLen) (hC : CellsIn w ao n G) (hl : len ≤ rc) (hm' : rc ≤ maxLen) (hR : RulesIn w ro len R) :
    Calls Try.prog 10 #[.agg #[.int .i64 W, .int .i64 H, .slice (ao) n cap], .slice ro len rc, .agg #[.int .i64 t, .int .i64 x, .int .i64 y]] w fun e w' => e = .returned (.bool true) ∧ Below w.heap.size w w' := by
  unfold maxLen at hm hm'
  by_cases hs : n ≤ 200 ∧ len ≤ 20 ∧ 0 ≤ t ∧ t ≤ 900000 ∧ 0 ≤ x ∧ x ≤ 30 ∧ 0 ≤ y ∧ y ≤ 30
  · obtain ⟨h1, h2, t0, t1, x0, x1, y0, y1⟩ := hs
    by_cases hk : VG W H n G ∧ OkRs len R
    · obtain ⟨hv, hk⟩ := hk
      obtain ⟨W', H', rfl, rfl, s, hG⟩ := Sides.vg hv
      obtain ⟨t', rfl⟩ := Int.eq_ofNat_of_zero_le t0
      obtain ⟨x', rfl⟩ := Int.eq_ofNat_of_zero_le x0
      obtain ⟨y', rfl⟩ := Int.eq_ofNat_of_zero_le y0
      exact gridParts_ok W' H' n cap ao G ro len rc R t' x' y' w s h1 hG hC hR hk (by omega) (by omega) (by omega)
    · exact gridParts_inv W H ao n cap G ro len rc R t x y w h1 h2 hC hR t0 t1 x0 x1 y0 y1 hk
  · exact gridParts_out W H ao n cap ro len rc t x y w (by omega) (by omega) hs
end Go.Proofs.Ytloeggbndecbhaa
