/- The period of a grid: by the reference; and the program's refusals. -/
import Derived.Test.YtloeggbndecbhaaLawSteps
import Derived.Test.YtloeggbndecbhaaPeriod
namespace Go.Proofs.Ytloeggbndecbhaa
set_option linter.unusedSimpArgs false
set_option linter.unusedVariables false
open Go.RowKit

set_option maxHeartbeats 1000000 in
theorem gSame_no (W H : Int) (ao ao' : Option Addr) (n c c' : Nat) (G K : Nat → Nat → Int) (w : World) (hn : n ≤ 1000000) (h : CellsIn w ao n G) (h' : CellsIn w ao' n K) (e : ¬ EqG n G K) :
    Calls Try.prog 32 #[.agg #[.int .i64 W, .int .i64 H, .slice (ao) n c], .agg #[.int .i64 W, .int .i64 H, .slice (ao') n c']] w fun e w' => e = .returned (.bool false) ∧ Below w.heap.size w w' := by
  have D := Lib.hid (fun w' (hb : Below w.heap.size w w') => (sameCells_any ao ao' n c c' G K w' hn (h.below hb) (h'.below hb)).mono (R' := fun e w1 => e = .returned (.bool false) ∧ Below w'.heap.size w' w1) fun e' w1 ⟨bb, he, hs, hb⟩ => ⟨by
    cases bb with
    | false => exact he
    | true => exact absurd (hs.1 rfl) e, hb⟩)
  clear h h'
  go_enter Try.func32, Try.ntmps32
  go_wp2_with (go_at_call 84; (with_reducible refine (D.out _ (by (repeat' (first | (with_reducible exact Below.refl _ _) | (with_reducible refine Below.setCell ?_ (by first | omega | (simp; done) | (simp; omega)) _) | (with_reducible refine Below.alloc ?_ (by first | omega | (simp; done) | (simp; omega)) _) | (with_reducible refine Below.drew ?_) | (with_reducible refine below_drewN ?_ _) | (with_reducible refine Below.trans ?_ (Below.mono (by assumption) (by first | omega | (simp; done) | (simp; omega)))))))).mono ?_); rintro e w1 ⟨rfl, hb⟩; obtain ⟨hc, hf, hz⟩ := bcall hb; (try simp at hc hf hz))
  go_ret
  refine ⟨by simp, ?_⟩
  (repeat' (first | (with_reducible exact Below.refl _ _) | (with_reducible refine Below.setCell ?_ (by first | omega | (simp; done) | (simp; omega)) _) | (with_reducible refine Below.alloc ?_ (by first | omega | (simp; done) | (simp; omega)) _) | (with_reducible refine Below.drew ?_) | (with_reducible refine below_drewN ?_ _) | (with_reducible refine Below.trans ?_ (Below.mono (by assumption) (by first | omega | (simp; done) | (simp; omega))))))

theorem per_step {w wr wp : World} {D p n : Nat} {t t' : TypeId} {x y z0 v0 v1 v2 a b c d e : Value} {K : Nat → Nat → Int} (td : Three wr D t x y z0) (tg : Three wr w.heap.size t a b c) (t2 : Two wr (w.heap.size + 1) t' d e) (hD : w.heap.size + 1 < D) (hB : Below w.heap.size w wr) (hx : Below wr.heap.size wr wp) (hr : Row wp p n K) (hp : wr.heap.size ≤ p) :
    Three (((wp.setCell ⟨D, 0, none⟩ v0).setCell ⟨D, 1, none⟩ v1).setCell ⟨D, 2, none⟩ v2) D t v0 v1 v2 ∧ Row (((wp.setCell ⟨D, 0, none⟩ v0).setCell ⟨D, 1, none⟩ v1).setCell ⟨D, 2, none⟩ v2) p n K ∧ Three (((wp.setCell ⟨D, 0, none⟩ v0).setCell ⟨D, 1, none⟩ v1).setCell ⟨D, 2, none⟩ v2) w.heap.size t a b c ∧ Two (((wp.setCell ⟨D, 0, none⟩ v0).setCell ⟨D, 1, none⟩ v1).setCell ⟨D, 2, none⟩ v2) (w.heap.size + 1) t' d e ∧ Below w.heap.size w (((wp.setCell ⟨D, 0, none⟩ v0).setCell ⟨D, 1, none⟩ v1).setCell ⟨D, 2, none⟩ v2) := by
  have l0 := td.lt
  have x : Ex (fun k => k = D) wp (((wp.setCell ⟨D, 0, none⟩ v0).setCell ⟨D, 1, none⟩ v1).setCell ⟨D, 2, none⟩ v2) := three_ex
  have hB2 := hB.trans (hx.mono hB.size)
  have t22 := t2.below hx t2.lt
  exact ⟨(td.below hx td.lt).set, hr.ex x (by omega), (tg.below hx tg.lt).ex x (by omega), (x.block _ t22.lt (by omega)).trans t22, hB2.trans (x.below hB2.size (fun k hk => by omega))⟩

set_option maxRecDepth 100000 in
set_option maxHeartbeats 4000000 in
theorem rPeriod_in (W H b off n cap most : Nat) (k y : Int) (G : Nat → Nat → Int) (w : World) (s : Sides W H n) (hG : OkG n G) (hlt : b < w.heap.size) (hC : Grd w b off n G) (hr : OkR k y) (h1 : 1 ≤ most) (h2 : most ≤ 1000) :
    Calls Try.prog 48 #[.agg #[.int .i64 W, .int .i64 H, .slice (some ⟨b, off, none⟩) n cap], .agg #[.int .i64 k, .int .i64 y], .int .i64 most] w (PerRes W H n most k y G w) := by
  have hn1 := s.n1
  have HV := Lib.hid (vg_of s hG)
  have HC := Lib.hid (show CellsIn w (some ⟨b, off, none⟩) n G from .inr ⟨b, off, rfl, hlt, hC⟩)
  have HCg := Lib.hid hC
  have HR := Lib.hid hr
  have HG := Lib.hid hG
  have S := Lib.hid s
  clear s hG hC hr
  go_enter Try.func48, Try.ntmps48
  go_wp2_with (first | (go_at_call 82; (with_reducible refine (rValid_ok W H (some ⟨b, off, none⟩) n cap G _ HV.out (HC.out.below (by (repeat' (first | (with_reducible exact Below.refl _ _) | (with_reducible refine Below.setCell ?_ (by first | omega | (simp; done) | (simp; omega)) _) | (with_reducible refine Below.alloc ?_ (by first | omega | (simp; done) | (simp; omega)) _) | (with_reducible refine Below.drew ?_) | (with_reducible refine below_drewN ?_ _) | (with_reducible refine Below.trans ?_ (Below.mono (by assumption) (by first | omega | (simp; done) | (simp; omega))))))))).mono ?_); rintro e w1 ⟨rfl, hb⟩; obtain ⟨hc, hf, hz⟩ := bcall hb; (try simp at hc hf hz)) | (go_at_call 69; (with_reducible refine (refValidRule_ok k y _ HR.out).mono ?_); rintro e w1 ⟨rfl, hb⟩; obtain ⟨hc, hf, hz⟩ := bcall hb; (try simp at hc hf hz)) | (go_at_call 106; (with_reducible refine (within2_yes _ _ _ _ (by omega) (by omega)).mono ?_); rintro e w1 ⟨rfl, rfl⟩))
  have hbX : Below ((w.alloc (.cells #[.int .i64 W, .int .i64 H, .slice (some ⟨b, off, none⟩) n cap] 45)).alloc (.cells #[.int .i64 k, .int .i64 y] 25)).heap.size ((w.alloc (.cells #[.int .i64 W, .int .i64 H, .slice (some ⟨b, off, none⟩) n cap] 45)).alloc (.cells #[.int .i64 k, .int .i64 y] 25)) w1 := by (repeat' (first | (with_reducible exact Below.refl _ _) | (with_reducible refine Below.setCell ?_ (by first | omega | (simp; done) | (simp; omega)) _) | (with_reducible refine Below.alloc ?_ (by first | omega | (simp; done) | (simp; omega)) _) | (with_reducible refine Below.drew ?_) | (with_reducible refine below_drewN ?_ _) | (with_reducible refine Below.trans ?_ (Below.mono (by assumption) (by first | omega | (simp; done) | (simp; omega))))))
  have tg := (Three.new2 w 45 (.int .i64 W) (.int .i64 H) (.slice (some ⟨b, off, none⟩) n cap) _).below hbX (by simp; omega)
  have t2 := Two.at ((Two.new (w.alloc (.cells #[.int .i64 W, .int .i64 H, .slice (some ⟨b, off, none⟩) n cap] 45)) 25 (.int .i64 k) (.int .i64 y)).below hbX (by simp)) (World.size_alloc ..)
  have hB : Below w.heap.size w w1 := by (repeat' (first | (with_reducible exact Below.refl _ _) | (with_reducible refine Below.setCell ?_ (by first | omega | (simp; done) | (simp; omega)) _) | (with_reducible refine Below.alloc ?_ (by first | omega | (simp; done) | (simp; omega)) _) | (with_reducible refine Below.drew ?_) | (with_reducible refine below_drewN ?_ _) | (with_reducible refine Below.trans ?_ (Below.mono (by assumption) (by first | omega | (simp; done) | (simp; omega))))))
  have x0 : Below w1.heap.size w1 (w1.alloc (.cells #[.int .i64 W, .int .i64 H, .slice (some ⟨b, off, none⟩) n cap] 45)) := (Below.refl _ w1).alloc (Nat.le_refl _) _
  have TD := Lib.hid (Three.new0 w1 45 (.int .i64 W) (.int .i64 H) (.slice (some ⟨b, off, none⟩) n cap))
  have TG := Lib.hid (tg.below x0 tg.lt)
  have T2 := Lib.hid (t2.below x0 t2.lt)
  have hD : w.heap.size + 1 < w1.heap.size := by omega
  have HB := Lib.hid (hB.trans (x0.mono hB.size))
  obtain ⟨D, hDe⟩ : ∃ D, D = w1.heap.size := ⟨_, rfl⟩
  obtain ⟨w0, hw0⟩ : ∃ w0, w0 = w1.alloc (.cells #[.int .i64 W, .int .i64 H, .slice (some ⟨b, off, none⟩) n cap] 45) := ⟨_, rfl⟩
  rw [← hw0] at TG T2 TD HB ⊢
  rw [← hDe] at TD hD ⊢
  have hlt0 : b < w0.heap.size := Nat.lt_of_lt_of_le hlt HB.out.size
  have HCg0 := Lib.hid (HCg.out.below HB.out hlt)
  clear hc hf hz hb hbX tg t2 hB x0 hw0 hDe
  go_loopw [9] (fun i wr => ∃ (j bb oo cc : Nat), j ≤ most ∧ i = .int .i64 ((j : Int) + 1) ∧ Hid (Three wr D 45 (.int .i64 W) (.int .i64 H) (.slice (some ⟨bb, oo, none⟩) n cc) ∧ Grd wr bb oo n (itG W H k y G j) ∧ Three wr w.heap.size 45 (.int .i64 W) (.int .i64 H) (.slice (some ⟨b, off, none⟩) n cap) ∧ Two wr (w.heap.size + 1) 25 (.int .i64 k) (.int .i64 y) ∧ Below w.heap.size w wr ∧ bb < wr.heap.size) ∧ Hid (∀ i, 1 ≤ i → i ≤ j → ¬ EqG n (itG W H k y G i) G)) (fun i _ => most + 1 - (intOf i).toNat)
  case atStart => exact ⟨0, b, off, cap, Nat.zero_le _, rfl, Lib.hid ⟨TD.out, HCg0.out, TG.out, T2.out, HB.out, hlt0⟩, Lib.hid (fun i h1 h2 => by omega)⟩
  case round =>
    obtain ⟨j, bb, oo, cc, hj, rfl, HH, HN⟩ := hrel
    have l0 := HH.out.1.lt
    have l1 := HH.out.2.2.1.lt
    have l2 := HH.out.2.2.2.1.lt
    have d0 := HH.out.1.c0
    have d1 := HH.out.1.c1
    have d2 := HH.out.1.c2
    have f0 := HH.out.1.free 0
    have f1 := HH.out.1.free 1
    have f2 := HH.out.1.free 2
    have g0 := HH.out.2.2.1.c0
    have g1 := HH.out.2.2.1.c1
    have g2 := HH.out.2.2.1.c2
    have r0 := HH.out.2.2.2.1.c0
    have r1 := HH.out.2.2.2.1.c1
    by_cases hlj : j < most
    · have D1 := Lib.hid (fun w' (hb : Below wr.heap.size wr w') => step1 W H n bb oo cc (itG W H k y G j) k y w' S.out (okG_it S.out.n0 HG.out j) HR.out (Nat.lt_of_lt_of_le HH.out.2.2.2.2.2 hb.size) (HH.out.2.1.below hb HH.out.2.2.2.2.2))
      go_wp2_with (go_at_call 93; (with_reducible refine (D1.out _ (by (repeat' (first | (with_reducible exact Below.refl _ _) | (with_reducible refine Below.setCell ?_ (by first | omega | (simp; done) | (simp; omega)) _) | (with_reducible refine Below.alloc ?_ (by first | omega | (simp; done) | (simp; omega)) _) | (with_reducible refine Below.drew ?_) | (with_reducible refine below_drewN ?_ _) | (with_reducible refine Below.trans ?_ (Below.mono (by assumption) (by first | omega | (simp; done) | (simp; omega)))))))).mono ?_); rintro e wp ⟨p, cp, rfl, hp, lop, hb⟩; have Cp := Lib.hid hp; clear hp; obtain ⟨hc, hf, hz⟩ := bcall hb; (try simp at hc hf hz lop))
      have hx : Below wr.heap.size wr wp := by (repeat' (first | (with_reducible exact Below.refl _ _) | (with_reducible refine Below.setCell ?_ (by first | omega | (simp; done) | (simp; omega)) _) | (with_reducible refine Below.alloc ?_ (by first | omega | (simp; done) | (simp; omega)) _) | (with_reducible refine Below.drew ?_) | (with_reducible refine below_drewN ?_ _) | (with_reducible refine Below.trans ?_ (Below.mono (by assumption) (by first | omega | (simp; done) | (simp; omega))))))
      have hpp : wr.heap.size ≤ p := by omega
      have PS := Lib.hid (per_step (v0 := .int .i64 W) (v1 := .int .i64 H) (v2 := .slice (some ⟨p, 0, none⟩) n cp) HH.out.1 HH.out.2.2.1 HH.out.2.2.2.1 hD HH.out.2.2.2.2.1 hx Cp.out hpp)
      have hCp : CellsIn (((wp.setCell ⟨D, 0, none⟩ (.int .i64 W)).setCell ⟨D, 1, none⟩ (.int .i64 H)).setCell ⟨D, 2, none⟩ (.slice (some ⟨p, 0, none⟩) n cp)) (some ⟨p, 0, none⟩) n (itG W H k y G (j + 1)) := PS.out.2.1.cellsIn
      have hCg : CellsIn (((wp.setCell ⟨D, 0, none⟩ (.int .i64 W)).setCell ⟨D, 1, none⟩ (.int .i64 H)).setCell ⟨D, 2, none⟩ (.slice (some ⟨p, 0, none⟩) n cp)) (some ⟨b, off, none⟩) n G := HC.out.below PS.out.2.2.2.2
      have HCp := Lib.hid hCp; clear hCp
      have HCg2 := Lib.hid hCg; clear hCg
      by_cases he : EqG n (itG W H k y G (j + 1)) G
      · have HE := Lib.hid he; clear he
        go_wp2_with (go_at_call 32; (with_reducible refine (gSame_yes W H (some ⟨p, 0, none⟩) (some ⟨b, off, none⟩) n cp cap _ _ _ (by omega) HCp.out HCg2.out HE.out).mono ?_); rintro e w1 ⟨rfl, hb⟩; obtain ⟨hc, hf, hz⟩ := bcall hb; (try simp at hc hf hz))
        go_ret2
        exact ⟨PS.out.2.2.2.2.trans (hb.mono PS.out.2.2.2.2.size), .inl ⟨j + 1, by omega, by omega, HE.out, fun i h1 h2 => HN.out i h1 (by omega), by simp⟩⟩
      · have HE := Lib.hid he; clear he
        go_wp2_with (go_at_call 32; (with_reducible refine (gSame_no W H (some ⟨p, 0, none⟩) (some ⟨b, off, none⟩) n cp cap _ _ _ (by omega) HCp.out HCg2.out HE.out).mono ?_); rintro e w1 ⟨rfl, hb⟩; obtain ⟨hc, hf, hz⟩ := bcall hb; (try simp at hc hf hz))
        go_roundw
        case rel =>
          obtain ⟨a1, a2, a3, a4, a5⟩ := PS.out
          exact ⟨j + 1, p, 0, cp, by omega, by go_num, Lib.hid ⟨a1.below hb a1.lt, a2.grd.below hb a2.1, a3.below hb a3.lt, a4.below hb a4.lt, a5.trans (hb.mono a5.size), Nat.lt_of_lt_of_le a2.1 hb.size⟩, Lib.hid (fun i h1 h2 => by
            by_cases e : i = j + 1
            · subst e; exact HE.out
            · exact HN.out i h1 (by omega))⟩
        case measure => simp [intOf]; omega
    · obtain rfl : most = j := by omega
      go_wp2
      go_ret2
      exact ⟨HH.out.2.2.2.2.1, .inr ⟨HN.out, rfl⟩⟩

theorem rPeriod_ok (W H n cap most : Nat) (ao : Option Addr) (k y : Int) (G : Nat → Nat → Int) (w : World) (s : Sides W H n) (hG : OkG n G) (hC : CellsIn w ao n G) (hr : OkR k y) (h1 : 1 ≤ most) (h2 : most ≤ 1000) :
    Calls Try.prog 48 #[.agg #[.int .i64 W, .int .i64 H, .slice (ao) n cap], .agg #[.int .i64 k, .int .i64 y], .int .i64 most] w (PerRes W H n most k y G w) := by
  rcases hC with h | ⟨b, off, rfl, hlt, hC⟩
  · have := s.n0
    have := Nat.mul_le_mul s.w0 s.h0
    omega
  · exact rPeriod_in W H b off n cap most k y G w s hG hlt hC hr h1 h2

set_option maxHeartbeats 1000000 in
theorem rPeriod_inv (W H : Int) (n cap : Nat) (ao : Option Addr) (G : Nat → Nat → Int) (k y most : Int) (w : World) (hC : CellsIn w ao n G) (hk : ¬ (VG W H n G ∧ OkR k y)) :
    Calls Try.prog 48 #[.agg #[.int .i64 W, .int .i64 H, .slice (ao) n cap], .agg #[.int .i64 k, .int .i64 y], .int .i64 most] w fun e w' => e = .returned (.tuple #[.int .i64 0, .int .i64 1]) ∧ Below w.heap.size w w' := by
  have HC := Lib.hid hC; clear hC
  by_cases hv : VG W H n G
  · have HV := Lib.hid hv
    have HK := Lib.hid (show ¬ OkR k y from fun h => hk ⟨hv, h⟩)
    clear hk hv
    go_enter Try.func48, Try.ntmps48
    go_wp2_with (first | (go_at_call 82; (with_reducible refine (rValid_ok W H ao n cap G _ HV.out (HC.out.below (by (repeat' (first | (with_reducible exact Below.refl _ _) | (with_reducible refine Below.setCell ?_ (by first | omega | (simp; done) | (simp; omega)) _) | (with_reducible refine Below.alloc ?_ (by first | omega | (simp; done) | (simp; omega)) _) | (with_reducible refine Below.drew ?_) | (with_reducible refine below_drewN ?_ _) | (with_reducible refine Below.trans ?_ (Below.mono (by assumption) (by first | omega | (simp; done) | (simp; omega))))))))).mono ?_); rintro e w1 ⟨rfl, hb⟩; obtain ⟨hc, hf, hz⟩ := bcall hb; (try simp at hc hf hz)) | (go_at_call 69; (with_reducible refine (refValidRule_bad k y _ HK.out).mono ?_); rintro e w1 ⟨rfl, hb⟩; obtain ⟨hc, hf, hz⟩ := bcall hb; (try simp at hc hf hz)))
    go_ret2
    refine ⟨rfl, ?_⟩
    (repeat' (first | (with_reducible exact Below.refl _ _) | (with_reducible refine Below.setCell ?_ (by first | omega | (simp; done) | (simp; omega)) _) | (with_reducible refine Below.alloc ?_ (by first | omega | (simp; done) | (simp; omega)) _) | (with_reducible refine Below.drew ?_) | (with_reducible refine below_drewN ?_ _) | (with_reducible refine Below.trans ?_ (Below.mono (by assumption) (by first | omega | (simp; done) | (simp; omega))))))
  · have HV := Lib.hid hv
    clear hk hv
    go_enter Try.func48, Try.ntmps48
    go_wp2_with (first | (go_at_call 82; (with_reducible refine (rValid_bad W H ao n cap G _ HV.out (HC.out.below (by (repeat' (first | (with_reducible exact Below.refl _ _) | (with_reducible refine Below.setCell ?_ (by first | omega | (simp; done) | (simp; omega)) _) | (with_reducible refine Below.alloc ?_ (by first | omega | (simp; done) | (simp; omega)) _) | (with_reducible refine Below.drew ?_) | (with_reducible refine below_drewN ?_ _) | (with_reducible refine Below.trans ?_ (Below.mono (by assumption) (by first | omega | (simp; done) | (simp; omega))))))))).mono ?_); rintro e w1 ⟨rfl, hb⟩; obtain ⟨hc, hf, hz⟩ := bcall hb; (try simp at hc hf hz)))
    go_ret2
    refine ⟨rfl, ?_⟩
    (repeat' (first | (with_reducible exact Below.refl _ _) | (with_reducible refine Below.setCell ?_ (by first | omega | (simp; done) | (simp; omega)) _) | (with_reducible refine Below.alloc ?_ (by first | omega | (simp; done) | (simp; omega)) _) | (with_reducible refine Below.drew ?_) | (with_reducible refine below_drewN ?_ _) | (with_reducible refine Below.trans ?_ (Below.mono (by assumption) (by first | omega | (simp; done) | (simp; omega))))))
set_option maxHeartbeats 1000000 in
theorem rPeriod_range (W H : Int) (n cap : Nat) (ao : Option Addr) (G : Nat → Nat → Int) (k y most : Int) (w : World) (hv : VG W H n G) (hC : CellsIn w ao n G) (hk : OkR k y) (hm : most < 1 ∨ 1000 < most) :
    Calls Try.prog 48 #[.agg #[.int .i64 W, .int .i64 H, .slice (ao) n cap], .agg #[.int .i64 k, .int .i64 y], .int .i64 most] w fun e w' => e = .returned (.tuple #[.int .i64 0, .int .i64 7]) ∧ Below w.heap.size w w' := by
  have HC := Lib.hid hC; clear hC
  have HV := Lib.hid hv
  have HK := Lib.hid hk
  clear hk hv
  go_enter Try.func48, Try.ntmps48
  go_wp2_with (first | (go_at_call 82; (with_reducible refine (rValid_ok W H ao n cap G _ HV.out (HC.out.below (by (repeat' (first | (with_reducible exact Below.refl _ _) | (with_reducible refine Below.setCell ?_ (by first | omega | (simp; done) | (simp; omega)) _) | (with_reducible refine Below.alloc ?_ (by first | omega | (simp; done) | (simp; omega)) _) | (with_reducible refine Below.drew ?_) | (with_reducible refine below_drewN ?_ _) | (with_reducible refine Below.trans ?_ (Below.mono (by assumption) (by first | omega | (simp; done) | (simp; omega))))))))).mono ?_); rintro e w1 ⟨rfl, hb⟩; obtain ⟨hc, hf, hz⟩ := bcall hb; (try simp at hc hf hz)) | (go_at_call 69; (with_reducible refine (refValidRule_ok k y _ HK.out).mono ?_); rintro e w1 ⟨rfl, hb⟩; obtain ⟨hc, hf, hz⟩ := bcall hb; (try simp at hc hf hz)) | (go_at_call 106; (with_reducible refine (within2_no _ _ _ _ hm).mono ?_); rintro e w1 ⟨rfl, rfl⟩))
  go_ret2
  refine ⟨rfl, ?_⟩
  (repeat' (first | (with_reducible exact Below.refl _ _) | (with_reducible refine Below.setCell ?_ (by first | omega | (simp; done) | (simp; omega)) _) | (with_reducible refine Below.alloc ?_ (by first | omega | (simp; done) | (simp; omega)) _) | (with_reducible refine Below.drew ?_) | (with_reducible refine below_drewN ?_ _) | (with_reducible refine Below.trans ?_ (Below.mono (by assumption) (by first | omega | (simp; done) | (simp; omega))))))

set_option maxHeartbeats 1000000 in
theorem gPeriod_inv (W H : Int) (n cap : Nat) (ao : Option Addr) (G : Nat → Nat → Int) (k y most : Int) (w : World) (hC : CellsIn w ao n G) (hk : ¬ (VG W H n G ∧ OkR k y)) :
    Calls Try.prog 47 #[.agg #[.int .i64 W, .int .i64 H, .slice (ao) n cap], .agg #[.int .i64 k, .int .i64 y], .int .i64 most] w fun e w' => e = .returned (.tuple #[.int .i64 0, .int .i64 1]) ∧ Below w.heap.size w w' := by
  have HC := Lib.hid hC; clear hC
  by_cases hv : VG W H n G
  · have HV := Lib.hid hv
    have HK := Lib.hid (show ¬ OkR k y from fun h => hk ⟨hv, h⟩)
    clear hk hv
    go_enter Try.func47, Try.ntmps47
    go_wp2_with (first | (go_at_call 86; (with_reducible refine (gValid_ok W H ao n cap G _ HV.out (HC.out.below (by (repeat' (first | (with_reducible exact Below.refl _ _) | (with_reducible refine Below.setCell ?_ (by first | omega | (simp; done) | (simp; omega)) _) | (with_reducible refine Below.alloc ?_ (by first | omega | (simp; done) | (simp; omega)) _) | (with_reducible refine Below.drew ?_) | (with_reducible refine below_drewN ?_ _) | (with_reducible refine Below.trans ?_ (Below.mono (by assumption) (by first | omega | (simp; done) | (simp; omega))))))))).mono ?_); rintro e w1 ⟨rfl, hb⟩; obtain ⟨hc, hf, hz⟩ := bcall hb; (try simp at hc hf hz)) | (go_at_call 65; (with_reducible refine (validRule_bad k y _ HK.out).mono ?_); rintro e w1 ⟨rfl, hb⟩; obtain ⟨hc, hf, hz⟩ := bcall hb; (try simp at hc hf hz)))
    refine bodyPost_ret (v := .tuple #[.int .i64 0, .int .i64 1]) (by simp [results, Try.results47, go_sem, ↓IntWalk.iteOmega, *]) rfl ⟨rfl, ?_⟩
    (repeat' (first | (with_reducible exact Below.refl _ _) | (with_reducible refine Below.setCell ?_ (by first | omega | (simp; done) | (simp; omega)) _) | (with_reducible refine Below.alloc ?_ (by first | omega | (simp; done) | (simp; omega)) _) | (with_reducible refine Below.drew ?_) | (with_reducible refine below_drewN ?_ _) | (with_reducible refine Below.trans ?_ (Below.mono (by assumption) (by first | omega | (simp; done) | (simp; omega))))))
  · have HV := Lib.hid hv
    clear hk hv
    go_enter Try.func47, Try.ntmps47
    go_wp2_with (first | (go_at_call 86; (with_reducible refine (gValid_bad W H ao n cap G _ HV.out (HC.out.below (by (repeat' (first | (with_reducible exact Below.refl _ _) | (with_reducible refine Below.setCell ?_ (by first | omega | (simp; done) | (simp; omega)) _) | (with_reducible refine Below.alloc ?_ (by first | omega | (simp; done) | (simp; omega)) _) | (with_reducible refine Below.drew ?_) | (with_reducible refine below_drewN ?_ _) | (with_reducible refine Below.trans ?_ (Below.mono (by assumption) (by first | omega | (simp; done) | (simp; omega))))))))).mono ?_); rintro e w1 ⟨rfl, hb⟩; obtain ⟨hc, hf, hz⟩ := bcall hb; (try simp at hc hf hz)))
    refine bodyPost_ret (v := .tuple #[.int .i64 0, .int .i64 1]) (by simp [results, Try.results47, go_sem, ↓IntWalk.iteOmega, *]) rfl ⟨rfl, ?_⟩
    (repeat' (first | (with_reducible exact Below.refl _ _) | (with_reducible refine Below.setCell ?_ (by first | omega | (simp; done) | (simp; omega)) _) | (with_reducible refine Below.alloc ?_ (by first | omega | (simp; done) | (simp; omega)) _) | (with_reducible refine Below.drew ?_) | (with_reducible refine below_drewN ?_ _) | (with_reducible refine Below.trans ?_ (Below.mono (by assumption) (by first | omega | (simp; done) | (simp; omega))))))
set_option maxHeartbeats 1000000 in
theorem gPeriod_range (W H : Int) (n cap : Nat) (ao : Option Addr) (G : Nat → Nat → Int) (k y most : Int) (w : World) (hv : VG W H n G) (hC : CellsIn w ao n G) (hk : OkR k y) (hm : most < 1 ∨ (1 ≤ most ∧ 1000 < most)) :
    Calls Try.prog 47 #[.agg #[.int .i64 W, .int .i64 H, .slice (ao) n cap], .agg #[.int .i64 k, .int .i64 y], .int .i64 most] w fun e w' => e = .returned (.tuple #[.int .i64 0, .int .i64 7]) ∧ Below w.heap.size w w' := by
  have HC := Lib.hid hC; clear hC
  have HV := Lib.hid hv
  have HK := Lib.hid hk
  clear hk hv
  rcases hm with hm | ⟨hm1, hm⟩
  all_goals
    go_enter Try.func47, Try.ntmps47
    go_wp2_with (first | (go_at_call 86; (with_reducible refine (gValid_ok W H ao n cap G _ HV.out (HC.out.below (by (repeat' (first | (with_reducible exact Below.refl _ _) | (with_reducible refine Below.setCell ?_ (by first | omega | (simp; done) | (simp; omega)) _) | (with_reducible refine Below.alloc ?_ (by first | omega | (simp; done) | (simp; omega)) _) | (with_reducible refine Below.drew ?_) | (with_reducible refine below_drewN ?_ _) | (with_reducible refine Below.trans ?_ (Below.mono (by assumption) (by first | omega | (simp; done) | (simp; omega))))))))).mono ?_); rintro e w1 ⟨rfl, hb⟩; obtain ⟨hc, hf, hz⟩ := bcall hb; (try simp at hc hf hz)) | (go_at_call 65; (with_reducible refine (validRule_ok k y _ HK.out).mono ?_); rintro e w1 ⟨rfl, hb⟩; obtain ⟨hc, hf, hz⟩ := bcall hb; (try simp at hc hf hz)))
    refine bodyPost_ret (v := .tuple #[.int .i64 0, .int .i64 7]) (by simp [results, Try.results47, go_sem, ↓IntWalk.iteOmega, *]) rfl ⟨rfl, ?_⟩
    (repeat' (first | (with_reducible exact Below.refl _ _) | (with_reducible refine Below.setCell ?_ (by first | omega | (simp; done) | (simp; omega)) _) | (with_reducible refine Below.alloc ?_ (by first | omega | (simp; done) | (simp; omega)) _) | (with_reducible refine Below.drew ?_) | (with_reducible refine below_drewN ?_ _) | (with_reducible refine Below.trans ?_ (Below.mono (by assumption) (by first | omega | (simp; done) | (simp; omega))))))
theorem runG_it {W H : Nat} {k y : Int} {t j : Nat} {G : Nat → Nat → Int} : runG (fwd W H 1 (fun _ => (k, y))) t j G = itG W H k y G j := by
  induction j with
  | zero => rfl
  | succ j ih =>
    show fwd W H 1 (fun _ => (k, y)) (t + j) (runG (fwd W H 1 (fun _ => (k, y))) t j G) = pull W H 1 (colG k y (itG W H k y G j))
    rw [ih]
    rfl
end Go.Proofs.Ytloeggbndecbhaa
