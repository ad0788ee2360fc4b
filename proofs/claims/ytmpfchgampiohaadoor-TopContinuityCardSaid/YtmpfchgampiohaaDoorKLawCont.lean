/- The law TopContinuity: the walk. -/
import Derived.Test.YtmpfchgampiohaaDoorKFCrossC
import Derived.Test.YtmpfchgampiohaaDoorKFDens
import Derived.Test.YtmpfchgampiohaaDoorKFAwake
import Derived.Test.YtmpfchgampiohaaDoorKStreamR
import Derived.Test.YtmpfchgampiohaaDoorKRunU
import Derived.Test.YtmpfchgampiohaaDoorKRefG4
import Derived.Deep.RegionHeld3
import Derived.BigQuiet
namespace Go.Proofs.YtmpfchgampiohaaDoor
set_option linter.unusedSimpArgs false
set_option linter.unusedVariables false
open Go.RowKit Go.Shelf
attribute [local go_sem] Oper.semAt_some

/-- A row of numbers of one's own, opened. -/
theorem ints_at {w : World} {base : Nat} {v : Value} {f : Nat → Int} {L : Nat} (h : w.ownsRow base 3 1 v L (iV (fnL f L))) (h1 : 1 ≤ L) : ∃ g c, v = .slice (some ⟨g, 0, none⟩) L c ∧ g < w.heap.size ∧ ∀ i, i < L → w.cell? ⟨g, i, none⟩ = some (.int .i64 (f i)) := by
  have h' := h
  rcases h.2 with ⟨_, h0⟩ | ⟨g, c, cur, rfl, hg, hh, _⟩
  · omega
  · refine ⟨g, c, rfl, (Array.getElem?_eq_some_iff.1 hh).1, fun i hi => ?_⟩
    rw [h'.cellAt i (by omega)]
    exact iV_get (fnL_get f hi)

set_option maxRecDepth 100000 in
set_option maxHeartbeats 32000000 in
theorem topCont_ok (W H n cap b off : Nat) (G : Nat → Nat → Int) (w : World) (s : Sides W H n) (hO : OkG n G) (lb : b < w.heap.size) (hG : Grd w b off n G) (hn : n ≤ 100) (hA : Acr w) :
    Calls Tryd.prog 3 #[.agg #[.int .i64 W, .int .i64 H, .slice (some ⟨b, off, none⟩) n cap]] w fun e w' => e = .returned (.bool true) ∧ Below w.heap.size w w' := by
  have hC : CellsIn w (some ⟨b, off, none⟩) n G := .inr ⟨b, off, rfl, lb, hG⟩
  have RV := Lib.hid (fun wx (hb : Below w.heap.size w wx) => rValid_ok W H (some ⟨b, off, none⟩) n cap G wx (vg_of s hO) (hC.below hb))
  have ST := Lib.hid (fun wx (hb : Below w.heap.size w wx) => gStreamR_ok W H b off n cap G wx s hO (Nat.lt_of_lt_of_le lb hb.size) (hG.below hb lb))
  have OP := Lib.hid (okG_pull (way := 1) s.n0 hO)
  have HS := Lib.hid s
  have HO := Lib.hid hO
  have HG := Lib.hid hG
  have HA := Lib.hid hA
  have hW1 := s.w1
  have hH1 := s.h1
  have hW0 := s.w0
  have hH0 := s.h0
  have ew : IntKind.i64.wrap ((W : Int) - 1) = (W : Int) - 1 := IntWalk.i64_in _ ⟨by omega, by omega⟩
  have eh : IntKind.i64.wrap ((H : Int) - 1) = (H : Int) - 1 := IntWalk.i64_in _ ⟨by omega, by omega⟩
  have hn2 : (n : Int) ≤ 100 := by omega
  clear s hO hG hC hA
  go_enter Tryd.func3, Tryd.ntmps3
  go_wp2_with (go_at_call 10; (with_reducible refine (RV.out _ (by (repeat' (first | (with_reducible exact Below.refl _ _) | (with_reducible refine Below.setCell ?_ (by first | omega | (simp; done) | (simp; omega)) _) | (with_reducible refine Below.alloc ?_ (by first | omega | (simp; done) | (simp; omega)) _) | (with_reducible refine Below.drew ?_) | (with_reducible refine below_drewN ?_ _) | (with_reducible refine Below.trans ?_ (Below.mono (by assumption) (by first | omega | (simp; done) | (simp; omega)))))))).mono ?_); rintro e w1 ⟨rfl, hb⟩; obtain ⟨hc, hf, hz⟩ := bcall hb; (try simp at hc hf hz))
  (go_at_call 12; (with_reducible refine (ST.out _ (by (repeat' (first | (with_reducible exact Below.refl _ _) | (with_reducible refine Below.setCell ?_ (by first | omega | (simp; done) | (simp; omega)) _) | (with_reducible refine Below.alloc ?_ (by first | omega | (simp; done) | (simp; omega)) _) | (with_reducible refine Below.drew ?_) | (with_reducible refine below_drewN ?_ _) | (with_reducible refine Below.trans ?_ (Below.mono (by assumption) (by first | omega | (simp; done) | (simp; omega)))))))).mono ?_); rintro e w5 ⟨d, cd, rfl, hrd, hld, hb5⟩)
  have HD := Lib.hid hrd
  have t1 := Three.new0 w 24 (.int .i64 W) (.int .i64 H) (.slice (some ⟨b, off, none⟩) n cap)
  have t1 : Three w1 w.heap.size 24 (.int .i64 W) (.int .i64 H) (.slice (some ⟨b, off, none⟩) n cap) := t1.below hb (by simp)
  have t1 : Three w5 w.heap.size 24 (.int .i64 W) (.int .i64 H) (.slice (some ⟨b, off, none⟩) n cap) := t1.below hb5 t1.lt
  have t3 := Three.new0 w5 24 (.int .i64 W) (.int .i64 H) (.slice (some ⟨d, 0, none⟩) n cd)
  have hbw5 : Below w.heap.size w w5 := by (repeat' (first | (with_reducible exact Below.refl _ _) | (with_reducible refine Below.setCell ?_ (by first | omega | (simp; done) | (simp; omega)) _) | (with_reducible refine Below.alloc ?_ (by first | omega | (simp; done) | (simp; omega)) _) | (with_reducible refine Below.drew ?_) | (with_reducible refine below_drewN ?_ _) | (with_reducible refine Below.trans ?_ (Below.mono (by assumption) (by first | omega | (simp; done) | (simp; omega))))))
  have t1 : Three (w5.alloc (.cells #[.int .i64 W, .int .i64 H, .slice (some ⟨d, 0, none⟩) n cd] 24)) w.heap.size 24 (.int .i64 W) (.int .i64 H) (.slice (some ⟨b, off, none⟩) n cap) := t1.below ((Below.refl w5.heap.size w5).alloc (Nat.le_refl _) _) t1.lt
  have hbw0 : Below w.heap.size w (w5.alloc (.cells #[.int .i64 W, .int .i64 H, .slice (some ⟨d, 0, none⟩) n cd] 24)) := hbw5.alloc hbw5.size _
  have hsz : (w5.alloc (.cells #[.int .i64 W, .int .i64 H, .slice (some ⟨d, 0, none⟩) n cd] 24)).heap.size = w5.heap.size + 1 := by simp
  have HD := Lib.hid (show Grd (w5.alloc (.cells #[.int .i64 W, .int .i64 H, .slice (some ⟨d, 0, none⟩) n cd] 24)) d 0 n (pull W H 1 G) from (HD.out.grd.below ((Below.refl w5.heap.size w5).alloc (Nat.le_refl _) _) HD.out.1))
  have ld : d < w5.heap.size := hrd.1
  have l15 : w.heap.size < w5.heap.size := by have := hb5.size; have := hb.size; simp at *; omega
  go_wp2_with fail
  obtain ⟨w0, hw0⟩ : ∃ w0, w0 = w5.alloc (.cells #[.int .i64 W, .int .i64 H, .slice (some ⟨d, 0, none⟩) n cd] 24) := ⟨_, rfl⟩
  rw [← hw0] at t1 t3 hbw0 hsz HD ⊢
  obtain ⟨m3, hm3⟩ : ∃ m3, m3 = w5.heap.size := ⟨_, rfl⟩
  rw [← hm3] at t3 hsz ld l15 ⊢
  have PF := Lib.hid (fun a (ha : a < 2) wx (hx : Below w0.heap.size w0 wx) => fprof_in a W H n cap b off G wx HS.out HO.out (Nat.lt_of_lt_of_le (Nat.lt_of_lt_of_le lb hbw0.size) hx.size) (HG.out.below (hbw0.trans (hx.mono hbw0.size)) lb) ha)
  have PQ := Lib.hid (fun a (ha : a < 2) wx (hx : Below w0.heap.size w0 wx) => fprof_in a W H n cd d 0 (pull W H 1 G) wx HS.out OP.out (Nat.lt_of_lt_of_le (show d < w0.heap.size by omega) hx.size) (HD.out.below hx (show d < w0.heap.size by omega)) ha)
  have CR := Lib.hid (fun a at_ (ha : a < 2) (hat : at_ < lnN a W H) wx (hx : Below w0.heap.size w0 wx) => fcross_in a W H n cap b off at_ G wx HS.out HO.out (Nat.lt_of_lt_of_le (Nat.lt_of_lt_of_le lb hbw0.size) hx.size) (HG.out.below (hbw0.trans (hx.mono hbw0.size)) lb) ha hat (HA.out.below (hbw0.trans (hx.mono hbw0.size))))
  have DN := Lib.hid (fun wx (hx : Below w0.heap.size w0 wx) => fdens_all W H n cap b off G wx HS.out HO.out (Nat.lt_of_lt_of_le (Nat.lt_of_lt_of_le lb hbw0.size) hx.size) (HG.out.below (hbw0.trans (hx.mono hbw0.size)) lb))
  have DQ := Lib.hid (fun wx (hx : Below w0.heap.size w0 wx) => by
    have := fdens_all W H n cd d 0 (pull W H 1 G) wx HS.out OP.out (Nat.lt_of_lt_of_le (show d < w0.heap.size by omega) hx.size) (HD.out.below hx (show d < w0.heap.size by omega))
    rw [wt_pull G HS.out.n0] at this
    exact this)
  have MN := Lib.hid (fun wx (hx : Below w0.heap.size w0 wx) => gMomentum_ok1 W H b off n cap G wx (vg_of HS.out HO.out) (Nat.lt_of_lt_of_le (Nat.lt_of_lt_of_le lb hbw0.size) hx.size) (HG.out.below (hbw0.trans (hx.mono hbw0.size)) lb))
  have MQ := Lib.hid (fun wx (hx : Below w0.heap.size w0 wx) => by
    have := gMomentum_ok1 W H d 0 n cd (pull W H 1 G) wx (vg_of HS.out OP.out) (Nat.lt_of_lt_of_le (show d < w0.heap.size by omega) hx.size) (HD.out.below hx (show d < w0.heap.size by omega))
    rw [imE_pull G HS.out.n0, imN_pull G HS.out.n0] at this
    exact this)
  have T1 := Lib.hid t1
  have T3 := Lib.hid t3
  have HBW := Lib.hid hbw0
  have l10 : w.heap.size < w0.heap.size := by omega
  have l30 : m3 < w0.heap.size := by omega
  clear t1 t3 hbw0 hw0 hm3 hb5 hbw5 hrd hld hc hf hz hb ld RV ST lb HG HD HA hsz
  go_loopw [5, 6, 7, 8, 9, 10, 11, 12, 13, 14, 15, 16] (fun i _ _ _ _ _ _ _ _ _ _ _ wr => ∃ a : Nat, a ≤ 2 ∧ i = .int .i64 a ∧ Hid (Below w0.heap.size w0 wr)) (fun i _ _ _ _ _ _ _ _ _ _ _ _ => (2 - Go.RowKit.intOf i).toNat)
  case atStart => exact ⟨0, by omega, rfl, Lib.hid (Below.refl _ _)⟩
  case round =>
    obtain ⟨a, ha, rfl, HB⟩ := hrel
    obtain ⟨wo, hwo⟩ : ∃ wo, wo = wr := ⟨_, rfl⟩
    subst hwo
    have u1 := T1.out.below HB.out l10
    have u3 := T3.out.below HB.out l30
    by_cases hla : a < 2
    · have g0 := u1.c0
      have g1 := u1.c1
      have g2 := u1.c2
      have k0 := u3.c0
      have k1 := u3.c1
      have k2 := u3.c2
      have PFa := Lib.hid (fun wx (hx : Below wo.heap.size wo wx) => PF.out a hla wx (HB.out.trans (hx.mono HB.out.size)))
      have PQa := Lib.hid (fun wx (hx : Below wo.heap.size wo wx) => PQ.out a hla wx (HB.out.trans (hx.mono HB.out.size)))
      have hl := lnN_one (a := a) HS.out
      have hla2 : (a : Int) < 2 := by omega
      obtain ⟨L, hL⟩ : ∃ L, L = lnN a W H := ⟨_, rfl⟩
      rw [← hL] at hl PFa PQa
      have HL := Lib.hid hL
      clear hL
      go_wp2_with fail
      (go_at_call 13; (refine (PFa.out _ (Below.refl _ _)).mono ?_); rintro e wp ⟨v, rfl, hr, hbp⟩)
      obtain ⟨gp, cp, rfl, lgp, hp⟩ := ints_at hr hl.1
      have HP := Lib.hid hp
      have HBp := Lib.hid hbp
      have hzp := hbp.size
      have u1 := T1.out.below (HB.out.trans (hbp.mono HB.out.size)) l10
      have u3 := T3.out.below (HB.out.trans (hbp.mono HB.out.size)) l30
      have g0 := u1.c0
      have g1 := u1.c1
      have g2 := u1.c2
      have k0 := u3.c0
      have k1 := u3.c1
      have k2 := u3.c2
      clear hr hp u1 u3
      go_wp2_with fail
      (go_at_call 13; (refine (PQa.out _ HBp.out).mono ?_); rintro e wq ⟨v, rfl, hr, hbq⟩)
      obtain ⟨gq, cq, rfl, lgq, hq⟩ := ints_at hr hl.1
      have HQ := Lib.hid hq
      have HP := Lib.hid (fun i hi => (hbq.cell (p := ⟨gp, i, none⟩) lgp).trans (HP.out i hi))
      have HBq := Lib.hid (HBp.out.trans (hbq.mono hzp))
      have hzq := hbq.size
      have lgp : gp < wq.heap.size := by omega
      clear hr hq hbp hbq g0 g1 g2 k0 k1 k2
      have dL : decide ((L : Int) = (L : Int)) = true := by simp
      go_wp2_with fail
      go_loopw [10, 11, 12, 13, 14, 15, 16] (fun i _ _ _ _ _ _ wr => ∃ k : Nat, k ≤ L ∧ i = .int .i64 k ∧ Hid (Below wq.heap.size wq wr)) (fun i _ _ _ _ _ _ _ => L - (Go.RowKit.intOf i).toNat)
      case atStart => exact ⟨0, Nat.zero_le _, rfl, Lib.hid (Below.refl _ _)⟩
      case round =>
        obtain ⟨k, hk, rfl, HR⟩ := hrel
        by_cases hlk : k < L
        · have hlk2 : k < lnN a W H := by have := HL.out; omega
          have hsr := HR.out.size
          have HBr := Lib.hid ((HB.out.trans (HBq.out.mono HB.out.size)).trans (HR.out.mono (by have := HB.out.size; have := HBq.out.size; omega)))
          have u1 := T1.out.below HBr.out l10
          have g0 := u1.c0
          have g1 := u1.c1
          have g2 := u1.c2
          have l11 := u1.lt
          clear u1
          have p0 := (HR.out.cell (p := ⟨gp, k, none⟩) lgp).trans (HP.out k hlk)
          have q0 := (HR.out.cell (p := ⟨gq, k, none⟩) lgq).trans (HQ.out k hlk)
          have lp2 : gp < wr.heap.size := by omega
          have lq2 : gq < wr.heap.size := by omega
          have CR1 := Lib.hid (fun wx (hx : Below wr.heap.size wr wx) => CR.out a k hla hlk2 wx (HBr.out.trans (hx.mono HBr.out.size)))
          have CR2 := Lib.hid (fun wx (hx : Below wr.heap.size wr wx) => CR.out a (nxt (lnN a W H) k) hla (nxt_lt hlk2) wx (HBr.out.trans (hx.mono HBr.out.size)))
          have EQ := ln_pull a W H hla G k hlk2
          have hn0 := HS.out.n0
          have hw1 := HS.out.w1
          have hh1 := HS.out.h1
          have b1 := lnS_bd (a := a) hn0 hw1 hh1 (tells_bd HO.out).1 hlk2
          have b2 := lnS_bd (a := a) hn0 hw1 hh1 (way_bd HO.out (show a < 4 by omega)) (prv_lt hlk2)
          have b3 := lnS_bd (a := a) hn0 hw1 hh1 (way_bd HO.out (show a + 2 < 4 by omega)) hlk2
          have b4 := lnS_bd (a := a) hn0 hw1 hh1 (way_bd HO.out (show a < 4 by omega)) (prv_lt (nxt_lt hlk2))
          have b5 := lnS_bd (a := a) hn0 hw1 hh1 (way_bd HO.out (show a + 2 < 4 by omega)) (nxt_lt hlk2)
          have hnx := nxt_lt hlk2
          have hnm := nxt_mod hlk2
          obtain ⟨x, hx⟩ : ∃ x, x = nxt (lnN a W H) k := ⟨_, rfl⟩
          rw [← hx] at CR2 EQ b4 b5 hnx hnm
          rw [← HL.out] at CR1 CR2 EQ b2 b4 hnx hnm
          obtain ⟨A, hA⟩ : ∃ A, A = lnS a W H (msC G) k := ⟨_, rfl⟩
          obtain ⟨B, hB⟩ : ∃ A, A = lnS a W H (msC (pull W H 1 G)) k := ⟨_, rfl⟩
          obtain ⟨c1, h1⟩ : ∃ A, A = lnS a W H (fun q => G q a) (prv L k) := ⟨_, rfl⟩
          obtain ⟨c2, h2⟩ : ∃ A, A = lnS a W H (fun q => G q (a + 2)) k := ⟨_, rfl⟩
          obtain ⟨c3, h3⟩ : ∃ A, A = lnS a W H (fun q => G q a) (prv L x) := ⟨_, rfl⟩
          obtain ⟨c4, h4⟩ : ∃ A, A = lnS a W H (fun q => G q (a + 2)) x := ⟨_, rfl⟩
          rw [← hA] at EQ b1 p0
          rw [← hB] at EQ q0
          rw [← h1] at EQ b2 CR1
          rw [← h2] at EQ b3 CR1
          rw [← h3] at EQ b4 CR2
          rw [← h4] at EQ b5 CR2
          clear hA hB h1 h2 h3 h4 hx hn0 hw1 hh1
          obtain ⟨s1, hs1⟩ : ∃ s, s = A + c1 := ⟨_, rfl⟩
          obtain ⟨s2, hs2⟩ : ∃ s, s = s1 - c2 := ⟨_, rfl⟩
          obtain ⟨s3, hs3⟩ : ∃ s, s = s2 - c3 := ⟨_, rfl⟩
          have e1 : IntKind.i64.wrap (A + c1) = s1 := by rw [hs1]; exact IntWalk.i64_in _ ⟨by omega, by omega⟩
          have e2 : IntKind.i64.wrap (s1 - c2) = s2 := by rw [hs2]; exact IntWalk.i64_in _ ⟨by omega, by omega⟩
          have e3 : IntKind.i64.wrap (s2 - c3) = s3 := by rw [hs3]; exact IntWalk.i64_in _ ⟨by omega, by omega⟩
          have e4 : IntKind.i64.wrap (s3 + c4) = B := by rw [show s3 + c4 = B by omega]; exact IntWalk.i64_in _ ⟨by omega, by omega⟩
          obtain ⟨m, hm⟩ : ∃ m, m = k + 1 := ⟨_, rfl⟩
          have n0 : ¬ ((L : Int) = 0) := by omega
          have n1 : ¬ (L = 0) := by omega
          have e5 : IntKind.i64.wrap ((k : Int) + 1) = (m : Int) := by rw [IntWalk.i64_in _ ⟨by omega, by omega⟩]; omega
          have e6 : (m : Int) % (L : Int) = (x : Int) := by rw [← hnm, hm]; exact (Int.natCast_emod _ _).symm
          have e7 : Int.tmod (m : Int) (L : Int) = (x : Int) := by rw [Int.tmod_eq_emod_of_nonneg (by omega)]; exact e6
          have HM := Lib.hid hm
          have v0 : (0 : Int) ≤ (k : Int) := by omega
          have v1 : (k : Int) < (L : Int) := by omega
          have hl2 := hl.2
          clear hs1 hs2 hs3 EQ b1 b2 b3 b4 b5 hm hnm hnx
          go_wp2_with (go_at_call 14; (with_reducible refine (CR1.out _ (Below.refl _ _)).mono ?_); rintro e w1 ⟨rfl, hb⟩; obtain ⟨hc, hf, hz⟩ := bcall hb; (try simp at hc hf hz))
          have hb01 := Lib.hid hb
          go_region_held3 (fun w' => w'.cell? ⟨w.heap.size, 0, none⟩ = some (.int .i64 W) ∧ w'.cell? ⟨w.heap.size, 1, none⟩ = some (.int .i64 H) ∧ w'.cell? ⟨w.heap.size, 2, none⟩ = some (.slice (some ⟨b, off, none⟩) n cap)) (first | (go_split_ands; (try dsimp only); refine ⟨?_, ?_, ?_⟩ <;> (first | (with_reducible assumption) | (with_reducible exact keep_cell (by assumption) (by first | omega | (simp; done) | (simp; omega)) (by assumption)) | (with_reducible exact (World.cell?_alloc_past _ _ _ (by show _ < _; omega)).trans (by assumption)) | (with_reducible exact (World.cell?_alloc_past _ _ _ (by show _ < _; omega)).trans ((World.cell?_alloc_past _ _ _ (by show _ < _; omega)).symm.trans (by assumption))) | (simp [go_sem]; with_reducible assumption))) | (simp [go_sem, ↓IntWalk.iteOmega, *]; done)) ((go_at_call 14; (with_reducible refine (CR2.out _ (by (repeat' (first | (with_reducible exact Below.refl _ _) | (with_reducible refine Below.setCell ?_ (by first | omega | (simp; done) | (simp; omega)) _) | (with_reducible refine Below.alloc ?_ (by first | omega | (simp; done) | (simp; omega)) _) | (with_reducible refine Below.drew ?_) | (with_reducible refine below_drewN ?_ _) | (with_reducible refine Below.trans ?_ (Below.mono (by assumption) (by first | omega | (simp; done) | (simp; omega)))))))).mono ?_); rintro e w2 ⟨rfl, hb2⟩; obtain ⟨hc2, hf2, hz2⟩ := bcall hb2; (try simp at hc2 hf2 hz2)))
          all_goals (rename_i hX; clear hX)
          go_wp2_with fail
          have hb21 := hb01.out
          have hz01 := hb21.size
          have q2 : w2.cell? ⟨gq, k, none⟩ = some (.int .i64 B) := (hb2.cell (p := ⟨gq, k, none⟩) (show gq < w1.heap.size by omega)).trans ((hb21.cell (p := ⟨gq, k, none⟩) lq2).trans q0)
          have p2 : w2.cell? ⟨gp, k, none⟩ = some (.int .i64 A) := (hb2.cell (p := ⟨gp, k, none⟩) (show gp < w1.heap.size by omega)).trans ((hb21.cell (p := ⟨gp, k, none⟩) lp2).trans p0)
          clear p0 q0 hc2 hf2 hc hf
          go_quiet (fail)
          go_wp2
          go_roundw
          case rel =>
            refine ⟨k + 1, by omega, by rw [HM.out], Lib.hid ?_⟩
            have hr := HR.out
            (repeat' (first | (with_reducible exact Below.refl _ _) | (with_reducible refine Below.setCell ?_ (by first | omega | (simp; done) | (simp; omega)) _) | (with_reducible refine Below.alloc ?_ (by first | omega | (simp; done) | (simp; omega)) _) | (with_reducible refine Below.drew ?_) | (with_reducible refine below_drewN ?_ _) | (with_reducible refine Below.trans ?_ (Below.mono (by assumption) (by first | omega | (simp; done) | (simp; omega))))))
          case measure => have := HM.out; simp [Go.RowKit.intOf]; omega
        · obtain rfl : k = L := by omega
          have HBr := Lib.hid (HB.out.trans ((HBq.out.trans (HR.out.mono HBq.out.size)).mono HB.out.size))
          go_wp2
          go_roundw
          case rel => exact ⟨a + 1, by omega, by go_num, HBr⟩
          case measure => simp [Go.RowKit.intOf]; omega
    · obtain rfl : a = 2 := by omega
      have hso := HB.out.size
      have g0 := u1.c0
      have g1 := u1.c1
      have g2 := u1.c2
      have k0 := u3.c0
      have k1 := u3.c1
      have k2 := u3.c2
      have DNo := Lib.hid (fun wx (hx : Below wo.heap.size wo wx) => DN.out wx (HB.out.trans (hx.mono hso)))
      have DQo := Lib.hid (fun wx (hx : Below wo.heap.size wo wx) => DQ.out wx (HB.out.trans (hx.mono hso)))
      have MNo := Lib.hid (fun wx (hx : Below wo.heap.size wo wx) => MN.out wx (HB.out.trans (hx.mono hso)))
      have MQo := Lib.hid (fun wx (hx : Below wo.heap.size wo wx) => MQ.out wx (HB.out.trans (hx.mono hso)))
      have l11 := u1.lt
      have l31 := u3.lt
      obtain ⟨z1, hz1⟩ : ∃ z, z = ltN (wt G n) n := ⟨_, rfl⟩
      obtain ⟨z2, hz2⟩ : ∃ z : Int, z = ((ltD (wt G n) n : Nat) : Int) := ⟨_, rfl⟩
      obtain ⟨z3, hz3⟩ : ∃ z, z = imE G n := ⟨_, rfl⟩
      obtain ⟨z4, hz4⟩ : ∃ z, z = imN G n := ⟨_, rfl⟩
      rw [← hz1, ← hz2] at DNo DQo
      rw [← hz3, ← hz4] at MNo MQo
      clear hz1 hz2 hz3 hz4 u1 u3 CR PF PQ DN DQ MN MQ
      go_wp2_with (first | (go_at_call 15; (with_reducible refine (DNo.out _ (by (repeat' (first | (with_reducible exact Below.refl _ _) | (with_reducible refine Below.setCell ?_ (by first | omega | (simp; done) | (simp; omega)) _) | (with_reducible refine Below.alloc ?_ (by first | omega | (simp; done) | (simp; omega)) _) | (with_reducible refine Below.drew ?_) | (with_reducible refine below_drewN ?_ _) | (with_reducible refine Below.trans ?_ (Below.mono (by assumption) (by first | omega | (simp; done) | (simp; omega)))))))).mono ?_); rintro e w1 ⟨rfl, hb⟩; obtain ⟨hc, hf, hz⟩ := bcall hb; (try simp at hc hf hz)) | (go_at_call 15; (with_reducible refine (DQo.out _ (by (repeat' (first | (with_reducible exact Below.refl _ _) | (with_reducible refine Below.setCell ?_ (by first | omega | (simp; done) | (simp; omega)) _) | (with_reducible refine Below.alloc ?_ (by first | omega | (simp; done) | (simp; omega)) _) | (with_reducible refine Below.drew ?_) | (with_reducible refine below_drewN ?_ _) | (with_reducible refine Below.trans ?_ (Below.mono (by assumption) (by first | omega | (simp; done) | (simp; omega)))))))).mono ?_); rintro e w1 ⟨rfl, hb⟩; obtain ⟨hc, hf, hz⟩ := bcall hb; (try simp at hc hf hz)))
      have hb7 := hb
      go_wp2_with (first | (go_at_call 16; (with_reducible refine (MNo.out _ (by (repeat' (first | (with_reducible exact Below.refl _ _) | (with_reducible refine Below.setCell ?_ (by first | omega | (simp; done) | (simp; omega)) _) | (with_reducible refine Below.alloc ?_ (by first | omega | (simp; done) | (simp; omega)) _) | (with_reducible refine Below.drew ?_) | (with_reducible refine below_drewN ?_ _) | (with_reducible refine Below.trans ?_ (Below.mono (by assumption) (by first | omega | (simp; done) | (simp; omega)))))))).mono ?_); rintro e w1 ⟨rfl, hb⟩; obtain ⟨hc, hf, hz⟩ := bcall hb; (try simp at hc hf hz)) | (go_at_call 16; (with_reducible refine (MQo.out _ (by (repeat' (first | (with_reducible exact Below.refl _ _) | (with_reducible refine Below.setCell ?_ (by first | omega | (simp; done) | (simp; omega)) _) | (with_reducible refine Below.alloc ?_ (by first | omega | (simp; done) | (simp; omega)) _) | (with_reducible refine Below.drew ?_) | (with_reducible refine below_drewN ?_ _) | (with_reducible refine Below.trans ?_ (Below.mono (by assumption) (by first | omega | (simp; done) | (simp; omega)))))))).mono ?_); rintro e w1 ⟨rfl, hb⟩; obtain ⟨hc, hf, hz⟩ := bcall hb; (try simp at hc hf hz)) | (go_at_call 11; (with_reducible refine (awake8_any _).mono ?_); rintro e w1 ⟨rfl, hb⟩; obtain ⟨hc, hf, hz⟩ := bcall hb; (try simp at hc hf hz)))
      have hwo : Below w.heap.size w wo := HBW.out.trans (HB.out.mono HBW.out.size)
      go_ret
      refine ⟨rfl, ?_⟩
      (repeat' (first | (with_reducible exact Below.refl _ _) | (with_reducible refine Below.setCell ?_ (by first | omega | (simp; done) | (simp; omega)) _) | (with_reducible refine Below.alloc ?_ (by first | omega | (simp; done) | (simp; omega)) _) | (with_reducible refine Below.drew ?_) | (with_reducible refine below_drewN ?_ _) | (with_reducible refine Below.trans ?_ (Below.mono (by assumption) (by first | omega | (simp; done) | (simp; omega))))))

set_option maxRecDepth 100000 in
set_option maxHeartbeats 2000000 in
theorem topCont_inv (W H : Int) (ao : Option Addr) (n cap : Nat) (G : Nat → Nat → Int) (w : World) (hn : n ≤ 100) (hC : CellsIn w ao n G) (hv : ¬ VG W H n G) :
    Calls Tryd.prog 3 #[.agg #[.int .i64 W, .int .i64 H, .slice (ao) n cap]] w fun e w' => e = .returned (.bool true) ∧ Below w.heap.size w w' := by
  have RV := Lib.hid (fun wx (hb : Below w.heap.size w wx) => rValid_bad W H ao n cap G wx hv (hC.below hb))
  have hn2 : (n : Int) ≤ 100 := by omega
  clear hv hC
  go_enter Tryd.func3, Tryd.ntmps3
  go_wp2_with (first | (go_at_call 10; (with_reducible refine (RV.out _ (by (repeat' (first | (with_reducible exact Below.refl _ _) | (with_reducible refine Below.setCell ?_ (by first | omega | (simp; done) | (simp; omega)) _) | (with_reducible refine Below.alloc ?_ (by first | omega | (simp; done) | (simp; omega)) _) | (with_reducible refine Below.drew ?_) | (with_reducible refine below_drewN ?_ _) | (with_reducible refine Below.trans ?_ (Below.mono (by assumption) (by first | omega | (simp; done) | (simp; omega)))))))).mono ?_); rintro e w1 ⟨rfl, hb⟩; obtain ⟨hc, hf, hz⟩ := bcall hb; (try simp at hc hf hz)) | (go_at_call 11; (with_reducible refine (awake8_any _).mono ?_); rintro e w1 ⟨rfl, hb⟩; obtain ⟨hc, hf, hz⟩ := bcall hb; (try simp at hc hf hz)))
  go_ret
  refine ⟨rfl, ?_⟩
  (repeat' (first | (with_reducible exact Below.refl _ _) | (with_reducible refine Below.setCell ?_ (by first | omega | (simp; done) | (simp; omega)) _) | (with_reducible refine Below.alloc ?_ (by first | omega | (simp; done) | (simp; omega)) _) | (with_reducible refine Below.drew ?_) | (with_reducible refine below_drewN ?_ _) | (with_reducible refine Below.trans ?_ (Below.mono (by assumption) (by first | omega | (simp; done) | (simp; omega))))))
set_option maxRecDepth 100000 in
set_option maxHeartbeats 2000000 in
theorem topCont_big (W H : Int) (ao : Option Addr) (n cap : Nat) (w : World) (hn : 100 < n) (hm : n ≤ 9223372036854775807) :
    Calls Tryd.prog 3 #[.agg #[.int .i64 W, .int .i64 H, .slice (ao) n cap]] w fun e w' => e = .returned (.bool true) ∧ Below w.heap.size w w' := by
  have hn2 : (100 : Int) < (n : Int) := by omega
  go_enter Tryd.func3, Tryd.ntmps3
  go_wp2_with (go_at_call 11; (with_reducible refine (awake8_any _).mono ?_); rintro e w1 ⟨rfl, hb⟩; obtain ⟨hc, hf, hz⟩ := bcall hb; (try simp at hc hf hz))
  go_ret
  refine ⟨rfl, ?_⟩
  (repeat' (first | (with_reducible exact Below.refl _ _) | (with_reducible refine Below.setCell ?_ (by first | omega | (simp; done) | (simp; omega)) _) | (with_reducible refine Below.alloc ?_ (by first | omega | (simp; done) | (simp; omega)) _) | (with_reducible refine Below.drew ?_) | (with_reducible refine below_drewN ?_ _) | (with_reducible refine Below.trans ?_ (Below.mono (by assumption) (by first | omega | (simp; done) | (simp; omega))))))
theorem topContinuity_any (W H : Int) (ao : Option Addr) (n cap : Nat) (G : Nat → Nat → Int) (w : World) (hA : Acr w) (_ : Wf W) (_ : Wf H) (hn : n ≤ cap) (hm : cap ≤ maxLen) (hC : CellsIn w ao n G) :
    Calls Tryd.prog 3 #[.agg #[.int .i64 W, .int .i64 H, .slice (ao) n cap]] w fun e w' => e = .returned (.bool true) ∧ Below w.heap.size w w' := by
  unfold maxLen at hm
  by_cases hs : n ≤ 100
  · by_cases hv : VG W H n G
    · obtain ⟨W', H', rfl, rfl, s, hG⟩ := Sides.vg hv
      obtain ⟨b, off, rfl, hlt, hGr⟩ := cells_of s hC
      exact topCont_ok W' H' n cap b off G w s hG hlt hGr hs hA
    · exact topCont_inv W H ao n cap G w hs hC hv
  · exact topCont_big W H ao n cap w (by omega) (by omega)
end Go.Proofs.YtmpfchgampiohaaDoor
