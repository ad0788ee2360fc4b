/- Runs of mixes: the rounds, by the reference. -/
import Derived.Test.YtmkhbkkhoemkoaaGreatDoorKRefR
namespace Go.Proofs.YtmkhbkkhoemkoaaGreatDoor
set_option linter.unusedSimpArgs false
set_option linter.unusedVariables false
open Go.RowKit

set_option maxRecDepth 100000 in
set_option maxHeartbeats 16000000 in
theorem rRunM_ok (W H n a oa ca b ob cb : Nat) (P : MG) (ro : Option Addr) (len rc : Nat) (R : Nat → Int × Int) (so : Option Addr) (len2 sc : Nat) (S : Nat → Int × Int) (t c : Nat) (w : World) (s : Sides W H n) (h : MOk W H n P n len R len2 S) (LA : a < w.heap.size) (LB : b < w.heap.size) (hA : Grd w a oa n P.1) (hB : Grd w b ob n P.2) (hR : RulesIn w ro len R) (hS : RulesIn w so len2 S) (hr : RunOk t c) :
    Calls Tryz.prog 14 #[.agg #[.int .i64 W, .int .i64 H, .slice (some ⟨a, oa, none⟩) n ca, .slice (some ⟨b, ob, none⟩) n cb], .slice ro len rc, .slice so len2 sc, .int .i64 t, .int .i64 c] w (MadeM W H n (runM (mfwd W H len len2 R S) t c P).1 (runM (mfwd W H len len2 R S) t c P).2 w) := by
  have hm1 : len ≤ 8 := h.1.2.2.1
  have hm2 : len2 ≤ 8 := h.2.2.1
  have cA : CellsIn w (some ⟨a, oa, none⟩) n P.1 := .inr ⟨a, oa, rfl, LA, hA⟩
  have cB : CellsIn w (some ⟨b, ob, none⟩) n P.2 := .inr ⟨b, ob, rfl, LB, hB⟩
  have E := Lib.hid (fun wx (hb : Below w.heap.size w wx) => runErrM W H (some ⟨a, oa, none⟩) n ca P (some ⟨b, ob, none⟩) n cb ro len rc R so len2 sc S t c 0 wx (by omega) (by omega) (.inl ⟨rfl, h, hr⟩) (cA.below hb) (cB.below hb) (hR.below hb) (hS.below hb))
  have D := Lib.hid (fun wx (hb : Below w.heap.size w wx) => rcopied_any W H (some ⟨a, oa, none⟩) n ca P.1 (some ⟨b, ob, none⟩) cb P.2 wx h.1.1.1.1 h.1.1.1.2 (cA.below hb) (cB.below hb))
  have hc' : c ≤ 1000 := by unfold RunOk at hr; omega
  have ht : t ≤ 1000000 := by unfold RunOk at hr; omega
  have SD := Lib.hid s
  have HP := Lib.hid h.1.1.ok
  have HK := Lib.hid h.1.2
  have HL := Lib.hid h.2
  have HR := Lib.hid hR
  have HS := Lib.hid hS
  clear hA hB cA cB hR hS s h hr
  go_enter Tryz.func14, Tryz.ntmps14
  go_wp2_with (first | (go_at_call 24; (with_reducible refine (E.out _ (by (repeat' (first | (with_reducible exact Below.refl _ _) | (with_reducible refine Below.setCell ?_ (by first | omega | (simp; done) | (simp; omega)) _) | (with_reducible refine Below.alloc ?_ (by first | omega | (simp; done) | (simp; omega)) _) | (with_reducible refine Below.drew ?_) | (with_reducible refine below_drewN ?_ _) | (with_reducible refine Below.trans ?_ (Below.mono (by assumption) (by first | omega | (simp; done) | (simp; omega)))))))).mono ?_); rintro e w1 ⟨rfl, hb⟩; obtain ⟨hc, hf, hz⟩ := bcall hb; (try simp at hc hf hz)) | (go_at_call 25; (with_reducible refine (D.out _ (by (repeat' (first | (with_reducible exact Below.refl _ _) | (with_reducible refine Below.setCell ?_ (by first | omega | (simp; done) | (simp; omega)) _) | (with_reducible refine Below.alloc ?_ (by first | omega | (simp; done) | (simp; omega)) _) | (with_reducible refine Below.drew ?_) | (with_reducible refine below_drewN ?_ _) | (with_reducible refine Below.trans ?_ (Below.mono (by assumption) (by first | omega | (simp; done) | (simp; omega)))))))).mono ?_); rintro e wp ⟨ap, bp, cp, dp, rfl, Rp, lap, lbp, hb⟩; obtain ⟨hc, hf, hz⟩ := bcall hb; (try simp at hc hf hz lap lbp)))
  have HI := Lib.hid (show RunSt w W H n P ap cp bp dp ((((wp.setCell ⟨w.heap.size, 0, none⟩ (.int .i64 W)).setCell ⟨w.heap.size, 1, none⟩ (.int .i64 H)).setCell ⟨w.heap.size, 2, none⟩ (.slice (some ⟨ap, 0, none⟩) n cp)).setCell ⟨w.heap.size, 3, none⟩ (.slice (some ⟨bp, 0, none⟩) n dp)) from runSt_init (by (repeat' (first | (with_reducible exact Below.refl _ _) | (with_reducible refine Below.setCell ?_ (by first | omega | (simp; done) | (simp; omega)) _) | (with_reducible refine Below.alloc ?_ (by first | omega | (simp; done) | (simp; omega)) _) | (with_reducible refine Below.drew ?_) | (with_reducible refine below_drewN ?_ _) | (with_reducible refine Below.trans ?_ (Below.mono (by assumption) (by first | omega | (simp; done) | (simp; omega))))))) Rp.out (by omega) (by omega))
  clear hc hf hz hb E D Rp
  obtain ⟨w0, hw0⟩ : ∃ w0, w0 = (((wp.setCell ⟨w.heap.size, 0, none⟩ (.int .i64 W)).setCell ⟨w.heap.size, 1, none⟩ (.int .i64 H)).setCell ⟨w.heap.size, 2, none⟩ (.slice (some ⟨ap, 0, none⟩) n cp)).setCell ⟨w.heap.size, 3, none⟩ (.slice (some ⟨bp, 0, none⟩) n dp) := ⟨_, rfl⟩
  rw [← hw0] at HI
  rw [← hw0]
  clear hw0
  go_loopw [13] (fun i wr => ∃ (j aa ca bb cb : Nat), j ≤ c ∧ i = .int .i64 j ∧ Hid (RunSt w W H n (runM (mfwd W H len len2 R S) t j P) aa ca bb cb wr)) (fun i _ => c - (intOf i).toNat)
  case atStart => exact ⟨0, ap, cp, bp, dp, Nat.zero_le _, rfl, HI⟩
  case round =>
    obtain ⟨j, aa, ca, bb, cb, hj, rfl, HH⟩ := hrel
    have Q := okM_runs (len := len) (len2 := len2) (R := R) (S := S) (t := t) (c := j) SD.out.n0 HP.out
    obtain ⟨K, hK⟩ : ∃ K, K = runM (mfwd W H len len2 R S) t j P := ⟨_, rfl⟩
    rw [← hK] at HH Q
    have HKK := Lib.hid hK; clear hK
    by_cases hlj : j < c
    · have f1 := HH.out.1
      have b0 := f1.c0
      have b1 := f1.c1
      have b2 := f1.c2
      have b3 := f1.c3
      have g0 := f1.free 0
      have g1 := f1.free 1
      have g2 := f1.free 2
      have g3 := f1.free 3
      have lg := f1.lt
      have r1 := HH.out.2.1.1
      have r2 := HH.out.2.1.2.1
      have D1 := Lib.hid (fun wx (hb : Below wr.heap.size wr wx) => rstepM W H n aa 0 ca bb 0 cb K (R ((t + j) % len)).1 (R ((t + j) % len)).2 (S ((t + j) % len2)).1 (S ((t + j) % len2)).2 wx SD.out Q (HK.out.at (t + j)) (HL.out.at (t + j)) (Nat.lt_of_lt_of_le r1.1 hb.size) (Nat.lt_of_lt_of_le r2.1 hb.size) (r1.grd.below hb r1.1) (r2.grd.below hb r2.1))
      have hBw := HH.out.2.2.2.1
      have e1 : IntKind.i64.wrap ((t : Int) + (j : Int)) = (t : Int) + (j : Int) := IntWalk.i64_in _ ⟨by omega, by omega⟩
      have RL := Lib.hid (fun (z : Int) wx (hb : Below wr.heap.size wr wx) (ez : z = ((t + j : Nat) : Int)) => refRuleI_int ro len rc (t + j) z R wx (HR.out.below (hBw.trans (hb.mono hBw.size))) HK.out (by omega) ez)
      have RM := Lib.hid (fun (z : Int) wx (hb : Below wr.heap.size wr wx) (ez : z = ((t + j : Nat) : Int)) => refRuleI_int so len2 sc (t + j) z S wx (HS.out.below (hBw.trans (hb.mono hBw.size))) HL.out (by omega) ez)
      clear f1 r1 r2 Q hBw
      go_wp2
      go_region_with (first | (go_at_call 27; (with_reducible refine (RL.out _ _ (by (repeat' (first | (with_reducible exact Below.refl _ _) | (with_reducible refine Below.setCell ?_ (by first | omega | (simp; done) | (simp; omega)) _) | (with_reducible refine Below.alloc ?_ (by first | omega | (simp; done) | (simp; omega)) _) | (with_reducible refine Below.drew ?_) | (with_reducible refine below_drewN ?_ _) | (with_reducible refine Below.trans ?_ (Below.mono (by assumption) (by first | omega | (simp; done) | (simp; omega))))))) (by omega)).mono ?_); rintro e wq ⟨rfl, hbq⟩; obtain ⟨hcq, hfq, hzq⟩ := bcall hbq; (try simp at hcq hfq hzq)) | (go_at_call 27; (with_reducible refine (RM.out _ _ (by (repeat' (first | (with_reducible exact Below.refl _ _) | (with_reducible refine Below.setCell ?_ (by first | omega | (simp; done) | (simp; omega)) _) | (with_reducible refine Below.alloc ?_ (by first | omega | (simp; done) | (simp; omega)) _) | (with_reducible refine Below.drew ?_) | (with_reducible refine below_drewN ?_ _) | (with_reducible refine Below.trans ?_ (Below.mono (by assumption) (by first | omega | (simp; done) | (simp; omega))))))) (by omega)).mono ?_); rintro e wq ⟨rfl, hbq⟩; obtain ⟨hcq, hfq, hzq⟩ := bcall hbq; (try simp at hcq hfq hzq)) | (go_at_call 26; (with_reducible refine (D1.out _ (by (repeat' (first | (with_reducible exact Below.refl _ _) | (with_reducible refine Below.setCell ?_ (by first | omega | (simp; done) | (simp; omega)) _) | (with_reducible refine Below.alloc ?_ (by first | omega | (simp; done) | (simp; omega)) _) | (with_reducible refine Below.drew ?_) | (with_reducible refine below_drewN ?_ _) | (with_reducible refine Below.trans ?_ (Below.mono (by assumption) (by first | omega | (simp; done) | (simp; omega)))))))).mono ?_); rintro e wp ⟨ap, bp, cp, dp, rfl, Rp, lap, lbp, hb⟩; obtain ⟨hc, hf, hz⟩ := bcall hb; (try simp at hc hf hz lap lbp)))
      all_goals
        have HX := Lib.hid (show Below wr.heap.size wr wp from by (repeat' (first | (with_reducible exact Below.refl _ _) | (with_reducible refine Below.setCell ?_ (by first | omega | (simp; done) | (simp; omega)) _) | (with_reducible refine Below.alloc ?_ (by first | omega | (simp; done) | (simp; omega)) _) | (with_reducible refine Below.drew ?_) | (with_reducible refine below_drewN ?_ _) | (with_reducible refine Below.trans ?_ (Below.mono (by assumption) (by first | omega | (simp; done) | (simp; omega)))))))
        clear hc hf b0 b1 b2 b3 g0 g1 g2 g3 D1 RL RM
        first | (rename_i Q9 K9 a9; refine a9 _ _ ?_) | (rename_i Q9 K9 a9 z1; refine a9 _ _ ?_) | (rename_i Q9 K9 a9 z1 z2; refine a9 _ _ ?_) | (rename_i Q9 K9 a9 z1 z2 z3; refine a9 _ _ ?_) | (rename_i Q9 K9 a9 z1 z2 z3 z4; refine a9 _ _ ?_) | (rename_i Q9 K9 a9 z1 z2 z3 z4 z5; refine a9 _ _ ?_) | (rename_i Q9 K9 a9 z1 z2 z3 z4 z5 z6; refine a9 _ _ ?_) | (rename_i Q9 K9 a9 z1 z2 z3 z4 z5 z6 z7; refine a9 _ _ ?_) | (rename_i Q9 K9 a9 z1 z2 z3 z4 z5 z6 z7 z8; refine a9 _ _ ?_)
        dsimp +zetaDelta only
        go_wp2
        go_roundw
        case rel =>
          refine ⟨j + 1, ap, cp, bp, dp, by omega, by go_num, Lib.hid ?_⟩
          have e : runM (mfwd W H len len2 R S) t (j + 1) P = mfwd W H len len2 R S (t + j) K := by rw [HKK.out]; rfl
          rw [e]
          exact runSt_round HH.out HX.out Rp.out (by omega) (by omega) rfl rfl
        case measure => simp [intOf]; omega
    · obtain rfl : c = j := by omega
      have f1 := HH.out.1
      have f2 := HH.out.2.2.1
      have b0 := f1.c0
      have b1 := f1.c1
      have b2 := f1.c2
      have b3 := f1.c3
      have p0 := f2.free 0
      have p1 := f2.free 1
      have p2 := f2.free 2
      have p3 := f2.free 3
      have q0 := f2.c0
      have q1 := f2.c1
      have q2 := f2.c2
      have q3 := f2.c3
      have lg := f1.lt
      have lf := f2.lt
      clear f1 f2
      go_wp2
      refine bodyPost_ret (v := .tuple #[.agg #[.int .i64 W, .int .i64 H, .slice (some ⟨aa, 0, none⟩) n ca, .slice (some ⟨bb, 0, none⟩) n cb], .int .i64 0]) (by simp [results, Tryz.results14, go_sem, ↓IntWalk.iteOmega, *]) rfl ?_
      rw [← HKK.out]
      exact madeM_pass HH.out.2.1 HH.out.2.2.2.1 (by omega) (by have := HH.out.2.2.2.2.1; omega) (by have := HH.out.2.2.2.2.2; omega)
end Go.Proofs.YtmkhbkkhoemkoaaGreatDoor
