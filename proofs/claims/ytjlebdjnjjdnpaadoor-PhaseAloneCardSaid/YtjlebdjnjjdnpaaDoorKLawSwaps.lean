/- The law PhaseSwaps: the walk. -/
import Derived.Test.YtjlebdjnjjdnpaaDoorKLaw4
namespace Go.Proofs.YtjlebdjnjjdnpaaDoor
set_option linter.unusedSimpArgs false
set_option linter.unusedVariables false
open Go.RowKit

theorem rules_one {w : World} {b : Nat} {k y : Int} (h0 : w.cell? ⟨b, 0, none⟩ = some (.int .i64 k)) (h1 : w.cell? ⟨b, 1, none⟩ = some (.int .i64 y)) : RulesIn w (some ⟨b, 0, none⟩) 1 (fun _ => (k, y)) :=
  .inr ⟨b, 0, rfl, block_lt h0, fun i hi => by
    obtain rfl : i = 0 := by omega
    exact ⟨h0, h1⟩⟩
theorem okRs_one {k y : Int} (h : OkR k y) : OkRs 1 (fun _ => (k, y)) := ⟨Nat.le_refl _, by omega, fun _ _ => h⟩

set_option maxRecDepth 100000 in
set_option maxHeartbeats 8000000 in
theorem phaseSwaps_ok (W H : Int) (ao : Option Addr) (n c : Nat) (P : MG) (bo : Option Addr) (d : Nat) (ro : Option Addr) (len rc : Nat) (R : Nat → Int × Int) (k y : Int) (w : World) (hT : Ends w) (hn : n ≤ 400) (hl : len ≤ 20) (hv : VM W H n P.1 n P.2) (hk : OkRs len R) (hky : (k = 0 ∨ k = 1) ∧ y = 0) (hA : CellsIn w ao n P.1) (hB : CellsIn w bo n P.2) (hR : RulesIn w ro len R) :
    Calls Tryd.prog 7 #[.agg #[.int .i64 W, .int .i64 H, .slice (ao) n c, .slice (bo) n d], .slice ro len rc, .agg #[.int .i64 k, .int .i64 y]] w fun e w' => e = .returned (.bool true) ∧ Below w.heap.size w w' := by
  have hsd := hv.sides
  have hm : MOk W H n P n len R 1 (fun _ => (k, y)) := ⟨⟨hv, hk⟩, okRs_one (.inl hky)⟩
  obtain ⟨F, hF⟩ : ∃ F, F = mfwd W.toNat H.toNat len 1 R (fun _ => (k, y)) 3 P := ⟨_, rfl⟩
  have okF : OkM n F := by rw [hF]; exact okM_mfwd hsd hv.ok
  have eF : mfwd W.toNat H.toNat len 1 R (fun _ => (k, y)) 3 (P.2, P.1) = (F.2, F.1) := by rw [hF]; exact fwd_swap _ _ _ _ hky P
  have HV := Lib.hid hv
  have HVF := Lib.hid (hv.of okF)
  have okW : OkM n (P.2, P.1) := ⟨⟨hv.ok.1.2, hv.ok.1.1⟩, by have := hv.2; show wt P.2 n + wt P.1 n ≤ _; omega⟩
  have ST := Lib.hid (fun (q sc : Nat) wx (hb : Below w.heap.size w wx) hS => mStep_any W H ao n c P bo n d ro len rc R (some ⟨q, 0, none⟩) 1 sc (fun _ => (k, y)) 3 wx hm (hA.below hb) (hB.below hb) (hR.below hb) hS (hT.below hb) ⟨by omega, by omega⟩)
  have SW := Lib.hid (fun (a b c' d' q sc : Nat) wx (hb : Below w.heap.size w wx) h1 h2 hS => mStep_any W H (some ⟨a, 0, none⟩) n c' (P.2, P.1) (some ⟨b, 0, none⟩) n d' ro len rc R (some ⟨q, 0, none⟩) 1 sc (fun _ => (k, y)) 3 wx (hm.of okW) h1 h2 (hR.below hb) hS (hT.below hb) ⟨by omega, by omega⟩)
  rw [show (3 : Int).toNat = 3 from rfl, ← hF] at ST
  rw [show (3 : Int).toNat = 3 from rfl, eF] at SW
  have HA := Lib.hid hA
  have HB := Lib.hid hB
  have HT := Lib.hid hT
  have dk : (k == 2) = false := by simp; omega
  have dl : decide ((20 : Int) < (len : Int)) = false := by simp; omega
  clear hF eF okF okW hA hB hR hm hk hv hT hsd hky
  go_enter Tryd.func7, Tryd.ntmps7
  go_wp2_with (go_at_call 10; (with_reducible refine (small4_yes W H ao n c bo n d 400 _ (by omega) (by omega) (by omega) (by omega)).mono ?_); rintro e w1 ⟨rfl, hb⟩; obtain ⟨hc, hf, hz⟩ := bcall hb; (try simp at hc hf hz))
  have RS := Lib.hid (rules_one (w := w1.alloc (.cells #[.int .i64 k, .int .i64 y] 51)) (b := w1.heap.size) (k := k) (y := y) (by simp) (by simp))
  (go_at_call 37; (with_reducible refine (ST.out _ _ _ (by (repeat' (first | (with_reducible exact Below.refl _ _) | (with_reducible refine Below.setCell ?_ (by first | omega | (simp; done) | (simp; omega)) _) | (with_reducible refine Below.alloc ?_ (by first | omega | (simp; done) | (simp; omega)) _) | (with_reducible refine Below.drew ?_) | (with_reducible refine below_drewN ?_ _) | (with_reducible refine Below.trans ?_ (Below.mono (by assumption) (by first | omega | (simp; done) | (simp; omega))))))) RS.out).mono ?_); rintro e wp ⟨ap, bp, cp, dp, rfl, Rp, lap, lbp, hb⟩; obtain ⟨hc, hf, hz⟩ := bcall hb; (try simp at hc hf hz lap lbp))
  have CF := Lib.hid (show CellsIn wp (some ⟨ap, 0, none⟩) n F.1 ∧ CellsIn wp (some ⟨bp, 0, none⟩) n F.2 from ⟨Rp.out.1.cellsIn, Rp.out.2.1.cellsIn⟩)
  go_wp2_with fail
  (go_at_call 26; (with_reducible refine (swapped_ok W H (some ⟨ap, 0, none⟩) n cp F.1 (some ⟨bp, 0, none⟩) dp F.2 _ HVF.out (CF.out.1.below (by (repeat' (first | (with_reducible exact Below.refl _ _) | (with_reducible refine Below.setCell ?_ (by first | omega | (simp; done) | (simp; omega)) _) | (with_reducible refine Below.alloc ?_ (by first | omega | (simp; done) | (simp; omega)) _) | (with_reducible refine Below.drew ?_) | (with_reducible refine below_drewN ?_ _) | (with_reducible refine Below.trans ?_ (Below.mono (by assumption) (by first | omega | (simp; done) | (simp; omega)))))))) (CF.out.2.below (by (repeat' (first | (with_reducible exact Below.refl _ _) | (with_reducible refine Below.setCell ?_ (by first | omega | (simp; done) | (simp; omega)) _) | (with_reducible refine Below.alloc ?_ (by first | omega | (simp; done) | (simp; omega)) _) | (with_reducible refine Below.drew ?_) | (with_reducible refine below_drewN ?_ _) | (with_reducible refine Below.trans ?_ (Below.mono (by assumption) (by first | omega | (simp; done) | (simp; omega))))))))).mono ?_); rintro e wq ⟨aq, bq, cq, dq, rfl, Rq, laq, lbq, hb⟩; obtain ⟨hc, hf, hz⟩ := bcall hb; (try simp at hc hf hz laq lbq))
  have CQ := Lib.hid (show CellsIn wq (some ⟨aq, 0, none⟩) n F.2 ∧ CellsIn wq (some ⟨bq, 0, none⟩) n F.1 from ⟨Rq.out.1.cellsIn, Rq.out.2.1.cellsIn⟩)
  go_wp2_with fail
  (go_at_call 26; (with_reducible refine (swapped_ok W H ao n c P.1 bo d P.2 _ HV.out (HA.out.below (by (repeat' (first | (with_reducible exact Below.refl _ _) | (with_reducible refine Below.setCell ?_ (by first | omega | (simp; done) | (simp; omega)) _) | (with_reducible refine Below.alloc ?_ (by first | omega | (simp; done) | (simp; omega)) _) | (with_reducible refine Below.drew ?_) | (with_reducible refine below_drewN ?_ _) | (with_reducible refine Below.trans ?_ (Below.mono (by assumption) (by first | omega | (simp; done) | (simp; omega)))))))) (HB.out.below (by (repeat' (first | (with_reducible exact Below.refl _ _) | (with_reducible refine Below.setCell ?_ (by first | omega | (simp; done) | (simp; omega)) _) | (with_reducible refine Below.alloc ?_ (by first | omega | (simp; done) | (simp; omega)) _) | (with_reducible refine Below.drew ?_) | (with_reducible refine below_drewN ?_ _) | (with_reducible refine Below.trans ?_ (Below.mono (by assumption) (by first | omega | (simp; done) | (simp; omega))))))))).mono ?_); rintro e wv ⟨av, bv, cv, dv, rfl, Rv, lav, lbv, hb⟩; obtain ⟨hc, hf, hz⟩ := bcall hb; (try simp at hc hf hz lav lbv))
  have CV := Lib.hid (show CellsIn wv (some ⟨av, 0, none⟩) n P.2 ∧ CellsIn wv (some ⟨bv, 0, none⟩) n P.1 from ⟨Rv.out.1.cellsIn, Rv.out.2.1.cellsIn⟩)
  go_wp2_with fail
  (go_at_call 37; (with_reducible refine (SW.out av bv cv dv _ _ _ (by (repeat' (first | (with_reducible exact Below.refl _ _) | (with_reducible refine Below.setCell ?_ (by first | omega | (simp; done) | (simp; omega)) _) | (with_reducible refine Below.alloc ?_ (by first | omega | (simp; done) | (simp; omega)) _) | (with_reducible refine Below.drew ?_) | (with_reducible refine below_drewN ?_ _) | (with_reducible refine Below.trans ?_ (Below.mono (by assumption) (by first | omega | (simp; done) | (simp; omega))))))) (CV.out.1.below (by (repeat' (first | (with_reducible exact Below.refl _ _) | (with_reducible refine Below.setCell ?_ (by first | omega | (simp; done) | (simp; omega)) _) | (with_reducible refine Below.alloc ?_ (by first | omega | (simp; done) | (simp; omega)) _) | (with_reducible refine Below.drew ?_) | (with_reducible refine below_drewN ?_ _) | (with_reducible refine Below.trans ?_ (Below.mono (by assumption) (by first | omega | (simp; done) | (simp; omega)))))))) (CV.out.2.below (by (repeat' (first | (with_reducible exact Below.refl _ _) | (with_reducible refine Below.setCell ?_ (by first | omega | (simp; done) | (simp; omega)) _) | (with_reducible refine Below.alloc ?_ (by first | omega | (simp; done) | (simp; omega)) _) | (with_reducible refine Below.drew ?_) | (with_reducible refine below_drewN ?_ _) | (with_reducible refine Below.trans ?_ (Below.mono (by assumption) (by first | omega | (simp; done) | (simp; omega)))))))) (RS.out.below (by (repeat' (first | (with_reducible exact Below.refl _ _) | (with_reducible refine Below.setCell ?_ (by first | omega | (simp; done) | (simp; omega)) _) | (with_reducible refine Below.alloc ?_ (by first | omega | (simp; done) | (simp; omega)) _) | (with_reducible refine Below.drew ?_) | (with_reducible refine below_drewN ?_ _) | (with_reducible refine Below.trans ?_ (Below.mono (by assumption) (by first | omega | (simp; done) | (simp; omega))))))))).mono ?_); rintro e wz ⟨az, bz, cz, dz, rfl, Rz, laz, lbz, hb⟩; obtain ⟨hc, hf, hz⟩ := bcall hb; (try simp at hc hf hz laz lbz))
  have CZ := Lib.hid (show CellsIn wz (some ⟨az, 0, none⟩) n F.2 ∧ CellsIn wz (some ⟨bz, 0, none⟩) n F.1 from ⟨Rz.out.1.cellsIn, Rz.out.2.1.cellsIn⟩)
  go_wp2_with (first | (go_at_call 14; (with_reducible refine (mEqual_yes W H n (some ⟨aq, 0, none⟩) (some ⟨bq, 0, none⟩) (some ⟨az, 0, none⟩) (some ⟨bz, 0, none⟩) cq dq cz dz (F.2, F.1) (F.2, F.1) _ (by omega) (CQ.out.1.below (by (repeat' (first | (with_reducible exact Below.refl _ _) | (with_reducible refine Below.setCell ?_ (by first | omega | (simp; done) | (simp; omega)) _) | (with_reducible refine Below.alloc ?_ (by first | omega | (simp; done) | (simp; omega)) _) | (with_reducible refine Below.drew ?_) | (with_reducible refine below_drewN ?_ _) | (with_reducible refine Below.trans ?_ (Below.mono (by assumption) (by first | omega | (simp; done) | (simp; omega)))))))) (CQ.out.2.below (by (repeat' (first | (with_reducible exact Below.refl _ _) | (with_reducible refine Below.setCell ?_ (by first | omega | (simp; done) | (simp; omega)) _) | (with_reducible refine Below.alloc ?_ (by first | omega | (simp; done) | (simp; omega)) _) | (with_reducible refine Below.drew ?_) | (with_reducible refine below_drewN ?_ _) | (with_reducible refine Below.trans ?_ (Below.mono (by assumption) (by first | omega | (simp; done) | (simp; omega)))))))) (CZ.out.1.below (by (repeat' (first | (with_reducible exact Below.refl _ _) | (with_reducible refine Below.setCell ?_ (by first | omega | (simp; done) | (simp; omega)) _) | (with_reducible refine Below.alloc ?_ (by first | omega | (simp; done) | (simp; omega)) _) | (with_reducible refine Below.drew ?_) | (with_reducible refine below_drewN ?_ _) | (with_reducible refine Below.trans ?_ (Below.mono (by assumption) (by first | omega | (simp; done) | (simp; omega)))))))) (CZ.out.2.below (by (repeat' (first | (with_reducible exact Below.refl _ _) | (with_reducible refine Below.setCell ?_ (by first | omega | (simp; done) | (simp; omega)) _) | (with_reducible refine Below.alloc ?_ (by first | omega | (simp; done) | (simp; omega)) _) | (with_reducible refine Below.drew ?_) | (with_reducible refine below_drewN ?_ _) | (with_reducible refine Below.trans ?_ (Below.mono (by assumption) (by first | omega | (simp; done) | (simp; omega)))))))) (EqM.refl _ _)).mono ?_); rintro e w1 ⟨rfl, hb⟩; obtain ⟨hc, hf, hz⟩ := bcall hb; (try simp at hc hf hz)) | (go_at_call 11; (with_reducible refine (awake4_any _ (HT.out.below (by (repeat' (first | (with_reducible exact Below.refl _ _) | (with_reducible refine Below.setCell ?_ (by first | omega | (simp; done) | (simp; omega)) _) | (with_reducible refine Below.alloc ?_ (by first | omega | (simp; done) | (simp; omega)) _) | (with_reducible refine Below.drew ?_) | (with_reducible refine below_drewN ?_ _) | (with_reducible refine Below.trans ?_ (Below.mono (by assumption) (by first | omega | (simp; done) | (simp; omega))))))))).mono ?_); rintro e w1 ⟨rfl, hb⟩; obtain ⟨hc, hf, hz⟩ := bcall hb; (try simp at hc hf hz)))
  go_ret
  refine ⟨by simp, ?_⟩
  (repeat' (first | (with_reducible exact Below.refl _ _) | (with_reducible refine Below.setCell ?_ (by first | omega | (simp; done) | (simp; omega)) _) | (with_reducible refine Below.alloc ?_ (by first | omega | (simp; done) | (simp; omega)) _) | (with_reducible refine Below.drew ?_) | (with_reducible refine below_drewN ?_ _) | (with_reducible refine Below.trans ?_ (Below.mono (by assumption) (by first | omega | (simp; done) | (simp; omega))))))

set_option maxRecDepth 100000 in
set_option maxHeartbeats 4000000 in
theorem phaseSwaps_err (W H : Int) (ao : Option Addr) (n c : Nat) (bo : Option Addr) (m d : Nat) (ro : Option Addr) (len rc : Nat) (k y : Int) (w : World) (hT : Ends w) (hn : n ≤ 400) (hm : m ≤ 400) (hl : len ≤ 20) (hk : ¬ k = 2)
    (C : ∀ (q sc : Nat) wx, Below w.heap.size w wx → RulesIn wx (some ⟨q, 0, none⟩) 1 (fun _ => (k, y)) → Calls Tryd.prog 93 #[.agg #[.int .i64 W, .int .i64 H, .slice (ao) n c, .slice (bo) m d], .slice ro len rc, .slice (some ⟨q, 0, none⟩) 1 sc, .int .i64 3, .int .i64 1] wx fun e w' => e = .returned (.int .i64 1) ∧ Below wx.heap.size wx w') :
    Calls Tryd.prog 7 #[.agg #[.int .i64 W, .int .i64 H, .slice (ao) n c, .slice (bo) m d], .slice ro len rc, .agg #[.int .i64 k, .int .i64 y]] w fun e w' => e = .returned (.bool true) ∧ Below w.heap.size w w' := by
  have HC := Lib.hid (fun (q sc : Nat) wx (hb : Below w.heap.size w wx) (hS : RulesIn wx (some ⟨q, 0, none⟩) 1 (fun _ => (k, y))) => mStep_err W H ao n c bo m d ro len rc (some ⟨q, 0, none⟩) 1 sc 3 1 wx (by decide) (fun wy hy => C q sc wy (hb.trans (hy.mono hb.size)) (hS.below hy)))
  have HT := Lib.hid hT
  have dk : (k == 2) = false := by simp; omega
  have dl : decide ((20 : Int) < (len : Int)) = false := by simp; omega
  clear C hT hk
  go_enter Tryd.func7, Tryd.ntmps7
  go_wp2_with (go_at_call 10; (with_reducible refine (small4_yes W H ao n c bo m d 400 _ (by omega) (by omega) (by omega) (by omega)).mono ?_); rintro e w1 ⟨rfl, hb⟩; obtain ⟨hc, hf, hz⟩ := bcall hb; (try simp at hc hf hz))
  have RS := Lib.hid (rules_one (w := w1.alloc (.cells #[.int .i64 k, .int .i64 y] 51)) (b := w1.heap.size) (k := k) (y := y) (by simp) (by simp))
  (go_at_call 37; (with_reducible refine (HC.out _ _ _ (by (repeat' (first | (with_reducible exact Below.refl _ _) | (with_reducible refine Below.setCell ?_ (by first | omega | (simp; done) | (simp; omega)) _) | (with_reducible refine Below.alloc ?_ (by first | omega | (simp; done) | (simp; omega)) _) | (with_reducible refine Below.drew ?_) | (with_reducible refine below_drewN ?_ _) | (with_reducible refine Below.trans ?_ (Below.mono (by assumption) (by first | omega | (simp; done) | (simp; omega))))))) RS.out).mono ?_); rintro e w1 ⟨rfl, hb⟩; obtain ⟨hc, hf, hz⟩ := bcall hb; (try simp at hc hf hz))
  go_wp2_with (go_at_call 11; (with_reducible refine (awake4_any _ (HT.out.below (by (repeat' (first | (with_reducible exact Below.refl _ _) | (with_reducible refine Below.setCell ?_ (by first | omega | (simp; done) | (simp; omega)) _) | (with_reducible refine Below.alloc ?_ (by first | omega | (simp; done) | (simp; omega)) _) | (with_reducible refine Below.drew ?_) | (with_reducible refine below_drewN ?_ _) | (with_reducible refine Below.trans ?_ (Below.mono (by assumption) (by first | omega | (simp; done) | (simp; omega))))))))).mono ?_); rintro e w1 ⟨rfl, hb⟩; obtain ⟨hc, hf, hz⟩ := bcall hb; (try simp at hc hf hz))
  go_ret
  refine ⟨rfl, ?_⟩
  (repeat' (first | (with_reducible exact Below.refl _ _) | (with_reducible refine Below.setCell ?_ (by first | omega | (simp; done) | (simp; omega)) _) | (with_reducible refine Below.alloc ?_ (by first | omega | (simp; done) | (simp; omega)) _) | (with_reducible refine Below.drew ?_) | (with_reducible refine below_drewN ?_ _) | (with_reducible refine Below.trans ?_ (Below.mono (by assumption) (by first | omega | (simp; done) | (simp; omega))))))

set_option maxRecDepth 100000 in
set_option maxHeartbeats 4000000 in
theorem phaseSwaps_out (W H : Int) (ao : Option Addr) (n c : Nat) (bo : Option Addr) (m d : Nat) (ro : Option Addr) (len rc : Nat) (k y : Int) (w : World) (hT : Ends w) (hn : n ≤ 9223372036854775807) (hm : m ≤ 9223372036854775807) (hl : len ≤ 9223372036854775807) (h : ¬ ((n ≤ 400 ∧ m ≤ 400) ∧ len ≤ 20 ∧ ¬ k = 2)) :
    Calls Tryd.prog 7 #[.agg #[.int .i64 W, .int .i64 H, .slice (ao) n c, .slice (bo) m d], .slice ro len rc, .agg #[.int .i64 k, .int .i64 y]] w fun e w' => e = .returned (.bool true) ∧ Below w.heap.size w w' := by
  have HT := Lib.hid hT
  clear hT
  by_cases h1 : n ≤ 400 ∧ m ≤ 400
  · obtain ⟨h3, h4⟩ := h1
    by_cases h2 : len ≤ 20
    · have dl : decide ((20 : Int) < (len : Int)) = false := by simp; omega
      have hk : k = 2 := by omega
      subst hk
      clear h
      go_enter Tryd.func7, Tryd.ntmps7
      go_wp2_with (first | (go_at_call 10; (with_reducible refine (small4_yes W H ao n c bo m d 400 _ (by omega) (by omega) (by omega) (by omega)).mono ?_); rintro e w1 ⟨rfl, hb⟩; obtain ⟨hc, hf, hz⟩ := bcall hb; (try simp at hc hf hz)) | (go_at_call 11; (with_reducible refine (awake4_any _ (HT.out.below (by (repeat' (first | (with_reducible exact Below.refl _ _) | (with_reducible refine Below.setCell ?_ (by first | omega | (simp; done) | (simp; omega)) _) | (with_reducible refine Below.alloc ?_ (by first | omega | (simp; done) | (simp; omega)) _) | (with_reducible refine Below.drew ?_) | (with_reducible refine below_drewN ?_ _) | (with_reducible refine Below.trans ?_ (Below.mono (by assumption) (by first | omega | (simp; done) | (simp; omega))))))))).mono ?_); rintro e w1 ⟨rfl, hb⟩; obtain ⟨hc, hf, hz⟩ := bcall hb; (try simp at hc hf hz)))
      go_ret
      refine ⟨rfl, ?_⟩
      (repeat' (first | (with_reducible exact Below.refl _ _) | (with_reducible refine Below.setCell ?_ (by first | omega | (simp; done) | (simp; omega)) _) | (with_reducible refine Below.alloc ?_ (by first | omega | (simp; done) | (simp; omega)) _) | (with_reducible refine Below.drew ?_) | (with_reducible refine below_drewN ?_ _) | (with_reducible refine Below.trans ?_ (Below.mono (by assumption) (by first | omega | (simp; done) | (simp; omega))))))
    · have dl : decide ((20 : Int) < (len : Int)) = true := by simp; omega
      clear h
      go_enter Tryd.func7, Tryd.ntmps7
      go_wp2_with (first | (go_at_call 10; (with_reducible refine (small4_yes W H ao n c bo m d 400 _ (by omega) (by omega) (by omega) (by omega)).mono ?_); rintro e w1 ⟨rfl, hb⟩; obtain ⟨hc, hf, hz⟩ := bcall hb; (try simp at hc hf hz)) | (go_at_call 11; (with_reducible refine (awake4_any _ (HT.out.below (by (repeat' (first | (with_reducible exact Below.refl _ _) | (with_reducible refine Below.setCell ?_ (by first | omega | (simp; done) | (simp; omega)) _) | (with_reducible refine Below.alloc ?_ (by first | omega | (simp; done) | (simp; omega)) _) | (with_reducible refine Below.drew ?_) | (with_reducible refine below_drewN ?_ _) | (with_reducible refine Below.trans ?_ (Below.mono (by assumption) (by first | omega | (simp; done) | (simp; omega))))))))).mono ?_); rintro e w1 ⟨rfl, hb⟩; obtain ⟨hc, hf, hz⟩ := bcall hb; (try simp at hc hf hz)))
      go_ret
      refine ⟨rfl, ?_⟩
      (repeat' (first | (with_reducible exact Below.refl _ _) | (with_reducible refine Below.setCell ?_ (by first | omega | (simp; done) | (simp; omega)) _) | (with_reducible refine Below.alloc ?_ (by first | omega | (simp; done) | (simp; omega)) _) | (with_reducible refine Below.drew ?_) | (with_reducible refine below_drewN ?_ _) | (with_reducible refine Below.trans ?_ (Below.mono (by assumption) (by first | omega | (simp; done) | (simp; omega))))))
  · have H1 := Lib.hid (show ¬ ((n : Int) ≤ 400 ∧ (m : Int) ≤ 400) by omega)
    clear h h1
    go_enter Tryd.func7, Tryd.ntmps7
    go_wp2_with (first | (go_at_call 10; (with_reducible refine (small4_no W H ao n c bo m d 400 _ hn hm H1.out).mono ?_); rintro e w1 ⟨rfl, hb⟩; obtain ⟨hc, hf, hz⟩ := bcall hb; (try simp at hc hf hz)) | (go_at_call 11; (with_reducible refine (awake4_any _ (HT.out.below (by (repeat' (first | (with_reducible exact Below.refl _ _) | (with_reducible refine Below.setCell ?_ (by first | omega | (simp; done) | (simp; omega)) _) | (with_reducible refine Below.alloc ?_ (by first | omega | (simp; done) | (simp; omega)) _) | (with_reducible refine Below.drew ?_) | (with_reducible refine below_drewN ?_ _) | (with_reducible refine Below.trans ?_ (Below.mono (by assumption) (by first | omega | (simp; done) | (simp; omega))))))))).mono ?_); rintro e w1 ⟨rfl, hb⟩; obtain ⟨hc, hf, hz⟩ := bcall hb; (try simp at hc hf hz)))
    go_ret
    refine ⟨rfl, ?_⟩
    (repeat' (first | (with_reducible exact Below.refl _ _) | (with_reducible refine Below.setCell ?_ (by first | omega | (simp; done) | (simp; omega)) _) | (with_reducible refine Below.alloc ?_ (by first | omega | (simp; done) | (simp; omega)) _) | (with_reducible refine Below.drew ?_) | (with_reducible refine below_drewN ?_ _) | (with_reducible refine Below.trans ?_ (Below.mono (by assumption) (by first | omega | (simp; done) | (simp; omega))))))

theorem phaseSwaps_row (W H : Int) (ao : Option Addr) (n c : Nat) (A : Nat → Nat → Int) (bo : Option Addr) (m d : Nat) (B : Nat → Nat → Int) (ro : Option Addr) (len rc : Nat) (R : Nat → Int × Int) (k y : Int) (w : World) (hT : Ends w) (_ : Wf W) (_ : Wf H) (hn : n ≤ c) (hc : c ≤ maxLen) (hA : CellsIn w ao n A) (hm : m ≤ d) (hd : d ≤ maxLen) (hB : CellsIn w bo m B) (hl : len ≤ rc) (hrc : rc ≤ maxLen) (hR : RulesIn w ro len R) :
    Calls Tryd.prog 7 #[.agg #[.int .i64 W, .int .i64 H, .slice (ao) n c, .slice (bo) m d], .slice ro len rc, .agg #[.int .i64 k, .int .i64 y]] w fun e w' => e = .returned (.bool true) ∧ Below w.heap.size w w' := by
  unfold maxLen at hc hd hrc
  by_cases hs : (n ≤ 400 ∧ m ≤ 400) ∧ len ≤ 20 ∧ ¬ k = 2
  · obtain ⟨⟨h1, h2⟩, h3, h4⟩ := hs
    by_cases hk : (VM W H n A m B ∧ OkRs len R) ∧ OkR k y
    · obtain rfl := hk.1.1.len
      exact phaseSwaps_ok W H ao m c (A, B) bo d ro len rc R k y w hT h1 h3 hk.1.1 hk.1.2 (by rcases hk.2 with h | h; exact h; exact absurd h.1 h4) hA hB hR
    · exact phaseSwaps_err W H ao n c bo m d ro len rc k y w hT h1 h2 h3 h4 (fun q sc wx hb hS => checkM_inv W H ao n c (A, B) bo m d ro len rc R (some ⟨q, 0, none⟩) 1 sc (fun _ => (k, y)) 3 1 wx (by omega) (by omega) (by omega) (fun x => hk ⟨x.1, x.2.2.2 0 (by omega)⟩) (hA.below hb) (hB.below hb) (hR.below hb) hS)
  · exact phaseSwaps_out W H ao n c bo m d ro len rc k y w hT (by omega) (by omega) (by omega) hs
end Go.Proofs.YtjlebdjnjjdnpaaDoor
