/- Mixes, by the reference. -/
import Derived.Test.YtmkhbkkhoemkoaaGreatDoorKMixF
import Derived.Test.YtmkhbkkhoemkoaaGreatDoorKRefG4
import Derived.Test.YtmkhbkkhoemkoaaGreatDoorKRunU
import Derived.Deep.RegionHeld3
import Derived.Deep.Cut
import Derived.Test.YtmkhbkkhoemkoaaGreatDoorKGMath
namespace Go.Proofs.YtmkhbkkhoemkoaaGreatDoor
set_option linter.unusedSimpArgs false
set_option linter.unusedVariables false
open Go.RowKit

section
variable (W H : Int) (ao : Option Addr) (n c : Nat) (A : Nat → Nat → Int) (bo : Option Addr) (m d : Nat) (B : Nat → Nat → Int) (w : World)
set_option maxHeartbeats 1000000 in
theorem phaseA_any : Calls Tryz.prog 49 #[.agg #[.int .i64 W, .int .i64 H, .slice (ao) n c, .slice (bo) m d]] w fun e w' => e = .returned (.agg #[.int .i64 W, .int .i64 H, .slice (ao) n c]) ∧ Below w.heap.size w w' := by
  go_enter Tryz.func49, Tryz.ntmps49
  go_wp2
  refine bodyPost_ret (v := .agg #[.int .i64 W, .int .i64 H, .slice (ao) n c]) (by simp [results, Tryz.results49, go_sem, ↓IntWalk.iteOmega, *]) rfl ⟨rfl, ?_⟩
  (repeat' (first | (with_reducible exact Below.refl _ _) | (with_reducible refine Below.setCell ?_ (by first | omega | (simp; done) | (simp; omega)) _) | (with_reducible refine Below.alloc ?_ (by first | omega | (simp; done) | (simp; omega)) _) | (with_reducible refine Below.drew ?_) | (with_reducible refine below_drewN ?_ _) | (with_reducible refine Below.trans ?_ (Below.mono (by assumption) (by first | omega | (simp; done) | (simp; omega))))))
set_option maxHeartbeats 1000000 in
theorem phaseB_any : Calls Tryz.prog 50 #[.agg #[.int .i64 W, .int .i64 H, .slice (ao) n c, .slice (bo) m d]] w fun e w' => e = .returned (.agg #[.int .i64 W, .int .i64 H, .slice (bo) m d]) ∧ Below w.heap.size w w' := by
  go_enter Tryz.func50, Tryz.ntmps50
  go_wp2
  refine bodyPost_ret (v := .agg #[.int .i64 W, .int .i64 H, .slice (bo) m d]) (by simp [results, Tryz.results50, go_sem, ↓IntWalk.iteOmega, *]) rfl ⟨rfl, ?_⟩
  (repeat' (first | (with_reducible exact Below.refl _ _) | (with_reducible refine Below.setCell ?_ (by first | omega | (simp; done) | (simp; omega)) _) | (with_reducible refine Below.alloc ?_ (by first | omega | (simp; done) | (simp; omega)) _) | (with_reducible refine Below.drew ?_) | (with_reducible refine below_drewN ?_ _) | (with_reducible refine Below.trans ?_ (Below.mono (by assumption) (by first | omega | (simp; done) | (simp; omega))))))
set_option maxHeartbeats 1000000 in
theorem mix_any : Calls Tryz.prog 47 #[.agg #[.int .i64 W, .int .i64 H, .slice (ao) n c], .agg #[.int .i64 W, .int .i64 H, .slice (bo) m d]] w fun e w' => e = .returned (.agg #[.int .i64 W, .int .i64 H, .slice (ao) n c, .slice (bo) m d]) ∧ Below w.heap.size w w' := by
  go_enter Tryz.func47, Tryz.ntmps47
  go_wp2
  refine bodyPost_ret (v := .agg #[.int .i64 W, .int .i64 H, .slice (ao) n c, .slice (bo) m d]) (by simp [results, Tryz.results47, go_sem, ↓IntWalk.iteOmega, *]) rfl ⟨rfl, ?_⟩
  (repeat' (first | (with_reducible exact Below.refl _ _) | (with_reducible refine Below.setCell ?_ (by first | omega | (simp; done) | (simp; omega)) _) | (with_reducible refine Below.alloc ?_ (by first | omega | (simp; done) | (simp; omega)) _) | (with_reducible refine Below.drew ?_) | (with_reducible refine below_drewN ?_ _) | (with_reducible refine Below.trans ?_ (Below.mono (by assumption) (by first | omega | (simp; done) | (simp; omega))))))

theorem weight2_ok (hv : VG W H n A) (h : CellsIn w ao n A) : Calls Tryz.prog 100 #[.slice ao n c] w fun e w' => e = .returned (.int .i64 (wt A n)) ∧ Below w.heap.size w w' := by
  have h1 := hv.1.bd
  have h2 := hv.2.1
  rcases h with h | ⟨b, off, rfl, hlt, hG⟩
  · omega
  · exact weight_any1 b off n c A w (by omega) hv.2.2.1 hlt hG
set_option maxHeartbeats 1000000 in
theorem mass2_ok (hv : VG W H n A) (h : CellsIn w ao n A) : Calls Tryz.prog 101 #[.agg #[.int .i64 W, .int .i64 H, .slice (ao) n c]] w fun e w' => e = .returned (.tuple #[.int .i64 (wt A n), .int .i64 0]) ∧ Below w.heap.size w w' := by
  have HV := Lib.hid hv; clear hv
  have HC := Lib.hid h; clear h
  go_enter Tryz.func101, Tryz.ntmps101
  go_wp2_with (first | (go_at_call 75; (with_reducible refine (rValid_ok W H ao n c A _ HV.out (HC.out.below (by (repeat' (first | (with_reducible exact Below.refl _ _) | (with_reducible refine Below.setCell ?_ (by first | omega | (simp; done) | (simp; omega)) _) | (with_reducible refine Below.alloc ?_ (by first | omega | (simp; done) | (simp; omega)) _) | (with_reducible refine Below.drew ?_) | (with_reducible refine below_drewN ?_ _) | (with_reducible refine Below.trans ?_ (Below.mono (by assumption) (by first | omega | (simp; done) | (simp; omega))))))))).mono ?_); rintro e w1 ⟨rfl, hb⟩; obtain ⟨hc, hf, hz⟩ := bcall hb; (try simp at hc hf hz)) | (go_at_call 100; (with_reducible refine (weight2_ok W H ao n c A _ HV.out (HC.out.below (by (repeat' (first | (with_reducible exact Below.refl _ _) | (with_reducible refine Below.setCell ?_ (by first | omega | (simp; done) | (simp; omega)) _) | (with_reducible refine Below.alloc ?_ (by first | omega | (simp; done) | (simp; omega)) _) | (with_reducible refine Below.drew ?_) | (with_reducible refine below_drewN ?_ _) | (with_reducible refine Below.trans ?_ (Below.mono (by assumption) (by first | omega | (simp; done) | (simp; omega))))))))).mono ?_); rintro e w1 ⟨rfl, hb⟩; obtain ⟨hc, hf, hz⟩ := bcall hb; (try simp at hc hf hz)))
  go_ret2
  refine ⟨rfl, ?_⟩
  (repeat' (first | (with_reducible exact Below.refl _ _) | (with_reducible refine Below.setCell ?_ (by first | omega | (simp; done) | (simp; omega)) _) | (with_reducible refine Below.alloc ?_ (by first | omega | (simp; done) | (simp; omega)) _) | (with_reducible refine Below.drew ?_) | (with_reducible refine below_drewN ?_ _) | (with_reducible refine Below.trans ?_ (Below.mono (by assumption) (by first | omega | (simp; done) | (simp; omega))))))
set_option maxHeartbeats 1000000 in
theorem weight4_ok (hv : VG W H n A) (h : CellsIn w ao n A) : Calls Tryz.prog 76 #[.agg #[.int .i64 W, .int .i64 H, .slice (ao) n c]] w fun e w' => e = .returned (.int .i64 (wt A n)) ∧ Below w.heap.size w w' := by
  have HV := Lib.hid hv; clear hv
  have HC := Lib.hid h; clear h
  go_enter Tryz.func76, Tryz.ntmps76
  go_wp2_with (go_at_call 101; (with_reducible refine (mass2_ok W H ao n c A _ HV.out (HC.out.below (by (repeat' (first | (with_reducible exact Below.refl _ _) | (with_reducible refine Below.setCell ?_ (by first | omega | (simp; done) | (simp; omega)) _) | (with_reducible refine Below.alloc ?_ (by first | omega | (simp; done) | (simp; omega)) _) | (with_reducible refine Below.drew ?_) | (with_reducible refine below_drewN ?_ _) | (with_reducible refine Below.trans ?_ (Below.mono (by assumption) (by first | omega | (simp; done) | (simp; omega))))))))).mono ?_); rintro e w1 ⟨rfl, hb⟩; obtain ⟨hc, hf, hz⟩ := bcall hb; (try simp at hc hf hz))
  go_ret
  refine ⟨rfl, ?_⟩
  (repeat' (first | (with_reducible exact Below.refl _ _) | (with_reducible refine Below.setCell ?_ (by first | omega | (simp; done) | (simp; omega)) _) | (with_reducible refine Below.alloc ?_ (by first | omega | (simp; done) | (simp; omega)) _) | (with_reducible refine Below.drew ?_) | (with_reducible refine below_drewN ?_ _) | (with_reducible refine Below.trans ?_ (Below.mono (by assumption) (by first | omega | (simp; done) | (simp; omega))))))

set_option maxRecDepth 100000 in
set_option maxHeartbeats 8000000 in
theorem rmValid_any (hA : CellsIn w ao n A) (hB : CellsIn w bo m B) : Calls Tryz.prog 44 #[.agg #[.int .i64 W, .int .i64 H, .slice (ao) n c, .slice (bo) m d]] w fun e w' => ∃ t : Bool, e = .returned (.bool t) ∧ Hid (t = true ↔ VM W H n A m B) ∧ Below w.heap.size w w' := by
  have HA := Lib.hid hA; clear hA
  have HB := Lib.hid hB; clear hB
  go_enter Tryz.func44, Tryz.ntmps44
  go_upto_region 1 with fail
  go_cut [3, 4] from 5 (fun s3 s4 wx => ∃ P Q : Nat, s3 = .pointer (some ⟨P, 0, none⟩) ∧ s4 = .pointer (some ⟨Q, 0, none⟩) ∧ (wx.cell? ⟨P, 0, none⟩ = some (.int .i64 W) ∧ wx.cell? ⟨P, 1, none⟩ = some (.int .i64 H) ∧ wx.cell? ⟨P, 2, none⟩ = some (.slice ao n c)) ∧ (wx.cell? ⟨Q, 0, none⟩ = some (.int .i64 W) ∧ wx.cell? ⟨Q, 1, none⟩ = some (.int .i64 H) ∧ wx.cell? ⟨Q, 2, none⟩ = some (.slice bo m d)) ∧ P < wx.heap.size ∧ Q < wx.heap.size ∧ Below w.heap.size w wx)
  case first =>
    go_region_held3 (fun w' => w'.cell? ⟨w.heap.size, 0, none⟩ = some (.int .i64 W) ∧ w'.cell? ⟨w.heap.size, 1, none⟩ = some (.int .i64 H) ∧ w'.cell? ⟨w.heap.size, 2, none⟩ = some (.slice ao n c) ∧ w'.cell? ⟨w.heap.size, 3, none⟩ = some (.slice bo m d)) (first | (go_split_ands; (try dsimp only); refine ⟨?_, ?_, ?_, ?_⟩ <;> (first | (with_reducible assumption) | (with_reducible exact keep_cell (by assumption) (by first | omega | (simp; done) | (simp; omega)) (by assumption)) | (with_reducible exact (World.cell?_alloc_past _ _ _ (by show _ < _; omega)).trans (by assumption)) | (with_reducible exact (World.cell?_alloc_past _ _ _ (by show _ < _; omega)).trans ((World.cell?_alloc_past _ _ _ (by show _ < _; omega)).symm.trans (by assumption))) | (simp [go_sem]; with_reducible assumption))) | (simp [go_sem, ↓IntWalk.iteOmega, *]; done)) (first | (go_at_call 49; (with_reducible refine (phaseA_any W H ao n c bo m d _).mono ?_); rintro e w1 ⟨rfl, hb⟩; obtain ⟨hc, hf, hz⟩ := bcall hb; (try simp at hc hf hz)) | (go_at_call 50; (with_reducible refine (phaseB_any W H ao n c bo m d _).mono ?_); rintro e w1 ⟨rfl, hb⟩; obtain ⟨hc, hf, hz⟩ := bcall hb; (try simp at hc hf hz)))
    all_goals
      go_wp2_with fail
      go_meet
      refine ⟨_, _, rfl, rfl, ⟨?_, ?_, ?_⟩, ⟨?_, ?_, ?_⟩, ?_, ?_, ?_⟩
      · simp [go_sem, ↓IntWalk.iteOmega, *]
      · simp [go_sem, ↓IntWalk.iteOmega, *]
      · simp [go_sem, ↓IntWalk.iteOmega, *]
      · simp [go_sem, ↓IntWalk.iteOmega, *]
      · simp [go_sem, ↓IntWalk.iteOmega, *]
      · simp [go_sem, ↓IntWalk.iteOmega, *]
      · first | omega | (simp; done) | (simp; omega)
      · first | omega | (simp; done) | (simp; omega)
      · (repeat' (first | (with_reducible exact Below.refl _ _) | (with_reducible refine Below.setCell ?_ (by first | omega | (simp; done) | (simp; omega)) _) | (with_reducible refine Below.alloc ?_ (by first | omega | (simp; done) | (simp; omega)) _) | (with_reducible refine Below.drew ?_) | (with_reducible refine below_drewN ?_ _) | (with_reducible refine Below.trans ?_ (Below.mono (by assumption) (by first | omega | (simp; done) | (simp; omega))))))
  case rest =>
  obtain ⟨P, Q, rfl, rfl, ⟨p0, p1, p2⟩, ⟨q0, q1, q2⟩, lP, lQ, hB⟩ := hcut
  have hz0 := hB.size
  go_wp2
  by_cases h1 : VG W H n A
  · have H1 := Lib.hid h1
    have q1 := (wt_bd h1.2.2.1 n (Nat.le_refl _)).1
    have q3 := h1.2.2.2
    by_cases h2 : VG W H m B
    · have H2 := Lib.hid h2
      have q2 := (wt_bd h2.2.2.1 m (Nat.le_refl _)).1
      have q4 := h2.2.2.2
      have sw : IntKind.i64.wrap (wt A n + wt B m) = wt A n + wt B m := IntWalk.i64_in _ ⟨by omega, by omega⟩
      clear h1 h2
      by_cases h3 : wt A n + wt B m ≤ 1000000000
      · go_region_held3 (fun w' => w'.cell? ⟨P, 0, none⟩ = some (.int .i64 W) ∧ w'.cell? ⟨P, 1, none⟩ = some (.int .i64 H) ∧ w'.cell? ⟨P, 2, none⟩ = some (.slice ao n c) ∧ w'.cell? ⟨Q, 0, none⟩ = some (.int .i64 W) ∧ w'.cell? ⟨Q, 1, none⟩ = some (.int .i64 H) ∧ w'.cell? ⟨Q, 2, none⟩ = some (.slice bo m d)) (first | (go_split_ands; (try dsimp only); refine ⟨?_, ?_, ?_, ?_, ?_, ?_⟩ <;> (first | (with_reducible assumption) | (with_reducible exact keep_cell (by assumption) (by first | omega | (simp; done) | (simp; omega)) (by assumption)) | (with_reducible exact (World.cell?_alloc_past _ _ _ (by show _ < _; omega)).trans (by assumption)) | (with_reducible exact (World.cell?_alloc_past _ _ _ (by show _ < _; omega)).trans ((World.cell?_alloc_past _ _ _ (by show _ < _; omega)).symm.trans (by assumption))) | (simp [go_sem]; with_reducible assumption))) | (simp [go_sem, ↓IntWalk.iteOmega, *]; done)) (first | (go_at_call 75; (with_reducible refine (rValid_ok W H ao n c A _ H1.out (HA.out.below (by (repeat' (first | (with_reducible exact Below.refl _ _) | (with_reducible refine Below.setCell ?_ (by first | omega | (simp; done) | (simp; omega)) _) | (with_reducible refine Below.alloc ?_ (by first | omega | (simp; done) | (simp; omega)) _) | (with_reducible refine Below.drew ?_) | (with_reducible refine below_drewN ?_ _) | (with_reducible refine Below.trans ?_ (Below.mono (by assumption) (by first | omega | (simp; done) | (simp; omega))))))))).mono ?_); rintro e w1 ⟨rfl, hb⟩; obtain ⟨hc, hf, hz⟩ := bcall hb; (try simp at hc hf hz)) | (go_at_call 75; (with_reducible refine (rValid_ok W H bo m d B _ H2.out (HB.out.below (by (repeat' (first | (with_reducible exact Below.refl _ _) | (with_reducible refine Below.setCell ?_ (by first | omega | (simp; done) | (simp; omega)) _) | (with_reducible refine Below.alloc ?_ (by first | omega | (simp; done) | (simp; omega)) _) | (with_reducible refine Below.drew ?_) | (with_reducible refine below_drewN ?_ _) | (with_reducible refine Below.trans ?_ (Below.mono (by assumption) (by first | omega | (simp; done) | (simp; omega))))))))).mono ?_); rintro e w1 ⟨rfl, hb⟩; obtain ⟨hc, hf, hz⟩ := bcall hb; (try simp at hc hf hz)) | (go_at_call 76; (with_reducible refine (weight4_ok W H ao n c A _ H1.out (HA.out.below (by (repeat' (first | (with_reducible exact Below.refl _ _) | (with_reducible refine Below.setCell ?_ (by first | omega | (simp; done) | (simp; omega)) _) | (with_reducible refine Below.alloc ?_ (by first | omega | (simp; done) | (simp; omega)) _) | (with_reducible refine Below.drew ?_) | (with_reducible refine below_drewN ?_ _) | (with_reducible refine Below.trans ?_ (Below.mono (by assumption) (by first | omega | (simp; done) | (simp; omega))))))))).mono ?_); rintro e w1 ⟨rfl, hb⟩; obtain ⟨hc, hf, hz⟩ := bcall hb; (try simp at hc hf hz)) | (go_at_call 76; (with_reducible refine (weight4_ok W H bo m d B _ H2.out (HB.out.below (by (repeat' (first | (with_reducible exact Below.refl _ _) | (with_reducible refine Below.setCell ?_ (by first | omega | (simp; done) | (simp; omega)) _) | (with_reducible refine Below.alloc ?_ (by first | omega | (simp; done) | (simp; omega)) _) | (with_reducible refine Below.drew ?_) | (with_reducible refine below_drewN ?_ _) | (with_reducible refine Below.trans ?_ (Below.mono (by assumption) (by first | omega | (simp; done) | (simp; omega))))))))).mono ?_); rintro e w1 ⟨rfl, hb⟩; obtain ⟨hc, hf, hz⟩ := bcall hb; (try simp at hc hf hz)))
        all_goals
          go_wp2
          go_ret
          refine ⟨true, by simp [sw, h3], Lib.hid ⟨(fun _ => ⟨⟨H1.out, H2.out⟩, h3⟩), (fun _ => rfl)⟩, ?_⟩
          (repeat' (first | (with_reducible exact Below.refl _ _) | (with_reducible refine Below.setCell ?_ (by first | omega | (simp; done) | (simp; omega)) _) | (with_reducible refine Below.alloc ?_ (by first | omega | (simp; done) | (simp; omega)) _) | (with_reducible refine Below.drew ?_) | (with_reducible refine below_drewN ?_ _) | (with_reducible refine Below.trans ?_ (Below.mono (by assumption) (by first | omega | (simp; done) | (simp; omega))))))
      · go_region_held3 (fun w' => w'.cell? ⟨P, 0, none⟩ = some (.int .i64 W) ∧ w'.cell? ⟨P, 1, none⟩ = some (.int .i64 H) ∧ w'.cell? ⟨P, 2, none⟩ = some (.slice ao n c) ∧ w'.cell? ⟨Q, 0, none⟩ = some (.int .i64 W) ∧ w'.cell? ⟨Q, 1, none⟩ = some (.int .i64 H) ∧ w'.cell? ⟨Q, 2, none⟩ = some (.slice bo m d)) (first | (go_split_ands; (try dsimp only); refine ⟨?_, ?_, ?_, ?_, ?_, ?_⟩ <;> (first | (with_reducible assumption) | (with_reducible exact keep_cell (by assumption) (by first | omega | (simp; done) | (simp; omega)) (by assumption)) | (with_reducible exact (World.cell?_alloc_past _ _ _ (by show _ < _; omega)).trans (by assumption)) | (with_reducible exact (World.cell?_alloc_past _ _ _ (by show _ < _; omega)).trans ((World.cell?_alloc_past _ _ _ (by show _ < _; omega)).symm.trans (by assumption))) | (simp [go_sem]; with_reducible assumption))) | (simp [go_sem, ↓IntWalk.iteOmega, *]; done)) (first | (go_at_call 75; (with_reducible refine (rValid_ok W H ao n c A _ H1.out (HA.out.below (by (repeat' (first | (with_reducible exact Below.refl _ _) | (with_reducible refine Below.setCell ?_ (by first | omega | (simp; done) | (simp; omega)) _) | (with_reducible refine Below.alloc ?_ (by first | omega | (simp; done) | (simp; omega)) _) | (with_reducible refine Below.drew ?_) | (with_reducible refine below_drewN ?_ _) | (with_reducible refine Below.trans ?_ (Below.mono (by assumption) (by first | omega | (simp; done) | (simp; omega))))))))).mono ?_); rintro e w1 ⟨rfl, hb⟩; obtain ⟨hc, hf, hz⟩ := bcall hb; (try simp at hc hf hz)) | (go_at_call 75; (with_reducible refine (rValid_ok W H bo m d B _ H2.out (HB.out.below (by (repeat' (first | (with_reducible exact Below.refl _ _) | (with_reducible refine Below.setCell ?_ (by first | omega | (simp; done) | (simp; omega)) _) | (with_reducible refine Below.alloc ?_ (by first | omega | (simp; done) | (simp; omega)) _) | (with_reducible refine Below.drew ?_) | (with_reducible refine below_drewN ?_ _) | (with_reducible refine Below.trans ?_ (Below.mono (by assumption) (by first | omega | (simp; done) | (simp; omega))))))))).mono ?_); rintro e w1 ⟨rfl, hb⟩; obtain ⟨hc, hf, hz⟩ := bcall hb; (try simp at hc hf hz)) | (go_at_call 76; (with_reducible refine (weight4_ok W H ao n c A _ H1.out (HA.out.below (by (repeat' (first | (with_reducible exact Below.refl _ _) | (with_reducible refine Below.setCell ?_ (by first | omega | (simp; done) | (simp; omega)) _) | (with_reducible refine Below.alloc ?_ (by first | omega | (simp; done) | (simp; omega)) _) | (with_reducible refine Below.drew ?_) | (with_reducible refine below_drewN ?_ _) | (with_reducible refine Below.trans ?_ (Below.mono (by assumption) (by first | omega | (simp; done) | (simp; omega))))))))).mono ?_); rintro e w1 ⟨rfl, hb⟩; obtain ⟨hc, hf, hz⟩ := bcall hb; (try simp at hc hf hz)) | (go_at_call 76; (with_reducible refine (weight4_ok W H bo m d B _ H2.out (HB.out.below (by (repeat' (first | (with_reducible exact Below.refl _ _) | (with_reducible refine Below.setCell ?_ (by first | omega | (simp; done) | (simp; omega)) _) | (with_reducible refine Below.alloc ?_ (by first | omega | (simp; done) | (simp; omega)) _) | (with_reducible refine Below.drew ?_) | (with_reducible refine below_drewN ?_ _) | (with_reducible refine Below.trans ?_ (Below.mono (by assumption) (by first | omega | (simp; done) | (simp; omega))))))))).mono ?_); rintro e w1 ⟨rfl, hb⟩; obtain ⟨hc, hf, hz⟩ := bcall hb; (try simp at hc hf hz)))
        all_goals
          go_wp2
          go_ret
          refine ⟨false, by simp [sw, h3], Lib.hid ⟨(fun h => by cases h), (fun h => by have := h.2; omega)⟩, ?_⟩
          (repeat' (first | (with_reducible exact Below.refl _ _) | (with_reducible refine Below.setCell ?_ (by first | omega | (simp; done) | (simp; omega)) _) | (with_reducible refine Below.alloc ?_ (by first | omega | (simp; done) | (simp; omega)) _) | (with_reducible refine Below.drew ?_) | (with_reducible refine below_drewN ?_ _) | (with_reducible refine Below.trans ?_ (Below.mono (by assumption) (by first | omega | (simp; done) | (simp; omega))))))
    · have H2 := Lib.hid h2
      clear h1 h2
      go_region_with (first | (go_at_call 75; (with_reducible refine (rValid_ok W H ao n c A _ H1.out (HA.out.below (by (repeat' (first | (with_reducible exact Below.refl _ _) | (with_reducible refine Below.setCell ?_ (by first | omega | (simp; done) | (simp; omega)) _) | (with_reducible refine Below.alloc ?_ (by first | omega | (simp; done) | (simp; omega)) _) | (with_reducible refine Below.drew ?_) | (with_reducible refine below_drewN ?_ _) | (with_reducible refine Below.trans ?_ (Below.mono (by assumption) (by first | omega | (simp; done) | (simp; omega))))))))).mono ?_); rintro e w1 ⟨rfl, hb⟩; obtain ⟨hc, hf, hz⟩ := bcall hb; (try simp at hc hf hz)) | (go_at_call 75; (with_reducible refine (rValid_bad W H bo m d B _ H2.out (HB.out.below (by (repeat' (first | (with_reducible exact Below.refl _ _) | (with_reducible refine Below.setCell ?_ (by first | omega | (simp; done) | (simp; omega)) _) | (with_reducible refine Below.alloc ?_ (by first | omega | (simp; done) | (simp; omega)) _) | (with_reducible refine Below.drew ?_) | (with_reducible refine below_drewN ?_ _) | (with_reducible refine Below.trans ?_ (Below.mono (by assumption) (by first | omega | (simp; done) | (simp; omega))))))))).mono ?_); rintro e w1 ⟨rfl, hb⟩; obtain ⟨hc, hf, hz⟩ := bcall hb; (try simp at hc hf hz)))
      all_goals
        (try dsimp +zetaDelta only)
        go_wp2
        go_ret
        refine ⟨false, by simp [Act.put], Lib.hid ⟨(fun h => by cases h), (fun h => absurd h.1.2 H2.out)⟩, ?_⟩
        (repeat' (first | (with_reducible exact Below.refl _ _) | (with_reducible refine Below.setCell ?_ (by first | omega | (simp; done) | (simp; omega)) _) | (with_reducible refine Below.alloc ?_ (by first | omega | (simp; done) | (simp; omega)) _) | (with_reducible refine Below.drew ?_) | (with_reducible refine below_drewN ?_ _) | (with_reducible refine Below.trans ?_ (Below.mono (by assumption) (by first | omega | (simp; done) | (simp; omega))))))
  · have H1 := Lib.hid h1
    clear h1
    go_region_with (first | (go_at_call 75; (with_reducible refine (rValid_bad W H ao n c A _ H1.out (HA.out.below (by (repeat' (first | (with_reducible exact Below.refl _ _) | (with_reducible refine Below.setCell ?_ (by first | omega | (simp; done) | (simp; omega)) _) | (with_reducible refine Below.alloc ?_ (by first | omega | (simp; done) | (simp; omega)) _) | (with_reducible refine Below.drew ?_) | (with_reducible refine below_drewN ?_ _) | (with_reducible refine Below.trans ?_ (Below.mono (by assumption) (by first | omega | (simp; done) | (simp; omega))))))))).mono ?_); rintro e w1 ⟨rfl, hb⟩; obtain ⟨hc, hf, hz⟩ := bcall hb; (try simp at hc hf hz)))
    all_goals
      (try dsimp +zetaDelta only)
      go_wp2
      go_ret
      refine ⟨false, by simp [Act.put], Lib.hid ⟨(fun h => by cases h), (fun h => absurd h.1.1 H1.out)⟩, ?_⟩
      (repeat' (first | (with_reducible exact Below.refl _ _) | (with_reducible refine Below.setCell ?_ (by first | omega | (simp; done) | (simp; omega)) _) | (with_reducible refine Below.alloc ?_ (by first | omega | (simp; done) | (simp; omega)) _) | (with_reducible refine Below.drew ?_) | (with_reducible refine below_drewN ?_ _) | (with_reducible refine Below.trans ?_ (Below.mono (by assumption) (by first | omega | (simp; done) | (simp; omega))))))
end
end Go.Proofs.YtmkhbkkhoemkoaaGreatDoor

/- Mixes that were given: what both sides say of them, in one form. -/



namespace Go.Proofs.YtmkhbkkhoemkoaaGreatDoor
set_option linter.unusedSimpArgs false
set_option linter.unusedVariables false
open Go.RowKit

/-- A mix that was given, with a code: in new memory, or nothing. -/
def GM (W H : Int) (n : Nat) (P : MG) (z : Int) (w : World) (e : Ending) (w' : World) : Prop :=
  ∃ (ao bo : Option Addr) (c d : Nat), e = .returned (.tuple #[.agg #[.int .i64 W, .int .i64 H, .slice (ao) n c, .slice (bo) n d], .int .i64 z]) ∧ Hid (CellsIn w' ao n P.1 ∧ CellsIn w' bo n P.2) ∧ Hid ((∀ p, ao = some p → w.heap.size ≤ p.block) ∧ ∀ p, bo = some p → w.heap.size ≤ p.block) ∧ Below w.heap.size w w'
theorem GM.of_made {W H : Int} {n : Nat} {A B : Nat → Nat → Int} {w : World} {e : Ending} {w' : World} (h : MadeM W H n A B w e w') : GM W H n (A, B) 0 w e w' := by
  obtain ⟨a, b, ca, cb, he, R, la, lb, hb⟩ := h
  exact ⟨_, _, ca, cb, he, Lib.hid ⟨R.out.1.cellsIn, R.out.2.1.cellsIn⟩, Lib.hid ⟨(fun p hp => by cases hp; exact la), (fun p hp => by cases hp; exact lb)⟩, hb⟩
theorem GM.of_none {P : MG} {z : Int} {w : World} {e : Ending} {w' : World} (h : e = .returned (.tuple #[.agg #[.int .i64 0, .int .i64 0, .slice (none) 0 0, .slice (none) 0 0], .int .i64 z]) ∧ Below w.heap.size w w') : GM 0 0 0 P z w e w' :=
  ⟨none, none, 0, 0, h.1, Lib.hid ⟨.inl rfl, .inl rfl⟩, Lib.hid ⟨(fun p hp => by cases hp), (fun p hp => by cases hp)⟩, h.2⟩

set_option maxHeartbeats 1000000 in
theorem mEqual_yes (W H : Int) (n : Nat) (ao bo ao' bo' : Option Addr) (c d c' d' : Nat) (P Q : MG) (w : World) (hn : n ≤ 1000000) (hA : CellsIn w ao n P.1) (hB : CellsIn w bo n P.2) (hA' : CellsIn w ao' n Q.1) (hB' : CellsIn w bo' n Q.2) (e : EqM n P Q) :
    Calls Tryz.prog 10 #[.agg #[.int .i64 W, .int .i64 H, .slice (ao) n c, .slice (bo) n d], .agg #[.int .i64 W, .int .i64 H, .slice (ao') n c', .slice (bo') n d']] w fun e w' => e = .returned (.bool true) ∧ Below w.heap.size w w' := by
  have D1 := Lib.hid (fun w' (hb : Below w.heap.size w w') => (sameCells_any ao ao' n c c' P.1 Q.1 w' hn (hA.below hb) (hA'.below hb)).mono (R' := fun e w1 => e = .returned (.bool true) ∧ Below w'.heap.size w' w1) fun e' w1 ⟨bb, he, hs, hb⟩ => ⟨by rw [he, hs.2 e.1], hb⟩)
  have D2 := Lib.hid (fun w' (hb : Below w.heap.size w w') => (sameCells_any bo bo' n d d' P.2 Q.2 w' hn (hB.below hb) (hB'.below hb)).mono (R' := fun e w1 => e = .returned (.bool true) ∧ Below w'.heap.size w' w1) fun e' w1 ⟨bb, he, hs, hb⟩ => ⟨by rw [he, hs.2 e.2], hb⟩)
  clear hA hB hA' hB' e
  go_enter Tryz.func10, Tryz.ntmps10
  go_wp2_with fail
  (go_at_call 18; (with_reducible refine (D1.out _ (by (repeat' (first | (with_reducible exact Below.refl _ _) | (with_reducible refine Below.setCell ?_ (by first | omega | (simp; done) | (simp; omega)) _) | (with_reducible refine Below.alloc ?_ (by first | omega | (simp; done) | (simp; omega)) _) | (with_reducible refine Below.drew ?_) | (with_reducible refine below_drewN ?_ _) | (with_reducible refine Below.trans ?_ (Below.mono (by assumption) (by first | omega | (simp; done) | (simp; omega)))))))).mono ?_); rintro e w1 ⟨rfl, hb⟩; obtain ⟨hc, hf, hz⟩ := bcall hb; (try simp at hc hf hz))
  go_wp2_with fail
  (go_at_call 18; (with_reducible refine (D2.out _ (by (repeat' (first | (with_reducible exact Below.refl _ _) | (with_reducible refine Below.setCell ?_ (by first | omega | (simp; done) | (simp; omega)) _) | (with_reducible refine Below.alloc ?_ (by first | omega | (simp; done) | (simp; omega)) _) | (with_reducible refine Below.drew ?_) | (with_reducible refine below_drewN ?_ _) | (with_reducible refine Below.trans ?_ (Below.mono (by assumption) (by first | omega | (simp; done) | (simp; omega)))))))).mono ?_); rintro e w1 ⟨rfl, hb⟩; obtain ⟨hc, hf, hz⟩ := bcall hb; (try simp at hc hf hz))
  go_wp2
  go_ret
  refine ⟨by simp, ?_⟩
  (repeat' (first | (with_reducible exact Below.refl _ _) | (with_reducible refine Below.setCell ?_ (by first | omega | (simp; done) | (simp; omega)) _) | (with_reducible refine Below.alloc ?_ (by first | omega | (simp; done) | (simp; omega)) _) | (with_reducible refine Below.drew ?_) | (with_reducible refine below_drewN ?_ _) | (with_reducible refine Below.trans ?_ (Below.mono (by assumption) (by first | omega | (simp; done) | (simp; omega))))))
end Go.Proofs.YtmkhbkkhoemkoaaGreatDoor
