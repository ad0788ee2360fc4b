/- What Cells, Density, Velocity, Densest, Table and Profile refuse; Cells: by the program of the fields. -/
import Derived.Test.YtmdeooflgkjbbaaDoorKFDens
import Derived.Test.YtmdeooflgkjbbaaDoorKFVor
import Derived.Test.YtmdeooflgkjbbaaDoorKFColB
import Derived.Test.YtmdeooflgkjbbaaDoorKFSums
import Derived.LoopTactic
import Derived.Deep.QuietTactic
import Derived.Deep.RegionHeld3
namespace Go.Proofs.YtmdeooflgkjbbaaDoor
set_option linter.unusedSimpArgs false
set_option linter.unusedVariables false
open Go.RowKit Go.Shelf
attribute [local go_sem] Oper.semAt_some

theorem rem_in {W wi r : Int} (hW : 1 ≤ W ∧ W ≤ 64) (h : 1 ≤ wi ∧ wi ≤ W) (e : Int.tmod W wi = r) : 0 ≤ r ∧ r < wi := by
  have := Int.emod_nonneg W (show wi ≠ 0 by omega)
  have h2 := Int.emod_lt_of_pos W (show 0 < wi by omega)
  rw [← Int.tmod_eq_emod_of_nonneg (by omega), e] at this h2
  exact ⟨this, h2⟩
section
variable (W H : Int) (ao : Option Addr) (n cap : Nat) (G : Nat → Nat → Int) (ax ay bx yb : Int) (w : World) (hG : CellsIn w ao n G)
include hG
set_option maxRecDepth 100000 in
set_option maxHeartbeats 4000000 in
theorem fCells_bad (hv : ¬ VG W H n G) : Calls Tryd.prog 11 #[.agg #[.int .i64 W, .int .i64 H, .slice (ao) n cap], .agg #[.int .i64 ax, .int .i64 ay], .agg #[.int .i64 bx, .int .i64 yb]] w fun e w' => e = .returned (.tuple #[.int .i64 0, .int .i64 1]) ∧ Below w.heap.size w w' := by
  have HV := Lib.hid hv
  have HC := Lib.hid hG
  clear hv hG
  go_enter Tryd.func11, Tryd.ntmps11
  go_wp2_with (go_at_call 61; (with_reducible refine (newBlock_bad W H ao n cap G ax ay bx yb _ HV.out (HC.out.below (by (repeat' (first | (with_reducible exact Below.refl _ _) | (with_reducible refine Below.setCell ?_ (by first | omega | (simp; done) | (simp; omega)) _) | (with_reducible refine Below.alloc ?_ (by first | omega | (simp; done) | (simp; omega)) _) | (with_reducible refine Below.drew ?_) | (with_reducible refine below_drewN ?_ _) | (with_reducible refine Below.trans ?_ (Below.mono (by assumption) (by first | omega | (simp; done) | (simp; omega))))))))).mono ?_); rintro e w1 ⟨rfl, hb⟩; obtain ⟨hc, hf, hz⟩ := bcall hb; (try simp at hc hf hz))
  refine bodyPost_ret (v := .tuple #[.int .i64 0, .int .i64 1]) (by simp [results, Tryd.results11, go_sem, ↓IntWalk.iteOmega, *]) rfl ⟨rfl, ?_⟩
  (repeat' (first | (with_reducible exact Below.refl _ _) | (with_reducible refine Below.setCell ?_ (by first | omega | (simp; done) | (simp; omega)) _) | (with_reducible refine Below.alloc ?_ (by first | omega | (simp; done) | (simp; omega)) _) | (with_reducible refine Below.drew ?_) | (with_reducible refine below_drewN ?_ _) | (with_reducible refine Below.trans ?_ (Below.mono (by assumption) (by first | omega | (simp; done) | (simp; omega))))))
set_option maxRecDepth 100000 in
set_option maxHeartbeats 4000000 in
theorem fCells_rng (hv : VG W H n G) (h : ¬ BlkOk W H ax ay bx yb) : Calls Tryd.prog 11 #[.agg #[.int .i64 W, .int .i64 H, .slice (ao) n cap], .agg #[.int .i64 ax, .int .i64 ay], .agg #[.int .i64 bx, .int .i64 yb]] w fun e w' => e = .returned (.tuple #[.int .i64 0, .int .i64 7]) ∧ Below w.heap.size w w' := by
  have HV := Lib.hid hv
  have HC := Lib.hid hG
  have HB := Lib.hid h
  clear hv hG h
  go_enter Tryd.func11, Tryd.ntmps11
  go_wp2_with (go_at_call 61; (with_reducible refine (newBlock_rng W H ao n cap G ax ay bx yb _ HV.out (HC.out.below (by (repeat' (first | (with_reducible exact Below.refl _ _) | (with_reducible refine Below.setCell ?_ (by first | omega | (simp; done) | (simp; omega)) _) | (with_reducible refine Below.alloc ?_ (by first | omega | (simp; done) | (simp; omega)) _) | (with_reducible refine Below.drew ?_) | (with_reducible refine below_drewN ?_ _) | (with_reducible refine Below.trans ?_ (Below.mono (by assumption) (by first | omega | (simp; done) | (simp; omega)))))))) HB.out).mono ?_); rintro e w1 ⟨rfl, hb⟩; obtain ⟨hc, hf, hz⟩ := bcall hb; (try simp at hc hf hz))
  refine bodyPost_ret (v := .tuple #[.int .i64 0, .int .i64 7]) (by simp [results, Tryd.results11, go_sem, ↓IntWalk.iteOmega, *]) rfl ⟨rfl, ?_⟩
  (repeat' (first | (with_reducible exact Below.refl _ _) | (with_reducible refine Below.setCell ?_ (by first | omega | (simp; done) | (simp; omega)) _) | (with_reducible refine Below.alloc ?_ (by first | omega | (simp; done) | (simp; omega)) _) | (with_reducible refine Below.drew ?_) | (with_reducible refine below_drewN ?_ _) | (with_reducible refine Below.trans ?_ (Below.mono (by assumption) (by first | omega | (simp; done) | (simp; omega))))))
set_option maxRecDepth 100000 in
set_option maxHeartbeats 4000000 in
theorem fDensity_bad (hv : ¬ VG W H n G) : Calls Tryd.prog 13 #[.agg #[.int .i64 W, .int .i64 H, .slice (ao) n cap], .agg #[.int .i64 ax, .int .i64 ay], .agg #[.int .i64 bx, .int .i64 yb]] w fun e w' => e = .returned (.tuple #[.agg #[.int .i64 0, .int .i64 0], .int .i64 1]) ∧ Below w.heap.size w w' := by
  have HV := Lib.hid hv
  have HC := Lib.hid hG
  clear hv hG
  go_enter Tryd.func13, Tryd.ntmps13
  go_wp2_with (go_at_call 61; (with_reducible refine (newBlock_bad W H ao n cap G ax ay bx yb _ HV.out (HC.out.below (by (repeat' (first | (with_reducible exact Below.refl _ _) | (with_reducible refine Below.setCell ?_ (by first | omega | (simp; done) | (simp; omega)) _) | (with_reducible refine Below.alloc ?_ (by first | omega | (simp; done) | (simp; omega)) _) | (with_reducible refine Below.drew ?_) | (with_reducible refine below_drewN ?_ _) | (with_reducible refine Below.trans ?_ (Below.mono (by assumption) (by first | omega | (simp; done) | (simp; omega))))))))).mono ?_); rintro e w1 ⟨rfl, hb⟩; obtain ⟨hc, hf, hz⟩ := bcall hb; (try simp at hc hf hz))
  refine bodyPost_ret (v := .tuple #[.agg #[.int .i64 0, .int .i64 0], .int .i64 1]) (by simp [results, Tryd.results13, go_sem, ↓IntWalk.iteOmega, *]) rfl ⟨rfl, ?_⟩
  (repeat' (first | (with_reducible exact Below.refl _ _) | (with_reducible refine Below.setCell ?_ (by first | omega | (simp; done) | (simp; omega)) _) | (with_reducible refine Below.alloc ?_ (by first | omega | (simp; done) | (simp; omega)) _) | (with_reducible refine Below.drew ?_) | (with_reducible refine below_drewN ?_ _) | (with_reducible refine Below.trans ?_ (Below.mono (by assumption) (by first | omega | (simp; done) | (simp; omega))))))
set_option maxRecDepth 100000 in
set_option maxHeartbeats 4000000 in
theorem fDensity_rng (hv : VG W H n G) (h : ¬ BlkOk W H ax ay bx yb) : Calls Tryd.prog 13 #[.agg #[.int .i64 W, .int .i64 H, .slice (ao) n cap], .agg #[.int .i64 ax, .int .i64 ay], .agg #[.int .i64 bx, .int .i64 yb]] w fun e w' => e = .returned (.tuple #[.agg #[.int .i64 0, .int .i64 0], .int .i64 7]) ∧ Below w.heap.size w w' := by
  have HV := Lib.hid hv
  have HC := Lib.hid hG
  have HB := Lib.hid h
  clear hv hG h
  go_enter Tryd.func13, Tryd.ntmps13
  go_wp2_with (go_at_call 61; (with_reducible refine (newBlock_rng W H ao n cap G ax ay bx yb _ HV.out (HC.out.below (by (repeat' (first | (with_reducible exact Below.refl _ _) | (with_reducible refine Below.setCell ?_ (by first | omega | (simp; done) | (simp; omega)) _) | (with_reducible refine Below.alloc ?_ (by first | omega | (simp; done) | (simp; omega)) _) | (with_reducible refine Below.drew ?_) | (with_reducible refine below_drewN ?_ _) | (with_reducible refine Below.trans ?_ (Below.mono (by assumption) (by first | omega | (simp; done) | (simp; omega)))))))) HB.out).mono ?_); rintro e w1 ⟨rfl, hb⟩; obtain ⟨hc, hf, hz⟩ := bcall hb; (try simp at hc hf hz))
  refine bodyPost_ret (v := .tuple #[.agg #[.int .i64 0, .int .i64 0], .int .i64 7]) (by simp [results, Tryd.results13, go_sem, ↓IntWalk.iteOmega, *]) rfl ⟨rfl, ?_⟩
  (repeat' (first | (with_reducible exact Below.refl _ _) | (with_reducible refine Below.setCell ?_ (by first | omega | (simp; done) | (simp; omega)) _) | (with_reducible refine Below.alloc ?_ (by first | omega | (simp; done) | (simp; omega)) _) | (with_reducible refine Below.drew ?_) | (with_reducible refine below_drewN ?_ _) | (with_reducible refine Below.trans ?_ (Below.mono (by assumption) (by first | omega | (simp; done) | (simp; omega))))))
set_option maxRecDepth 100000 in
set_option maxHeartbeats 4000000 in
theorem fVel_bad (hv : ¬ VG W H n G) : Calls Tryd.prog 15 #[.agg #[.int .i64 W, .int .i64 H, .slice (ao) n cap], .agg #[.int .i64 ax, .int .i64 ay], .agg #[.int .i64 bx, .int .i64 yb]] w fun e w' => e = .returned (.tuple #[.agg #[.int .i64 0, .int .i64 0], .agg #[.int .i64 0, .int .i64 0], .int .i64 1]) ∧ Below w.heap.size w w' := by
  have HV := Lib.hid hv
  have HC := Lib.hid hG
  clear hv hG
  go_enter Tryd.func15, Tryd.ntmps15
  go_wp2_with (go_at_call 61; (with_reducible refine (newBlock_bad W H ao n cap G ax ay bx yb _ HV.out (HC.out.below (by (repeat' (first | (with_reducible exact Below.refl _ _) | (with_reducible refine Below.setCell ?_ (by first | omega | (simp; done) | (simp; omega)) _) | (with_reducible refine Below.alloc ?_ (by first | omega | (simp; done) | (simp; omega)) _) | (with_reducible refine Below.drew ?_) | (with_reducible refine below_drewN ?_ _) | (with_reducible refine Below.trans ?_ (Below.mono (by assumption) (by first | omega | (simp; done) | (simp; omega))))))))).mono ?_); rintro e w1 ⟨rfl, hb⟩; obtain ⟨hc, hf, hz⟩ := bcall hb; (try simp at hc hf hz))
  refine bodyPost_ret (v := .tuple #[.agg #[.int .i64 0, .int .i64 0], .agg #[.int .i64 0, .int .i64 0], .int .i64 1]) (by simp [results, Tryd.results15, go_sem, ↓IntWalk.iteOmega, *]) rfl ⟨rfl, ?_⟩
  (repeat' (first | (with_reducible exact Below.refl _ _) | (with_reducible refine Below.setCell ?_ (by first | omega | (simp; done) | (simp; omega)) _) | (with_reducible refine Below.alloc ?_ (by first | omega | (simp; done) | (simp; omega)) _) | (with_reducible refine Below.drew ?_) | (with_reducible refine below_drewN ?_ _) | (with_reducible refine Below.trans ?_ (Below.mono (by assumption) (by first | omega | (simp; done) | (simp; omega))))))
set_option maxRecDepth 100000 in
set_option maxHeartbeats 4000000 in
theorem fVel_rng (hv : VG W H n G) (h : ¬ BlkOk W H ax ay bx yb) : Calls Tryd.prog 15 #[.agg #[.int .i64 W, .int .i64 H, .slice (ao) n cap], .agg #[.int .i64 ax, .int .i64 ay], .agg #[.int .i64 bx, .int .i64 yb]] w fun e w' => e = .returned (.tuple #[.agg #[.int .i64 0, .int .i64 0], .agg #[.int .i64 0, .int .i64 0], .int .i64 7]) ∧ Below w.heap.size w w' := by
  have HV := Lib.hid hv
  have HC := Lib.hid hG
  have HB := Lib.hid h
  clear hv hG h
  go_enter Tryd.func15, Tryd.ntmps15
  go_wp2_with (go_at_call 61; (with_reducible refine (newBlock_rng W H ao n cap G ax ay bx yb _ HV.out (HC.out.below (by (repeat' (first | (with_reducible exact Below.refl _ _) | (with_reducible refine Below.setCell ?_ (by first | omega | (simp; done) | (simp; omega)) _) | (with_reducible refine Below.alloc ?_ (by first | omega | (simp; done) | (simp; omega)) _) | (with_reducible refine Below.drew ?_) | (with_reducible refine below_drewN ?_ _) | (with_reducible refine Below.trans ?_ (Below.mono (by assumption) (by first | omega | (simp; done) | (simp; omega)))))))) HB.out).mono ?_); rintro e w1 ⟨rfl, hb⟩; obtain ⟨hc, hf, hz⟩ := bcall hb; (try simp at hc hf hz))
  refine bodyPost_ret (v := .tuple #[.agg #[.int .i64 0, .int .i64 0], .agg #[.int .i64 0, .int .i64 0], .int .i64 7]) (by simp [results, Tryd.results15, go_sem, ↓IntWalk.iteOmega, *]) rfl ⟨rfl, ?_⟩
  (repeat' (first | (with_reducible exact Below.refl _ _) | (with_reducible refine Below.setCell ?_ (by first | omega | (simp; done) | (simp; omega)) _) | (with_reducible refine Below.alloc ?_ (by first | omega | (simp; done) | (simp; omega)) _) | (with_reducible refine Below.drew ?_) | (with_reducible refine below_drewN ?_ _) | (with_reducible refine Below.trans ?_ (Below.mono (by assumption) (by first | omega | (simp; done) | (simp; omega))))))
end
section
variable (W H : Int) (ao : Option Addr) (n cap : Nat) (G : Nat → Nat → Int) (wi hi : Int) (w : World) (hG : CellsIn w ao n G)
include hG
set_option maxRecDepth 100000 in
set_option maxHeartbeats 4000000 in
theorem fDensest_bad (hv : ¬ VG W H n G) : Calls Tryd.prog 17 #[.agg #[.int .i64 W, .int .i64 H, .slice (ao) n cap], .int .i64 wi, .int .i64 hi] w fun e w' => e = .returned (.tuple #[.agg #[.int .i64 0, .int .i64 0], .int .i64 1]) ∧ Below w.heap.size w w' := by
  have CS := Lib.hid (fun wx (hb : Below w.heap.size w wx) => fSides_bad W H ao n cap G wi hi wx (hG.below hb) hv)
  clear hv hG
  go_enter Tryd.func17, Tryd.ntmps17
  go_wp2_with (go_at_call 72; (with_reducible refine (CS.out _ (by (repeat' (first | (with_reducible exact Below.refl _ _) | (with_reducible refine Below.setCell ?_ (by first | omega | (simp; done) | (simp; omega)) _) | (with_reducible refine Below.alloc ?_ (by first | omega | (simp; done) | (simp; omega)) _) | (with_reducible refine Below.drew ?_) | (with_reducible refine below_drewN ?_ _) | (with_reducible refine Below.trans ?_ (Below.mono (by assumption) (by first | omega | (simp; done) | (simp; omega)))))))).mono ?_); rintro e w1 ⟨rfl, hb⟩; obtain ⟨hc, hf, hz⟩ := bcall hb; (try simp at hc hf hz))
  refine bodyPost_ret (v := .tuple #[.agg #[.int .i64 0, .int .i64 0], .int .i64 1]) (by simp [results, Tryd.results17, go_sem, ↓IntWalk.iteOmega, *]) rfl ⟨rfl, ?_⟩
  (repeat' (first | (with_reducible exact Below.refl _ _) | (with_reducible refine Below.setCell ?_ (by first | omega | (simp; done) | (simp; omega)) _) | (with_reducible refine Below.alloc ?_ (by first | omega | (simp; done) | (simp; omega)) _) | (with_reducible refine Below.drew ?_) | (with_reducible refine below_drewN ?_ _) | (with_reducible refine Below.trans ?_ (Below.mono (by assumption) (by first | omega | (simp; done) | (simp; omega))))))
set_option maxRecDepth 100000 in
set_option maxHeartbeats 4000000 in
theorem fDensest_rng (hv : VG W H n G) (h : ¬ SidOk W H wi hi) : Calls Tryd.prog 17 #[.agg #[.int .i64 W, .int .i64 H, .slice (ao) n cap], .int .i64 wi, .int .i64 hi] w fun e w' => e = .returned (.tuple #[.agg #[.int .i64 0, .int .i64 0], .int .i64 7]) ∧ Below w.heap.size w w' := by
  have CS := Lib.hid (fun wx (hb : Below w.heap.size w wx) => fSides_rng W H ao n cap G wi hi wx (hG.below hb) hv h)
  clear hv hG h
  go_enter Tryd.func17, Tryd.ntmps17
  go_wp2_with (go_at_call 72; (with_reducible refine (CS.out _ (by (repeat' (first | (with_reducible exact Below.refl _ _) | (with_reducible refine Below.setCell ?_ (by first | omega | (simp; done) | (simp; omega)) _) | (with_reducible refine Below.alloc ?_ (by first | omega | (simp; done) | (simp; omega)) _) | (with_reducible refine Below.drew ?_) | (with_reducible refine below_drewN ?_ _) | (with_reducible refine Below.trans ?_ (Below.mono (by assumption) (by first | omega | (simp; done) | (simp; omega)))))))).mono ?_); rintro e w1 ⟨rfl, hb⟩; obtain ⟨hc, hf, hz⟩ := bcall hb; (try simp at hc hf hz))
  refine bodyPost_ret (v := .tuple #[.agg #[.int .i64 0, .int .i64 0], .int .i64 7]) (by simp [results, Tryd.results17, go_sem, ↓IntWalk.iteOmega, *]) rfl ⟨rfl, ?_⟩
  (repeat' (first | (with_reducible exact Below.refl _ _) | (with_reducible refine Below.setCell ?_ (by first | omega | (simp; done) | (simp; omega)) _) | (with_reducible refine Below.alloc ?_ (by first | omega | (simp; done) | (simp; omega)) _) | (with_reducible refine Below.drew ?_) | (with_reducible refine below_drewN ?_ _) | (with_reducible refine Below.trans ?_ (Below.mono (by assumption) (by first | omega | (simp; done) | (simp; omega))))))
set_option maxRecDepth 100000 in
set_option maxHeartbeats 4000000 in
theorem fTable_bad (hv : ¬ VG W H n G) : Calls Tryd.prog 19 #[.agg #[.int .i64 W, .int .i64 H, .slice (ao) n cap], .int .i64 wi, .int .i64 hi] w fun e w' => e = .returned (.tuple #[.slice none 0 0, .int .i64 1]) ∧ Below w.heap.size w w' := by
  have CS := Lib.hid (fun wx (hb : Below w.heap.size w wx) => fSides_bad W H ao n cap G wi hi wx (hG.below hb) hv)
  clear hv hG
  go_enter Tryd.func19, Tryd.ntmps19
  go_wp2_with (go_at_call 72; (with_reducible refine (CS.out _ (by (repeat' (first | (with_reducible exact Below.refl _ _) | (with_reducible refine Below.setCell ?_ (by first | omega | (simp; done) | (simp; omega)) _) | (with_reducible refine Below.alloc ?_ (by first | omega | (simp; done) | (simp; omega)) _) | (with_reducible refine Below.drew ?_) | (with_reducible refine below_drewN ?_ _) | (with_reducible refine Below.trans ?_ (Below.mono (by assumption) (by first | omega | (simp; done) | (simp; omega)))))))).mono ?_); rintro e w1 ⟨rfl, hb⟩; obtain ⟨hc, hf, hz⟩ := bcall hb; (try simp at hc hf hz))
  refine bodyPost_ret (v := .tuple #[.slice none 0 0, .int .i64 1]) (by simp [results, Tryd.results19, go_sem, ↓IntWalk.iteOmega, *]) rfl ⟨rfl, ?_⟩
  (repeat' (first | (with_reducible exact Below.refl _ _) | (with_reducible refine Below.setCell ?_ (by first | omega | (simp; done) | (simp; omega)) _) | (with_reducible refine Below.alloc ?_ (by first | omega | (simp; done) | (simp; omega)) _) | (with_reducible refine Below.drew ?_) | (with_reducible refine below_drewN ?_ _) | (with_reducible refine Below.trans ?_ (Below.mono (by assumption) (by first | omega | (simp; done) | (simp; omega))))))
set_option maxRecDepth 100000 in
set_option maxHeartbeats 4000000 in
theorem fTable_rng (hv : VG W H n G) (h : ¬ SidOk W H wi hi) : Calls Tryd.prog 19 #[.agg #[.int .i64 W, .int .i64 H, .slice (ao) n cap], .int .i64 wi, .int .i64 hi] w fun e w' => e = .returned (.tuple #[.slice none 0 0, .int .i64 7]) ∧ Below w.heap.size w w' := by
  have CS := Lib.hid (fun wx (hb : Below w.heap.size w wx) => fSides_rng W H ao n cap G wi hi wx (hG.below hb) hv h)
  clear hv hG h
  go_enter Tryd.func19, Tryd.ntmps19
  go_wp2_with (go_at_call 72; (with_reducible refine (CS.out _ (by (repeat' (first | (with_reducible exact Below.refl _ _) | (with_reducible refine Below.setCell ?_ (by first | omega | (simp; done) | (simp; omega)) _) | (with_reducible refine Below.alloc ?_ (by first | omega | (simp; done) | (simp; omega)) _) | (with_reducible refine Below.drew ?_) | (with_reducible refine below_drewN ?_ _) | (with_reducible refine Below.trans ?_ (Below.mono (by assumption) (by first | omega | (simp; done) | (simp; omega)))))))).mono ?_); rintro e w1 ⟨rfl, hb⟩; obtain ⟨hc, hf, hz⟩ := bcall hb; (try simp at hc hf hz))
  refine bodyPost_ret (v := .tuple #[.slice none 0 0, .int .i64 7]) (by simp [results, Tryd.results19, go_sem, ↓IntWalk.iteOmega, *]) rfl ⟨rfl, ?_⟩
  (repeat' (first | (with_reducible exact Below.refl _ _) | (with_reducible refine Below.setCell ?_ (by first | omega | (simp; done) | (simp; omega)) _) | (with_reducible refine Below.alloc ?_ (by first | omega | (simp; done) | (simp; omega)) _) | (with_reducible refine Below.drew ?_) | (with_reducible refine below_drewN ?_ _) | (with_reducible refine Below.trans ?_ (Below.mono (by assumption) (by first | omega | (simp; done) | (simp; omega))))))
set_option maxRecDepth 100000 in
set_option maxHeartbeats 4000000 in
theorem fTable_size (hv : VG W H n G) (h : SidOk W H wi hi) (r s : Int) (e1 : Int.tmod W wi = r) (e2 : Int.tmod H hi = s) (hrs : r ≠ 0 ∨ (r = 0 ∧ s ≠ 0)) : Calls Tryd.prog 19 #[.agg #[.int .i64 W, .int .i64 H, .slice (ao) n cap], .int .i64 wi, .int .i64 hi] w fun e w' => e = .returned (.tuple #[.slice none 0 0, .int .i64 9]) ∧ Below w.heap.size w w' := by
  have CS := Lib.hid (fun wx (hb : Below w.heap.size w wx) => fSides_ok W H ao n cap G wi hi wx (hG.below hb) hv h)
  have n1 : ¬ wi = 0 := by have := h.1.1; omega
  have n2 : ¬ hi = 0 := by have := h.2.1; omega
  have r1 := rem_in ⟨hv.1.1, hv.1.2.1⟩ h.1 e1
  have r2 := rem_in ⟨hv.1.2.2.1, hv.1.2.2.2.1⟩ h.2 e2
  have h3 := h.1.2
  have h4 := h.2.2
  have h5 := hv.1.2.1
  have h6 := hv.1.2.2.2.1
  have x1 : IntKind.i64.wrap r = r := IntWalk.i64_in _ ⟨by omega, by omega⟩
  have x2 : IntKind.i64.wrap s = s := IntWalk.i64_in _ ⟨by omega, by omega⟩
  clear r1 r2 h3 h4 h5 h6 hv
  clear hG h
  rcases hrs with h1 | ⟨rfl, h1⟩
  all_goals
    go_enter Tryd.func19, Tryd.ntmps19
    go_wp2_with (go_at_call 72; (with_reducible refine (CS.out _ (by (repeat' (first | (with_reducible exact Below.refl _ _) | (with_reducible refine Below.setCell ?_ (by first | omega | (simp; done) | (simp; omega)) _) | (with_reducible refine Below.alloc ?_ (by first | omega | (simp; done) | (simp; omega)) _) | (with_reducible refine Below.drew ?_) | (with_reducible refine below_drewN ?_ _) | (with_reducible refine Below.trans ?_ (Below.mono (by assumption) (by first | omega | (simp; done) | (simp; omega)))))))).mono ?_); rintro e w1 ⟨rfl, hb⟩; obtain ⟨hc, hf, hz⟩ := bcall hb; (try simp at hc hf hz))
    refine bodyPost_ret (v := .tuple #[.slice none 0 0, .int .i64 9]) (by simp [results, Tryd.results19, go_sem, ↓IntWalk.iteOmega, *]) rfl ⟨rfl, ?_⟩
    (repeat' (first | (with_reducible exact Below.refl _ _) | (with_reducible refine Below.setCell ?_ (by first | omega | (simp; done) | (simp; omega)) _) | (with_reducible refine Below.alloc ?_ (by first | omega | (simp; done) | (simp; omega)) _) | (with_reducible refine Below.drew ?_) | (with_reducible refine below_drewN ?_ _) | (with_reducible refine Below.trans ?_ (Below.mono (by assumption) (by first | omega | (simp; done) | (simp; omega))))))
end
section
variable (W H : Int) (ao : Option Addr) (n cap : Nat) (G : Nat → Nat → Int) (a : Int) (w : World) (hG : CellsIn w ao n G)
include hG
set_option maxRecDepth 100000 in
set_option maxHeartbeats 4000000 in
theorem flines_bad (hv : ¬ VG W H n G) : Calls Tryd.prog 79 #[.agg #[.int .i64 W, .int .i64 H, .slice (ao) n cap], .int .i64 a] w fun e w' => e = .returned (.tuple #[.slice none 0 0, .int .i64 1]) ∧ Below w.heap.size w w' := by
  have HV := Lib.hid hv
  have HC := Lib.hid hG
  clear hv hG
  go_enter Tryd.func79, Tryd.ntmps79
  go_wp2_with (go_at_call 89; (with_reducible refine (gValid_bad W H ao n cap G _ HV.out (HC.out.below (by (repeat' (first | (with_reducible exact Below.refl _ _) | (with_reducible refine Below.setCell ?_ (by first | omega | (simp; done) | (simp; omega)) _) | (with_reducible refine Below.alloc ?_ (by first | omega | (simp; done) | (simp; omega)) _) | (with_reducible refine Below.drew ?_) | (with_reducible refine below_drewN ?_ _) | (with_reducible refine Below.trans ?_ (Below.mono (by assumption) (by first | omega | (simp; done) | (simp; omega))))))))).mono ?_); rintro e w1 ⟨rfl, hb⟩; obtain ⟨hc, hf, hz⟩ := bcall hb; (try simp at hc hf hz))
  refine bodyPost_ret (v := .tuple #[.slice none 0 0, .int .i64 1]) (by simp [results, Tryd.results79, go_sem, ↓IntWalk.iteOmega, *]) rfl ⟨rfl, ?_⟩
  (repeat' (first | (with_reducible exact Below.refl _ _) | (with_reducible refine Below.setCell ?_ (by first | omega | (simp; done) | (simp; omega)) _) | (with_reducible refine Below.alloc ?_ (by first | omega | (simp; done) | (simp; omega)) _) | (with_reducible refine Below.drew ?_) | (with_reducible refine below_drewN ?_ _) | (with_reducible refine Below.trans ?_ (Below.mono (by assumption) (by first | omega | (simp; done) | (simp; omega))))))
set_option maxRecDepth 100000 in
set_option maxHeartbeats 4000000 in
theorem flines_rng (hv : VG W H n G) (h : ¬ (0 ≤ a ∧ a ≤ 1)) : Calls Tryd.prog 79 #[.agg #[.int .i64 W, .int .i64 H, .slice (ao) n cap], .int .i64 a] w fun e w' => e = .returned (.tuple #[.slice none 0 0, .int .i64 7]) ∧ Below w.heap.size w w' := by
  have h0 : ¬ a = 0 := by omega
  have h1 : ¬ a = 1 := by omega
  have HV := Lib.hid hv
  have HC := Lib.hid hG
  clear hv hG h
  go_enter Tryd.func79, Tryd.ntmps79
  go_wp2_with (go_at_call 89; (with_reducible refine (gValid_ok W H ao n cap G _ HV.out (HC.out.below (by (repeat' (first | (with_reducible exact Below.refl _ _) | (with_reducible refine Below.setCell ?_ (by first | omega | (simp; done) | (simp; omega)) _) | (with_reducible refine Below.alloc ?_ (by first | omega | (simp; done) | (simp; omega)) _) | (with_reducible refine Below.drew ?_) | (with_reducible refine below_drewN ?_ _) | (with_reducible refine Below.trans ?_ (Below.mono (by assumption) (by first | omega | (simp; done) | (simp; omega))))))))).mono ?_); rintro e w1 ⟨rfl, hb⟩; obtain ⟨hc, hf, hz⟩ := bcall hb; (try simp at hc hf hz))
  refine bodyPost_ret (v := .tuple #[.slice none 0 0, .int .i64 7]) (by simp [results, Tryd.results79, go_sem, ↓IntWalk.iteOmega, *]) rfl ⟨rfl, ?_⟩
  (repeat' (first | (with_reducible exact Below.refl _ _) | (with_reducible refine Below.setCell ?_ (by first | omega | (simp; done) | (simp; omega)) _) | (with_reducible refine Below.alloc ?_ (by first | omega | (simp; done) | (simp; omega)) _) | (with_reducible refine Below.drew ?_) | (with_reducible refine below_drewN ?_ _) | (with_reducible refine Below.trans ?_ (Below.mono (by assumption) (by first | omega | (simp; done) | (simp; omega))))))
set_option maxRecDepth 100000 in
set_option maxHeartbeats 4000000 in
theorem fProf_bad (hv : ¬ VG W H n G) : Calls Tryd.prog 22 #[.agg #[.int .i64 W, .int .i64 H, .slice (ao) n cap], .int .i64 a] w fun e w' => e = .returned (.tuple #[.slice none 0 0, .int .i64 1]) ∧ Below w.heap.size w w' := by
  have CS := Lib.hid (fun wx (hb : Below w.heap.size w wx) => flines_bad W H ao n cap G a wx (hG.below hb) hv)
  clear hv hG
  go_enter Tryd.func22, Tryd.ntmps22
  go_wp2_with (go_at_call 79; (with_reducible refine (CS.out _ (by (repeat' (first | (with_reducible exact Below.refl _ _) | (with_reducible refine Below.setCell ?_ (by first | omega | (simp; done) | (simp; omega)) _) | (with_reducible refine Below.alloc ?_ (by first | omega | (simp; done) | (simp; omega)) _) | (with_reducible refine Below.drew ?_) | (with_reducible refine below_drewN ?_ _) | (with_reducible refine Below.trans ?_ (Below.mono (by assumption) (by first | omega | (simp; done) | (simp; omega)))))))).mono ?_); rintro e w1 ⟨rfl, hb⟩; obtain ⟨hc, hf, hz⟩ := bcall hb; (try simp at hc hf hz))
  refine bodyPost_ret (v := .tuple #[.slice none 0 0, .int .i64 1]) (by simp [results, Tryd.results22, go_sem, ↓IntWalk.iteOmega, *]) rfl ⟨rfl, ?_⟩
  (repeat' (first | (with_reducible exact Below.refl _ _) | (with_reducible refine Below.setCell ?_ (by first | omega | (simp; done) | (simp; omega)) _) | (with_reducible refine Below.alloc ?_ (by first | omega | (simp; done) | (simp; omega)) _) | (with_reducible refine Below.drew ?_) | (with_reducible refine below_drewN ?_ _) | (with_reducible refine Below.trans ?_ (Below.mono (by assumption) (by first | omega | (simp; done) | (simp; omega))))))
set_option maxRecDepth 100000 in
set_option maxHeartbeats 4000000 in
theorem fProf_rng (hv : VG W H n G) (h : ¬ (0 ≤ a ∧ a ≤ 1)) : Calls Tryd.prog 22 #[.agg #[.int .i64 W, .int .i64 H, .slice (ao) n cap], .int .i64 a] w fun e w' => e = .returned (.tuple #[.slice none 0 0, .int .i64 7]) ∧ Below w.heap.size w w' := by
  have CS := Lib.hid (fun wx (hb : Below w.heap.size w wx) => flines_rng W H ao n cap G a wx (hG.below hb) hv h)
  clear hv hG h
  go_enter Tryd.func22, Tryd.ntmps22
  go_wp2_with (go_at_call 79; (with_reducible refine (CS.out _ (by (repeat' (first | (with_reducible exact Below.refl _ _) | (with_reducible refine Below.setCell ?_ (by first | omega | (simp; done) | (simp; omega)) _) | (with_reducible refine Below.alloc ?_ (by first | omega | (simp; done) | (simp; omega)) _) | (with_reducible refine Below.drew ?_) | (with_reducible refine below_drewN ?_ _) | (with_reducible refine Below.trans ?_ (Below.mono (by assumption) (by first | omega | (simp; done) | (simp; omega)))))))).mono ?_); rintro e w1 ⟨rfl, hb⟩; obtain ⟨hc, hf, hz⟩ := bcall hb; (try simp at hc hf hz))
  refine bodyPost_ret (v := .tuple #[.slice none 0 0, .int .i64 7]) (by simp [results, Tryd.results22, go_sem, ↓IntWalk.iteOmega, *]) rfl ⟨rfl, ?_⟩
  (repeat' (first | (with_reducible exact Below.refl _ _) | (with_reducible refine Below.setCell ?_ (by first | omega | (simp; done) | (simp; omega)) _) | (with_reducible refine Below.alloc ?_ (by first | omega | (simp; done) | (simp; omega)) _) | (with_reducible refine Below.drew ?_) | (with_reducible refine below_drewN ?_ _) | (with_reducible refine Below.trans ?_ (Below.mono (by assumption) (by first | omega | (simp; done) | (simp; omega))))))
end
theorem blkOk_of {W H ax ay bx yb : Nat} (h1 : ax ≤ bx) (h2 : bx < W) (h3 : ay ≤ yb) (h4 : yb < H) : BlkOk W H ax ay bx yb := ⟨⟨⟨⟨by omega, by omega⟩, by omega, by omega⟩, ⟨by omega, by omega⟩, by omega, by omega⟩, by omega, by omega⟩
section
variable (W H n cap b off : Nat) (G : Nat → Nat → Int) (ax ay bx yb : Nat) (w : World) (s : Sides W H n) (hO : OkG n G) (lb : b < w.heap.size) (hG : Grd w b off n G) (h1 : ax ≤ bx) (h2 : bx < W) (h3 : ay ≤ yb) (h4 : yb < H)
include s hO lb hG h1 h2 h3 h4
omit hO lb hG in
theorem fsize_bl (wx : World) (hb : Below w.heap.size w wx) : Calls Tryd.prog 62 #[.agg #[.int .i64 W, .int .i64 H, .slice (some ⟨b, off, none⟩) n cap, .int .i64 ((ax : Int)), .int .i64 ((ay : Int)), .int .i64 ((bx : Int)), .int .i64 ((yb : Int))]] wx fun e w' => e = .returned (.int .i64 ((((bx + 1 - ax) * (yb + 1 - ay) : Nat) : Int))) ∧ Below wx.heap.size wx w' := by
  have hW := s.w1
  have hH := s.h1
  exact fSize_in W H (some ⟨b, off, none⟩) n cap ax ay bx yb (bx + 1 - ax) (yb + 1 - ay) wx (by omega) (by omega) (by omega) (by omega) ⟨by omega, by omega⟩ ⟨by omega, by omega⟩
set_option maxRecDepth 100000 in
set_option maxHeartbeats 4000000 in
theorem fCells_ok : Calls Tryd.prog 11 #[.agg #[.int .i64 W, .int .i64 H, .slice (some ⟨b, off, none⟩) n cap], .agg #[.int .i64 ((ax : Int)), .int .i64 ((ay : Int))], .agg #[.int .i64 ((bx : Int)), .int .i64 ((yb : Int))]] w fun e w' => e = .returned (.tuple #[.int .i64 ((((bx + 1 - ax) * (yb + 1 - ay) : Nat) : Int)), .int .i64 0]) ∧ Below w.heap.size w w' := by
  have SI := fsize_bl W H n cap b off ax ay bx yb w s h1 h2 h3 h4
  have HV := vg_of s hO
  have HC := show CellsIn w (some ⟨b, off, none⟩) n G from Or.inr ⟨b, off, rfl, lb, hG⟩
  have HB := blkOk_of h1 h2 h3 h4
  have NB := Lib.hid (fun wx (hb : Below w.heap.size w wx) => newBlock_ok W H (some ⟨b, off, none⟩) n cap G ax ay bx yb wx HV (HC.below hb) HB)
  obtain ⟨z, hz⟩ : ∃ z : Int, z = (((bx + 1 - ax) * (yb + 1 - ay) : Nat) : Int) := ⟨_, rfl⟩
  rw [← hz] at SI ⊢
  have SI := Lib.hid SI
  clear hz HV HC HB h1 h2 h3 h4 hG lb s hO
  go_enter Tryd.func11, Tryd.ntmps11
  go_wp2_with (first | (go_at_call 61; (with_reducible refine (NB.out _ (by (repeat' (first | (with_reducible exact Below.refl _ _) | (with_reducible refine Below.setCell ?_ (by first | omega | (simp; done) | (simp; omega)) _) | (with_reducible refine Below.alloc ?_ (by first | omega | (simp; done) | (simp; omega)) _) | (with_reducible refine Below.drew ?_) | (with_reducible refine below_drewN ?_ _) | (with_reducible refine Below.trans ?_ (Below.mono (by assumption) (by first | omega | (simp; done) | (simp; omega)))))))).mono ?_); rintro e w1 ⟨rfl, hb⟩; obtain ⟨hc, hf, hz⟩ := bcall hb; (try simp at hc hf hz)) | (go_at_call 62; (with_reducible refine (SI.out _ (by (repeat' (first | (with_reducible exact Below.refl _ _) | (with_reducible refine Below.setCell ?_ (by first | omega | (simp; done) | (simp; omega)) _) | (with_reducible refine Below.alloc ?_ (by first | omega | (simp; done) | (simp; omega)) _) | (with_reducible refine Below.drew ?_) | (with_reducible refine below_drewN ?_ _) | (with_reducible refine Below.trans ?_ (Below.mono (by assumption) (by first | omega | (simp; done) | (simp; omega)))))))).mono ?_); rintro e w1 ⟨rfl, hb⟩; obtain ⟨hc, hf, hz⟩ := bcall hb; (try simp at hc hf hz)))
  refine bodyPost_ret (v := .tuple #[.int .i64 z, .int .i64 0]) (by simp [results, Tryd.results11, go_sem, ↓IntWalk.iteOmega, *]) rfl ⟨rfl, ?_⟩
  (repeat' (first | (with_reducible exact Below.refl _ _) | (with_reducible refine Below.setCell ?_ (by first | omega | (simp; done) | (simp; omega)) _) | (with_reducible refine Below.alloc ?_ (by first | omega | (simp; done) | (simp; omega)) _) | (with_reducible refine Below.drew ?_) | (with_reducible refine below_drewN ?_ _) | (with_reducible refine Below.trans ?_ (Below.mono (by assumption) (by first | omega | (simp; done) | (simp; omega))))))
end
end Go.Proofs.YtmdeooflgkjbbaaDoor

/- The block with the greatest mass: by the program of the fields. -/

namespace Go.Proofs.YtmdeooflgkjbbaaDoor
set_option linter.unusedSimpArgs false
set_option linter.unusedVariables false
open Go.RowKit Go.Shelf
attribute [local go_sem] Oper.semAt_some

set_option maxRecDepth 100000 in
set_option maxHeartbeats 4000000 in
theorem fDns1_in (W H : Int) (ao : Option Addr) (N cap : Nat) (ax ay bx yb z : Int) (w : World)
    (C : ∀ wx, Below w.heap.size w wx → Calls Tryd.prog 66 #[.agg #[.int .i64 W, .int .i64 H, .slice ao N cap, .int .i64 ax, .int .i64 ay, .int .i64 bx, .int .i64 yb], .func (.func 67) #[] #[]] wx fun e w' => e = .returned (.int .i64 z) ∧ Below wx.heap.size wx w') :
    Calls Tryd.prog 75 #[.agg #[.int .i64 W, .int .i64 H, .slice ao N cap, .int .i64 ax, .int .i64 ay, .int .i64 bx, .int .i64 yb]] w fun e w' => e = .returned (.int .i64 z) ∧ Below w.heap.size w w' := by
  have C := Lib.hid C
  go_enter Tryd.func75, Tryd.ntmps75
  go_wp2_with (go_at_call 66; (with_reducible refine (C.out _ (by (repeat' (first | (with_reducible exact Below.refl _ _) | (with_reducible refine Below.setCell ?_ (by first | omega | (simp; done) | (simp; omega)) _) | (with_reducible refine Below.alloc ?_ (by first | omega | (simp; done) | (simp; omega)) _) | (with_reducible refine Below.drew ?_) | (with_reducible refine below_drewN ?_ _) | (with_reducible refine Below.trans ?_ (Below.mono (by assumption) (by first | omega | (simp; done) | (simp; omega)))))))).mono ?_); rintro e w1 ⟨rfl, hb⟩; obtain ⟨hc, hf, hz⟩ := bcall hb; (try simp at hc hf hz))
  go_ret
  refine ⟨rfl, ?_⟩
  (repeat' (first | (with_reducible exact Below.refl _ _) | (with_reducible refine Below.setCell ?_ (by first | omega | (simp; done) | (simp; omega)) _) | (with_reducible refine Below.alloc ?_ (by first | omega | (simp; done) | (simp; omega)) _) | (with_reducible refine Below.drew ?_) | (with_reducible refine below_drewN ?_ _) | (with_reducible refine Below.trans ?_ (Below.mono (by assumption) (by first | omega | (simp; done) | (simp; omega))))))
/-- The mass of the block with two sides at a place. -/
def dnsP (G : Nat → Nat → Int) (W wi hi : Nat) (p : Nat × Nat) : Int := blS (msC G) W p.1 p.2 (p.1 + wi - 1) (p.2 + hi - 1)
section
variable (W H n cap b off wi hi nx ny : Nat) (G : Nat → Nat → Int) (w : World) (s : Sides W H n) (hO : OkG n G) (lb : b < w.heap.size) (hG : Grd w b off n G) (h1 : 1 ≤ wi) (h2 : 1 ≤ hi) (hx : nx + wi = W + 1) (hy : ny + hi = H + 1)
include s hO lb hG h1 h2 hx hy
theorem tells_dns (wx : World) (hb : Below w.heap.size w wx) : TellsB wx W H wi hi nx ny (some ⟨b, off, none⟩) n cap 75 (dnsP G W wi hi) :=
  ⟨enters_of Tryd.func75 (by kernel_rfl) rfl, fun wy p hk hp => by
    have e1 : (p.1 : Int) + (wi : Int) - 1 = ((p.1 + wi - 1 : Nat) : Int) := by omega
    have e2 : (p.2 : Int) + (hi : Int) - 1 = ((p.2 + hi - 1 : Nat) : Int) := by omega
    rw [e1, e2]
    have lbx : b < wx.heap.size := Nat.lt_of_lt_of_le lb hb.size
    have hGx := hG.below hb lb
    have hGy : Grd wy b off n G := fun i hi => ⟨(hk.cell lbx).trans (hGx i hi).1, (hk.cell lbx).trans (hGx i hi).2.1, (hk.cell lbx).trans (hGx i hi).2.2.1, (hk.cell lbx).trans (hGx i hi).2.2.2⟩
    exact fDns1_in W H (some ⟨b, off, none⟩) n cap _ _ _ _ _ wy
      (fsum_bl W H n cap b off G _ _ _ _ wy s (Nat.lt_of_lt_of_le lbx hk.1) hGy (by omega) (by omega) (by omega) (by omega) 67 (msC G) (fun wz _ => tells_mass wz n G hO) (tells_bd hO).1)⟩
end
section
variable (W H n cap b off wi hi nx ny : Nat) (G : Nat → Nat → Int) (w : World) (s : Sides W H n) (hO : OkG n G) (lb : b < w.heap.size) (hG : Grd w b off n G) (h1 : 1 ≤ wi) (h2 : 1 ≤ hi) (hx : nx + wi = W + 1) (hy : ny + hi = H + 1) (hx1 : 1 ≤ nx) (hy1 : 1 ≤ ny)
include s hO lb hG h1 h2 hx hy hx1 hy1
set_option maxRecDepth 100000 in
set_option maxHeartbeats 16000000 in
theorem fDensest_ok : Calls Tryd.prog 17 #[.agg #[.int .i64 W, .int .i64 H, .slice (some ⟨b, off, none⟩) n cap], .int .i64 ((wi : Int)), .int .i64 ((hi : Int))] w fun e w' => (∃ p, bstB (dnsP G W wi hi) (recP nx ny) = some p ∧ e = .returned (.tuple #[.agg #[.int .i64 ((p.1 : Int)), .int .i64 ((p.2 : Int))], .int .i64 0])) ∧ Below w.heap.size w w' := by
  have CS := Lib.hid (fun wx (hb : Below w.heap.size w wx) => fSides_ok W H (some ⟨b, off, none⟩) n cap G wi hi wx ((show CellsIn w (some ⟨b, off, none⟩) n G from Or.inr ⟨b, off, rfl, lb, hG⟩).below hb) (vg_of s hO) ⟨⟨by omega, by omega⟩, by omega, by omega⟩)
  have GT := Lib.hid (fun wx (hb : Below w.heap.size w wx) Bg Bh Bw lg lh lw c0 c1 c2 cw ch => callsIn_wide.1 (greatB_in Bg Bh Bw W H wi hi nx ny (some ⟨b, off, none⟩) n cap 75 _ wx lg lh lw s.w1 s.h1 hx hy hx1 hy1 c0 c1 c2 cw ch (tells_dns W H n cap b off wi hi nx ny G w s hO lb hG h1 h2 hx hy wx hb)))
  clear s hO lb hG h1 h2 hx hy hx1 hy1
  go_enter Tryd.func17, Tryd.ntmps17
  obtain ⟨w1, hw1⟩ : ∃ w1, w1 = (w.alloc (.cells #[.int .i64 W, .int .i64 H, .slice (some ⟨b, off, none⟩) n cap] 24)).alloc (.cells #[.int .i64 0, .int .i64 0] 26) := ⟨_, rfl⟩
  have t0 := three_alloc (Three.new0 w 24 (.int .i64 W) (.int .i64 H) (.slice (some ⟨b, off, none⟩) n cap)) (.cells #[.int .i64 0, .int .i64 0] 26)
  have t1 := Two.new (w.alloc (.cells #[.int .i64 W, .int .i64 H, .slice (some ⟨b, off, none⟩) n cap] 24)) 26 (.int .i64 0) (.int .i64 0)
  simp only [World.size_alloc] at t1
  have hb1 : Below w.heap.size w ((w.alloc (.cells #[.int .i64 W, .int .i64 H, .slice (some ⟨b, off, none⟩) n cap] 24)).alloc (.cells #[.int .i64 0, .int .i64 0] 26)) := by (repeat' (first | (with_reducible exact Below.refl _ _) | (with_reducible refine Below.setCell ?_ (by first | omega | (simp; done) | (simp; omega)) _) | (with_reducible refine Below.alloc ?_ (by first | omega | (simp; done) | (simp; omega)) _) | (with_reducible refine Below.drew ?_) | (with_reducible refine below_drewN ?_ _) | (with_reducible refine Below.trans ?_ (Below.mono (by assumption) (by first | omega | (simp; done) | (simp; omega))))))
  rw [← hw1] at t0 t1 hb1
  go_wp2_with fail
  rw [← hw1]
  clear hw1
  have s1 := hb1.size
  have l0 := t0.lt
  have l1 := t1.lt
  have T0 := Lib.hid t0
  have T1 := Lib.hid t1
  have B1 := Lib.hid hb1
  clear t0 t1 hb1
  (go_at_call 72; (refine (CS.out _ B1.out).mono ?_); rintro e wa ⟨rfl, hba⟩)
  have t0 := T0.out.below hba l0
  have q0 := t0.c0
  have q1 := t0.c1
  have q2 := t0.c2
  have BA := Lib.hid hba
  clear hba t0
  go_wp2_with fail
  clear q0 q1 q2
  (go_at_call 74; (refine (blocks_ex W H wi hi (some ⟨b, off, none⟩) n cap _).mono ?_); rintro e wb ⟨Bg, Bh, Bw, rfl, hBk, hbb⟩)
  have DB := Lib.hid (BA.out.trans (hbb.mono BA.out.size))
  have HBK := Lib.hid hBk
  clear hBk hbb
  go_wp2_with fail
  (go_at_call 73; (refine (GT.out _ (B1.out.trans (DB.out.mono s1)) Bg Bh Bw HBK.out.1 HBK.out.2.1 HBK.out.2.2.1 HBK.out.2.2.2.1 HBK.out.2.2.2.2.1 HBK.out.2.2.2.2.2.1 HBK.out.2.2.2.2.2.2.1 HBK.out.2.2.2.2.2.2.2).mono ?_); rintro e wc ⟨⟨p, hp, rfl⟩, hbc⟩)
  have DC := Lib.hid (DB.out.trans (hbc.mono DB.out.size))
  clear hbc
  have hpm := recP_mem (bstB_mem _ _ _ hp)
  obtain ⟨x, hx⟩ : ∃ x : Int, x = (p.1 : Int) := ⟨_, rfl⟩
  obtain ⟨y, hy⟩ : ∃ y : Int, y = (p.2 : Int) := ⟨_, rfl⟩
  obtain ⟨bx, hbx⟩ : ∃ bx : Int, bx = (p.1 : Int) + (wi : Int) - 1 := ⟨_, rfl⟩
  obtain ⟨yb, hyb⟩ : ∃ yb : Int, yb = (p.2 : Int) + (hi : Int) - 1 := ⟨_, rfl⟩
  have HP := Lib.hid (show ∃ p, bstB (dnsP G W wi hi) (recP nx ny) = some p ∧ (Ending.returned (.tuple #[.agg #[.int .i64 x, .int .i64 y], .int .i64 0])) = Ending.returned (.tuple #[.agg #[.int .i64 ((p.1 : Int)), .int .i64 ((p.2 : Int))], .int .i64 0]) from ⟨p, hp, by rw [hx, hy]⟩)
  rw [← hbx, ← hyb, ← hx, ← hy]
  clear hx hy hbx hyb hp hpm
  have v6 := T1.out.below DC.out l1
  have bw := B1.out.trans (DC.out.mono s1)
  have hbs := bw.size
  clear T0 T1 B1 BA DB DC HBK CS GT
  have k0 := v6.c0
  have k1 := v6.c1
  have f0 := v6.f0 0
  have f1 := v6.f0 1
  have l6 := v6.lt
  go_wp2
  refine bodyPost_ret (v := .tuple #[.agg #[.int .i64 x, .int .i64 y], .int .i64 0]) (by simp [results, Tryd.results17, go_sem, ↓IntWalk.iteOmega, *]) rfl ⟨HP.out, ?_⟩
  (repeat' (first | (with_reducible exact Below.refl _ _) | (with_reducible refine Below.setCell ?_ (by first | omega | (simp; done) | (simp; omega)) _) | (with_reducible refine Below.alloc ?_ (by first | omega | (simp; done) | (simp; omega)) _) | (with_reducible refine Below.drew ?_) | (with_reducible refine below_drewN ?_ _) | (with_reducible refine Below.trans ?_ (Below.mono (by assumption) (by first | omega | (simp; done) | (simp; omega))))))
end
end Go.Proofs.YtmdeooflgkjbbaaDoor

/- The blocks of a table: the mathematics. -/



namespace Go.Proofs.YtmdeooflgkjbbaaDoor
set_option linter.unusedSimpArgs false
set_option linter.unusedVariables false
open Go.RowKit Go.Shelf

/-- The place of a table's block. -/
def tabP (m wi hi i : Nat) : Nat × Nat := (i % m * wi, i / m * hi)
def tabL (m wi hi k : Nat) : List (Nat × Nat) := (List.range k).map (tabP m wi hi)
theorem tabL_len (m wi hi k : Nat) : (tabL m wi hi k).length = k := by simp [tabL]
theorem tabL_get (m wi hi : Nat) {k i : Nat} (h : i < k) : (tabL m wi hi k)[i]? = some (tabP m wi hi i) := by simp [tabL, h]
/-- Whether a place is a table's. -/
def tabOk (wi hi : Nat) (p : Nat × Nat) : Bool := decide (p.1 % wi = 0) && decide (p.2 % hi = 0)
theorem up_next {wi j : Nat} (h : 1 ≤ wi) : (j + 1 + wi - 1) / wi = (j + wi - 1) / wi + if j % wi = 0 then 1 else 0 := by
  have hj := Nat.div_add_mod j wi
  obtain ⟨q, hq⟩ : ∃ q, q = j / wi := ⟨_, rfl⟩
  obtain ⟨r, hr⟩ : ∃ r, r = j % wi := ⟨_, rfl⟩
  have hl : j % wi < wi := Nat.mod_lt _ h
  rw [← hq, ← hr] at hj
  rw [← hr] at hl ⊢
  by_cases h0 : r = 0
  · rw [if_pos h0]
    have e1 : j + 1 + wi - 1 = 0 + wi * (q + 1) := by rw [Nat.mul_add]; omega
    have e2 : j + wi - 1 = (wi - 1) + wi * q := by omega
    rw [e1, e2, Nat.add_mul_div_left _ _ h, Nat.add_mul_div_left _ _ h, Nat.zero_div, Nat.div_eq_of_lt (show wi - 1 < wi by omega)]
    omega
  · rw [if_neg h0]
    have e1 : j + 1 + wi - 1 = r + wi * (q + 1) := by rw [Nat.mul_add]; omega
    have e2 : j + wi - 1 = (r - 1) + wi * (q + 1) := by rw [Nat.mul_add]; omega
    rw [e1, e2, Nat.add_mul_div_left _ _ h, Nat.add_mul_div_left _ _ h, Nat.div_eq_of_lt hl, Nat.div_eq_of_lt (show r - 1 < wi by omega)]
    omega
theorem up_at {wi j : Nat} (h : 1 ≤ wi) (h0 : j % wi = 0) : (j + wi - 1) / wi * wi = j := by
  have hj := Nat.div_add_mod j wi
  rw [h0] at hj
  have e2 : j + wi - 1 = (wi - 1) + wi * (j / wi) := by omega
  rw [e2, Nat.add_mul_div_left _ _ h, Nat.div_eq_of_lt (show wi - 1 < wi by omega), Nat.zero_add, Nat.mul_comm]
  omega
theorem rowP_tab {wi hi y : Nat} (h : 1 ≤ wi) (j : Nat) : (rowP y j).filter (tabOk wi hi) = if y % hi = 0 then (List.range ((j + wi - 1) / wi)).map (fun t => (t * wi, y)) else [] := by
  induction j with
  | zero =>
    rw [show (0 + wi - 1) / wi = 0 from Nat.div_eq_of_lt (by omega)]
    simp [rowP]
  | succ j ih =>
    simp only [rowP]
    rw [List.filter_append, ih, up_next h]
    by_cases hy : y % hi = 0
    · by_cases h0 : j % wi = 0
      · rw [if_pos hy, if_pos h0, List.range_succ, List.map_append, List.map_cons, List.map_nil, up_at h h0, if_pos hy]
        simp [tabOk, h0, hy]
      · rw [if_pos hy, if_neg h0, if_pos hy]
        simp [tabOk, h0]
    · rw [if_neg hy, if_neg hy]
      simp [tabOk, hy]
theorem recP_tab {wi hi nx : Nat} (h : 1 ≤ wi) (h2 : 1 ≤ hi) {m : Nat} (hm : (nx + wi - 1) / wi = m) (hm1 : 1 ≤ m) (k : Nat) : (recP nx k).filter (tabOk wi hi) = tabL m wi hi ((k + hi - 1) / hi * m) := by
  induction k with
  | zero =>
    rw [show (0 + hi - 1) / hi = 0 from Nat.div_eq_of_lt (by omega)]
    simp [recP, tabL]
  | succ k ih =>
    simp only [recP]
    rw [List.filter_append, ih, rowP_tab h, up_next h2, hm]
    by_cases hk : k % hi = 0
    · rw [if_pos hk, if_pos hk, Nat.add_mul, Nat.one_mul]
      unfold tabL
      rw [List.range_add, List.map_append, List.map_map]
      congr 1
      refine List.map_congr_left fun t ht => ?_
      have ht := List.mem_range.1 ht
      show (t * wi, k) = tabP m wi hi ((k + hi - 1) / hi * m + t)
      unfold tabP
      rw [Nat.mul_comm _ m, Nat.mul_add_mod, Nat.mod_eq_of_lt ht, Nat.mul_add_div (by omega), Nat.div_eq_of_lt ht, Nat.add_zero, up_at h2 hk]
    · rw [if_neg hk, if_neg hk, Nat.add_zero, List.append_nil]
/-- All blocks that are a table's, in their order. -/
theorem tab_all {W H wi hi m M nx ny : Nat} (hW : W = wi * m) (hH : H = hi * M) (hx : nx + wi = W + 1) (hy : ny + hi = H + 1) (h : 1 ≤ wi) (h2 : 1 ≤ hi) (hm1 : 1 ≤ m) : (recP nx ny).filter (tabOk wi hi) = tabL m wi hi (M * m) := by
  have e1 : (nx + wi - 1) / wi = m := by rw [show nx + wi - 1 = 0 + wi * m by omega, Nat.add_mul_div_left _ _ h, Nat.zero_div, Nat.zero_add]
  have e2 : (ny + hi - 1) / hi = M := by rw [show ny + hi - 1 = 0 + hi * M by omega, Nat.add_mul_div_left _ _ h2, Nat.zero_div, Nat.zero_add]
  rw [recP_tab h h2 e1 hm1, e2]
/-- What a table tells of its block i. -/
def tabS (tv : Nat → Int) (W m wi hi i : Nat) : Int := blS tv W (tabP m wi hi i).1 (tabP m wi hi i).2 ((tabP m wi hi i).1 + wi - 1) ((tabP m wi hi i).2 + hi - 1)
theorem tabP_lt {W H wi hi m M i : Nat} (hW : W = wi * m) (hH : H = hi * M) (hm1 : 1 ≤ m) (hi2 : i < M * m) : (tabP m wi hi i).1 + wi ≤ W ∧ (tabP m wi hi i).2 + hi ≤ H := by
  have h1 : i % m < m := Nat.mod_lt _ hm1
  have h2 : i / m < M := (Nat.div_lt_iff_lt_mul hm1).2 hi2
  unfold tabP
  have h3 := Nat.mul_le_mul_right wi (show i % m + 1 ≤ m by omega)
  have h4 := Nat.mul_le_mul_right hi (show i / m + 1 ≤ M by omega)
  rw [Nat.add_mul, Nat.one_mul] at h3 h4
  refine ⟨?_, ?_⟩
  · show i % m * wi + wi ≤ W
    rw [hW, Nat.mul_comm wi m]
    exact h3
  · show i / m * hi + hi ≤ H
    rw [hH, Nat.mul_comm hi M]
    exact h4
/-- The sums over all columns, over all rows, are the sum over the grid. -/
theorem sm_addF (f g : Nat → Int) (n : Nat) : sm n (fun x => f x + g x) = sm n f + sm n g := by
  induction n with
  | zero => rfl
  | succ n ih => simp only [sm]; rw [ih]; omega
theorem sm_lines (a W H : Nat) (tv : Nat → Int) : sm (lnN a W H) (lnS a W H tv) = sm (W * H) tv := by
  unfold lnN
  by_cases h : a = 0
  · rw [if_pos h]
    rw [show lnS a W H tv = fun i => sm H (fun y => tv (i + W * y)) from by funext i; unfold lnS; rw [if_pos h]]
    induction H with
    | zero =>
      rw [Nat.mul_zero]
      simp only [sm]
      induction W with
      | zero => rfl
      | succ W ih => simp only [sm]; rw [ih]; rfl
    | succ H ih =>
      simp only [sm]
      rw [sm_addF, ih, Nat.mul_add, Nat.mul_one, sm_app]
      congr 1
      exact sm_congr _ _ _ fun x _ => by rw [Nat.add_comm]
  · rw [if_neg h]
    rw [show lnS a W H tv = fun i => sm W (fun x => tv (x + W * i)) from by funext i; unfold lnS; rw [if_neg h]]
    induction H with
    | zero => rfl
    | succ H ih =>
      simp only [sm]
      rw [ih, Nat.mul_add, Nat.mul_one, sm_app]
      congr 1
      exact sm_congr _ _ _ fun x _ => by rw [Nat.add_comm]
/-- A profile is a table. -/
theorem tabS_ln0 (tv : Nat → Int) {W H i : Nat} (hH : 1 ≤ H) (h : i < W) : tabS tv W W 1 H i = lnS 0 W H tv i := by
  unfold tabS tabP blS
  rw [Nat.mod_eq_of_lt h, Nat.div_eq_of_lt h]
  show sumT tv (recN W (i * 1) (i * 1 + 1 - 1 + 1 - i * 1) (0 * H) (0 * H + H - 1 + 1 - 0 * H)) = _
  rw [show i * 1 = i by omega, show 0 * H = 0 by omega, show i + 1 - 1 + 1 - i = 1 by omega, show 0 + H - 1 + 1 - 0 = H by omega, sumT_col]
  unfold lnS
  rw [if_pos rfl]
theorem tabS_ln1 (tv : Nat → Int) {W H i : Nat} (hW : 1 ≤ W) : tabS tv W 1 W 1 i = lnS 1 W H tv i := by
  unfold tabS tabP blS
  rw [Nat.mod_one, Nat.div_one]
  show sumT tv (recN W (0 * W) (0 * W + W - 1 + 1 - 0 * W) (i * 1) (i * 1 + 1 - 1 + 1 - i * 1)) = _
  rw [show i * 1 = i by omega, show 0 * W = 0 by omega, show 0 + W - 1 + 1 - 0 = W by omega, show i + 1 - 1 + 1 - i = 1 by omega, recN_one, sumT_row]
  unfold lnS
  rw [if_neg (by omega)]
theorem fnL_congr {f g : Nat → Int} {k : Nat} (h : ∀ i, i < k → f i = g i) : fnL f k = fnL g k := by
  induction k with
  | zero => rfl
  | succ k ih => simp only [fnL]; rw [ih (fun i hi => h i (by omega)), h k (by omega)]
end Go.Proofs.YtmdeooflgkjbbaaDoor

/- Table: by the program of the fields. -/


namespace Go.Proofs.YtmdeooflgkjbbaaDoor
set_option linter.unusedSimpArgs false
set_option linter.unusedVariables false
open Go.RowKit Go.Maps Go.Shelf Go.Sort
attribute [local go_sem] Oper.semAt_some

/-- What stands while a table's blocks are gathered. -/
structure TbI (w : World) (W H wi hi : Nat) (ao : Option Addr) (N cap P : Nat) (L : List (Nat × Nat)) (X : World) : Prop where
  bw : Boxed X (w.heap.size + 1) 3 (.int .i64 ((wi : Int)))
  bh : Boxed X (w.heap.size + 2) 3 (.int .i64 ((hi : Int)))
  row : ∃ v, Boxed X P 104 v ∧ X.ownsRow (P + 4) 86 7 v (L.filter (tabOk wi hi)).length ((L.filter (tabOk wi hi)).flatMap (bC W H wi hi ao N cap))
  below : Below w.heap.size w X
  size : P + 4 ≤ X.heap.size
theorem row_ne {Y : World} {u : Value} {B t k P : Nat} {z : Nat} {xs : List Value} (h : Y.ownsRow B t z u k xs) (hP : P < B) : some P ≠ u.ownBlock := fun e => by
  rcases h.2 with ⟨rfl, _⟩ | ⟨g, cap, cur, rfl, hg, _⟩
  · cases e
  · simp [Value.ownBlock] at e
    omega
theorem tbI_own {w : World} {W H wi hi : Nat} {ao : Option Addr} {N cap P Bd : Nat} (hB : w.heap.size ≤ Bd) {α : Type} (f : α → List (Nat × Nat)) : OwnFrom Bd (fun s X => TbI w W H wi hi ao N cap P (f s) X) := fun s X Y row hs hg hr => by
  have hr' : ∀ r, row = some r → ∃ o : Obj, X.heap[r]? = some o ∧ o.isCells = false := fun r e => (hr r e).2
  obtain ⟨v, h1, h2⟩ := hs.row
  refine ⟨boxed_own _ _ (fun (_ : Unit) => .int .i64 ((wi : Int))) () X Y row hs.bw hg hr', boxed_own _ _ (fun (_ : Unit) => .int .i64 ((hi : Int))) () X Y row hs.bh hg hr', ⟨v, boxed_own _ _ (fun (_ : Unit) => v) () X Y row h1 hg hr', h2.kept hg ?_⟩, ownFrom_below (β := Unit) (Nat.le_refl _) hB () X Y row hs.below hg hr, Nat.le_trans hs.size hg.size⟩
  rcases h2.2 with ⟨rfl, _⟩ | ⟨g, cap, cur, rfl, _, hgb, _⟩
  · exact .inl rfl
  · refine .inr fun e' => ?_
    obtain ⟨o, ho, hw⟩ := hr' g (by simpa [Value.ownBlock] using e'.symm)
    rw [hgb] at ho
    cases ho
    cases hw

section
variable (W H n cap b off wi hi m M : Nat) (G : Nat → Nat → Int) (w : World) (s : Sides W H n) (hO : OkG n G) (lb : b < w.heap.size) (hG : Grd w b off n G) (h1 : 1 ≤ wi) (h2 : 1 ≤ hi) (hW : W = wi * m) (hH : H = hi * M) (hm1 : 1 ≤ m) (hM1 : 1 ≤ M)
include s hO lb hG h1 h2 hW hH hm1 hM1
set_option maxRecDepth 100000 in
set_option maxHeartbeats 32000000 in
theorem fTable_in : CallsIn Fence.wide 8 Tryd.prog 19 #[.agg #[.int .i64 W, .int .i64 H, .slice (some ⟨b, off, none⟩) n cap], .int .i64 ((wi : Int)), .int .i64 ((hi : Int))] w fun e w' => ∃ v, e = .returned (.tuple #[v, .int .i64 0]) ∧ w'.ownsRow w.heap.size 3 1 v (M * m) (iV (fnL (tabS (msC G) W m wi hi) (M * m))) ∧ Below w.heap.size w w' := by
  obtain ⟨i0, hif, hz0, hz1, hz2⟩ := info_parts info_blockF
  have hwW : wi ≤ W := by rw [hW]; exact Nat.le_mul_of_pos_right _ hm1
  have hhH : hi ≤ H := by rw [hH]; exact Nat.le_mul_of_pos_right _ hM1
  obtain ⟨nx, hnx⟩ : ∃ nx, nx = W + 1 - wi := ⟨_, rfl⟩
  obtain ⟨ny, hny⟩ : ∃ ny, ny = H + 1 - hi := ⟨_, rfl⟩
  have hnx : nx + wi = W + 1 := by omega
  have hny : ny + hi = H + 1 := by omega
  have CS := Lib.hid (fun wx (hb : Below w.heap.size w wx) => fSides_ok W H (some ⟨b, off, none⟩) n cap G wi hi wx ((show CellsIn w (some ⟨b, off, none⟩) n G from Or.inr ⟨b, off, rfl, lb, hG⟩).below hb) (vg_of s hO) ⟨⟨by omega, by omega⟩, by omega, by omega⟩)
  have hMm : M * m ≤ 64 * 64 := Nat.mul_le_mul (by have := Nat.le_mul_of_pos_left M h2; have := s.h1; omega) (by have := Nat.le_mul_of_pos_left m h1; have := s.w1; omega)
  have hMm1 : 1 * 1 ≤ M * m := Nat.mul_le_mul hM1 hm1
  have SU := Lib.hid (fun g c wy (hb : Below w.heap.size w wy) (lg : g < wy.heap.size) (hB : BlksAt wy g (M * m) W H wi hi (some ⟨b, off, none⟩) n cap (tabP m wi hi)) =>
    fsums_in g (M * m) c W H wi hi n cap (some ⟨b, off, none⟩) (tabP m wi hi) 67 (tabS (msC G) W m wi hi) wy (by omega) lg hB (fun i hi2 wx hx => by
      have hl := tabP_lt hW hH hm1 hi2
      have e1 : ((tabP m wi hi i).1 : Int) + (wi : Int) - 1 = (((tabP m wi hi i).1 + wi - 1 : Nat) : Int) := by omega
      have e2 : ((tabP m wi hi i).2 : Int) + (hi : Int) - 1 = (((tabP m wi hi i).2 + hi - 1 : Nat) : Int) := by omega
      rw [e1, e2]
      exact fsum_bl W H n cap b off G _ _ _ _ w s lb hG (by omega) (by omega) (by omega) (by omega) 67 (msC G) (fun wz _ => tells_mass wz n G hO) (tells_bd hO).1 wx (hb.trans (hx.mono hb.size))))
  have TA := Lib.hid (tab_all hW hH hnx hny h1 h2 hm1)
  have hW1 := s.w1
  have hH1 := s.h1
  obtain ⟨K, hK⟩ : ∃ K, K = M * m := ⟨_, rfl⟩
  obtain ⟨xs, hxs⟩ : ∃ xs, xs = iV (fnL (tabS (msC G) W m wi hi) (M * m)) := ⟨_, rfl⟩
  have hSU : ∀ k, k = M * m → xs = iV (fnL (tabS (msC G) W m wi hi) k) := fun k e => by rw [hxs, e]
  rw [← hxs]
  rw [← hK] at SU TA hMm hMm1 ⊢
  rw [← hSU K hK] at SU
  have t1 : Int.tmod (W : Int) (wi : Int) = 0 := by rw [hW]; push_cast; exact Int.mul_tmod_right _ _
  have t2 : Int.tmod (H : Int) (hi : Int) = 0 := by rw [hH]; push_cast; exact Int.mul_tmod_right _ _
  have t3 : (W : Int) % (wi : Int) = 0 := by rw [hW]; push_cast; exact Int.mul_emod_right _ _
  have t4 : (H : Int) % (hi : Int) = 0 := by rw [hH]; push_cast; exact Int.mul_emod_right _ _
  have t5 : W % wi = 0 := by rw [hW]; exact Nat.mul_mod_right _ _
  have t6 : H % hi = 0 := by rw [hH]; exact Nat.mul_mod_right _ _
  have n1 : ¬ (wi : Int) = 0 := by omega
  have n2 : ¬ (hi : Int) = 0 := by omega
  have n3 : ¬ wi = 0 := by omega
  have n4 : ¬ hi = 0 := by omega
  clear hxs hSU hK s hO lb hG hW hH
  refine callsIn_of_wp_marks Tryd.func19 rfl trivial ?_ rfl
  simp only [Tryd.ntmps19, List.size_toArray, List.length_cons, List.length_nil, Nat.reduceAdd, Nat.reduceSub, Array.replicate_succ, Array.replicate_zero, List.push_toArray, List.append_toArray, List.nil_append, List.cons_append]
  gi_wp2_with fail
  (refine ⟨trivial, ?_⟩; gi_at_call 72; (with_reducible refine (callsIn_wide.2 (CS.out _ (by (repeat' (first | (with_reducible exact Below.refl _ _) | (with_reducible refine Below.setCell ?_ (by first | omega | (simp; done) | (simp; omega)) _) | (with_reducible refine Below.alloc ?_ (by first | omega | (simp; done) | (simp; omega)) _) | (with_reducible refine Below.drew ?_) | (with_reducible refine below_drewN ?_ _) | (with_reducible refine Below.trans ?_ (Below.mono (by assumption) (by first | omega | (simp; done) | (simp; omega))))))))).mono ?_); rintro e w1 ⟨rfl, hb⟩; obtain ⟨hc, hf, hz⟩ := bcall hb; (try simp at hc hf hz))
  have g0 : ∀ (X : World) (k : Nat) (o o' : Obj), X.heap[k]? = some o → (X.alloc o').heap[k]? = some o := fun X k o o' h => (Below.heap_alloc _ _ _ (Array.getElem?_eq_some_iff.1 h).1).trans h
  have n0 : ∀ (X : World) (k : Nat) (o : Obj), X.heap.size = k → (X.alloc o).heap[k]? = some o := fun X k o h => by rw [← h]; exact World.alloc_heap_new X _
  have hsz : w.heap.size + 3 ≤ w1.heap.size := by have := hb.size; simp at this; omega
  have q0 : Three w1 w.heap.size 24 (.int .i64 W) (.int .i64 H) (.slice (some ⟨b, off, none⟩) n cap) := (hb.block _ (by simp; omega)).trans (g0 _ _ _ _ (g0 _ _ _ _ (n0 _ _ _ rfl)))
  have q1 : Boxed w1 (w.heap.size + 1) 3 (.int .i64 ((wi : Int))) := (hb.block _ (by simp)).trans (g0 _ _ _ _ (n0 _ _ _ (by simp)))
  have q2 : Boxed w1 (w.heap.size + 2) 3 (.int .i64 ((hi : Int))) := (hb.block _ (by simp)).trans (n0 _ _ _ (by simp))
  have hbw : Below w.heap.size w w1 := by (repeat' (first | (with_reducible exact Below.refl _ _) | (with_reducible refine Below.setCell ?_ (by first | omega | (simp; done) | (simp; omega)) _) | (with_reducible refine Below.alloc ?_ (by first | omega | (simp; done) | (simp; omega)) _) | (with_reducible refine Below.drew ?_) | (with_reducible refine below_drewN ?_ _) | (with_reducible refine Below.trans ?_ (Below.mono (by assumption) (by first | omega | (simp; done) | (simp; omega))))))
  have d0 := q0.c0
  have d1 := q0.c1
  have d2 := q0.c2
  have d3 := q1.cell
  have d4 := q2.cell
  have l0 := q0.lt
  have l1 := q1.lt
  have l2 := q2.lt
  clear hb hc hf hz
  gi_wp2_with (refine ⟨trivial, ?_⟩; gi_at_call 74; (with_reducible refine (callsIn_wide.2 (blocks_in _ _ _ _ _ _ _ _)).mono ?_); rintro e wD ⟨rfl, rfl⟩)
  obtain ⟨P, hP⟩ : ∃ P, P = w1.heap.size := ⟨_, rfl⟩
  obtain ⟨w4, hw4⟩ : ∃ w4, w4 = (((w1.alloc (.cells #[.slice none 0 0] 104)).alloc (.cells #[.int .i64 W, .int .i64 H, .slice (some ⟨b, off, none⟩) n cap] 24)).alloc (.cells #[.int .i64 ((wi : Int))] 3)).alloc (.cells #[.int .i64 ((hi : Int))] 3) := ⟨_, rfl⟩
  have s4 : w4.heap.size = P + 4 := by rw [hw4, hP]; simp
  have b4 : Below w1.heap.size w1 w4 := by rw [hw4]; (repeat' (first | (with_reducible exact Below.refl _ _) | (with_reducible refine Below.setCell ?_ (by first | omega | (simp; done) | (simp; omega)) _) | (with_reducible refine Below.alloc ?_ (by first | omega | (simp; done) | (simp; omega)) _) | (with_reducible refine Below.drew ?_) | (with_reducible refine below_drewN ?_ _) | (with_reducible refine Below.trans ?_ (Below.mono (by assumption) (by first | omega | (simp; done) | (simp; omega))))))
  have u1 : Boxed w4 (w.heap.size + 1) 3 (.int .i64 ((wi : Int))) := (b4.block _ q1.lt).trans q1
  have u2 : Boxed w4 (w.heap.size + 2) 3 (.int .i64 ((hi : Int))) := (b4.block _ q2.lt).trans q2
  have u3 : Boxed w4 P 104 (.slice none 0 0) := by rw [hw4, hP]; exact g0 _ _ _ _ (g0 _ _ _ _ (g0 _ _ _ _ (n0 _ _ _ rfl)))
  have u4 : Three w4 (P + 1) 24 (.int .i64 W) (.int .i64 H) (.slice (some ⟨b, off, none⟩) n cap) := by rw [hw4, hP]; exact g0 _ _ _ _ (g0 _ _ _ _ (n0 _ _ _ (by simp)))
  have u5 : Boxed w4 (P + 2) 3 (.int .i64 ((wi : Int))) := by rw [hw4, hP]; exact g0 _ _ _ _ (n0 _ _ _ (by simp))
  have u6 : Boxed w4 (P + 3) 3 (.int .i64 ((hi : Int))) := by rw [hw4, hP]; exact n0 _ _ _ (by simp)
  have hb4 : Below w.heap.size w w4 := hbw.trans (b4.mono hbw.size)
  rw [← hw4, ← hP]
  rw [← hP] at hsz l0 l1 l2
  clear hw4 hP q0 q1 q2 b4 d0 d1 d2 d3 d4 hbw g0 n0 t1 t2 t3 t4 t5 t6
  have i0' : TbI w W H wi hi (some ⟨b, off, none⟩) n cap P [] w4 := ⟨u1, u2, ⟨_, u3, rfl, .inl ⟨rfl, rfl⟩⟩, hb4, by omega⟩
  refine wpIn_rangeFunc_ownH (α := PlcB nx ny) rfl (by omega) (gf := 133) (lb := #[.pointer (some ⟨P + 1, 0, none⟩), .pointer (some ⟨P + 1 + 1 + 1, 0, none⟩), .pointer (some ⟨P + 1 + 1, 0, none⟩)]) rfl trivial (enters_of Tryd.func133 (by kernel_rfl) rfl)
    (blocks_stopsB 7 (by omega) (P + 1) (P + 1 + 1 + 1) (P + 1 + 1) W H wi hi nx ny (some ⟨b, off, none⟩) n cap (fun k => k < P + 4 ∧ k ≠ P) ⟨by omega, by omega⟩ ⟨by omega, by omega⟩ ⟨by omega, by omega⟩ hW1 hH1 hnx hny w4 (fun k hk => by omega) u4.c0 u4.c1 u4.c2 u5.cell u6.cell)
    (fun h g => KB.trans h g) (kb_put (fun k hk => by omega)) (Below.refl _ _) (fun _ => rfl)
    (fun pre X => TbI w W H wi hi (some ⟨b, off, none⟩) n cap P (pre.map (·.1)) X) (fun _ _ _ => False) (tbI_own (by omega) _) (fun _ => ownFrom_pure _ _)
    i0'
    (fun x a' X => ∃ Z, P + 4 ≤ Z ∧ Sev X Z (.int .i64 W) (.int .i64 H) (.slice (some ⟨b, off, none⟩) n cap) (.int .i64 ((x.1.1 : Int))) (.int .i64 ((x.1.2 : Int))) (.int .i64 ((x.1.1 : Int) + (wi : Int) - 1)) (.int .i64 ((x.1.2 : Int) + (hi : Int) - 1)) ∧ a' = { tmps := #[.agg #[.int .i64 W, .int .i64 H, .slice (some ⟨b, off, none⟩) n cap], .int .i64 ((wi : Int)), .int .i64 ((hi : Int)), .pointer (some ⟨w.heap.size, 0, none⟩), .pointer (some ⟨w.heap.size + 1, 0, none⟩), .pointer (some ⟨w.heap.size + 1 + 1, 0, none⟩), .slice none 0 0, .int .i64 0, .int .i64 0, .pointer (some ⟨P, 0, none⟩), .pointer (some ⟨Z, 0, none⟩), .agg #[.int .i64 W, .int .i64 H, .slice (some ⟨b, off, none⟩) n cap], .int .i64 ((wi : Int)), .int .i64 ((hi : Int)), .int .i64 0, .int .i64 0, .bool false, undef, .pointer (some ⟨w.heap.size, 0, none⟩), .int .i64 W, .int .i64 ((wi : Int)), .int .i64 0, .bool false, .bool false, .pointer (some ⟨w.heap.size, 1, none⟩), .int .i64 H, .int .i64 ((hi : Int)), .int .i64 0, .bool false, .bool false, .agg #[.int .i64 W, .int .i64 H, .slice (some ⟨b, off, none⟩) n cap], .int .i64 ((wi : Int)), .int .i64 ((hi : Int)), .func (.func 133) #[] #[.pointer (some ⟨P + 1, 0, none⟩), .pointer (some ⟨P + 1 + 1 + 1, 0, none⟩), .pointer (some ⟨P + 1 + 1, 0, none⟩)], .agg #[.int .i64 W, .int .i64 H, .slice (some ⟨b, off, none⟩) n cap, .int .i64 ((x.1.1 : Int)), .int .i64 ((x.1.2 : Int)), .int .i64 ((x.1.1 : Int) + (wi : Int) - 1), .int .i64 ((x.1.2 : Int) + (hi : Int) - 1)], undef, undef, undef, undef, undef, undef, undef, undef, undef, undef, undef, undef, undef, undef, undef, undef, undef, undef, undef, undef], defers := [] })
    (fun x a' _ X Y row hs hg hr => by
      obtain ⟨Z, h1, h2, h3⟩ := hs
      exact ⟨Z, h1, sev_own h2 hg (fun r e => (hr r e).2), h3⟩)
    ?assign ?body ?done ?stop
  case assign =>
    rintro l pre x X K' hI hK'
    have hsX := hI.size
    gi_wp2
    have hbZ : Below X.heap.size X (X.alloc (.cells #[.int .i64 W, .int .i64 H, .slice (some ⟨b, off, none⟩) n cap, .int .i64 ((x.1.1 : Int)), .int .i64 ((x.1.2 : Int)), .int .i64 ((x.1.1 : Int) + (wi : Int) - 1), .int .i64 ((x.1.2 : Int) + (hi : Int) - 1)] 86)) := (Below.refl _ _).alloc (Nat.le_refl _) _
    exact hK' _ _ (keepsFrom_of_below hbZ) (KB.of_below hbZ (fun k hk => by omega)) ((tbI_own (α := List (PlcB nx ny)) (Bd := w4.heap.size) (by omega) (fun pre => pre.map (·.1))).alloc _ hI) ⟨X.heap.size, hsX, Sev.new X _ _ _ _ _ _ _, rfl⟩
  case body =>
    rintro l pre x a' X _ _ hI ⟨Z, lZ, hZ, rfl⟩ hlen
    obtain ⟨p, hp⟩ := x
    have eL : (pre ++ [(⟨p, hp⟩ : PlcB nx ny)]).map (·.1) = pre.map (·.1) ++ [p] := by simp
    obtain ⟨L, hL⟩ : ∃ L : List (Nat × Nat), L = pre.map (·.1) := ⟨_, rfl⟩
    have hLn : L.length ≤ 65 * 65 := by
      rw [hL, List.length_map]
      have := Nat.mul_le_mul (show ny ≤ 65 by omega) (show nx ≤ 65 by omega)
      omega
    rw [← hL] at eL
    rw [show pre.map (fun x : PlcB nx ny => x.1) = L from hL.symm] at hI
    have EL := Lib.hid eL
    clear eL hlen hL
    dsimp only at hZ ⊢
    have eB : bC W H wi hi (some ⟨b, off, none⟩) n cap p = [.int .i64 W, .int .i64 H, .slice (some ⟨b, off, none⟩) n cap, .int .i64 ((p.1 : Int)), .int .i64 ((p.2 : Int)), .int .i64 ((p.1 : Int) + (wi : Int) - 1), .int .i64 ((p.2 : Int) + (hi : Int) - 1)] := rfl
    have r1 : (p.1 : Int).tmod (wi : Int) = ((p.1 % wi : Nat) : Int) := by rw [Int.tmod_eq_emod_of_nonneg (Int.natCast_nonneg _)]; exact (Int.natCast_emod _ _).symm
    have r2 : (p.2 : Int).tmod (hi : Int) = ((p.2 % hi : Nat) : Int) := by rw [Int.tmod_eq_emod_of_nonneg (Int.natCast_nonneg _)]; exact (Int.natCast_emod _ _).symm
    have r5 := Nat.mod_lt p.1 h1
    have r6 := Nat.mod_lt p.2 h2
    have HT := Lib.hid (show tabOk wi hi p = (decide (p.1 % wi = 0) && decide (p.2 % hi = 0)) from rfl)
    obtain ⟨ax, hax⟩ : ∃ ax : Int, ax = (p.1 : Int) := ⟨_, rfl⟩
    obtain ⟨ay, hay⟩ : ∃ ay : Int, ay = (p.2 : Int) := ⟨_, rfl⟩
    obtain ⟨bx, hbx⟩ : ∃ bx : Int, bx = (p.1 : Int) + (wi : Int) - 1 := ⟨_, rfl⟩
    obtain ⟨yb, hyb⟩ : ∃ yb : Int, yb = (p.2 : Int) + (hi : Int) - 1 := ⟨_, rfl⟩
    obtain ⟨v1, hv1⟩ : ∃ v, v = p.1 % wi := ⟨_, rfl⟩
    obtain ⟨v2, hv2⟩ : ∃ v, v = p.2 % hi := ⟨_, rfl⟩
    rw [← hv1] at r1 r5 HT
    rw [← hv2] at r2 r6 HT
    rw [← hbx, ← hyb, ← hax, ← hay] at hZ eB ⊢
    rw [← hax] at r1
    rw [← hay] at r2
    have x1 : IntKind.i64.wrap (v1 : Int) = (v1 : Int) := IntWalk.i64_in _ ⟨by omega, by omega⟩
    have x2 : IntKind.i64.wrap (v2 : Int) = (v2 : Int) := IntWalk.i64_in _ ⟨by omega, by omega⟩
    have HE := Lib.hid eB
    have m0 := hZ.at 0 _ rfl
    have m1 := hZ.at 1 _ rfl
    have m2 := hZ.at 2 _ rfl
    have m3 := hZ.at 3 _ rfl
    have m4 := hZ.at 4 _ rfl
    have m5 := hZ.at 5 _ rfl
    have m6 := hZ.at 6 _ rfl
    have lZX := hZ.lt
    have y1 : X.cell? ⟨w.heap.size + 1, 0, none⟩ = some (.int .i64 ((wi : Int))) := hI.bw.cell
    have y2 : X.cell? ⟨w.heap.size + 1 + 1, 0, none⟩ = some (.int .i64 ((hi : Int))) := hI.bh.cell
    have hIS := hI.size
    have lwX := hI.below.size
    have HI := Lib.hid hI
    clear hI hZ eB hax hay hbx hyb hv1 hv2 i0' u1 u2 u3 u4 u5 u6
    by_cases c1 : v1 = 0
    · by_cases c2 : v2 = 0
      · subst c1 c2
        have hT : tabOk wi hi p = true := by rw [HT.out]; rfl
        obtain ⟨v, hBx, hrow⟩ := HI.out.row
        have cX := hBx.cell
        have lX := hBx.lt
        have hlf : (L.filter (tabOk wi hi)).length ≤ 65 * 65 := Nat.le_trans (List.length_filter_le _ _) hLn
        have eF : (L ++ [p]).filter (tabOk wi hi) = L.filter (tabOk wi hi) ++ [p] := by rw [List.filter_append]; simp [hT]
        have EF := Lib.hid eF
        obtain ⟨LF, hLF⟩ : ∃ LF, LF = L.filter (tabOk wi hi) := ⟨_, rfl⟩
        rw [← hLF] at hrow hlf EF
        have HBX := Lib.hid hBx
        have HRW := Lib.hid hrow
        have hfX : X.frozen? ⟨P, 0, none⟩ = false := by simp [World.frozen?, show X.heap[P]? = _ from hBx]
        clear hBx hrow eF hLF hT hLn
        have r1 : ax.tmod (wi : Int) = 0 := r1
        have r2 : ay.tmod (hi : Int) = 0 := r2
        gi_wp2_with (first | (gi_at_builtin; refine wpListIn_append_own _ rfl _ _ 104 rfl (P + 4) 86 i0 (.agg #[.int .i64 0, .int .i64 0, .slice none 0 0, .int .i64 0, .int .i64 0, .int .i64 0, .int .i64 0]) 7 72 Tryd.underlying104 hif hz0 hz1 hz2 rfl (by decide) _ _ _ rfl (HRW.out.alloc _) ⟨X.heap.size, 0, none⟩ 1 1 [.int .i64 W, .int .i64 H, .slice (some ⟨b, off, none⟩) n cap, .int .i64 ax, .int .i64 ay, .int .i64 bx, .int .i64 yb] rfl rfl (seven_new _ _ _ _ _ _ _ _ _) (by intro u hu; simp at hu; rcases hu with rfl | rfl | rfl | rfl | rfl | rfl | rfl <;> rfl) (by unfold maxLen; omega) (by omega) (by simp; omega) ?_; intro v' w3 hown' hg3 hnil; clear hnil; obtain ⟨g', cap', rfl⟩ := row_form7 hown'; have hB3 := ((HBX.out.alloc (.cells #[.int .i64 W, .int .i64 H, .slice (some ⟨b, off, none⟩) n cap, .int .i64 ax, .int .i64 ay, .int .i64 bx, .int .i64 yb] 86)).kept hg3 (row_ne HRW.out (by omega))); have hc3 := hB3.cell; have hf3 : w3.frozen? ⟨P, 0, none⟩ = false := by simp [World.frozen?, show w3.heap[P]? = _ from hB3]) | gi_round_op_a)
        have hg3' : (X.alloc (.cells #[.int .i64 W, .int .i64 H, .slice (some ⟨b, off, none⟩) n cap, .int .i64 ax, .int .i64 ay, .int .i64 bx, .int .i64 yb] 86)).grownBy w3 v.ownBlock := hg3
        clear hg3
        have hkf : KeepsFrom w4.heap.size X (w3.setCell ⟨P, 0, none⟩ (.slice (some ⟨g', 0, none⟩) (LF.length + 1) cap')) := ((KeepsOthers.alloc X _).trans ((KeepsOthers.of_grownBy hg3' (fun j o hj ho => row_cells (HRW.out.alloc _) j o hj ho)).trans (KeepsOthers.setCell _ _ _))).from _
        have hb3 : Below w.heap.size w w3 := (HI.out.below.alloc lwX _).grown hg3' (by simp; omega) (fun k e => by have := (HRW.out.lt k e).1; omega)
        have hb4' : Below w.heap.size w (w3.setCell ⟨P, 0, none⟩ (.slice (some ⟨g', 0, none⟩) (LF.length + 1) cap')) := hb3.setCell (p := ⟨P, 0, none⟩) (by show w.heap.size ≤ P; omega) _
        have hkp : Below (P + 4) X w3 := (((Below.refl X.heap.size X).alloc (Nat.le_refl _) (.cells #[.int .i64 W, .int .i64 H, .slice (some ⟨b, off, none⟩) n cap, .int .i64 ax, .int .i64 ay, .int .i64 bx, .int .i64 yb] 86)).mono hIS).grown hg3' (by simp; omega) (fun k e => (HRW.out.lt k e).1)
        have hS3 : P + 4 ≤ w3.heap.size := Nat.le_trans hIS hkp.size
        refine ⟨by rw [← s4]; exact hkf, (KB.of_below hkp (fun k hk => hk.1)).trans (KB.set (fun h => h.2 rfl)), ?_⟩
        show TbI w W H wi hi _ n cap P (List.map (fun x : PlcB nx ny => x.val) _) _
        rw [EL.out]
        refine ⟨(show Boxed w3 (w.heap.size + 1) 3 (.int .i64 ((wi : Int))) from (hkp.block _ (by omega)).trans HI.out.bw).other (by omega) _, (show Boxed w3 (w.heap.size + 2) 3 (.int .i64 ((hi : Int))) from (hkp.block _ (by omega)).trans HI.out.bh).other (by omega) _, ⟨_, hB3.set _, ?_⟩, hb4', by show P + 4 ≤ (w3.setCell _ _).heap.size; simp [World.setCell]; exact hS3⟩
        rw [EF.out, List.length_append, List.length_singleton, List.flatMap_append, List.flatMap_singleton, HE.out]
        exact hown'.kept (grownBy_setCell' w3 P _) (.inr fun e => row_ne hown' (by omega) e.symm)
      · subst c1
        have c2' : ¬ (v2 : Int) = 0 := by omega
        have hT : tabOk wi hi p = false := by rw [HT.out]; simp [c2]
        have r1 : ax.tmod (wi : Int) = 0 := r1
        gi_wp2
        refine ⟨keepsFrom_of_below (Below.refl _ _), KB.refl _ _, ?_⟩
        show TbI w W H wi hi _ n cap P (List.map (fun x : PlcB nx ny => x.val) _) _
        rw [EL.out]
        exact ⟨HI.out.bw, HI.out.bh, by rw [List.filter_append, show [p].filter (tabOk wi hi) = [] by simp [hT], List.append_nil]; exact HI.out.row, HI.out.below, HI.out.size⟩
    · have c1' : ¬ (v1 : Int) = 0 := by omega
      have hT : tabOk wi hi p = false := by rw [HT.out]; simp [c1]
      gi_wp2
      refine ⟨keepsFrom_of_below (Below.refl _ _), KB.refl _ _, ?_⟩
      show TbI w W H wi hi _ n cap P (List.map (fun x : PlcB nx ny => x.val) _) _
      rw [EL.out]
      exact ⟨HI.out.bw, HI.out.bh, by rw [List.filter_append, show [p].filter (tabOk wi hi) = [] by simp [hT], List.append_nil]; exact HI.out.row, HI.out.below, HI.out.size⟩
  case done =>
    rintro D ys X hD hys hI hK'
    obtain ⟨v, hBx, hrow⟩ := hI.row
    rw [show ys.map (fun x : PlcB nx ny => x.1) = recP nx ny from hys, TA.out] at hrow
    obtain ⟨g, c, rfl, lg, hBl⟩ := blks_of (n := K) (p := tabP m wi hi) hrow (tabL_len _ _ _ _) (by omega) (fun i hi2 => tabL_get m wi hi hi2)
    have cX := hBx.cell
    have hbX := hI.below
    have HBl := Lib.hid hBl
    clear hBx hrow hys hI hBl
    gi_wp2_with fail
    (refine ⟨trivial, ?_⟩; gi_at_call 78; refine (callsIn_wide.2 (SU.out g c _ hbX lg HBl.out)).mono ?_; rintro e w9 ⟨u, rfl, hr, hb9⟩)
    have hK9 : w9.heap[D]? = some (.deferred (some [])) := (hb9.block _ (Array.getElem?_eq_some_iff.1 hK').1).trans hK'
    have HR := Lib.hid hr
    have H9 := Lib.hid hb9
    clear hr hb9
    gi_wp2
    refine ⟨by simp, .inl ⟨_, _, rfl, run_takeDeferred hK9, ?_⟩⟩
    have hlt : X.heap.size ≤ w9.heap.size := H9.out.size
    have hDX := (Array.getElem?_eq_some_iff.1 hK').1
    refine ⟨.tuple #[u, .int .i64 0], by simp [results, Tryd.results19, go_sem], u, rfl, ?_, ?_⟩
    · refine ownsRow_base_a (HR.out.kept (grownBy_putObj' w9 D (.deferred none)) ?_) hbX.size
      exact .inr fun e => by have := row_cells HR.out D _ e hK9; cases this
    · exact (hbX.trans (H9.out.mono hbX.size)).trans (belowK_b (w := w) (Nat.le_refl _) _ D _ _ (by have := hb4.size; omega) hK9 rfl rfl)
  case stop =>
    rintro D c pre X _ _ h _
    exact h.elim
end
end Go.Proofs.YtmdeooflgkjbbaaDoor

/- A ratio in lowest terms: by the reference of the gauges. -/




namespace Go.Proofs.YtmdeooflgkjbbaaDoor
set_option linter.unusedSimpArgs false
set_option linter.unusedVariables false
open Go.RowKit Go.Shelf
attribute [local go_sem] Oper.semAt_some

set_option maxRecDepth 100000 in
set_option maxHeartbeats 4000000 in
theorem rRatio_pos (m : Nat) (d g dd : Nat) (k : Int) (w : World) (hg : g = Nat.gcd d m) (hk : (m : Int) = g * k) (hdd : d = g * dd) (hd1 : 1 ≤ d) (hd2 : d ≤ 1000000000000000) (hm : m ≤ 1000000000000000) : Calls Tryd.prog 69 #[.int .i64 ((m : Int)), .int .i64 d] w fun e w' => e = .returned (.agg #[.int .i64 k, .int .i64 dd]) ∧ Below w.heap.size w w' := by
  have HK := Lib.hid (And.intro hg (And.intro hk (And.intro hdd hd1)))
  clear hg hk hdd
  have p0 : 0 ≤ d := by omega
  have v0 := Two.new w 33 (.int .i64 0) (.int .i64 0)
  have b0 : Below w.heap.size w (w.alloc (.cells #[.int .i64 0, .int .i64 0] 33)) := by (repeat' (first | (with_reducible exact Below.refl _ _) | (with_reducible refine Below.setCell ?_ (by first | omega | (simp; done) | (simp; omega)) _) | (with_reducible refine Below.alloc ?_ (by first | omega | (simp; done) | (simp; omega)) _) | (with_reducible refine Below.drew ?_) | (with_reducible refine below_drewN ?_ _) | (with_reducible refine Below.trans ?_ (Below.mono (by assumption) (by first | omega | (simp; done) | (simp; omega))))))
  obtain ⟨w1, hw1⟩ : ∃ w1, w1 = w.alloc (.cells #[.int .i64 0, .int .i64 0] 33) := ⟨_, rfl⟩
  rw [← hw1] at v0 b0
  go_enter Tryd.func69, Tryd.ntmps69
  go_wp2_with fail
  rw [← hw1]
  clear hw1
  go_loopw [5, 6] (fun s t wr => ∃ x y : Nat, s = .int .i64 x ∧ t = .int .i64 y ∧ Hid (Nat.gcd x y = Nat.gcd d m) ∧ x ≤ 1000000000000000 ∧ y ≤ 1000000000000000 ∧ Below w1.heap.size w1 wr) (fun _ t _ => (Go.RowKit.intOf t).toNat)
  case atStart => exact ⟨m, d, rfl, rfl, Lib.hid (Nat.gcd_comm _ _), by omega, by omega, Below.refl _ _⟩
  case round =>
    obtain ⟨x, y, rfl, rfl, hg, hx, hy, hB⟩ := hrel
    by_cases hy0 : y = 0
    · subst hy0
      have eg : x = g := by rw [HK.out.1, ← hg.out, Nat.gcd_zero_right]
      subst eg
      obtain ⟨hgx, hk, hdd, hd⟩ := HK.out
      clear hgx
      have x0 : 1 ≤ x := by
        rcases Nat.eq_zero_or_pos x with h | h
        · rw [h, Nat.zero_mul] at hdd; omega
        · exact h
      have n0 : ¬ ((x : Int) = 0) := by omega
      have n1 : ¬ (x = 0) := by omega
      have q1 : Int.tdiv ((m : Int)) (x : Int) = k := by rw [hk]; exact Int.mul_tdiv_cancel_left _ n0
      have q2 : Int.tdiv (d : Int) (x : Int) = (dd : Int) := by rw [hdd]; push_cast; exact Int.mul_tdiv_cancel_left _ n0
      have q3 : (d : Int) / (x : Int) = (dd : Int) := by rw [hdd]; push_cast; exact Int.mul_ediv_cancel_left _ n0
      have hdl : dd ≤ d := by rw [hdd]; exact Nat.le_mul_of_pos_left _ x0
      have e2 : IntKind.i64.wrap (dd : Int) = (dd : Int) := IntWalk.i64_in _ ⟨by omega, by omega⟩
      have hkl : k.natAbs ≤ ((m : Int) : Int).natAbs := by rw [hk, Int.natAbs_mul]; exact Nat.le_mul_of_pos_left _ (by rw [Int.natAbs_natCast]; omega)
      have e1 : IntKind.i64.wrap k = k := IntWalk.i64_in _ ⟨by omega, by omega⟩
      have q4 : (m : Int) / (x : Int) = k := by rw [hk]; exact Int.mul_ediv_cancel_left _ n0
      have v2 := v0.below hB v0.lt
      have k0 := v2.c0
      have k1 := v2.c1
      have lv := v2.lt
      have fz0 := v2.f0 0
      have fz1 := v2.f0 1
      clear hk hdd hd hdl hkl
      go_wp2
      go_region_held3 (fun w' => w'.heap.size = wr.heap.size) (simp [go_sem]) (fail)
      all_goals
        go_wp2
        refine bodyPost_ret (v := .agg #[.int .i64 k, .int .i64 dd]) (by simp [results, Tryd.results69, go_sem, ↓IntWalk.iteOmega, *]) rfl ⟨rfl, ?_⟩
        exact (b0.trans (hB.mono b0.size)).setCell (p := ⟨w.heap.size, 0, none⟩) (Nat.le_refl _) _ |>.setCell (p := ⟨w.heap.size, 1, none⟩) (Nat.le_refl _) _ |>.drew
    · have hp : 0 < y := by omega
      have hp2 : (0 : Int) < (y : Int) := by omega
      have hl := Nat.mod_lt x hp
      have tm : (x : Int).tmod (y : Int) = ((x % y : Nat) : Int) := by rw [Int.tmod_eq_emod_of_nonneg (Int.natCast_nonneg _)]; exact (Int.natCast_emod _ _).symm
      obtain ⟨r, hr⟩ : ∃ r, r = x % y := ⟨_, rfl⟩
      have HR := Lib.hid hr
      rw [← hr] at tm hl
      clear hr
      go_wp2
      go_quiet (fail)
      clear tm
      go_wp2
      go_roundw
      case rel => exact ⟨y, r, rfl, rfl, Lib.hid (by rw [← hg.out, HR.out, Nat.gcd_comm y, ← Nat.gcd_rec, Nat.gcd_comm]), hy, by omega, below_drewN hB _⟩
      case measure => simp [Go.RowKit.intOf]; omega
set_option maxRecDepth 100000 in
set_option maxHeartbeats 4000000 in
theorem rRatio_neg (m : Nat) (d g dd : Nat) (k : Int) (w : World) (hg : g = Nat.gcd d m) (hk : -(m : Int) = g * k) (hdd : d = g * dd) (hd1 : 1 ≤ d) (hd2 : d ≤ 1000000000000000) (hm : m ≤ 1000000000000000) (hm1 : 1 ≤ m) : Calls Tryd.prog 69 #[.int .i64 (-(m : Int)), .int .i64 d] w fun e w' => e = .returned (.agg #[.int .i64 k, .int .i64 dd]) ∧ Below w.heap.size w w' := by
  have HK := Lib.hid (And.intro hg (And.intro hk (And.intro hdd hd1)))
  clear hg hk hdd
  have p0 : 0 ≤ d := by omega
  have x1 : IntKind.i64.wrap (m : Int) = (m : Int) := IntWalk.i64_in _ ⟨by omega, by omega⟩
  have x2 : -(m : Int) < 0 := by omega
  have x3 : 0 < (m : Int) := by omega
  have x4 : 0 < m := by omega
  have v0 := Two.new w 33 (.int .i64 0) (.int .i64 0)
  have b0 : Below w.heap.size w (w.alloc (.cells #[.int .i64 0, .int .i64 0] 33)) := by (repeat' (first | (with_reducible exact Below.refl _ _) | (with_reducible refine Below.setCell ?_ (by first | omega | (simp; done) | (simp; omega)) _) | (with_reducible refine Below.alloc ?_ (by first | omega | (simp; done) | (simp; omega)) _) | (with_reducible refine Below.drew ?_) | (with_reducible refine below_drewN ?_ _) | (with_reducible refine Below.trans ?_ (Below.mono (by assumption) (by first | omega | (simp; done) | (simp; omega))))))
  obtain ⟨w1, hw1⟩ : ∃ w1, w1 = w.alloc (.cells #[.int .i64 0, .int .i64 0] 33) := ⟨_, rfl⟩
  rw [← hw1] at v0 b0
  go_enter Tryd.func69, Tryd.ntmps69
  go_wp2_with fail
  rw [← hw1]
  clear hw1
  go_loopw [5, 6] (fun s t wr => ∃ x y : Nat, s = .int .i64 x ∧ t = .int .i64 y ∧ Hid (Nat.gcd x y = Nat.gcd d m) ∧ x ≤ 1000000000000000 ∧ y ≤ 1000000000000000 ∧ Below w1.heap.size w1 wr) (fun _ t _ => (Go.RowKit.intOf t).toNat)
  case atStart => exact ⟨m, d, rfl, rfl, Lib.hid (Nat.gcd_comm _ _), by omega, by omega, Below.refl _ _⟩
  case round =>
    obtain ⟨x, y, rfl, rfl, hg, hx, hy, hB⟩ := hrel
    by_cases hy0 : y = 0
    · subst hy0
      have eg : x = g := by rw [HK.out.1, ← hg.out, Nat.gcd_zero_right]
      subst eg
      obtain ⟨hgx, hk, hdd, hd⟩ := HK.out
      clear hgx
      have x0 : 1 ≤ x := by
        rcases Nat.eq_zero_or_pos x with h | h
        · rw [h, Nat.zero_mul] at hdd; omega
        · exact h
      have n0 : ¬ ((x : Int) = 0) := by omega
      have n1 : ¬ (x = 0) := by omega
      have q1 : Int.tdiv (-(m : Int)) (x : Int) = k := by rw [hk]; exact Int.mul_tdiv_cancel_left _ n0
      have q2 : Int.tdiv (d : Int) (x : Int) = (dd : Int) := by rw [hdd]; push_cast; exact Int.mul_tdiv_cancel_left _ n0
      have q3 : (d : Int) / (x : Int) = (dd : Int) := by rw [hdd]; push_cast; exact Int.mul_ediv_cancel_left _ n0
      have hdl : dd ≤ d := by rw [hdd]; exact Nat.le_mul_of_pos_left _ x0
      have e2 : IntKind.i64.wrap (dd : Int) = (dd : Int) := IntWalk.i64_in _ ⟨by omega, by omega⟩
      have hkl : k.natAbs ≤ (-(m : Int) : Int).natAbs := by rw [hk, Int.natAbs_mul]; exact Nat.le_mul_of_pos_left _ (by rw [Int.natAbs_natCast]; omega)
      have e1 : IntKind.i64.wrap k = k := IntWalk.i64_in _ ⟨by omega, by omega⟩
      have v2 := v0.below hB v0.lt
      have k0 := v2.c0
      have k1 := v2.c1
      have lv := v2.lt
      have fz0 := v2.f0 0
      have fz1 := v2.f0 1
      clear hk hdd hd hdl hkl
      go_wp2
      go_region_held3 (fun w' => w'.heap.size = wr.heap.size) (simp [go_sem]) (fail)
      all_goals
        go_wp2
        refine bodyPost_ret (v := .agg #[.int .i64 k, .int .i64 dd]) (by simp [results, Tryd.results69, go_sem, ↓IntWalk.iteOmega, *]) rfl ⟨rfl, ?_⟩
        exact (b0.trans (hB.mono b0.size)).setCell (p := ⟨w.heap.size, 0, none⟩) (Nat.le_refl _) _ |>.setCell (p := ⟨w.heap.size, 1, none⟩) (Nat.le_refl _) _ |>.drew
    · have hp : 0 < y := by omega
      have hp2 : (0 : Int) < (y : Int) := by omega
      have hl := Nat.mod_lt x hp
      have tm : (x : Int).tmod (y : Int) = ((x % y : Nat) : Int) := by rw [Int.tmod_eq_emod_of_nonneg (Int.natCast_nonneg _)]; exact (Int.natCast_emod _ _).symm
      obtain ⟨r, hr⟩ : ∃ r, r = x % y := ⟨_, rfl⟩
      have HR := Lib.hid hr
      rw [← hr] at tm hl
      clear hr
      go_wp2
      go_quiet (fail)
      clear tm
      go_wp2
      go_roundw
      case rel => exact ⟨y, r, rfl, rfl, Lib.hid (by rw [← hg.out, HR.out, Nat.gcd_comm y, ← Nat.gcd_rec, Nat.gcd_comm]), hy, by omega, below_drewN hB _⟩
      case measure => simp [Go.RowKit.intOf]; omega

theorem rRatio_lt (n : Int) (d : Nat) (w : World) (hd1 : 1 ≤ d) (hd2 : d ≤ 1000000000000000) (hn : -1000000000000000 ≤ n ∧ n ≤ 1000000000000000) : Calls Tryd.prog 69 #[.int .i64 n, .int .i64 ((d : Int))] w fun e w' => e = .returned (.agg #[.int .i64 (ltN n d), .int .i64 (((ltD n d : Nat) : Int))]) ∧ Below w.heap.size w w' := by
  obtain ⟨p1, p2⟩ := lt_parts n d
  by_cases h : n < 0
  · have e : n = -((n.natAbs : Nat) : Int) := by omega
    have := rRatio_neg n.natAbs d (gcN n d) (ltD n d) (ltN n d) w rfl (by rw [← e]; exact p1) p2 hd1 hd2 (by omega) (by omega)
    rwa [← e] at this
  · have e : n = ((n.natAbs : Nat) : Int) := by omega
    have := rRatio_pos n.natAbs d (gcN n d) (ltD n d) (ltN n d) w rfl (by rw [← e]; exact p1) p2 hd1 hd2 (by omega)
    rwa [← e] at this
theorem fRatio_lt (n : Int) (d : Nat) (w : World) (hd1 : 1 ≤ d) (hd2 : d ≤ 1000000000000000) (hn : -1000000000000000 ≤ n ∧ n ≤ 1000000000000000) : Calls Tryd.prog 65 #[.int .i64 n, .int .i64 ((d : Int))] w fun e w' => e = .returned (.agg #[.int .i64 (ltN n d), .int .i64 (((ltD n d : Nat) : Int))]) ∧ Below w.heap.size w w' := by
  obtain ⟨p1, p2⟩ := lt_parts n d
  exact fRatio_big n d (gcN n d) (ltD n d) (ltN n d) w rfl p1 p2 hd1 hd2 hn
end Go.Proofs.YtmdeooflgkjbbaaDoor

/- Velocity: by the program of the fields. -/


namespace Go.Proofs.YtmdeooflgkjbbaaDoor
set_option linter.unusedSimpArgs false
set_option linter.unusedVariables false
open Go.RowKit Go.Shelf
attribute [local go_sem] Oper.semAt_some

section
variable (W H : Int) (ao : Option Addr) (n cap : Nat) (ax ay bx yb m : Int) (w : World)
    (NB : ∀ wx, Below w.heap.size w wx → Calls Tryd.prog 61 #[.agg #[.int .i64 W, .int .i64 H, .slice (ao) n cap], .agg #[.int .i64 ax, .int .i64 ay], .agg #[.int .i64 bx, .int .i64 yb]] wx fun e w' => e = .returned (.tuple #[.agg #[.int .i64 W, .int .i64 H, .slice ao n cap, .int .i64 ax, .int .i64 ay, .int .i64 bx, .int .i64 yb], .int .i64 0]) ∧ Below wx.heap.size wx w')
    (CM : ∀ wx, Below w.heap.size w wx → Calls Tryd.prog 66 #[.agg #[.int .i64 W, .int .i64 H, .slice ao n cap, .int .i64 ax, .int .i64 ay, .int .i64 bx, .int .i64 yb], .func (.func 67) #[] #[]] wx fun e w' => e = .returned (.int .i64 m) ∧ Below wx.heap.size wx w')
include NB CM
set_option maxRecDepth 100000 in
set_option maxHeartbeats 8000000 in
theorem fVel_none0 (hm : m = 0) : Calls Tryd.prog 15 #[.agg #[.int .i64 W, .int .i64 H, .slice (ao) n cap], .agg #[.int .i64 ax, .int .i64 ay], .agg #[.int .i64 bx, .int .i64 yb]] w fun e w' => e = .returned (.tuple #[.agg #[.int .i64 0, .int .i64 0], .agg #[.int .i64 0, .int .i64 0], .int .i64 8]) ∧ Below w.heap.size w w' := by
  subst hm
  have NB := Lib.hid NB
  have CM := Lib.hid CM
  go_enter Tryd.func15, Tryd.ntmps15
  go_wp2_with (first | (go_at_call 61; (with_reducible refine (NB.out _ (by (repeat' (first | (with_reducible exact Below.refl _ _) | (with_reducible refine Below.setCell ?_ (by first | omega | (simp; done) | (simp; omega)) _) | (with_reducible refine Below.alloc ?_ (by first | omega | (simp; done) | (simp; omega)) _) | (with_reducible refine Below.drew ?_) | (with_reducible refine below_drewN ?_ _) | (with_reducible refine Below.trans ?_ (Below.mono (by assumption) (by first | omega | (simp; done) | (simp; omega)))))))).mono ?_); rintro e w1 ⟨rfl, hb⟩; obtain ⟨hc, hf, hz⟩ := bcall hb; (try simp at hc hf hz)) | (go_at_call 66; (with_reducible refine (CM.out _ (by (repeat' (first | (with_reducible exact Below.refl _ _) | (with_reducible refine Below.setCell ?_ (by first | omega | (simp; done) | (simp; omega)) _) | (with_reducible refine Below.alloc ?_ (by first | omega | (simp; done) | (simp; omega)) _) | (with_reducible refine Below.drew ?_) | (with_reducible refine below_drewN ?_ _) | (with_reducible refine Below.trans ?_ (Below.mono (by assumption) (by first | omega | (simp; done) | (simp; omega)))))))).mono ?_); rintro e w1 ⟨rfl, hb⟩; obtain ⟨hc, hf, hz⟩ := bcall hb; (try simp at hc hf hz)))
  refine bodyPost_ret (v := .tuple #[.agg #[.int .i64 0, .int .i64 0], .agg #[.int .i64 0, .int .i64 0], .int .i64 8]) (by simp [results, Tryd.results15, go_sem, ↓IntWalk.iteOmega, *]) rfl ⟨rfl, ?_⟩
  (repeat' (first | (with_reducible exact Below.refl _ _) | (with_reducible refine Below.setCell ?_ (by first | omega | (simp; done) | (simp; omega)) _) | (with_reducible refine Below.alloc ?_ (by first | omega | (simp; done) | (simp; omega)) _) | (with_reducible refine Below.drew ?_) | (with_reducible refine below_drewN ?_ _) | (with_reducible refine Below.trans ?_ (Below.mono (by assumption) (by first | omega | (simp; done) | (simp; omega))))))
set_option maxRecDepth 100000 in
set_option maxHeartbeats 16000000 in
theorem fVel_in (hm : ¬ m = 0) (se sn ke kn : Int) (de dn : Nat)
    (CE : ∀ wx, Below w.heap.size w wx → Calls Tryd.prog 66 #[.agg #[.int .i64 W, .int .i64 H, .slice ao n cap, .int .i64 ax, .int .i64 ay, .int .i64 bx, .int .i64 yb], .func (.func 70) #[] #[]] wx fun e w' => e = .returned (.int .i64 se) ∧ Below wx.heap.size wx w')
    (CN : ∀ wx, Below w.heap.size w wx → Calls Tryd.prog 66 #[.agg #[.int .i64 W, .int .i64 H, .slice ao n cap, .int .i64 ax, .int .i64 ay, .int .i64 bx, .int .i64 yb], .func (.func 71) #[] #[]] wx fun e w' => e = .returned (.int .i64 sn) ∧ Below wx.heap.size wx w')
    (RE : ∀ wx, Below w.heap.size w wx → Calls Tryd.prog 65 #[.int .i64 se, .int .i64 m] wx fun e w' => e = .returned (.agg #[.int .i64 ke, .int .i64 de]) ∧ Below wx.heap.size wx w')
    (RN : ∀ wx, Below w.heap.size w wx → Calls Tryd.prog 65 #[.int .i64 sn, .int .i64 m] wx fun e w' => e = .returned (.agg #[.int .i64 kn, .int .i64 dn]) ∧ Below wx.heap.size wx w') :
    Calls Tryd.prog 15 #[.agg #[.int .i64 W, .int .i64 H, .slice (ao) n cap], .agg #[.int .i64 ax, .int .i64 ay], .agg #[.int .i64 bx, .int .i64 yb]] w fun e w' => e = .returned (.tuple #[.agg #[.int .i64 ke, .int .i64 de], .agg #[.int .i64 kn, .int .i64 dn], .int .i64 0]) ∧ Below w.heap.size w w' := by
  have NB := Lib.hid NB
  have CM := Lib.hid CM
  have CE := Lib.hid CE
  have CN := Lib.hid CN
  have RE := Lib.hid RE
  have RN := Lib.hid RN
  go_enter Tryd.func15, Tryd.ntmps15
  go_wp2_with (go_at_call 61; (with_reducible refine (NB.out _ (by (repeat' (first | (with_reducible exact Below.refl _ _) | (with_reducible refine Below.setCell ?_ (by first | omega | (simp; done) | (simp; omega)) _) | (with_reducible refine Below.alloc ?_ (by first | omega | (simp; done) | (simp; omega)) _) | (with_reducible refine Below.drew ?_) | (with_reducible refine below_drewN ?_ _) | (with_reducible refine Below.trans ?_ (Below.mono (by assumption) (by first | omega | (simp; done) | (simp; omega)))))))).mono ?_); rintro e w1 ⟨rfl, hb⟩; obtain ⟨hc, hf, hz⟩ := bcall hb; (try simp at hc hf hz))
  have v8 := Sev.new w1 (.int .i64 W) (.int .i64 H) (.slice ao n cap) (.int .i64 ax) (.int .i64 ay) (.int .i64 bx) (.int .i64 yb)
  have v6 := (Two.new (((w.alloc (.cells #[.int .i64 W, .int .i64 H, .slice ao n cap] 24)).alloc (.cells #[.int .i64 ax, .int .i64 ay] 26)).alloc (.cells #[.int .i64 bx, .int .i64 yb] 26)) 33 (.int .i64 0) (.int .i64 0)).alloc (.cells #[.int .i64 0, .int .i64 0] 33)
  have v7 := Two.new ((((w.alloc (.cells #[.int .i64 W, .int .i64 H, .slice ao n cap] 24)).alloc (.cells #[.int .i64 ax, .int .i64 ay] 26)).alloc (.cells #[.int .i64 bx, .int .i64 yb] 26)).alloc (.cells #[.int .i64 0, .int .i64 0] 33)) 33 (.int .i64 0) (.int .i64 0)
  have v6 := (v6.below hb v6.lt).alloc (.cells #[.int .i64 W, .int .i64 H, .slice ao n cap, .int .i64 ax, .int .i64 ay, .int .i64 bx, .int .i64 yb] 86)
  have v7 := (v7.below hb v7.lt).alloc (.cells #[.int .i64 W, .int .i64 H, .slice ao n cap, .int .i64 ax, .int .i64 ay, .int .i64 bx, .int .i64 yb] 86)
  simp only [World.size_alloc] at v6 v7
  have b8 : Below w.heap.size w (w1.alloc (.cells #[.int .i64 W, .int .i64 H, .slice ao n cap, .int .i64 ax, .int .i64 ay, .int .i64 bx, .int .i64 yb] 86)) := by (repeat' (first | (with_reducible exact Below.refl _ _) | (with_reducible refine Below.setCell ?_ (by first | omega | (simp; done) | (simp; omega)) _) | (with_reducible refine Below.alloc ?_ (by first | omega | (simp; done) | (simp; omega)) _) | (with_reducible refine Below.drew ?_) | (with_reducible refine below_drewN ?_ _) | (with_reducible refine Below.trans ?_ (Below.mono (by assumption) (by first | omega | (simp; done) | (simp; omega))))))
  have hz8 : w1.heap.size < (w1.alloc (.cells #[.int .i64 W, .int .i64 H, .slice ao n cap, .int .i64 ax, .int .i64 ay, .int .i64 bx, .int .i64 yb] 86)).heap.size := by simp
  obtain ⟨wq, hwq⟩ : ∃ wq, wq = w1.alloc (.cells #[.int .i64 W, .int .i64 H, .slice ao n cap, .int .i64 ax, .int .i64 ay, .int .i64 bx, .int .i64 yb] 86) := ⟨_, rfl⟩
  rw [← hwq] at v8 v6 v7 b8 hz8 ⊢
  obtain ⟨P, hP⟩ : ∃ P, P = w1.heap.size := ⟨_, rfl⟩
  rw [← hP] at v8 hz8 ⊢
  have hz9 : w.heap.size + 5 ≤ P := by omega
  clear hwq hc hf hb hz hP
  (go_at_call 66; (refine (CM.out _ b8).mono ?_); rintro e w2 ⟨rfl, hb2⟩)
  have l8 := v8.lt
  have l6 := v6.lt
  have l7 := v7.lt
  have v8 := v8.below hb2 l8
  have v6 := v6.below hb2 l6
  have v7 := v7.below hb2 l7
  have b8 := b8.trans (hb2.mono b8.size)
  have s2 := hb2.size
  clear hb2 l6 l7 l8
  have hn1 : ¬ (P = w.heap.size + 1 + 1 + 1) := by omega
  have hn2 : ¬ (w.heap.size + 1 + 1 + 1 = P) := by omega
  have hn3 : ¬ (P = w.heap.size + 1 + 1 + 1 + 1) := by omega
  have hn4 : ¬ (w.heap.size + 1 + 1 + 1 + 1 = P) := by omega
  have hle : w.heap.size ≤ P := by omega
  have m0 := v8.at 0 _ rfl
  have m1 := v8.at 1 _ rfl
  have m2 := v8.at 2 _ rfl
  have m3 := v8.at 3 _ rfl
  have m4 := v8.at 4 _ rfl
  have m5 := v8.at 5 _ rfl
  have m6 := v8.at 6 _ rfl
  have k0 := v6.c0
  have k1 := v6.c1
  have f0 := v6.f0 0
  have f1 := v6.f0 1
  have j0 := v7.c0
  have j1 := v7.c1
  have g0 := v7.f0 0
  have g1 := v7.f0 1
  have l8 := v8.lt
  have l6 := v6.lt
  have l7 := v7.lt
  go_wp2
  go_region_held3 (fun w' => w'.cell? ⟨P, 0, none⟩ = some (.int .i64 W) ∧ w'.cell? ⟨P, 1, none⟩ = some (.int .i64 H) ∧ w'.cell? ⟨P, 2, none⟩ = some (.slice ao n cap) ∧ w'.cell? ⟨P, 3, none⟩ = some (.int .i64 ax) ∧ w'.cell? ⟨P, 4, none⟩ = some (.int .i64 ay) ∧ w'.cell? ⟨P, 5, none⟩ = some (.int .i64 bx) ∧ w'.cell? ⟨P, 6, none⟩ = some (.int .i64 yb)) (first | (go_split_ands; (try dsimp only); refine ⟨?_, ?_, ?_, ?_, ?_, ?_, ?_⟩ <;> (first | (with_reducible assumption) | (with_reducible exact keep_cell (by assumption) (by first | omega | (simp; done) | (simp; omega)) (by assumption)) | (with_reducible exact (World.cell?_alloc_past _ _ _ (by show _ < _; omega)).trans (by assumption)) | (with_reducible exact (World.cell?_alloc_past _ _ _ (by show _ < _; omega)).trans ((World.cell?_alloc_past _ _ _ (by show _ < _; omega)).symm.trans (by assumption))) | (simp [go_sem]; with_reducible assumption))) | (simp [go_sem, ↓IntWalk.iteOmega, *]; done)) ((first | ((go_at_call 66; (with_reducible refine (CE.out _ (by (repeat' (first | (with_reducible exact Below.refl _ _) | (with_reducible refine Below.setCell ?_ (by first | omega | (simp; done) | (simp; omega)) _) | (with_reducible refine Below.alloc ?_ (by first | omega | (simp; done) | (simp; omega)) _) | (with_reducible refine Below.drew ?_) | (with_reducible refine below_drewN ?_ _) | (with_reducible refine Below.trans ?_ (Below.mono (by assumption) (by first | omega | (simp; done) | (simp; omega)))))))).mono ?_); rintro e w1 ⟨rfl, hb⟩; obtain ⟨hc, hf, hz⟩ := bcall hb; (try simp at hc hf hz)); have hl6 : w.heap.size + 1 + 1 + 1 + 1 < w1.heap.size := by omega) | ((go_at_call 66; (with_reducible refine (CN.out _ (by (repeat' (first | (with_reducible exact Below.refl _ _) | (with_reducible refine Below.setCell ?_ (by first | omega | (simp; done) | (simp; omega)) _) | (with_reducible refine Below.alloc ?_ (by first | omega | (simp; done) | (simp; omega)) _) | (with_reducible refine Below.drew ?_) | (with_reducible refine below_drewN ?_ _) | (with_reducible refine Below.trans ?_ (Below.mono (by assumption) (by first | omega | (simp; done) | (simp; omega)))))))).mono ?_); rintro e w1 ⟨rfl, hb⟩; obtain ⟨hc, hf, hz⟩ := bcall hb; (try simp at hc hf hz)); have hl6 : w.heap.size + 1 + 1 + 1 + 1 < w1.heap.size := by omega) | ((go_at_call 65; (with_reducible refine (RE.out _ (by (repeat' (first | (with_reducible exact Below.refl _ _) | (with_reducible refine Below.setCell ?_ (by first | omega | (simp; done) | (simp; omega)) _) | (with_reducible refine Below.alloc ?_ (by first | omega | (simp; done) | (simp; omega)) _) | (with_reducible refine Below.drew ?_) | (with_reducible refine below_drewN ?_ _) | (with_reducible refine Below.trans ?_ (Below.mono (by assumption) (by first | omega | (simp; done) | (simp; omega)))))))).mono ?_); rintro e w1 ⟨rfl, hb⟩; obtain ⟨hc, hf, hz⟩ := bcall hb; (try simp at hc hf hz)); have hl6 : w.heap.size + 1 + 1 + 1 + 1 < w1.heap.size := by omega) | ((go_at_call 65; (with_reducible refine (RN.out _ (by (repeat' (first | (with_reducible exact Below.refl _ _) | (with_reducible refine Below.setCell ?_ (by first | omega | (simp; done) | (simp; omega)) _) | (with_reducible refine Below.alloc ?_ (by first | omega | (simp; done) | (simp; omega)) _) | (with_reducible refine Below.drew ?_) | (with_reducible refine below_drewN ?_ _) | (with_reducible refine Below.trans ?_ (Below.mono (by assumption) (by first | omega | (simp; done) | (simp; omega)))))))).mono ?_); rintro e w1 ⟨rfl, hb⟩; obtain ⟨hc, hf, hz⟩ := bcall hb; (try simp at hc hf hz)); have hl6 : w.heap.size + 1 + 1 + 1 + 1 < w1.heap.size := by omega)))
  all_goals
    go_wp2
    refine bodyPost_ret (v := .tuple #[.agg #[.int .i64 ke, .int .i64 de], .agg #[.int .i64 kn, .int .i64 dn], .int .i64 0]) (by simp [results, Tryd.results15, go_sem, ↓IntWalk.iteOmega, *]) rfl ⟨rfl, ?_⟩
    (repeat' (first | (with_reducible exact Below.refl _ _) | (with_reducible refine Below.setCell ?_ (by first | omega | (simp; done) | (simp; omega)) _) | (with_reducible refine Below.alloc ?_ (by first | omega | (simp; done) | (simp; omega)) _) | (with_reducible refine Below.drew ?_) | (with_reducible refine below_drewN ?_ _) | (with_reducible refine Below.trans ?_ (Below.mono (by assumption) (by first | omega | (simp; done) | (simp; omega))))))
end
section
variable (W H n cap b off : Nat) (G : Nat → Nat → Int) (ax ay bx yb : Nat) (w : World) (s : Sides W H n) (hO : OkG n G) (lb : b < w.heap.size) (hG : Grd w b off n G) (h1 : ax ≤ bx) (h2 : bx < W) (h3 : ay ≤ yb) (h4 : yb < H)
include s hO lb hG h1 h2 h3 h4
theorem newBlock_bl (wx : World) (hb : Below w.heap.size w wx) : Calls Tryd.prog 61 #[.agg #[.int .i64 W, .int .i64 H, .slice (some ⟨b, off, none⟩) n cap], .agg #[.int .i64 ((ax : Int)), .int .i64 ((ay : Int))], .agg #[.int .i64 ((bx : Int)), .int .i64 ((yb : Int))]] wx fun e w' => e = .returned (.tuple #[.agg #[.int .i64 W, .int .i64 H, .slice (some ⟨b, off, none⟩) n cap, .int .i64 ((ax : Int)), .int .i64 ((ay : Int)), .int .i64 ((bx : Int)), .int .i64 ((yb : Int))], .int .i64 0]) ∧ Below wx.heap.size wx w' :=
  newBlock_ok W H (some ⟨b, off, none⟩) n cap G ax ay bx yb wx (vg_of s hO) ((show CellsIn w (some ⟨b, off, none⟩) n G from Or.inr ⟨b, off, rfl, lb, hG⟩).below hb) (blkOk_of h1 h2 h3 h4)
theorem fVel_none (h0 : blS (msC G) W ax ay bx yb = 0) : Calls Tryd.prog 15 #[.agg #[.int .i64 W, .int .i64 H, .slice (some ⟨b, off, none⟩) n cap], .agg #[.int .i64 ((ax : Int)), .int .i64 ((ay : Int))], .agg #[.int .i64 ((bx : Int)), .int .i64 ((yb : Int))]] w fun e w' => e = .returned (.tuple #[.agg #[.int .i64 0, .int .i64 0], .agg #[.int .i64 0, .int .i64 0], .int .i64 8]) ∧ Below w.heap.size w w' :=
  fVel_none0 W H (some ⟨b, off, none⟩) n cap ax ay bx yb _ w (newBlock_bl W H n cap b off G ax ay bx yb w s hO lb hG h1 h2 h3 h4)
    (fsum_bl W H n cap b off G ax ay bx yb w s lb hG h1 h2 h3 h4 67 (msC G) (fun wy _ => tells_mass wy n G hO) (tells_bd hO).1) h0
theorem fVel_ok (m : Nat) (h0 : blS (msC G) W ax ay bx yb = (m : Int)) (hm : 1 ≤ m) (hm2 : m ≤ 2000000000000) : Calls Tryd.prog 15 #[.agg #[.int .i64 W, .int .i64 H, .slice (some ⟨b, off, none⟩) n cap], .agg #[.int .i64 ((ax : Int)), .int .i64 ((ay : Int))], .agg #[.int .i64 ((bx : Int)), .int .i64 ((yb : Int))]] w fun e w' => e = .returned (.tuple #[.agg #[.int .i64 (ltN (blS (eaC G) W ax ay bx yb) m), .int .i64 (((ltD (blS (eaC G) W ax ay bx yb) m : Nat) : Int))], .agg #[.int .i64 (ltN (blS (noC G) W ax ay bx yb) m), .int .i64 (((ltD (blS (noC G) W ax ay bx yb) m : Nat) : Int))], .int .i64 0]) ∧ Below w.heap.size w w' := by
  obtain ⟨d1, d2, d3⟩ := tells_bd hO
  have B2 := blS_bd d2 s.n0 s.n1 s.w1 s.h1 h1 h2 h3 h4
  have B3 := blS_bd d3 s.n0 s.n1 s.w1 s.h1 h1 h2 h3 h4
  refine fVel_in W H (some ⟨b, off, none⟩) n cap ax ay bx yb m w (newBlock_bl W H n cap b off G ax ay bx yb w s hO lb hG h1 h2 h3 h4) ?_ (by omega) _ _ _ _ _ _
    (fsum_bl W H n cap b off G ax ay bx yb w s lb hG h1 h2 h3 h4 70 (eaC G) (fun wy _ => tells_east wy n G hO) d2)
    (fsum_bl W H n cap b off G ax ay bx yb w s lb hG h1 h2 h3 h4 71 (noC G) (fun wy _ => tells_north wy n G hO) d3)
    (fun wx _ => fRatio_lt _ m wx hm (by omega) (by omega)) (fun wx _ => fRatio_lt _ m wx hm (by omega) (by omega))
  rw [← h0]
  exact fsum_bl W H n cap b off G ax ay bx yb w s lb hG h1 h2 h3 h4 67 (msC G) (fun wy _ => tells_mass wy n G hO) d1
end
end Go.Proofs.YtmdeooflgkjbbaaDoor
