/- Put and Take: by the program. -/
import Derived.Test.YtnkehlankidlnaaPuts
namespace Go.Proofs.Ytnkehlankidlnaa
set_option linter.unusedSimpArgs false
set_option linter.unusedVariables false
open Go.RowKit

set_option maxHeartbeats 4000000 in
theorem gPut_ok (W H n cap : Nat) (ao : Option Addr) (G : Nat → Nat → Int) (px py v : Int) (q d : Nat) (w : World) (s : Sides W H n) (hO : OkG n G) (hC : CellsIn w ao n G) (hp : Pop W H px py d) (hq : q < n) (hd : d < 4) (hpl : px + (W : Int) * py = q) (hv : Cnt v) (hl : wt G n + v ≤ 1000000000) :
    Calls Try.prog 27 #[.agg #[.int .i64 W, .int .i64 H, .slice (ao) n cap], .agg #[.int .i64 px, .int .i64 py], .int .i64 d, .int .i64 v] w (Made W H n (upd G q d (G q d + v)) w) := by
  obtain ⟨b, off, rfl, hlt, hG⟩ := cells_of s hC
  have HM := Lib.hid (fun w' (hb : Below w.heap.size w w') => gMass_ok W H (some ⟨b, off, none⟩) n cap G w' (vg_of s hO) (hC.below hb))
  have P := Lib.hid hp
  have V := Lib.hid hv
  obtain ⟨v0, v1⟩ := hv
  have GR' := Lib.hid (fun w' (hb : Below w.heap.size w w') => grown_any W H n b off cap G px py v q d w' s hO (Nat.lt_of_lt_of_le hlt hb.size) (hG.below hb hlt) hq hd hpl hp.1 (by have := hp.2.1; have := s.w1; omega) hp.2.2.1 (by have := hp.2.2.2.1; have := s.h1; omega) (by omega) v1)
  have w0 := (wt_le hO.1 n (Nat.le_refl _)).1
  have w1 := hO.2
  clear s hO hC hG hp hpl
  go_enter Try.func27, Try.ntmps27
  go_wp2_with (first | (go_at_call 69; (with_reducible refine (HM.out _ (by (repeat' (first | (with_reducible exact Below.refl _ _) | (with_reducible refine Below.setCell ?_ (by first | omega | (simp; done) | (simp; omega)) _) | (with_reducible refine Below.alloc ?_ (by first | omega | (simp; done) | (simp; omega)) _) | (with_reducible refine Below.drew ?_) | (with_reducible refine below_drewN ?_ _) | (with_reducible refine Below.trans ?_ (Below.mono (by assumption) (by first | omega | (simp; done) | (simp; omega)))))))).mono ?_); rintro e w1 ⟨rfl, hb⟩; obtain ⟨hc, hf, hz⟩ := bcall hb; (try simp at hc hf hz)) | (go_at_call 70; (with_reducible refine (isPop_yes W H px py d _ n cap _ P.out).mono ?_); rintro e w1 ⟨rfl, hb⟩; obtain ⟨hc, hf, hz⟩ := bcall hb; (try simp at hc hf hz)) | (go_at_call 71; (with_reducible refine (isCount_yes v _ V.out).mono ?_); rintro e w1 ⟨rfl, rfl⟩))
  (go_at_call 72; (with_reducible refine (GR'.out _ (by (repeat' (first | (with_reducible exact Below.refl _ _) | (with_reducible refine Below.setCell ?_ (by first | omega | (simp; done) | (simp; omega)) _) | (with_reducible refine Below.alloc ?_ (by first | omega | (simp; done) | (simp; omega)) _) | (with_reducible refine Below.drew ?_) | (with_reducible refine below_drewN ?_ _) | (with_reducible refine Below.trans ?_ (Below.mono (by assumption) (by first | omega | (simp; done) | (simp; omega)))))))).mono ?_); rintro e wo ⟨o, co, rfl, ho, loo, hb⟩; have Co := Lib.hid ho; clear ho; obtain ⟨hc, hf, hz⟩ := bcall hb; (try simp at hc hf hz loo))
  have HB := Lib.hid (show Below w.heap.size w wo from by (repeat' (first | (with_reducible exact Below.refl _ _) | (with_reducible refine Below.setCell ?_ (by first | omega | (simp; done) | (simp; omega)) _) | (with_reducible refine Below.alloc ?_ (by first | omega | (simp; done) | (simp; omega)) _) | (with_reducible refine Below.drew ?_) | (with_reducible refine below_drewN ?_ _) | (with_reducible refine Below.trans ?_ (Below.mono (by assumption) (by first | omega | (simp; done) | (simp; omega)))))))
  go_wp2
  refine bodyPost_ret (v := .tuple #[.agg #[.int .i64 W, .int .i64 H, .slice (some ⟨o, 0, none⟩) n co], .int .i64 0]) (by simp [results, Try.results27, go_sem, ↓IntWalk.iteOmega, *]) rfl ?_
  exact made_pass Co.out.cellsIn HB.out (by omega) (by omega)

set_option maxHeartbeats 2000000 in
theorem gPut_limit (W H n cap : Nat) (ao : Option Addr) (G : Nat → Nat → Int) (px py d v : Int) (w : World) (s : Sides W H n) (hO : OkG n G) (hC : CellsIn w ao n G) (hp : Pop W H px py d) (hv : Cnt v) (hl : ¬ wt G n + v ≤ 1000000000) :
    Calls Try.prog 27 #[.agg #[.int .i64 W, .int .i64 H, .slice (ao) n cap], .agg #[.int .i64 px, .int .i64 py], .int .i64 d, .int .i64 v] w fun e w' => e = .returned (.tuple #[.agg #[.int .i64 0, .int .i64 0, .slice (none) 0 0], .int .i64 4]) ∧ Below w.heap.size w w' := by
  have HM := Lib.hid (fun w' (hb : Below w.heap.size w w') => gMass_ok W H ao n cap G w' (vg_of s hO) (hC.below hb))
  have P := Lib.hid hp
  have V := Lib.hid hv
  obtain ⟨v0, v1⟩ := hv
  have w0 := (wt_le hO.1 n (Nat.le_refl _)).1
  have w1 := hO.2
  clear s hO hC hp
  go_enter Try.func27, Try.ntmps27
  go_wp2_with (first | (go_at_call 69; (with_reducible refine (HM.out _ (by (repeat' (first | (with_reducible exact Below.refl _ _) | (with_reducible refine Below.setCell ?_ (by first | omega | (simp; done) | (simp; omega)) _) | (with_reducible refine Below.alloc ?_ (by first | omega | (simp; done) | (simp; omega)) _) | (with_reducible refine Below.drew ?_) | (with_reducible refine below_drewN ?_ _) | (with_reducible refine Below.trans ?_ (Below.mono (by assumption) (by first | omega | (simp; done) | (simp; omega)))))))).mono ?_); rintro e w1 ⟨rfl, hb⟩; obtain ⟨hc, hf, hz⟩ := bcall hb; (try simp at hc hf hz)) | (go_at_call 70; (with_reducible refine (isPop_yes W H px py d _ n cap _ P.out).mono ?_); rintro e w1 ⟨rfl, hb⟩; obtain ⟨hc, hf, hz⟩ := bcall hb; (try simp at hc hf hz)) | (go_at_call 71; (with_reducible refine (isCount_yes v _ V.out).mono ?_); rintro e w1 ⟨rfl, rfl⟩))
  refine bodyPost_ret (v := .tuple #[.agg #[.int .i64 0, .int .i64 0, .slice (none) 0 0], .int .i64 4]) (by simp [results, Try.results27, go_sem, ↓IntWalk.iteOmega, *]) rfl ⟨rfl, ?_⟩
  (repeat' (first | (with_reducible exact Below.refl _ _) | (with_reducible refine Below.setCell ?_ (by first | omega | (simp; done) | (simp; omega)) _) | (with_reducible refine Below.alloc ?_ (by first | omega | (simp; done) | (simp; omega)) _) | (with_reducible refine Below.drew ?_) | (with_reducible refine below_drewN ?_ _) | (with_reducible refine Below.trans ?_ (Below.mono (by assumption) (by first | omega | (simp; done) | (simp; omega))))))

set_option maxHeartbeats 4000000 in
theorem gPut_range (W H : Int) (n cap : Nat) (ao : Option Addr) (G : Nat → Nat → Int) (px py d v : Int) (w : World) (hv : VG W H n G) (hC : CellsIn w ao n G) (hr : ¬ (Pop W H px py d ∧ Cnt v)) :
    Calls Try.prog 27 #[.agg #[.int .i64 W, .int .i64 H, .slice (ao) n cap], .agg #[.int .i64 px, .int .i64 py], .int .i64 d, .int .i64 v] w fun e w' => e = .returned (.tuple #[.agg #[.int .i64 0, .int .i64 0, .slice (none) 0 0], .int .i64 7]) ∧ Below w.heap.size w w' := by
  have HM := Lib.hid (fun w' (hb : Below w.heap.size w w') => gMass_ok W H ao n cap G w' hv (hC.below hb))
  clear hv hC
  by_cases hp : Pop W H px py d
  · have P := Lib.hid hp
    have V := Lib.hid (show ¬ Cnt v from fun k => hr ⟨hp, k⟩)
    clear hr hp
    go_enter Try.func27, Try.ntmps27
    go_wp2_with (first | (go_at_call 69; (with_reducible refine (HM.out _ (by (repeat' (first | (with_reducible exact Below.refl _ _) | (with_reducible refine Below.setCell ?_ (by first | omega | (simp; done) | (simp; omega)) _) | (with_reducible refine Below.alloc ?_ (by first | omega | (simp; done) | (simp; omega)) _) | (with_reducible refine Below.drew ?_) | (with_reducible refine below_drewN ?_ _) | (with_reducible refine Below.trans ?_ (Below.mono (by assumption) (by first | omega | (simp; done) | (simp; omega)))))))).mono ?_); rintro e w1 ⟨rfl, hb⟩; obtain ⟨hc, hf, hz⟩ := bcall hb; (try simp at hc hf hz)) | (go_at_call 70; (with_reducible refine (isPop_yes W H px py d _ n cap _ P.out).mono ?_); rintro e w1 ⟨rfl, hb⟩; obtain ⟨hc, hf, hz⟩ := bcall hb; (try simp at hc hf hz)) | (go_at_call 71; (with_reducible refine (isCount_no v _ V.out).mono ?_); rintro e w1 ⟨rfl, rfl⟩))
    refine bodyPost_ret (v := .tuple #[.agg #[.int .i64 0, .int .i64 0, .slice (none) 0 0], .int .i64 7]) (by simp [results, Try.results27, go_sem, ↓IntWalk.iteOmega, *]) rfl ⟨rfl, ?_⟩
    (repeat' (first | (with_reducible exact Below.refl _ _) | (with_reducible refine Below.setCell ?_ (by first | omega | (simp; done) | (simp; omega)) _) | (with_reducible refine Below.alloc ?_ (by first | omega | (simp; done) | (simp; omega)) _) | (with_reducible refine Below.drew ?_) | (with_reducible refine below_drewN ?_ _) | (with_reducible refine Below.trans ?_ (Below.mono (by assumption) (by first | omega | (simp; done) | (simp; omega))))))
  · have P := Lib.hid hp
    clear hr hp
    go_enter Try.func27, Try.ntmps27
    go_wp2_with (first | (go_at_call 69; (with_reducible refine (HM.out _ (by (repeat' (first | (with_reducible exact Below.refl _ _) | (with_reducible refine Below.setCell ?_ (by first | omega | (simp; done) | (simp; omega)) _) | (with_reducible refine Below.alloc ?_ (by first | omega | (simp; done) | (simp; omega)) _) | (with_reducible refine Below.drew ?_) | (with_reducible refine below_drewN ?_ _) | (with_reducible refine Below.trans ?_ (Below.mono (by assumption) (by first | omega | (simp; done) | (simp; omega)))))))).mono ?_); rintro e w1 ⟨rfl, hb⟩; obtain ⟨hc, hf, hz⟩ := bcall hb; (try simp at hc hf hz)) | (go_at_call 70; (with_reducible refine (isPop_no W H px py d _ n cap _ P.out).mono ?_); rintro e w1 ⟨rfl, hb⟩; obtain ⟨hc, hf, hz⟩ := bcall hb; (try simp at hc hf hz)))
    refine bodyPost_ret (v := .tuple #[.agg #[.int .i64 0, .int .i64 0, .slice (none) 0 0], .int .i64 7]) (by simp [results, Try.results27, go_sem, ↓IntWalk.iteOmega, *]) rfl ⟨rfl, ?_⟩
    (repeat' (first | (with_reducible exact Below.refl _ _) | (with_reducible refine Below.setCell ?_ (by first | omega | (simp; done) | (simp; omega)) _) | (with_reducible refine Below.alloc ?_ (by first | omega | (simp; done) | (simp; omega)) _) | (with_reducible refine Below.drew ?_) | (with_reducible refine below_drewN ?_ _) | (with_reducible refine Below.trans ?_ (Below.mono (by assumption) (by first | omega | (simp; done) | (simp; omega))))))

set_option maxHeartbeats 2000000 in
theorem gPut_inv (W H : Int) (n cap : Nat) (ao : Option Addr) (G : Nat → Nat → Int) (px py d v : Int) (w : World) (hv : ¬ VG W H n G) (hC : CellsIn w ao n G) :
    Calls Try.prog 27 #[.agg #[.int .i64 W, .int .i64 H, .slice (ao) n cap], .agg #[.int .i64 px, .int .i64 py], .int .i64 d, .int .i64 v] w fun e w' => e = .returned (.tuple #[.agg #[.int .i64 0, .int .i64 0, .slice (none) 0 0], .int .i64 1]) ∧ Below w.heap.size w w' := by
  have HM := Lib.hid (fun w' (hb : Below w.heap.size w w') => gMass_bad W H ao n cap G w' hv (hC.below hb))
  clear hv hC
  go_enter Try.func27, Try.ntmps27
  go_wp2_with (go_at_call 69; (with_reducible refine (HM.out _ (by (repeat' (first | (with_reducible exact Below.refl _ _) | (with_reducible refine Below.setCell ?_ (by first | omega | (simp; done) | (simp; omega)) _) | (with_reducible refine Below.alloc ?_ (by first | omega | (simp; done) | (simp; omega)) _) | (with_reducible refine Below.drew ?_) | (with_reducible refine below_drewN ?_ _) | (with_reducible refine Below.trans ?_ (Below.mono (by assumption) (by first | omega | (simp; done) | (simp; omega)))))))).mono ?_); rintro e w1 ⟨rfl, hb⟩; obtain ⟨hc, hf, hz⟩ := bcall hb; (try simp at hc hf hz))
  refine bodyPost_ret (v := .tuple #[.agg #[.int .i64 0, .int .i64 0, .slice (none) 0 0], .int .i64 1]) (by simp [results, Try.results27, go_sem, ↓IntWalk.iteOmega, *]) rfl ⟨rfl, ?_⟩
  (repeat' (first | (with_reducible exact Below.refl _ _) | (with_reducible refine Below.setCell ?_ (by first | omega | (simp; done) | (simp; omega)) _) | (with_reducible refine Below.alloc ?_ (by first | omega | (simp; done) | (simp; omega)) _) | (with_reducible refine Below.drew ?_) | (with_reducible refine below_drewN ?_ _) | (with_reducible refine Below.trans ?_ (Below.mono (by assumption) (by first | omega | (simp; done) | (simp; omega))))))

set_option maxHeartbeats 4000000 in
theorem gTake_range (W H : Int) (n cap : Nat) (ao : Option Addr) (G : Nat → Nat → Int) (px py d v : Int) (w : World) (hv : VG W H n G) (hC : CellsIn w ao n G) (hr : ¬ (Pop W H px py d ∧ Cnt v)) :
    Calls Try.prog 29 #[.agg #[.int .i64 W, .int .i64 H, .slice (ao) n cap], .agg #[.int .i64 px, .int .i64 py], .int .i64 d, .int .i64 v] w fun e w' => e = .returned (.tuple #[.agg #[.int .i64 0, .int .i64 0, .slice (none) 0 0], .int .i64 7]) ∧ Below w.heap.size w w' := by
  have HM := Lib.hid (fun w' (hb : Below w.heap.size w w') => gValid_ok W H ao n cap G w' hv (hC.below hb))
  clear hv hC
  by_cases hp : Pop W H px py d
  · have P := Lib.hid hp
    have V := Lib.hid (show ¬ Cnt v from fun k => hr ⟨hp, k⟩)
    clear hr hp
    go_enter Try.func29, Try.ntmps29
    go_wp2_with (first | (go_at_call 63; (with_reducible refine (HM.out _ (by (repeat' (first | (with_reducible exact Below.refl _ _) | (with_reducible refine Below.setCell ?_ (by first | omega | (simp; done) | (simp; omega)) _) | (with_reducible refine Below.alloc ?_ (by first | omega | (simp; done) | (simp; omega)) _) | (with_reducible refine Below.drew ?_) | (with_reducible refine below_drewN ?_ _) | (with_reducible refine Below.trans ?_ (Below.mono (by assumption) (by first | omega | (simp; done) | (simp; omega)))))))).mono ?_); rintro e w1 ⟨rfl, hb⟩; obtain ⟨hc, hf, hz⟩ := bcall hb; (try simp at hc hf hz)) | (go_at_call 70; (with_reducible refine (isPop_yes W H px py d _ n cap _ P.out).mono ?_); rintro e w1 ⟨rfl, hb⟩; obtain ⟨hc, hf, hz⟩ := bcall hb; (try simp at hc hf hz)) | (go_at_call 71; (with_reducible refine (isCount_no v _ V.out).mono ?_); rintro e w1 ⟨rfl, rfl⟩))
    refine bodyPost_ret (v := .tuple #[.agg #[.int .i64 0, .int .i64 0, .slice (none) 0 0], .int .i64 7]) (by simp [results, Try.results29, go_sem, ↓IntWalk.iteOmega, *]) rfl ⟨rfl, ?_⟩
    (repeat' (first | (with_reducible exact Below.refl _ _) | (with_reducible refine Below.setCell ?_ (by first | omega | (simp; done) | (simp; omega)) _) | (with_reducible refine Below.alloc ?_ (by first | omega | (simp; done) | (simp; omega)) _) | (with_reducible refine Below.drew ?_) | (with_reducible refine below_drewN ?_ _) | (with_reducible refine Below.trans ?_ (Below.mono (by assumption) (by first | omega | (simp; done) | (simp; omega))))))
  · have P := Lib.hid hp
    clear hr hp
    go_enter Try.func29, Try.ntmps29
    go_wp2_with (first | (go_at_call 63; (with_reducible refine (HM.out _ (by (repeat' (first | (with_reducible exact Below.refl _ _) | (with_reducible refine Below.setCell ?_ (by first | omega | (simp; done) | (simp; omega)) _) | (with_reducible refine Below.alloc ?_ (by first | omega | (simp; done) | (simp; omega)) _) | (with_reducible refine Below.drew ?_) | (with_reducible refine below_drewN ?_ _) | (with_reducible refine Below.trans ?_ (Below.mono (by assumption) (by first | omega | (simp; done) | (simp; omega)))))))).mono ?_); rintro e w1 ⟨rfl, hb⟩; obtain ⟨hc, hf, hz⟩ := bcall hb; (try simp at hc hf hz)) | (go_at_call 70; (with_reducible refine (isPop_no W H px py d _ n cap _ P.out).mono ?_); rintro e w1 ⟨rfl, hb⟩; obtain ⟨hc, hf, hz⟩ := bcall hb; (try simp at hc hf hz)))
    refine bodyPost_ret (v := .tuple #[.agg #[.int .i64 0, .int .i64 0, .slice (none) 0 0], .int .i64 7]) (by simp [results, Try.results29, go_sem, ↓IntWalk.iteOmega, *]) rfl ⟨rfl, ?_⟩
    (repeat' (first | (with_reducible exact Below.refl _ _) | (with_reducible refine Below.setCell ?_ (by first | omega | (simp; done) | (simp; omega)) _) | (with_reducible refine Below.alloc ?_ (by first | omega | (simp; done) | (simp; omega)) _) | (with_reducible refine Below.drew ?_) | (with_reducible refine below_drewN ?_ _) | (with_reducible refine Below.trans ?_ (Below.mono (by assumption) (by first | omega | (simp; done) | (simp; omega))))))

set_option maxHeartbeats 2000000 in
theorem gTake_inv (W H : Int) (n cap : Nat) (ao : Option Addr) (G : Nat → Nat → Int) (px py d v : Int) (w : World) (hv : ¬ VG W H n G) (hC : CellsIn w ao n G) :
    Calls Try.prog 29 #[.agg #[.int .i64 W, .int .i64 H, .slice (ao) n cap], .agg #[.int .i64 px, .int .i64 py], .int .i64 d, .int .i64 v] w fun e w' => e = .returned (.tuple #[.agg #[.int .i64 0, .int .i64 0, .slice (none) 0 0], .int .i64 1]) ∧ Below w.heap.size w w' := by
  have HM := Lib.hid (fun w' (hb : Below w.heap.size w w') => gValid_bad W H ao n cap G w' hv (hC.below hb))
  clear hv hC
  go_enter Try.func29, Try.ntmps29
  go_wp2_with (go_at_call 63; (with_reducible refine (HM.out _ (by (repeat' (first | (with_reducible exact Below.refl _ _) | (with_reducible refine Below.setCell ?_ (by first | omega | (simp; done) | (simp; omega)) _) | (with_reducible refine Below.alloc ?_ (by first | omega | (simp; done) | (simp; omega)) _) | (with_reducible refine Below.drew ?_) | (with_reducible refine below_drewN ?_ _) | (with_reducible refine Below.trans ?_ (Below.mono (by assumption) (by first | omega | (simp; done) | (simp; omega)))))))).mono ?_); rintro e w1 ⟨rfl, hb⟩; obtain ⟨hc, hf, hz⟩ := bcall hb; (try simp at hc hf hz))
  refine bodyPost_ret (v := .tuple #[.agg #[.int .i64 0, .int .i64 0, .slice (none) 0 0], .int .i64 1]) (by simp [results, Try.results29, go_sem, ↓IntWalk.iteOmega, *]) rfl ⟨rfl, ?_⟩
  (repeat' (first | (with_reducible exact Below.refl _ _) | (with_reducible refine Below.setCell ?_ (by first | omega | (simp; done) | (simp; omega)) _) | (with_reducible refine Below.alloc ?_ (by first | omega | (simp; done) | (simp; omega)) _) | (with_reducible refine Below.drew ?_) | (with_reducible refine below_drewN ?_ _) | (with_reducible refine Below.trans ?_ (Below.mono (by assumption) (by first | omega | (simp; done) | (simp; omega))))))

set_option maxRecDepth 100000 in
set_option maxHeartbeats 4000000 in
theorem gTake_ok (W H n cap : Nat) (ao : Option Addr) (G : Nat → Nat → Int) (px py v : Int) (q d : Nat) (w : World) (s : Sides W H n) (hO : OkG n G) (hC : CellsIn w ao n G) (hp : Pop W H px py d) (hq : q < n) (hd : d < 4) (hpl : px + (W : Int) * py = q) (hv : Cnt v) (hl : v ≤ G q d) :
    Calls Try.prog 29 #[.agg #[.int .i64 W, .int .i64 H, .slice (ao) n cap], .agg #[.int .i64 px, .int .i64 py], .int .i64 d, .int .i64 v] w (Made W H n (upd G q d (G q d - v)) w) := by
  obtain ⟨b, off, rfl, hlt, hG⟩ := cells_of s hC
  have HM := Lib.hid (fun w' (hb : Below w.heap.size w w') => gValid_ok W H (some ⟨b, off, none⟩) n cap G w' (vg_of s hO) (hC.below hb))
  have P := Lib.hid hp
  have V := Lib.hid hv
  have ri := Lib.hid (fun w' => index_any W H (some ⟨b, off, none⟩) n cap px py q w' (by omega) (by have := s.w1; omega) hp.1 (by have := hp.2.1; have := s.w1; omega) hp.2.2.1 (by have := hp.2.2.2.1; have := s.h1; omega) hpl (by have := s.n1; omega))
  obtain ⟨v0, v1⟩ := hv
  have GR' := Lib.hid (fun w' (hb : Below w.heap.size w w') => grown_any W H n b off cap G px py (-v) q d w' s hO (Nat.lt_of_lt_of_le hlt hb.size) (hG.below hb hlt) hq hd hpl hp.1 (by have := hp.2.1; have := s.w1; omega) hp.2.2.1 (by have := hp.2.2.2.1; have := s.h1; omega) (by omega) (by omega))
  have g0 := (pop_le hO hq hd).1
  have g1 := (pop_le hO hq hd).2
  have w1 := hO.2
  have w2 : G q d ≤ 1000000000 := by omega
  have i0 : (0 : Int) ≤ (q : Int) := by omega
  have i1 : (q : Int) < (n : Int) := by omega
  have i2 : (0 : Int) ≤ (d : Int) := by omega
  have i3 : (d : Int) < 4 := by omega
  have cq := hG.at hq hd
  rw [← Int.sub_eq_add_neg] at GR'
  clear s hO hC hG hp hpl g1 w1
  go_enter Try.func29, Try.ntmps29
  go_wp2_with (first | (go_at_call 63; (with_reducible refine (HM.out _ (by (repeat' (first | (with_reducible exact Below.refl _ _) | (with_reducible refine Below.setCell ?_ (by first | omega | (simp; done) | (simp; omega)) _) | (with_reducible refine Below.alloc ?_ (by first | omega | (simp; done) | (simp; omega)) _) | (with_reducible refine Below.drew ?_) | (with_reducible refine below_drewN ?_ _) | (with_reducible refine Below.trans ?_ (Below.mono (by assumption) (by first | omega | (simp; done) | (simp; omega)))))))).mono ?_); rintro e w1 ⟨rfl, hb⟩; obtain ⟨hc, hf, hz⟩ := bcall hb; (try simp at hc hf hz)) | (go_at_call 70; (with_reducible refine (isPop_yes W H px py d _ n cap _ P.out).mono ?_); rintro e w1 ⟨rfl, hb⟩; obtain ⟨hc, hf, hz⟩ := bcall hb; (try simp at hc hf hz)) | (go_at_call 71; (with_reducible refine (isCount_yes v _ V.out).mono ?_); rintro e w1 ⟨rfl, rfl⟩))
  have lb : b < w1.heap.size := by omega
  go_region_held3 (fun w' => w'.cell? ⟨w.heap.size, 0, none⟩ = some (.int .i64 W) ∧ w'.cell? ⟨w.heap.size, 1, none⟩ = some (.int .i64 H) ∧ w'.cell? ⟨w.heap.size, 2, none⟩ = some (.slice (some ⟨b, off, none⟩) n cap) ∧ w'.cell? ⟨w.heap.size + 1, 0, none⟩ = some (.int .i64 px) ∧ w'.cell? ⟨w.heap.size + 1, 1, none⟩ = some (.int .i64 py) ∧ w'.cell? ⟨b, off + q * 4 + d, none⟩ = some (.int .i64 (G q d))) (first | (go_split_ands; (try dsimp only); refine ⟨?_, ?_, ?_, ?_, ?_, ?_⟩ <;> (first | (with_reducible assumption) | (with_reducible exact keep_cell (by assumption) (by first | omega | (simp; done) | (simp; omega)) (by assumption)) | (simp [go_sem]; with_reducible assumption))) | (simp [go_sem, ↓IntWalk.iteOmega, *]; done)) ((go_at_call 76; (with_reducible refine (ri.out _).mono ?_); rintro e w1 ⟨rfl, hb⟩; obtain ⟨hc, hf, hz⟩ := bcall hb; (try simp at hc hf hz)))
  go_wp2_with fail
  (go_at_call 72; (with_reducible refine (GR'.out _ (by (repeat' (first | (with_reducible exact Below.refl _ _) | (with_reducible refine Below.setCell ?_ (by first | omega | (simp; done) | (simp; omega)) _) | (with_reducible refine Below.alloc ?_ (by first | omega | (simp; done) | (simp; omega)) _) | (with_reducible refine Below.drew ?_) | (with_reducible refine below_drewN ?_ _) | (with_reducible refine Below.trans ?_ (Below.mono (by assumption) (by first | omega | (simp; done) | (simp; omega)))))))).mono ?_); rintro e wo ⟨o, co, rfl, ho, loo, hb⟩; have Co := Lib.hid ho; clear ho; obtain ⟨hc, hf, hz⟩ := bcall hb; (try simp at hc hf hz loo))
  have HB := Lib.hid (show Below w.heap.size w wo from by (repeat' (first | (with_reducible exact Below.refl _ _) | (with_reducible refine Below.setCell ?_ (by first | omega | (simp; done) | (simp; omega)) _) | (with_reducible refine Below.alloc ?_ (by first | omega | (simp; done) | (simp; omega)) _) | (with_reducible refine Below.drew ?_) | (with_reducible refine below_drewN ?_ _) | (with_reducible refine Below.trans ?_ (Below.mono (by assumption) (by first | omega | (simp; done) | (simp; omega)))))))
  go_wp2
  refine bodyPost_ret (v := .tuple #[.agg #[.int .i64 W, .int .i64 H, .slice (some ⟨o, 0, none⟩) n co], .int .i64 0]) (by simp [results, Try.results29, go_sem, ↓IntWalk.iteOmega, *]) rfl ?_
  exact made_pass Co.out.cellsIn HB.out (by omega) (by omega)

set_option maxRecDepth 100000 in
set_option maxHeartbeats 4000000 in
theorem gTake_none (W H n cap : Nat) (ao : Option Addr) (G : Nat → Nat → Int) (px py v : Int) (q d : Nat) (w : World) (s : Sides W H n) (hO : OkG n G) (hC : CellsIn w ao n G) (hp : Pop W H px py d) (hq : q < n) (hd : d < 4) (hpl : px + (W : Int) * py = q) (hv : Cnt v) (hl : ¬ v ≤ G q d) :
    Calls Try.prog 29 #[.agg #[.int .i64 W, .int .i64 H, .slice (ao) n cap], .agg #[.int .i64 px, .int .i64 py], .int .i64 d, .int .i64 v] w fun e w' => e = .returned (.tuple #[.agg #[.int .i64 0, .int .i64 0, .slice (none) 0 0], .int .i64 8]) ∧ Below w.heap.size w w' := by
  obtain ⟨b, off, rfl, hlt, hG⟩ := cells_of s hC
  have HM := Lib.hid (fun w' (hb : Below w.heap.size w w') => gValid_ok W H (some ⟨b, off, none⟩) n cap G w' (vg_of s hO) (hC.below hb))
  have P := Lib.hid hp
  have V := Lib.hid hv
  have ri := Lib.hid (fun w' => index_any W H (some ⟨b, off, none⟩) n cap px py q w' (by omega) (by have := s.w1; omega) hp.1 (by have := hp.2.1; have := s.w1; omega) hp.2.2.1 (by have := hp.2.2.2.1; have := s.h1; omega) hpl (by have := s.n1; omega))
  obtain ⟨v0, v1⟩ := hv
  have GR' := Lib.hid (fun w' (hb : Below w.heap.size w w') => grown_any W H n b off cap G px py (-v) q d w' s hO (Nat.lt_of_lt_of_le hlt hb.size) (hG.below hb hlt) hq hd hpl hp.1 (by have := hp.2.1; have := s.w1; omega) hp.2.2.1 (by have := hp.2.2.2.1; have := s.h1; omega) (by omega) (by omega))
  have g0 := (pop_le hO hq hd).1
  have g1 := (pop_le hO hq hd).2
  have w1 := hO.2
  have w2 : G q d ≤ 1000000000 := by omega
  have i0 : (0 : Int) ≤ (q : Int) := by omega
  have i1 : (q : Int) < (n : Int) := by omega
  have i2 : (0 : Int) ≤ (d : Int) := by omega
  have i3 : (d : Int) < 4 := by omega
  have cq := hG.at hq hd
  rw [← Int.sub_eq_add_neg] at GR'
  clear s hO hC hG hp hpl g1 w1
  go_enter Try.func29, Try.ntmps29
  go_wp2_with (first | (go_at_call 63; (with_reducible refine (HM.out _ (by (repeat' (first | (with_reducible exact Below.refl _ _) | (with_reducible refine Below.setCell ?_ (by first | omega | (simp; done) | (simp; omega)) _) | (with_reducible refine Below.alloc ?_ (by first | omega | (simp; done) | (simp; omega)) _) | (with_reducible refine Below.drew ?_) | (with_reducible refine below_drewN ?_ _) | (with_reducible refine Below.trans ?_ (Below.mono (by assumption) (by first | omega | (simp; done) | (simp; omega)))))))).mono ?_); rintro e w1 ⟨rfl, hb⟩; obtain ⟨hc, hf, hz⟩ := bcall hb; (try simp at hc hf hz)) | (go_at_call 70; (with_reducible refine (isPop_yes W H px py d _ n cap _ P.out).mono ?_); rintro e w1 ⟨rfl, hb⟩; obtain ⟨hc, hf, hz⟩ := bcall hb; (try simp at hc hf hz)) | (go_at_call 71; (with_reducible refine (isCount_yes v _ V.out).mono ?_); rintro e w1 ⟨rfl, rfl⟩))
  have lb : b < w1.heap.size := by omega
  go_region_held3 (fun w' => w'.cell? ⟨w.heap.size, 0, none⟩ = some (.int .i64 W) ∧ w'.cell? ⟨w.heap.size, 1, none⟩ = some (.int .i64 H) ∧ w'.cell? ⟨w.heap.size, 2, none⟩ = some (.slice (some ⟨b, off, none⟩) n cap) ∧ w'.cell? ⟨w.heap.size + 1, 0, none⟩ = some (.int .i64 px) ∧ w'.cell? ⟨w.heap.size + 1, 1, none⟩ = some (.int .i64 py) ∧ w'.cell? ⟨b, off + q * 4 + d, none⟩ = some (.int .i64 (G q d))) (first | (go_split_ands; (try dsimp only); refine ⟨?_, ?_, ?_, ?_, ?_, ?_⟩ <;> (first | (with_reducible assumption) | (with_reducible exact keep_cell (by assumption) (by first | omega | (simp; done) | (simp; omega)) (by assumption)) | (simp [go_sem]; with_reducible assumption))) | (simp [go_sem, ↓IntWalk.iteOmega, *]; done)) ((go_at_call 76; (with_reducible refine (ri.out _).mono ?_); rintro e w1 ⟨rfl, hb⟩; obtain ⟨hc, hf, hz⟩ := bcall hb; (try simp at hc hf hz)))
  go_wp2_with fail
  refine bodyPost_ret (v := .tuple #[.agg #[.int .i64 0, .int .i64 0, .slice (none) 0 0], .int .i64 8]) (by simp [results, Try.results29, go_sem, ↓IntWalk.iteOmega, *]) rfl ⟨rfl, ?_⟩
  (repeat' (first | (with_reducible exact Below.refl _ _) | (with_reducible refine Below.setCell ?_ (by first | omega | (simp; done) | (simp; omega)) _) | (with_reducible refine Below.alloc ?_ (by first | omega | (simp; done) | (simp; omega)) _) | (with_reducible refine Below.drew ?_) | (with_reducible refine below_drewN ?_ _) | (with_reducible refine Below.trans ?_ (Below.mono (by assumption) (by first | omega | (simp; done) | (simp; omega))))))
end Go.Proofs.Ytnkehlankidlnaa
