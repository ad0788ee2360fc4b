/- Points, indexes, Main: by the program of the fields. -/
import Derived.Test.YtmdeooflgkjbbaaDoorKFMain
import Derived.Deep.RegionHeld3
namespace Go.Proofs.YtmdeooflgkjbbaaDoor
set_option linter.unusedSimpArgs false
set_option linter.unusedVariables false
open Go.RowKit Go.Shelf
attribute [local go_sem] Oper.semAt_some

set_option maxRecDepth 100000 in
set_option maxHeartbeats 4000000 in
theorem fpoint_in (W H q : Nat) (ao : Option Addr) (n cap : Nat) (w : World) (hW : 1 ≤ W) (hW2 : W ≤ 64) (hq : q ≤ 5000) : Calls Tryd.prog 88 #[.agg #[.int .i64 W, .int .i64 H, .slice (ao) n cap], .int .i64 q] w fun e w' => e = .returned (.agg #[.int .i64 (((q % W : Nat) : Int)), .int .i64 (((q / W : Nat) : Int))]) ∧ Below w.heap.size w w' := by
  have hd : q / W ≤ q := Nat.div_le_self q W
  obtain ⟨r, hr⟩ : ∃ r, r = q % W := ⟨_, rfl⟩
  obtain ⟨d, hd2⟩ : ∃ d, d = q / W := ⟨_, rfl⟩
  have n0 : ¬ ((W : Int) = 0) := by omega
  have n1 : ¬ (W = 0) := by omega
  have e1 : (q : Int) % (W : Int) = (r : Int) := by rw [hr]; exact (Int.natCast_emod q W).symm
  have e2 : (q : Int) / (W : Int) = (d : Int) := by rw [hd2]; exact (Int.natCast_ediv q W).symm
  have e5 : Int.tmod (q : Int) (W : Int) = (r : Int) := by rw [Int.tmod_eq_emod_of_nonneg (by omega)]; exact e1
  have e6 : Int.tdiv (q : Int) (W : Int) = (d : Int) := by rw [Int.tdiv_eq_ediv_of_nonneg (by omega)]; exact e2
  have e3 : IntKind.i64.wrap (d : Int) = (d : Int) := IntWalk.i64_in _ ⟨by omega, by omega⟩
  rw [← hr, ← hd2]
  clear hd hr hd2
  go_enter Tryd.func88, Tryd.ntmps88
  go_upto_region 1 with fail
  go_region_held3 (fun w' => w'.cell? ⟨w.heap.size, 0, none⟩ = some (.int .i64 W)) (first | (go_split_ands; (try dsimp only); (first | (with_reducible assumption) | (with_reducible exact keep_cell (by assumption) (by first | omega | (simp; done) | (simp; omega)) (by assumption)) | (with_reducible exact (World.cell?_alloc_past _ _ _ (by show _ < _; omega)).trans (by assumption)) | (with_reducible exact (World.cell?_alloc_past _ _ _ (by show _ < _; omega)).trans ((World.cell?_alloc_past _ _ _ (by show _ < _; omega)).symm.trans (by assumption))) | (simp [go_sem]; with_reducible assumption))) | (simp [go_sem, ↓IntWalk.iteOmega, *]; done)) (fail)
  all_goals
    go_wp2
    refine bodyPost_ret (v := .agg #[.int .i64 r, .int .i64 d]) (by simp [results, Tryd.results88, go_sem, ↓IntWalk.iteOmega, *]) rfl ⟨rfl, ?_⟩
    (repeat' (first | (with_reducible exact Below.refl _ _) | (with_reducible refine Below.setCell ?_ (by first | omega | (simp; done) | (simp; omega)) _) | (with_reducible refine Below.alloc ?_ (by first | omega | (simp; done) | (simp; omega)) _) | (with_reducible refine Below.drew ?_) | (with_reducible refine below_drewN ?_ _) | (with_reducible refine Below.trans ?_ (Below.mono (by assumption) (by first | omega | (simp; done) | (simp; omega))))))

set_option maxHeartbeats 2000000 in
theorem fIndex_ok (W H : Nat) (x y : Nat) (ao : Option Addr) (n cap : Nat) (G : Nat → Nat → Int) (w : World) (hv : VG W H n G) (hG : CellsIn w ao n G) (hW : W ≤ 64) (hx : x < W) (hy : y < H) (hH : H ≤ 64) :
    Calls Tryd.prog 129 #[.agg #[.int .i64 W, .int .i64 H, .slice (ao) n cap], .agg #[.int .i64 x, .int .i64 y]] w fun e w' => e = .returned (.tuple #[.int .i64 (((x + W * y : Nat) : Int)), .int .i64 0]) ∧ Below w.heap.size w w' := by
  have HV := Lib.hid hv
  have HC := Lib.hid hG
  have hm : W * y ≤ 64 * 64 := Nat.mul_le_mul hW (by omega)
  have H0 := Lib.hid (show OnG W H x y from ⟨⟨by omega, by omega⟩, by omega, by omega⟩)
  obtain ⟨p, hp⟩ : ∃ p, p = W * y := ⟨_, rfl⟩
  have e1 : (W : Int) * (y : Int) = (p : Int) := by rw [hp]; push_cast; rfl
  have e2 : IntKind.i64.wrap (p : Int) = (p : Int) := IntWalk.i64_in _ ⟨by omega, by omega⟩
  have e3 : IntKind.i64.wrap ((x : Int) + (p : Int)) = (x : Int) + (p : Int) := IntWalk.i64_in _ ⟨by omega, by omega⟩
  have e4 : ((x + W * y : Nat) : Int) = (x : Int) + (p : Int) := by rw [hp]; push_cast; rfl
  rw [e4]
  clear hv hG e4 hp hm
  go_enter Tryd.func129, Tryd.ntmps129
  go_wp2_with (first | (go_at_call 89; (with_reducible refine (gValid_ok W H ao n cap G _ HV.out (HC.out.below (by (repeat' (first | (with_reducible exact Below.refl _ _) | (with_reducible refine Below.setCell ?_ (by first | omega | (simp; done) | (simp; omega)) _) | (with_reducible refine Below.alloc ?_ (by first | omega | (simp; done) | (simp; omega)) _) | (with_reducible refine Below.drew ?_) | (with_reducible refine below_drewN ?_ _) | (with_reducible refine Below.trans ?_ (Below.mono (by assumption) (by first | omega | (simp; done) | (simp; omega))))))))).mono ?_); rintro e w1 ⟨rfl, hb⟩; obtain ⟨hc, hf, hz⟩ := bcall hb; (try simp at hc hf hz)) | (go_at_call 131; (with_reducible refine (fIsOn_yes W H x y ao n cap _ H0.out).mono ?_); rintro e w1 ⟨rfl, hb⟩; obtain ⟨hc, hf, hz⟩ := bcall hb; (try simp at hc hf hz)))
  refine bodyPost_ret (v := .tuple #[.int .i64 ((x : Int) + (p : Int)), .int .i64 0]) (by simp [results, Tryd.results129, go_sem, ↓IntWalk.iteOmega, *]) rfl ⟨rfl, ?_⟩
  (repeat' (first | (with_reducible exact Below.refl _ _) | (with_reducible refine Below.setCell ?_ (by first | omega | (simp; done) | (simp; omega)) _) | (with_reducible refine Below.alloc ?_ (by first | omega | (simp; done) | (simp; omega)) _) | (with_reducible refine Below.drew ?_) | (with_reducible refine below_drewN ?_ _) | (with_reducible refine Below.trans ?_ (Below.mono (by assumption) (by first | omega | (simp; done) | (simp; omega))))))
set_option maxHeartbeats 2000000 in
theorem fIndex_bad (W H x y : Int) (ao : Option Addr) (n cap : Nat) (G : Nat → Nat → Int) (w : World) (hv : ¬ VG W H n G) (hG : CellsIn w ao n G) :
    Calls Tryd.prog 129 #[.agg #[.int .i64 W, .int .i64 H, .slice (ao) n cap], .agg #[.int .i64 x, .int .i64 y]] w fun e w' => e = .returned (.tuple #[.int .i64 0, .int .i64 1]) ∧ Below w.heap.size w w' := by
  have HV := Lib.hid hv
  have HC := Lib.hid hG
  clear hv hG
  go_enter Tryd.func129, Tryd.ntmps129
  go_wp2_with (go_at_call 89; (with_reducible refine (gValid_bad W H ao n cap G _ HV.out (HC.out.below (by (repeat' (first | (with_reducible exact Below.refl _ _) | (with_reducible refine Below.setCell ?_ (by first | omega | (simp; done) | (simp; omega)) _) | (with_reducible refine Below.alloc ?_ (by first | omega | (simp; done) | (simp; omega)) _) | (with_reducible refine Below.drew ?_) | (with_reducible refine below_drewN ?_ _) | (with_reducible refine Below.trans ?_ (Below.mono (by assumption) (by first | omega | (simp; done) | (simp; omega))))))))).mono ?_); rintro e w1 ⟨rfl, hb⟩; obtain ⟨hc, hf, hz⟩ := bcall hb; (try simp at hc hf hz))
  refine bodyPost_ret (v := .tuple #[.int .i64 0, .int .i64 1]) (by simp [results, Tryd.results129, go_sem, ↓IntWalk.iteOmega, *]) rfl ⟨rfl, ?_⟩
  (repeat' (first | (with_reducible exact Below.refl _ _) | (with_reducible refine Below.setCell ?_ (by first | omega | (simp; done) | (simp; omega)) _) | (with_reducible refine Below.alloc ?_ (by first | omega | (simp; done) | (simp; omega)) _) | (with_reducible refine Below.drew ?_) | (with_reducible refine below_drewN ?_ _) | (with_reducible refine Below.trans ?_ (Below.mono (by assumption) (by first | omega | (simp; done) | (simp; omega))))))
set_option maxHeartbeats 2000000 in
theorem fIndex_rng (W H x y : Int) (ao : Option Addr) (n cap : Nat) (G : Nat → Nat → Int) (w : World) (hv : VG W H n G) (hG : CellsIn w ao n G) (h : ¬ OnG W H x y) :
    Calls Tryd.prog 129 #[.agg #[.int .i64 W, .int .i64 H, .slice (ao) n cap], .agg #[.int .i64 x, .int .i64 y]] w fun e w' => e = .returned (.tuple #[.int .i64 0, .int .i64 7]) ∧ Below w.heap.size w w' := by
  have HV := Lib.hid hv
  have HC := Lib.hid hG
  have H0 := Lib.hid h
  clear hv hG h
  go_enter Tryd.func129, Tryd.ntmps129
  go_wp2_with (first | (go_at_call 89; (with_reducible refine (gValid_ok W H ao n cap G _ HV.out (HC.out.below (by (repeat' (first | (with_reducible exact Below.refl _ _) | (with_reducible refine Below.setCell ?_ (by first | omega | (simp; done) | (simp; omega)) _) | (with_reducible refine Below.alloc ?_ (by first | omega | (simp; done) | (simp; omega)) _) | (with_reducible refine Below.drew ?_) | (with_reducible refine below_drewN ?_ _) | (with_reducible refine Below.trans ?_ (Below.mono (by assumption) (by first | omega | (simp; done) | (simp; omega))))))))).mono ?_); rintro e w1 ⟨rfl, hb⟩; obtain ⟨hc, hf, hz⟩ := bcall hb; (try simp at hc hf hz)) | (go_at_call 131; (with_reducible refine (fIsOn_no W H x y ao n cap _ H0.out).mono ?_); rintro e w1 ⟨rfl, hb⟩; obtain ⟨hc, hf, hz⟩ := bcall hb; (try simp at hc hf hz)))
  refine bodyPost_ret (v := .tuple #[.int .i64 0, .int .i64 7]) (by simp [results, Tryd.results129, go_sem, ↓IntWalk.iteOmega, *]) rfl ⟨rfl, ?_⟩
  (repeat' (first | (with_reducible exact Below.refl _ _) | (with_reducible refine Below.setCell ?_ (by first | omega | (simp; done) | (simp; omega)) _) | (with_reducible refine Below.alloc ?_ (by first | omega | (simp; done) | (simp; omega)) _) | (with_reducible refine Below.drew ?_) | (with_reducible refine below_drewN ?_ _) | (with_reducible refine Below.trans ?_ (Below.mono (by assumption) (by first | omega | (simp; done) | (simp; omega))))))
end Go.Proofs.YtmdeooflgkjbbaaDoor

/- Main, along: by the program of the fields. -/

namespace Go.Proofs.YtmdeooflgkjbbaaDoor
set_option linter.unusedSimpArgs false
set_option linter.unusedVariables false
open Go.RowKit Go.Shelf
attribute [local go_sem] Oper.semAt_some

theorem fAlong_in (W H q : Int) (ao : Option Addr) (n cap : Nat) (w : World) : Calls Tryd.prog 130 #[.agg #[.int .i64 W, .int .i64 H, .slice (ao) n cap], .int .i64 q] w fun e w' => e = .returned (.func (.func 168) #[] #[.pointer (some ⟨w.heap.size + 1, 0, none⟩), .pointer (some ⟨w.heap.size, 0, none⟩)]) ∧
    w' = (w.alloc (.cells #[.int .i64 W, .int .i64 H, .slice ao n cap] 24)).alloc (.cells #[.int .i64 q] 3) := by
  go_enter Tryd.func130, Tryd.ntmps130
  go_wp2
  go_ret
  exact ⟨rfl, rfl⟩
end Go.Proofs.YtmdeooflgkjbbaaDoor
