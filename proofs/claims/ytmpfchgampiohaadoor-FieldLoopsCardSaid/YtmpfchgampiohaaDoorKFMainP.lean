/- Points, indexes, Main: by the program of the fields. -/
import Derived.Test.YtmpfchgampiohaaDoorKFMain
import Derived.Deep.RegionHeld3
namespace Go.Proofs.YtmpfchgampiohaaDoor
set_option linter.unusedSimpArgs false
set_option linter.unusedVariables false
open Go.RowKit Go.Shelf
attribute [local go_sem] Oper.semAt_some

set_option maxRecDepth 100000 in
set_option maxHeartbeats 4000000 in
theorem fpoint_in (W H q : Nat) (ao : Option Addr) (n cap : Nat) (w : World) (hW : 1 ≤ W) (hW2 : W ≤ 64) (hq : q ≤ 5000) : Calls Tryd.prog 90 #[.agg #[.int .i64 W, .int .i64 H, .slice (ao) n cap], .int .i64 q] w fun e w' => e = .returned (.agg #[.int .i64 (((q % W : Nat) : Int)), .int .i64 (((q / W : Nat) : Int))]) ∧ Below w.heap.size w w' := by
  have hd : q / W ≤ q := Nat.div_le_self q W
  obtain ⟨r, hr⟩ : ∃ r, r = q % W := ⟨_, rfl⟩
  obtain ⟨d, hd2⟩ : ∃ d, d = q / W := ⟨_, rfl⟩
  have n0 : ¬ ((W : Int) = 0) := by omega
  have n1 : ¬ (W = 0) := by omega
  have e1 : (q : Int) % (W : Int) = (r : Int) := by rw [hr]; exact (Int.natCast_emod q W).symm
  have e2 : (q : Int) / (W : Int) = (d : Int) := by rw [hd2]; exact (Int.natCast_ediv q W).symm
  have e5 : Int.tmod (q : Int) (W : Int) = (r : Int) := by rw [Int.tmod_eq_emod_of_nonneg (by omega)]; exact e1
  have e6 : Int.tdiv (q : Int) (W : Int) = (d : Int) := by rw [Int.tdiv_eq_ediv_of_nonneg (by omega)]; exact e2
  have e3 : IntKind.i64.wrap (d : Int) = (d : Int) := IntWalk.i64_in _ ⟨by omega, by omega⟩
  rw [← hr, ← hd2]
  clear hd hr hd2
  go_enter Tryd.func90, Tryd.ntmps90
  go_upto_region 1 with fail
  go_region_held3 (fun w' => w'.cell? ⟨w.heap.size, 0, none⟩ = some (.int .i64 W)) (first | (go_split_ands; (try dsimp only); (first | (with_reducible assumption) | (with_reducible exact keep_cell (by assumption) (by first | omega | (simp; done) | (simp; omega)) (by assumption)) | (with_reducible exact (World.cell?_alloc_past _ _ _ (by show _ < _; omega)).trans (by assumption)) | (with_reducible exact (World.cell?_alloc_past _ _ _ (by show _ < _; omega)).trans ((World.cell?_alloc_past _ _ _ (by show _ < _; omega)).symm.trans (by assumption))) | (simp [go_sem]; with_reducible assumption))) | (simp [go_sem, ↓IntWalk.iteOmega, *]; done)) (fail)
  all_goals
    go_wp2
    refine bodyPost_ret (v := .agg #[.int .i64 r, .int .i64 d]) (by simp [results, Tryd.results90, go_sem, ↓IntWalk.iteOmega, *]) rfl ⟨rfl, ?_⟩
    (repeat' (first | (with_reducible exact Below.refl _ _) | (with_reducible refine Below.setCell ?_ (by first | omega | (simp; done) | (simp; omega)) _) | (with_reducible refine Below.alloc ?_ (by first | omega | (simp; done) | (simp; omega)) _) | (with_reducible refine Below.drew ?_) | (with_reducible refine below_drewN ?_ _) | (with_reducible refine Below.trans ?_ (Below.mono (by assumption) (by first | omega | (simp; done) | (simp; omega))))))

set_option maxHeartbeats 2000000 in
theorem fIndex_ok (W H : Nat) (x y : Nat) (ao : Option Addr) (n cap : Nat) (G : Nat → Nat → Int) (w : World) (hv : VG W H n G) (hG : CellsIn w ao n G) (hW : W ≤ 64) (hx : x < W) (hy : y < H) (hH : H ≤ 64) :
    Calls Tryd.prog 100 #[.agg #[.int .i64 W, .int .i64 H, .slice (ao) n cap], .agg #[.int .i64 x, .int .i64 y]] w fun e w' => e = .returned (.tuple #[.int .i64 (((x + W * y : Nat) : Int)), .int .i64 0]) ∧ Below w.heap.size w w' := by
  have HV := Lib.hid hv
  have HC := Lib.hid hG
  have hm : W * y ≤ 64 * 64 := Nat.mul_le_mul hW (by omega)
  have H0 := Lib.hid (show OnG W H x y from ⟨⟨by omega, by omega⟩, by omega, by omega⟩)
  obtain ⟨p, hp⟩ : ∃ p, p = W * y := ⟨_, rfl⟩
  have e1 : (W : Int) * (y : Int) = (p : Int) := by rw [hp]; push_cast; rfl
  have e2 : IntKind.i64.wrap (p : Int) = (p : Int) := IntWalk.i64_in _ ⟨by omega, by omega⟩
  have e3 : IntKind.i64.wrap ((x : Int) + (p : Int)) = (x : Int) + (p : Int) := IntWalk.i64_in _ ⟨by omega, by omega⟩
  have e4 : ((x + W * y : Nat) : Int) = (x : Int) + (p : Int) := by rw [hp]; push_cast; rfl
  rw [e4]
  clear hv hG e4 hp hm
  go_enter Tryd.func100, Tryd.ntmps100
  go_wp2_with (first | (go_at_call 64; (with_reducible refine (gValid_ok W H ao n cap G _ HV.out (HC.out.below (by (repeat' (first | (with_reducible exact Below.refl _ _) | (with_reducible refine Below.setCell ?_ (by first | omega | (simp; done) | (simp; omega)) _) | (with_reducible refine Below.alloc ?_ (by first | omega | (simp; done) | (simp; omega)) _) | (with_reducible refine Below.drew ?_) | (with_reducible refine below_drewN ?_ _) | (with_reducible refine Below.trans ?_ (Below.mono (by assumption) (by first | omega | (simp; done) | (simp; omega))))))))).mono ?_); rintro e w1 ⟨rfl, hb⟩; obtain ⟨hc, hf, hz⟩ := bcall hb; (try simp at hc hf hz)) | (go_at_call 105; (with_reducible refine (fIsOn_yes W H x y ao n cap _ H0.out).mono ?_); rintro e w1 ⟨rfl, hb⟩; obtain ⟨hc, hf, hz⟩ := bcall hb; (try simp at hc hf hz)))
  refine bodyPost_ret (v := .tuple #[.int .i64 ((x : Int) + (p : Int)), .int .i64 0]) (by simp [results, Tryd.results100, go_sem, ↓IntWalk.iteOmega, *]) rfl ⟨rfl, ?_⟩
  (repeat' (first | (with_reducible exact Below.refl _ _) | (with_reducible refine Below.setCell ?_ (by first | omega | (simp; done) | (simp; omega)) _) | (with_reducible refine Below.alloc ?_ (by first | omega | (simp; done) | (simp; omega)) _) | (with_reducible refine Below.drew ?_) | (with_reducible refine below_drewN ?_ _) | (with_reducible refine Below.trans ?_ (Below.mono (by assumption) (by first | omega | (simp; done) | (simp; omega))))))
set_option maxHeartbeats 2000000 in
theorem fIndex_bad (W H x y : Int) (ao : Option Addr) (n cap : Nat) (G : Nat → Nat → Int) (w : World) (hv : ¬ VG W H n G) (hG : CellsIn w ao n G) :
    Calls Tryd.prog 100 #[.agg #[.int .i64 W, .int .i64 H, .slice (ao) n cap], .agg #[.int .i64 x, .int .i64 y]] w fun e w' => e = .returned (.tuple #[.int .i64 0, .int .i64 1]) ∧ Below w.heap.size w w' := by
  have HV := Lib.hid hv
  have HC := Lib.hid hG
  clear hv hG
  go_enter Tryd.func100, Tryd.ntmps100
  go_wp2_with (go_at_call 64; (with_reducible refine (gValid_bad W H ao n cap G _ HV.out (HC.out.below (by (repeat' (first | (with_reducible exact Below.refl _ _) | (with_reducible refine Below.setCell ?_ (by first | omega | (simp; done) | (simp; omega)) _) | (with_reducible refine Below.alloc ?_ (by first | omega | (simp; done) | (simp; omega)) _) | (with_reducible refine Below.drew ?_) | (with_reducible refine below_drewN ?_ _) | (with_reducible refine Below.trans ?_ (Below.mono (by assumption) (by first | omega | (simp; done) | (simp; omega))))))))).mono ?_); rintro e w1 ⟨rfl, hb⟩; obtain ⟨hc, hf, hz⟩ := bcall hb; (try simp at hc hf hz))
  refine bodyPost_ret (v := .tuple #[.int .i64 0, .int .i64 1]) (by simp [results, Tryd.results100, go_sem, ↓IntWalk.iteOmega, *]) rfl ⟨rfl, ?_⟩
  (repeat' (first | (with_reducible exact Below.refl _ _) | (with_reducible refine Below.setCell ?_ (by first | omega | (simp; done) | (simp; omega)) _) | (with_reducible refine Below.alloc ?_ (by first | omega | (simp; done) | (simp; omega)) _) | (with_reducible refine Below.drew ?_) | (with_reducible refine below_drewN ?_ _) | (with_reducible refine Below.trans ?_ (Below.mono (by assumption) (by first | omega | (simp; done) | (simp; omega))))))
set_option maxHeartbeats 2000000 in
theorem fIndex_rng (W H x y : Int) (ao : Option Addr) (n cap : Nat) (G : Nat → Nat → Int) (w : World) (hv : VG W H n G) (hG : CellsIn w ao n G) (h : ¬ OnG W H x y) :
    Calls Tryd.prog 100 #[.agg #[.int .i64 W, .int .i64 H, .slice (ao) n cap], .agg #[.int .i64 x, .int .i64 y]] w fun e w' => e = .returned (.tuple #[.int .i64 0, .int .i64 7]) ∧ Below w.heap.size w w' := by
  have HV := Lib.hid hv
  have HC := Lib.hid hG
  have H0 := Lib.hid h
  clear hv hG h
  go_enter Tryd.func100, Tryd.ntmps100
  go_wp2_with (first | (go_at_call 64; (with_reducible refine (gValid_ok W H ao n cap G _ HV.out (HC.out.below (by (repeat' (first | (with_reducible exact Below.refl _ _) | (with_reducible refine Below.setCell ?_ (by first | omega | (simp; done) | (simp; omega)) _) | (with_reducible refine Below.alloc ?_ (by first | omega | (simp; done) | (simp; omega)) _) | (with_reducible refine Below.drew ?_) | (with_reducible refine below_drewN ?_ _) | (with_reducible refine Below.trans ?_ (Below.mono (by assumption) (by first | omega | (simp; done) | (simp; omega))))))))).mono ?_); rintro e w1 ⟨rfl, hb⟩; obtain ⟨hc, hf, hz⟩ := bcall hb; (try simp at hc hf hz)) | (go_at_call 105; (with_reducible refine (fIsOn_no W H x y ao n cap _ H0.out).mono ?_); rintro e w1 ⟨rfl, hb⟩; obtain ⟨hc, hf, hz⟩ := bcall hb; (try simp at hc hf hz)))
  refine bodyPost_ret (v := .tuple #[.int .i64 0, .int .i64 7]) (by simp [results, Tryd.results100, go_sem, ↓IntWalk.iteOmega, *]) rfl ⟨rfl, ?_⟩
  (repeat' (first | (with_reducible exact Below.refl _ _) | (with_reducible refine Below.setCell ?_ (by first | omega | (simp; done) | (simp; omega)) _) | (with_reducible refine Below.alloc ?_ (by first | omega | (simp; done) | (simp; omega)) _) | (with_reducible refine Below.drew ?_) | (with_reducible refine below_drewN ?_ _) | (with_reducible refine Below.trans ?_ (Below.mono (by assumption) (by first | omega | (simp; done) | (simp; omega))))))
end Go.Proofs.YtmpfchgampiohaaDoor

/- Main, along: by the program of the fields. -/

namespace Go.Proofs.YtmpfchgampiohaaDoor
set_option linter.unusedSimpArgs false
set_option linter.unusedVariables false
open Go.RowKit Go.Shelf
attribute [local go_sem] Oper.semAt_some

set_option maxRecDepth 100000 in
set_option maxHeartbeats 4000000 in
theorem fMain_ok (W H x y : Nat) (b off n cap : Nat) (G : Nat → Nat → Int) (w : World) (hv : VG W H n G) (hG : Grd w b off n G) (lb : b < w.heap.size) (hn : n = W * H) (hW : W ≤ 64) (hH : H ≤ 64) (hx : x < W) (hy : y < H)
    (hz : ¬ (G (x + W * y) 0 = 0 ∧ G (x + W * y) 1 = 0 ∧ G (x + W * y) 2 = 0 ∧ G (x + W * y) 3 = 0)) :
    Calls Tryd.prog 53 #[.agg #[.int .i64 W, .int .i64 H, .slice (some ⟨b, off, none⟩) n cap], .agg #[.int .i64 x, .int .i64 y]] w fun e w' => e = .returned (.tuple #[.int .i64 (mwy (G (x + W * y) 0) (G (x + W * y) 1) (G (x + W * y) 2) (G (x + W * y) 3)), .int .i64 0]) ∧ Below w.heap.size w w' := by
  have HI := Lib.hid (fun wx (hb : Below w.heap.size w wx) => fIndex_ok W H x y (some ⟨b, off, none⟩) n cap G wx hv (.inr ⟨b, off, rfl, Nat.lt_of_lt_of_le lb hb.size, hG.below hb lb⟩) hW hx hy hH)
  have hq : x + W * y < n := by
    have : W * (y + 1) ≤ W * H := Nat.mul_le_mul_left W hy
    rw [Nat.mul_add, Nat.mul_one] at this
    omega
  obtain ⟨q, hq2⟩ : ∃ q, q = x + W * y := ⟨_, rfl⟩
  rw [← hq2] at hq hz HI ⊢
  obtain ⟨z0, z1, z2, z3⟩ := hG q hq
  have p0 : (0 : Int) ≤ (q : Int) := by omega
  have p1 : (q : Int) < (n : Int) := by omega
  obtain ⟨a, ha⟩ : ∃ a, a = G q 0 := ⟨_, rfl⟩
  obtain ⟨c, hc⟩ : ∃ c, c = G q 1 := ⟨_, rfl⟩
  obtain ⟨d, hd⟩ : ∃ d, d = G q 2 := ⟨_, rfl⟩
  obtain ⟨f, hf⟩ : ∃ f, f = G q 3 := ⟨_, rfl⟩
  rw [← ha, ← hc, ← hd, ← hf] at hz ⊢
  rw [← ha] at z0
  rw [← hc] at z1
  rw [← hd] at z2
  rw [← hf] at z3
  have HZ := Lib.hid hz
  clear hz ha hc hd hf hv hG hq2 hn
  go_enter Tryd.func53, Tryd.ntmps53
  go_wp2_with (first | (go_at_call 100; (with_reducible refine (HI.out _ (by (repeat' (first | (with_reducible exact Below.refl _ _) | (with_reducible refine Below.setCell ?_ (by first | omega | (simp; done) | (simp; omega)) _) | (with_reducible refine Below.alloc ?_ (by first | omega | (simp; done) | (simp; omega)) _) | (with_reducible refine Below.drew ?_) | (with_reducible refine below_drewN ?_ _) | (with_reducible refine Below.trans ?_ (Below.mono (by assumption) (by first | omega | (simp; done) | (simp; omega)))))))).mono ?_); rintro e w1 ⟨rfl, hb⟩; obtain ⟨hc, hf, hz⟩ := bcall hb; (try simp at hc hf hz)) | (go_at_call 101; (with_reducible refine (mainWay_in a c d f _ HZ.out).mono ?_); rintro e w1 ⟨rfl, hb⟩; obtain ⟨hc, hf, hz⟩ := bcall hb; (try simp at hc hf hz)))
  refine bodyPost_ret (v := .tuple #[.int .i64 (mwy a c d f), .int .i64 0]) (by simp [results, Tryd.results53, go_sem, ↓IntWalk.iteOmega, *]) rfl ⟨rfl, ?_⟩
  (repeat' (first | (with_reducible exact Below.refl _ _) | (with_reducible refine Below.setCell ?_ (by first | omega | (simp; done) | (simp; omega)) _) | (with_reducible refine Below.alloc ?_ (by first | omega | (simp; done) | (simp; omega)) _) | (with_reducible refine Below.drew ?_) | (with_reducible refine below_drewN ?_ _) | (with_reducible refine Below.trans ?_ (Below.mono (by assumption) (by first | omega | (simp; done) | (simp; omega))))))
theorem fAlong_in (W H q : Int) (ao : Option Addr) (n cap : Nat) (w : World) : Calls Tryd.prog 107 #[.agg #[.int .i64 W, .int .i64 H, .slice (ao) n cap], .int .i64 q] w fun e w' => e = .returned (.func (.func 125) #[] #[.pointer (some ⟨w.heap.size + 1, 0, none⟩), .pointer (some ⟨w.heap.size, 0, none⟩)]) ∧
    w' = (w.alloc (.cells #[.int .i64 W, .int .i64 H, .slice ao n cap] 24)).alloc (.cells #[.int .i64 q] 3) := by
  go_enter Tryd.func107, Tryd.ntmps107
  go_wp2
  go_ret
  exact ⟨rfl, rfl⟩
end Go.Proofs.YtmpfchgampiohaaDoor
