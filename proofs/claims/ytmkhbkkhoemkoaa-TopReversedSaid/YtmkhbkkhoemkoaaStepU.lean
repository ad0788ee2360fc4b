/- One step of a grid, its momentum, and whether two grids are the same. -/
import Derived.Test.YtmkhbkkhoemkoaaRunU
import Derived.Test.YtmkhbkkhoemkoaaSameC
namespace Go.Proofs.Ytmkhbkkhoemkoaa
set_option linter.unusedSimpArgs false
set_option linter.unusedVariables false
open Go.RowKit

set_option maxHeartbeats 1000000 in
theorem gStep_ok (W H n cap : Nat) (ao : Option Addr) (G : Nat → Nat → Int) (ro : Option Addr) (len rc : Nat) (R : Nat → Int × Int) (t : Nat) (w : World) (s : Sides W H n) (hG : OkG n G) (hC : CellsIn w ao n G) (hR : RulesIn w ro len R) (hk : OkRs len R) (ht : t ≤ 1000000) :
    Calls Try.prog 12 #[.agg #[.int .i64 W, .int .i64 H, .slice (ao) n cap], .slice ro len rc, .int .i64 t] w (Made W H n (fwd W H len R t G) w) := by
  have D := Lib.hid (fun w' (hb : Below w.heap.size w w') => gRun_ok W H n cap ao G ro len rc R t 1 w' s hG (hC.below hb) (hR.below hb) hk (by unfold RunOk; omega))
  clear hC hR
  go_enter Try.func12, Try.ntmps12
  go_wp2_with fail
  go_at_call 17
  refine (D.out _ (by (repeat' (first | (with_reducible exact Below.refl _ _) | (with_reducible refine Below.setCell ?_ (by first | omega | (simp; done) | (simp; omega)) _) | (with_reducible refine Below.alloc ?_ (by first | omega | (simp; done) | (simp; omega)) _) | (with_reducible refine Below.drew ?_) | (with_reducible refine below_drewN ?_ _) | (with_reducible refine Below.trans ?_ (Below.mono (by assumption) (by first | omega | (simp; done) | (simp; omega)))))))).mono ?_
  rintro e w1 ⟨b, c, rfl, hC, hlo, hb⟩
  have hlb : w.heap.size + 2 ≤ w1.heap.size := by have := hb.size; simp at this; omega
  have f0 : w1.frozen? ⟨w.heap.size + 1, 0, none⟩ = false := (hb.frozen (p := ⟨w.heap.size + 1, 0, none⟩) (by simp)).trans (by simp)
  have f1 : w1.frozen? ⟨w.heap.size + 1, 1, none⟩ = false := (hb.frozen (p := ⟨w.heap.size + 1, 1, none⟩) (by simp)).trans (by simp)
  have f2 : w1.frozen? ⟨w.heap.size + 1, 2, none⟩ = false := (hb.frozen (p := ⟨w.heap.size + 1, 2, none⟩) (by simp)).trans (by simp)
  have c0 : w1.cell? ⟨w.heap.size + 1, 0, none⟩ = some (.int .i64 0) := (hb.cell (p := ⟨w.heap.size + 1, 0, none⟩) (by simp)).trans (by simp)
  have c1 : w1.cell? ⟨w.heap.size + 1, 1, none⟩ = some (.int .i64 0) := (hb.cell (p := ⟨w.heap.size + 1, 1, none⟩) (by simp)).trans (by simp)
  have c2 : w1.cell? ⟨w.heap.size + 1, 2, none⟩ = some (.slice none 0 0) := (hb.cell (p := ⟨w.heap.size + 1, 2, none⟩) (by simp)).trans (by simp)
  have HC := Lib.hid hC
  have HB := Lib.hid (show Below w.heap.size w w1 from (((Below.refl _ w).alloc (Nat.le_refl _) _).alloc (by simp) _).trans (hb.mono (by simp; omega)))
  have hlo : w.heap.size + 1 < b := by simp at hlo; omega
  clear hC hb D
  go_wp2
  refine bodyPost_ret (v := .tuple #[.agg #[.int .i64 W, .int .i64 H, .slice (some ⟨b, 0, none⟩) n c], .int .i64 0]) (by simp [results, Try.results12, go_sem, ↓IntWalk.iteOmega, *]) rfl ?_
  exact made_pass HC.out HB.out (by omega) hlo

set_option maxHeartbeats 1000000 in
theorem gStep_inv (W H : Int) (n cap : Nat) (ao : Option Addr) (G : Nat → Nat → Int) (ro : Option Addr) (len rc : Nat) (R : Nat → Int × Int) (t : Int) (w : World) (hC : CellsIn w ao n G) (hm : len ≤ 1000000000000) (hR : RulesIn w ro len R) (hk : ¬ (VG W H n G ∧ OkRs len R)) :
    Calls Try.prog 12 #[.agg #[.int .i64 W, .int .i64 H, .slice (ao) n cap], .slice ro len rc, .int .i64 t] w fun e w' => e = .returned (.tuple #[.agg #[.int .i64 0, .int .i64 0, .slice (none) 0 0], .int .i64 1]) ∧ Below w.heap.size w w' := by
  have HC := Lib.hid hC; clear hC
  have HR := Lib.hid hR; clear hR
  have HK := Lib.hid hk; clear hk
  go_enter Try.func12, Try.ntmps12
  go_wp2_with (go_at_call 17; (with_reducible refine (gRun_inv W H n cap ao G ro len rc R t 1 _ (HC.out.below (by (repeat' (first | (with_reducible exact Below.refl _ _) | (with_reducible refine Below.setCell ?_ (by first | omega | (simp; done) | (simp; omega)) _) | (with_reducible refine Below.alloc ?_ (by first | omega | (simp; done) | (simp; omega)) _) | (with_reducible refine Below.drew ?_) | (with_reducible refine below_drewN ?_ _) | (with_reducible refine Below.trans ?_ (Below.mono (by assumption) (by first | omega | (simp; done) | (simp; omega)))))))) hm (HR.out.below (by (repeat' (first | (with_reducible exact Below.refl _ _) | (with_reducible refine Below.setCell ?_ (by first | omega | (simp; done) | (simp; omega)) _) | (with_reducible refine Below.alloc ?_ (by first | omega | (simp; done) | (simp; omega)) _) | (with_reducible refine Below.drew ?_) | (with_reducible refine below_drewN ?_ _) | (with_reducible refine Below.trans ?_ (Below.mono (by assumption) (by first | omega | (simp; done) | (simp; omega)))))))) HK.out).mono ?_); rintro e w1 ⟨rfl, hb⟩; obtain ⟨hc, hf, hz⟩ := bcall hb; (try simp at hc hf hz))
  refine bodyPost_ret (v := .tuple #[.agg #[.int .i64 0, .int .i64 0, .slice (none) 0 0], .int .i64 1]) (by simp [results, Try.results12, go_sem, ↓IntWalk.iteOmega, *]) rfl ⟨rfl, ?_⟩
  (repeat' (first | (with_reducible exact Below.refl _ _) | (with_reducible refine Below.setCell ?_ (by first | omega | (simp; done) | (simp; omega)) _) | (with_reducible refine Below.alloc ?_ (by first | omega | (simp; done) | (simp; omega)) _) | (with_reducible refine Below.drew ?_) | (with_reducible refine below_drewN ?_ _) | (with_reducible refine Below.trans ?_ (Below.mono (by assumption) (by first | omega | (simp; done) | (simp; omega))))))

set_option maxHeartbeats 1000000 in
theorem gStep_range (W H : Int) (n cap : Nat) (ao : Option Addr) (G : Nat → Nat → Int) (ro : Option Addr) (len rc : Nat) (R : Nat → Int × Int) (t : Int) (w : World) (hv : VG W H n G) (hC : CellsIn w ao n G) (hm : len ≤ 1000000000000) (hR : RulesIn w ro len R) (hk : OkRs len R) (hr : ¬ (0 ≤ t ∧ t ≤ 1000000)) :
    Calls Try.prog 12 #[.agg #[.int .i64 W, .int .i64 H, .slice (ao) n cap], .slice ro len rc, .int .i64 t] w fun e w' => e = .returned (.tuple #[.agg #[.int .i64 0, .int .i64 0, .slice (none) 0 0], .int .i64 7]) ∧ Below w.heap.size w w' := by
  have HV := Lib.hid hv; clear hv
  have HC := Lib.hid hC; clear hC
  have HR := Lib.hid hR; clear hR
  have HK := Lib.hid hk; clear hk
  have HN := Lib.hid (show ¬ RunOk t 1 from fun h => hr (by unfold RunOk at h; omega)); clear hr
  go_enter Try.func12, Try.ntmps12
  go_wp2_with (go_at_call 17; (with_reducible refine (gRun_range W H n cap ao G ro len rc R t 1 _ HV.out (HC.out.below (by (repeat' (first | (with_reducible exact Below.refl _ _) | (with_reducible refine Below.setCell ?_ (by first | omega | (simp; done) | (simp; omega)) _) | (with_reducible refine Below.alloc ?_ (by first | omega | (simp; done) | (simp; omega)) _) | (with_reducible refine Below.drew ?_) | (with_reducible refine below_drewN ?_ _) | (with_reducible refine Below.trans ?_ (Below.mono (by assumption) (by first | omega | (simp; done) | (simp; omega)))))))) hm (HR.out.below (by (repeat' (first | (with_reducible exact Below.refl _ _) | (with_reducible refine Below.setCell ?_ (by first | omega | (simp; done) | (simp; omega)) _) | (with_reducible refine Below.alloc ?_ (by first | omega | (simp; done) | (simp; omega)) _) | (with_reducible refine Below.drew ?_) | (with_reducible refine below_drewN ?_ _) | (with_reducible refine Below.trans ?_ (Below.mono (by assumption) (by first | omega | (simp; done) | (simp; omega)))))))) HK.out HN.out).mono ?_); rintro e w1 ⟨rfl, hb⟩; obtain ⟨hc, hf, hz⟩ := bcall hb; (try simp at hc hf hz))
  refine bodyPost_ret (v := .tuple #[.agg #[.int .i64 0, .int .i64 0, .slice (none) 0 0], .int .i64 7]) (by simp [results, Try.results12, go_sem, ↓IntWalk.iteOmega, *]) rfl ⟨rfl, ?_⟩
  (repeat' (first | (with_reducible exact Below.refl _ _) | (with_reducible refine Below.setCell ?_ (by first | omega | (simp; done) | (simp; omega)) _) | (with_reducible refine Below.alloc ?_ (by first | omega | (simp; done) | (simp; omega)) _) | (with_reducible refine Below.drew ?_) | (with_reducible refine below_drewN ?_ _) | (with_reducible refine Below.trans ?_ (Below.mono (by assumption) (by first | omega | (simp; done) | (simp; omega))))))

theorem fwd_bwd {W H n len : Nat} {R : Nat → Int × Int} {t : Nat} {G : Nat → Nat → Int} (hn : n = W * H) (hk : OkRs len R) (h : OkG n G) : EqG n (bwd W H len R t (fwd W H len R t G)) G := by
  have hr := hk.2.2 (t % len) (Nat.mod_lt _ hk.1)
  unfold fwd bwd
  exact (EqG.col (pull_back (way := 1) hn)).trans (col_back hr h)
theorem bwd_fwd {W H n len : Nat} {R : Nat → Int × Int} {t : Nat} {G : Nat → Nat → Int} (hn : n = W * H) (hk : OkRs len R) (h : OkG n G) : EqG n (fwd W H len R t (bwd W H len R t G)) G := by
  have hr := hk.2.2 (t % len) (Nat.mod_lt _ hk.1)
  have hr' : OkR (R (t % len)).1 (-(R (t % len)).2) := okR_neg hr
  have c := col_back (k := (R (t % len)).1) (y := -(R (t % len)).2) hr' (okG_pull (way := -1) hn h)
  rw [Int.neg_neg] at c
  unfold fwd bwd
  have p := pull_back (W := W) (H := H) (n := n) (way := -1) (G := G) hn
  rw [Int.neg_neg] at p
  exact (EqG.pull hn c).trans p

set_option maxHeartbeats 1000000 in
theorem gSame_yes (W H : Int) (ao ao' : Option Addr) (n c c' : Nat) (G K : Nat → Nat → Int) (w : World) (hn : n ≤ 1000000) (h : CellsIn w ao n G) (h' : CellsIn w ao' n K) (e : EqG n G K) :
    Calls Try.prog 16 #[.agg #[.int .i64 W, .int .i64 H, .slice (ao) n c], .agg #[.int .i64 W, .int .i64 H, .slice (ao') n c']] w fun e w' => e = .returned (.bool true) ∧ Below w.heap.size w w' := by
  have D := Lib.hid (fun w' (hb : Below w.heap.size w w') => (sameCells_any ao ao' n c c' G K w' hn (h.below hb) (h'.below hb)).mono (R' := fun e w1 => e = .returned (.bool true) ∧ Below w'.heap.size w' w1) fun e' w1 ⟨bb, he, hs, hb⟩ => ⟨by rw [he, hs.2 e], hb⟩)
  clear h h'
  go_enter Try.func16, Try.ntmps16
  go_wp2_with (go_at_call 32; (with_reducible refine (D.out _ (by (repeat' (first | (with_reducible exact Below.refl _ _) | (with_reducible refine Below.setCell ?_ (by first | omega | (simp; done) | (simp; omega)) _) | (with_reducible refine Below.alloc ?_ (by first | omega | (simp; done) | (simp; omega)) _) | (with_reducible refine Below.drew ?_) | (with_reducible refine below_drewN ?_ _) | (with_reducible refine Below.trans ?_ (Below.mono (by assumption) (by first | omega | (simp; done) | (simp; omega)))))))).mono ?_); rintro e w1 ⟨rfl, hb⟩; obtain ⟨hc, hf, hz⟩ := bcall hb; (try simp at hc hf hz))
  go_ret
  refine ⟨by simp, ?_⟩
  (repeat' (first | (with_reducible exact Below.refl _ _) | (with_reducible refine Below.setCell ?_ (by first | omega | (simp; done) | (simp; omega)) _) | (with_reducible refine Below.alloc ?_ (by first | omega | (simp; done) | (simp; omega)) _) | (with_reducible refine Below.drew ?_) | (with_reducible refine below_drewN ?_ _) | (with_reducible refine Below.trans ?_ (Below.mono (by assumption) (by first | omega | (simp; done) | (simp; omega))))))
end Go.Proofs.Ytmkhbkkhoemkoaa
