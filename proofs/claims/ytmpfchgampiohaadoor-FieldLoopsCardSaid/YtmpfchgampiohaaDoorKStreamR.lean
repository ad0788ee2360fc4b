/- Stream and Unstream: their result lies in memory of its own. -/
import Derived.Test.YtmpfchgampiohaaDoorKDiff
import Derived.Test.YtmpfchgampiohaaDoorKRefG4
namespace Go.Proofs.YtmpfchgampiohaaDoor
set_option linter.unusedSimpArgs false
set_option linter.unusedVariables false
open Go.RowKit

/-- A grid in memory of its own, without an error. -/
def MadeR (W H : Int) (n : Nat) (K : Nat → Nat → Int) (w : World) (e : Ending) (w' : World) : Prop :=
  ∃ b c, e = .returned (.tuple #[.agg #[.int .i64 W, .int .i64 H, .slice (some ⟨b, 0, none⟩) n c], .int .i64 0]) ∧ Row w' b n K ∧ w.heap.size ≤ b ∧ Below w.heap.size w w'
theorem madeR_pass {W H : Int} {n b c r : Nat} {K : Nat → Nat → Int} {w w5 : World} {v0 v1 v2 : Value} (hr : Row w5 b n K) (hb : Below w.heap.size w w5) (h1 : w.heap.size ≤ r) (h2 : r < b) :
    MadeR W H n K w (.returned (.tuple #[.agg #[.int .i64 W, .int .i64 H, .slice (some ⟨b, 0, none⟩) n c], .int .i64 0])) (((w5.setCell ⟨r, 0, none⟩ v0).setCell ⟨r, 1, none⟩ v1).setCell ⟨r, 2, none⟩ v2) :=
  ⟨b, c, rfl, hr.ex three_ex (by omega), by omega, hb.trans (three_ex.below hb.size (fun k hk => by omega))⟩

set_option maxRecDepth 100000 in
set_option maxHeartbeats 4000000 in
theorem streamedR_in (W H b off n cap : Nat) (G : Nat → Nat → Int) (way : Int) (w : World) (s : Sides W H n) (hG : OkG n G) (hlt : b < w.heap.size) (hC : Grd w b off n G) (z0 : -1 ≤ way) (z1 : way ≤ 1) :
    Calls Tryd.prog 54 #[.agg #[.int .i64 W, .int .i64 H, .slice (some ⟨b, off, none⟩) n cap], .int .i64 way] w (MadeR W H n (pull W H way G) w) := by
  have HV := Lib.hid (fun w' (hb : Below w.heap.size w w') => gValid_ok W H (some ⟨b, off, none⟩) n cap G w' (vg_of s hG) ((show CellsIn w _ n G from .inr ⟨b, off, rfl, hlt, hC⟩).below hb))
  go_enter Tryd.func54, Tryd.ntmps54
  go_wp2_with (go_at_call 64; (with_reducible refine (HV.out _ (by (repeat' (first | (with_reducible exact Below.refl _ _) | (with_reducible refine Below.setCell ?_ (by first | omega | (simp; done) | (simp; omega)) _) | (with_reducible refine Below.alloc ?_ (by first | omega | (simp; done) | (simp; omega)) _) | (with_reducible refine Below.drew ?_) | (with_reducible refine below_drewN ?_ _) | (with_reducible refine Below.trans ?_ (Below.mono (by assumption) (by first | omega | (simp; done) | (simp; omega)))))))).mono ?_); rintro e w1 ⟨rfl, hb⟩; obtain ⟨hc, hf, hz⟩ := bcall hb; (try simp at hc hf hz))
  have hb0 : Below ((w.alloc (.cells #[.int .i64 W, .int .i64 H, .slice (some ⟨b, off, none⟩) n cap] 24)).alloc (.cells #[.int .i64 0, .int .i64 0, .slice none 0 0] 24)).heap.size ((w.alloc (.cells #[.int .i64 W, .int .i64 H, .slice (some ⟨b, off, none⟩) n cap] 24)).alloc (.cells #[.int .i64 0, .int .i64 0, .slice none 0 0] 24)) w1 := by (repeat' (first | (with_reducible exact Below.refl _ _) | (with_reducible refine Below.setCell ?_ (by first | omega | (simp; done) | (simp; omega)) _) | (with_reducible refine Below.alloc ?_ (by first | omega | (simp; done) | (simp; omega)) _) | (with_reducible refine Below.drew ?_) | (with_reducible refine below_drewN ?_ _) | (with_reducible refine Below.trans ?_ (Below.mono (by assumption) (by first | omega | (simp; done) | (simp; omega))))))
  have hbw : Below w.heap.size w w1 := by (repeat' (first | (with_reducible exact Below.refl _ _) | (with_reducible refine Below.setCell ?_ (by first | omega | (simp; done) | (simp; omega)) _) | (with_reducible refine Below.alloc ?_ (by first | omega | (simp; done) | (simp; omega)) _) | (with_reducible refine Below.drew ?_) | (with_reducible refine below_drewN ?_ _) | (with_reducible refine Below.trans ?_ (Below.mono (by assumption) (by first | omega | (simp; done) | (simp; omega))))))
  have t3 : Three w1 (w.heap.size + 1) 24 (.int .i64 0) (.int .i64 0) (.slice none 0 0) := (Three.new1 w _ _ _ _ _).below hb0 (by simp)
  have hGd : Grd w1 b off n G := hC.below hbw hlt
  have hsz : w.heap.size + 2 ≤ w1.heap.size := by omega
  clear hc hf hb hz hb0 HV
  go_at_call 102
  refine (newMachine_nil W H b off n cap G w1 s (by omega) hGd).mono ?_
  rintro e w3 ⟨m, b1, c1, b2, c2, K, rfl, hMm, hr1, hr2, n1, n2, n3, q0, q1, q2, hb3⟩
  have t3 := t3.below hb3 t3.lt
  have hbw : Below w.heap.size w w3 := hbw.trans (hb3.mono (by omega))
  have hs3 := hb3.size
  have HT := Lib.hid t3
  have HB := Lib.hid hbw
  have DS := Lib.hid (stream_any m W H n b1 c1 b2 c2 _ G K way w3 s hMm hr1 hr2 n1 n2 n3 z0 z1)
  clear hMm hr1 hr2 t3 hbw hb3 hGd hC
  go_wp2_with fail
  go_at_call 103
  refine DS.out.mono ?_
  rintro e w5 ⟨rfl, hm5, hr5, hr6, hx5⟩
  have t5 := HT.out.ex hx5 (by omega)
  have hB5 := Lib.hid (show Below w.heap.size w w5 from HB.out.trans (hx5.below (by omega) (fun k hk => by omega)))
  have hlm := hm5.lt
  have k0 := hm5.k0
  have k1 := hm5.k1
  have k2 := hm5.k2
  have g0 := t5.free 0
  have g1 := t5.free 1
  have g2 := t5.free 2
  have q0' := t5.c0
  have q1' := t5.c1
  have q2' := t5.c2
  have hne : w.heap.size + 1 < b2 := by omega
  have HRow := Lib.hid hr5
  clear hm5 hx5 DS t5 hr5 hr6 HT HB
  go_wp2
  refine bodyPost_ret (v := .tuple #[.agg #[.int .i64 W, .int .i64 H, .slice (some ⟨b2, 0, none⟩) n c2], .int .i64 0]) (by simp [results, Tryd.results54, go_sem, ↓IntWalk.iteOmega, *]) rfl ?_
  exact madeR_pass HRow.out hB5.out (by omega) hne

set_option maxHeartbeats 1000000 in
theorem gStreamR_ok (W H b off n cap : Nat) (G : Nat → Nat → Int) (w : World) (s : Sides W H n) (hG : OkG n G) (hlt : b < w.heap.size) (hC : Grd w b off n G) :
    Calls Tryd.prog 12 #[.agg #[.int .i64 W, .int .i64 H, .slice (some ⟨b, off, none⟩) n cap]] w (MadeR W H n (pull W H 1 G) w) := by
  have D := Lib.hid (fun w' (hb : Below w.heap.size w w') => streamedR_in W H b off n cap G 1 w' s hG (Nat.lt_of_lt_of_le hlt hb.size) (hC.below hb hlt) (by omega) (by omega))
  clear hC
  go_enter Tryd.func12, Tryd.ntmps12
  go_wp2_with fail
  go_at_call 54
  refine (D.out _ (by (repeat' (first | (with_reducible exact Below.refl _ _) | (with_reducible refine Below.setCell ?_ (by first | omega | (simp; done) | (simp; omega)) _) | (with_reducible refine Below.alloc ?_ (by first | omega | (simp; done) | (simp; omega)) _) | (with_reducible refine Below.drew ?_) | (with_reducible refine below_drewN ?_ _) | (with_reducible refine Below.trans ?_ (Below.mono (by assumption) (by first | omega | (simp; done) | (simp; omega)))))))).mono ?_
  rintro e w1 ⟨b, c, rfl, hC, hlo, hb⟩
  have hlb : w.heap.size + 2 ≤ w1.heap.size := by have := hb.size; simp at this; omega
  have f0 : w1.frozen? ⟨w.heap.size + 1, 0, none⟩ = false := (hb.frozen (p := ⟨w.heap.size + 1, 0, none⟩) (by simp)).trans (by simp)
  have f1 : w1.frozen? ⟨w.heap.size + 1, 1, none⟩ = false := (hb.frozen (p := ⟨w.heap.size + 1, 1, none⟩) (by simp)).trans (by simp)
  have f2 : w1.frozen? ⟨w.heap.size + 1, 2, none⟩ = false := (hb.frozen (p := ⟨w.heap.size + 1, 2, none⟩) (by simp)).trans (by simp)
  have c0 : w1.cell? ⟨w.heap.size + 1, 0, none⟩ = some (.int .i64 0) := (hb.cell (p := ⟨w.heap.size + 1, 0, none⟩) (by simp)).trans (by simp)
  have c1 : w1.cell? ⟨w.heap.size + 1, 1, none⟩ = some (.int .i64 0) := (hb.cell (p := ⟨w.heap.size + 1, 1, none⟩) (by simp)).trans (by simp)
  have c2 : w1.cell? ⟨w.heap.size + 1, 2, none⟩ = some (.slice none 0 0) := (hb.cell (p := ⟨w.heap.size + 1, 2, none⟩) (by simp)).trans (by simp)
  have HC := Lib.hid hC
  have HB := Lib.hid (show Below w.heap.size w w1 from (((Below.refl _ w).alloc (Nat.le_refl _) _).alloc (by simp) _).trans (hb.mono (by simp; omega)))
  have hlo : w.heap.size + 1 < b := by simp at hlo; omega
  clear hC hb D
  go_wp2
  refine bodyPost_ret (v := .tuple #[.agg #[.int .i64 W, .int .i64 H, .slice (some ⟨b, 0, none⟩) n c], .int .i64 0]) (by simp [results, Tryd.results12, go_sem, ↓IntWalk.iteOmega, *]) rfl ?_
  exact madeR_pass HC.out HB.out (by omega) hlo

end Go.Proofs.YtmpfchgampiohaaDoor
