/- Stream and Unstream: by the program and by the reference. -/
import Derived.Test.YtmpfchgampiohaaDoorKRunU
import Derived.Test.YtmpfchgampiohaaDoorKRefG4
namespace Go.Proofs.YtmpfchgampiohaaDoor
set_option linter.unusedSimpArgs false
set_option linter.unusedVariables false
open Go.RowKit

theorem row_of {W H n : Nat} (s : Sides W H n) : 1 ≤ n := by
  rw [s.n0]
  exact Nat.mul_le_mul s.w0 s.h0
theorem cells_of {W H n : Nat} {w : World} {ao : Option Addr} {G : Nat → Nat → Int} (s : Sides W H n) (h : CellsIn w ao n G) : ∃ b off, ao = some ⟨b, off, none⟩ ∧ b < w.heap.size ∧ Grd w b off n G := by
  rcases h with h | h
  · have := row_of s
    omega
  · exact h

/-- A new machine, whatever its rules. -/
def NewM (w : World) (W H n : Nat) (rv : Value) (G : Nat → Nat → Int) (e : Ending) (w' : World) : Prop :=
  ∃ m b1 c1 b2 c2 K, e = .returned (.pointer (some ⟨m, 0, none⟩)) ∧ Mch w' m W H n b1 c1 rv b2 c2 ∧ Row w' b1 n G ∧ Row w' b2 n K ∧ m ≠ b1 ∧ m ≠ b2 ∧ b1 ≠ b2 ∧ w.heap.size ≤ m ∧ w.heap.size ≤ b1 ∧ w.heap.size ≤ b2 ∧ Below w.heap.size w w'
theorem newM_end {w w1 wr : World} {W H n g c : Nat} {rv : Value} {G : Nat → Nat → Int} (hr : Row w1 g n G) (hg : w.heap.size ≤ g) (hb : Below w.heap.size w w1)
    (hw : wr = ((w1.alloc (.cells (zeros n) 49)).alloc (.cells #[.int .i64 W, .int .i64 H, .slice (some ⟨g, 0, none⟩) n c, rv, .slice (some ⟨w1.heap.size, 0, none⟩) n n] 132)).drew) :
    NewM w W H n rv G (.returned (.pointer (some ⟨w1.heap.size + 1, 0, none⟩))) wr := by
  subst hw
  have x : Ex (fun _ => False) w1 (((w1.alloc (.cells (zeros n) 49)).alloc (.cells #[.int .i64 W, .int .i64 H, .slice (some ⟨g, 0, none⟩) n c, rv, .slice (some ⟨w1.heap.size, 0, none⟩) n n] 132)).drew) := (((Ex.refl _ w1).alloc _).alloc _).drew
  have hm : Mch (((w1.alloc (.cells (zeros n) 49)).alloc (.cells #[.int .i64 W, .int .i64 H, .slice (some ⟨g, 0, none⟩) n c, rv, .slice (some ⟨w1.heap.size, 0, none⟩) n n] 132)).drew) (w1.heap.size + 1) W H n g c rv w1.heap.size n := by
    have := World.alloc_heap_new (w1.alloc (.cells (zeros n) 49)) (.cells #[.int .i64 W, .int .i64 H, .slice (some ⟨g, 0, none⟩) n c, rv, .slice (some ⟨w1.heap.size, 0, none⟩) n n] 132)
    rw [World.size_alloc] at this
    exact this
  have hlt := hr.1
  have hs := hb.size
  exact ⟨_, g, c, w1.heap.size, n, _, rfl, hm, hr.ex x (fun h => h), ((row_zeros w1 n).alloc _).ex (S := fun _ => False) ((Ex.refl _ _).drew) (fun h => h), by omega, by omega, by omega, by omega, hg, hs, ((hb.alloc hs _).alloc (by simp; omega) _).drew⟩

set_option maxRecDepth 100000 in
set_option maxHeartbeats 2000000 in
theorem newMachine_nil (W H b off n cap : Nat) (G : Nat → Nat → Int) (w : World) (s : Sides W H n) (hlt : b < w.heap.size) (hG : Grd w b off n G) :
    Calls Tryd.prog 102 #[.agg #[.int .i64 W, .int .i64 H, .slice (some ⟨b, off, none⟩) n cap], .slice none 0 0] w (NewM w W H n (.slice none 0 0) G) := by
  have hn : n ≤ 1024 := s.n1
  have h1 : 1 ≤ n := row_of s
  have HG := Lib.hid hG; clear hG
  go_enter Tryd.func102, Tryd.ntmps102
  go_wp2_with fail
  go_at_call 122
  refine (copied_any b off n cap G _ h1 (by omega) (HG.out.below ((Below.refl _ w).alloc (Nat.le_refl _) _) hlt)).mono ?_
  rintro e w1 ⟨g, c, rfl, hr, hg, hc, hm, hb⟩
  have HRow := Lib.hid hr
  have HB := Lib.hid (show Below w.heap.size w w1 from ((Below.refl _ w).alloc (Nat.le_refl _) _).trans (hb.mono (by simp)))
  have b0 : w1.cell? ⟨w.heap.size, 0, none⟩ = some (.int .i64 W) := (hb.cell (p := ⟨w.heap.size, 0, none⟩) (by simp)).trans (by simp)
  have b1 : w1.cell? ⟨w.heap.size, 1, none⟩ = some (.int .i64 H) := (hb.cell (p := ⟨w.heap.size, 1, none⟩) (by simp)).trans (by simp)
  have hsz : w.heap.size < w1.heap.size := by have := hb.size; simp at this; omega
  have hg' : w.heap.size ≤ g := by simp at hg; omega
  have hmk := fun wx => run_zeros n (by omega) wx
  clear hb hr hg
  go_wp2_with fail
  go_region_held3 (fun w' => w'.cell? ⟨w.heap.size, 0, none⟩ = some (.int .i64 W) ∧ w'.cell? ⟨w.heap.size, 1, none⟩ = some (.int .i64 H)) (first | (go_split_ands; (try dsimp only); refine ⟨?_, ?_⟩ <;> (first | (with_reducible assumption) | (with_reducible exact keep_cell (by assumption) (by first | omega | (simp; done) | (simp; omega)) (by assumption)) | (with_reducible exact (World.cell?_alloc_past _ _ _ (by show _ < _; omega)).trans (by assumption)) | (with_reducible exact (World.cell?_alloc_past _ _ _ (by show _ < _; omega)).trans ((World.cell?_alloc_past _ _ _ (by show _ < _; omega)).symm.trans (by assumption))) | (simp [go_sem]; with_reducible assumption))) | (simp [go_sem, ↓IntWalk.iteOmega, *]; done)) (fail)
  go_wp2
  go_ret
  exact newM_end HRow.out hg' HB.out rfl

set_option maxRecDepth 100000 in
set_option maxHeartbeats 4000000 in
theorem streamed_in (W H b off n cap : Nat) (G : Nat → Nat → Int) (way : Int) (w : World) (s : Sides W H n) (hG : OkG n G) (hlt : b < w.heap.size) (hC : Grd w b off n G) (z0 : -1 ≤ way) (z1 : way ≤ 1) :
    Calls Tryd.prog 54 #[.agg #[.int .i64 W, .int .i64 H, .slice (some ⟨b, off, none⟩) n cap], .int .i64 way] w (Made W H n (pull W H way G) w) := by
  have HV := Lib.hid (fun w' (hb : Below w.heap.size w w') => gValid_ok W H (some ⟨b, off, none⟩) n cap G w' (vg_of s hG) ((show CellsIn w _ n G from .inr ⟨b, off, rfl, hlt, hC⟩).below hb))
  go_enter Tryd.func54, Tryd.ntmps54
  go_wp2_with (go_at_call 64; (with_reducible refine (HV.out _ (by (repeat' (first | (with_reducible exact Below.refl _ _) | (with_reducible refine Below.setCell ?_ (by first | omega | (simp; done) | (simp; omega)) _) | (with_reducible refine Below.alloc ?_ (by first | omega | (simp; done) | (simp; omega)) _) | (with_reducible refine Below.drew ?_) | (with_reducible refine below_drewN ?_ _) | (with_reducible refine Below.trans ?_ (Below.mono (by assumption) (by first | omega | (simp; done) | (simp; omega)))))))).mono ?_); rintro e w1 ⟨rfl, hb⟩; obtain ⟨hc, hf, hz⟩ := bcall hb; (try simp at hc hf hz))
  have hb0 : Below ((w.alloc (.cells #[.int .i64 W, .int .i64 H, .slice (some ⟨b, off, none⟩) n cap] 24)).alloc (.cells #[.int .i64 0, .int .i64 0, .slice none 0 0] 24)).heap.size ((w.alloc (.cells #[.int .i64 W, .int .i64 H, .slice (some ⟨b, off, none⟩) n cap] 24)).alloc (.cells #[.int .i64 0, .int .i64 0, .slice none 0 0] 24)) w1 := by (repeat' (first | (with_reducible exact Below.refl _ _) | (with_reducible refine Below.setCell ?_ (by first | omega | (simp; done) | (simp; omega)) _) | (with_reducible refine Below.alloc ?_ (by first | omega | (simp; done) | (simp; omega)) _) | (with_reducible refine Below.drew ?_) | (with_reducible refine below_drewN ?_ _) | (with_reducible refine Below.trans ?_ (Below.mono (by assumption) (by first | omega | (simp; done) | (simp; omega))))))
  have hbw : Below w.heap.size w w1 := by (repeat' (first | (with_reducible exact Below.refl _ _) | (with_reducible refine Below.setCell ?_ (by first | omega | (simp; done) | (simp; omega)) _) | (with_reducible refine Below.alloc ?_ (by first | omega | (simp; done) | (simp; omega)) _) | (with_reducible refine Below.drew ?_) | (with_reducible refine below_drewN ?_ _) | (with_reducible refine Below.trans ?_ (Below.mono (by assumption) (by first | omega | (simp; done) | (simp; omega))))))
  have t3 : Three w1 (w.heap.size + 1) 24 (.int .i64 0) (.int .i64 0) (.slice none 0 0) := (Three.new1 w _ _ _ _ _).below hb0 (by simp)
  have hGd : Grd w1 b off n G := hC.below hbw hlt
  have hsz : w.heap.size + 2 ≤ w1.heap.size := by omega
  clear hc hf hb hz hb0 HV
  go_at_call 102
  refine (newMachine_nil W H b off n cap G w1 s (by omega) hGd).mono ?_
  rintro e w3 ⟨m, b1, c1, b2, c2, K, rfl, hMm, hr1, hr2, n1, n2, n3, q0, q1, q2, hb3⟩
  have t3 := t3.below hb3 t3.lt
  have hbw : Below w.heap.size w w3 := hbw.trans (hb3.mono (by omega))
  have hs3 := hb3.size
  have HT := Lib.hid t3
  have HB := Lib.hid hbw
  have DS := Lib.hid (stream_any m W H n b1 c1 b2 c2 _ G K way w3 s hMm hr1 hr2 n1 n2 n3 z0 z1)
  clear hMm hr1 hr2 t3 hbw hb3 hGd hC
  go_wp2_with fail
  go_at_call 103
  refine DS.out.mono ?_
  rintro e w5 ⟨rfl, hm5, hr5, hr6, hx5⟩
  have t5 := HT.out.ex hx5 (by omega)
  have hB5 := Lib.hid (show Below w.heap.size w w5 from HB.out.trans (hx5.below (by omega) (fun k hk => by omega)))
  have hlm := hm5.lt
  have k0 := hm5.k0
  have k1 := hm5.k1
  have k2 := hm5.k2
  have g0 := t5.free 0
  have g1 := t5.free 1
  have g2 := t5.free 2
  have q0' := t5.c0
  have q1' := t5.c1
  have q2' := t5.c2
  have hne : w.heap.size + 1 < b2 := by omega
  have HRow := Lib.hid hr5
  clear hm5 hx5 DS t5 hr5 hr6 HT HB
  go_wp2
  refine bodyPost_ret (v := .tuple #[.agg #[.int .i64 W, .int .i64 H, .slice (some ⟨b2, 0, none⟩) n c2], .int .i64 0]) (by simp [results, Tryd.results54, go_sem, ↓IntWalk.iteOmega, *]) rfl ?_
  exact made_end HRow.out hB5.out hne

set_option maxHeartbeats 1000000 in
theorem streamed_bad (W H : Int) (n cap : Nat) (ao : Option Addr) (G : Nat → Nat → Int) (way : Int) (w : World) (hv : ¬ VG W H n G) (hC : CellsIn w ao n G) :
    Calls Tryd.prog 54 #[.agg #[.int .i64 W, .int .i64 H, .slice (ao) n cap], .int .i64 way] w fun e w' => e = .returned (.tuple #[.agg #[.int .i64 0, .int .i64 0, .slice (none) 0 0], .int .i64 1]) ∧ Below w.heap.size w w' := by
  have HV := Lib.hid hv; clear hv
  have HC := Lib.hid hC; clear hC
  go_enter Tryd.func54, Tryd.ntmps54
  go_wp2_with (go_at_call 64; (with_reducible refine (gValid_bad W H ao n cap G _ HV.out (HC.out.below (by (repeat' (first | (with_reducible exact Below.refl _ _) | (with_reducible refine Below.setCell ?_ (by first | omega | (simp; done) | (simp; omega)) _) | (with_reducible refine Below.alloc ?_ (by first | omega | (simp; done) | (simp; omega)) _) | (with_reducible refine Below.drew ?_) | (with_reducible refine below_drewN ?_ _) | (with_reducible refine Below.trans ?_ (Below.mono (by assumption) (by first | omega | (simp; done) | (simp; omega))))))))).mono ?_); rintro e w1 ⟨rfl, hb⟩; obtain ⟨hc, hf, hz⟩ := bcall hb; (try simp at hc hf hz))
  refine bodyPost_ret (v := .tuple #[.agg #[.int .i64 0, .int .i64 0, .slice (none) 0 0], .int .i64 1]) (by simp [results, Tryd.results54, go_sem, ↓IntWalk.iteOmega, *]) rfl ⟨rfl, ?_⟩
  (repeat' (first | (with_reducible exact Below.refl _ _) | (with_reducible refine Below.setCell ?_ (by first | omega | (simp; done) | (simp; omega)) _) | (with_reducible refine Below.alloc ?_ (by first | omega | (simp; done) | (simp; omega)) _) | (with_reducible refine Below.drew ?_) | (with_reducible refine below_drewN ?_ _) | (with_reducible refine Below.trans ?_ (Below.mono (by assumption) (by first | omega | (simp; done) | (simp; omega))))))

set_option maxHeartbeats 1000000 in
theorem gStream_ok (W H n cap : Nat) (ao : Option Addr) (G : Nat → Nat → Int) (w : World) (s : Sides W H n) (hG : OkG n G) (hC : CellsIn w ao n G) :
    Calls Tryd.prog 12 #[.agg #[.int .i64 W, .int .i64 H, .slice (ao) n cap]] w (Made W H n (pull W H 1 G) w) := by
  obtain ⟨b, off, rfl, hlt, hC⟩ := cells_of s hC
  have D := Lib.hid (fun w' (hb : Below w.heap.size w w') => streamed_in W H b off n cap G 1 w' s hG (Nat.lt_of_lt_of_le hlt hb.size) (hC.below hb hlt) (by omega) (by omega))
  clear hC
  go_enter Tryd.func12, Tryd.ntmps12
  go_wp2_with fail
  go_at_call 54
  refine (D.out _ (by (repeat' (first | (with_reducible exact Below.refl _ _) | (with_reducible refine Below.setCell ?_ (by first | omega | (simp; done) | (simp; omega)) _) | (with_reducible refine Below.alloc ?_ (by first | omega | (simp; done) | (simp; omega)) _) | (with_reducible refine Below.drew ?_) | (with_reducible refine below_drewN ?_ _) | (with_reducible refine Below.trans ?_ (Below.mono (by assumption) (by first | omega | (simp; done) | (simp; omega)))))))).mono ?_
  rintro e w1 ⟨b, c, rfl, hC, hlo, hb⟩
  have hlb : w.heap.size + 2 ≤ w1.heap.size := by have := hb.size; simp at this; omega
  have f0 : w1.frozen? ⟨w.heap.size + 1, 0, none⟩ = false := (hb.frozen (p := ⟨w.heap.size + 1, 0, none⟩) (by simp)).trans (by simp)
  have f1 : w1.frozen? ⟨w.heap.size + 1, 1, none⟩ = false := (hb.frozen (p := ⟨w.heap.size + 1, 1, none⟩) (by simp)).trans (by simp)
  have f2 : w1.frozen? ⟨w.heap.size + 1, 2, none⟩ = false := (hb.frozen (p := ⟨w.heap.size + 1, 2, none⟩) (by simp)).trans (by simp)
  have c0 : w1.cell? ⟨w.heap.size + 1, 0, none⟩ = some (.int .i64 0) := (hb.cell (p := ⟨w.heap.size + 1, 0, none⟩) (by simp)).trans (by simp)
  have c1 : w1.cell? ⟨w.heap.size + 1, 1, none⟩ = some (.int .i64 0) := (hb.cell (p := ⟨w.heap.size + 1, 1, none⟩) (by simp)).trans (by simp)
  have c2 : w1.cell? ⟨w.heap.size + 1, 2, none⟩ = some (.slice none 0 0) := (hb.cell (p := ⟨w.heap.size + 1, 2, none⟩) (by simp)).trans (by simp)
  have HC := Lib.hid hC
  have HB := Lib.hid (show Below w.heap.size w w1 from (((Below.refl _ w).alloc (Nat.le_refl _) _).alloc (by simp) _).trans (hb.mono (by simp; omega)))
  have hlo : w.heap.size + 1 < b := by simp at hlo; omega
  clear hC hb D
  go_wp2
  refine bodyPost_ret (v := .tuple #[.agg #[.int .i64 W, .int .i64 H, .slice (some ⟨b, 0, none⟩) n c], .int .i64 0]) (by simp [results, Tryd.results12, go_sem, ↓IntWalk.iteOmega, *]) rfl ?_
  exact made_pass HC.out HB.out (by omega) hlo

set_option maxHeartbeats 1000000 in
theorem gStream_bad (W H : Int) (n cap : Nat) (ao : Option Addr) (G : Nat → Nat → Int) (w : World) (hv : ¬ VG W H n G) (hC : CellsIn w ao n G) :
    Calls Tryd.prog 12 #[.agg #[.int .i64 W, .int .i64 H, .slice (ao) n cap]] w fun e w' => e = .returned (.tuple #[.agg #[.int .i64 0, .int .i64 0, .slice (none) 0 0], .int .i64 1]) ∧ Below w.heap.size w w' := by
  have HV := Lib.hid hv; clear hv
  have HC := Lib.hid hC; clear hC
  go_enter Tryd.func12, Tryd.ntmps12
  go_wp2_with (go_at_call 54; (with_reducible refine (streamed_bad W H n cap ao G 1 _ HV.out (HC.out.below (by (repeat' (first | (with_reducible exact Below.refl _ _) | (with_reducible refine Below.setCell ?_ (by first | omega | (simp; done) | (simp; omega)) _) | (with_reducible refine Below.alloc ?_ (by first | omega | (simp; done) | (simp; omega)) _) | (with_reducible refine Below.drew ?_) | (with_reducible refine below_drewN ?_ _) | (with_reducible refine Below.trans ?_ (Below.mono (by assumption) (by first | omega | (simp; done) | (simp; omega))))))))).mono ?_); rintro e w1 ⟨rfl, hb⟩; obtain ⟨hc, hf, hz⟩ := bcall hb; (try simp at hc hf hz))
  refine bodyPost_ret (v := .tuple #[.agg #[.int .i64 0, .int .i64 0, .slice (none) 0 0], .int .i64 1]) (by simp [results, Tryd.results12, go_sem, ↓IntWalk.iteOmega, *]) rfl ⟨rfl, ?_⟩
  (repeat' (first | (with_reducible exact Below.refl _ _) | (with_reducible refine Below.setCell ?_ (by first | omega | (simp; done) | (simp; omega)) _) | (with_reducible refine Below.alloc ?_ (by first | omega | (simp; done) | (simp; omega)) _) | (with_reducible refine Below.drew ?_) | (with_reducible refine below_drewN ?_ _) | (with_reducible refine Below.trans ?_ (Below.mono (by assumption) (by first | omega | (simp; done) | (simp; omega))))))

end Go.Proofs.YtmpfchgampiohaaDoor
