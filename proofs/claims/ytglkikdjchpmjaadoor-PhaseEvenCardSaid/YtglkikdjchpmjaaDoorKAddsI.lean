/- Added: by the program. -/
import Derived.Test.YtglkikdjchpmjaaDoorKDiff
import Derived.Test.YtglkikdjchpmjaaDoorKRef
import Derived.Test.YtglkikdjchpmjaaDoorKRefG4
import Derived.Test.YtglkikdjchpmjaaDoorKRefPuts2
import Derived.Test.YtglkikdjchpmjaaDoorKEnds
namespace Go.Proofs.YtglkikdjchpmjaaDoor
set_option linter.unusedSimpArgs false
set_option linter.unusedVariables false
open Go.RowKit

/-- While cells are added. -/
def AMv (w : World) (P o co : Nat) (W H : Int) (n : Nat) (K : Nat → Nat → Int) (wr : World) : Prop :=
  Three wr P 24 (.int .i64 W) (.int .i64 H) (.slice (some ⟨o, 0, none⟩) n co) ∧ Row wr o n K ∧ Three wr (w.heap.size + 1 + 1) 24 (.int .i64 0) (.int .i64 0) (.slice none 0 0) ∧ w.heap.size + 1 + 1 < o ∧ P ≠ o ∧ w.heap.size + 1 + 1 < P ∧ Below w.heap.size w wr
theorem AMv.step {w wr wr' : World} {P o co : Nat} {W H : Int} {n : Nat} {K K' : Nat → Nat → Int} (h : AMv w P o co W H n K wr) (hx : Ex (fun k => k = o) wr wr') (hr : Row wr' o n K') : AMv w P o co W H n K' wr' := by
  obtain ⟨t0, _, t1, q0, q1, q2, hb⟩ := h
  exact ⟨t0.ex hx (by omega), hr, t1.ex hx (by omega), q0, q1, q2, hb.trans (hx.below hb.size (fun k hk => by omega))⟩
theorem amv_a {w w1 w5 : World} {o co n : Nat} {W H : Int} {A : Nat → Nat → Int} (h1 : Below w.heap.size w w1) (t1 : Three w1 (w.heap.size + 1 + 1) 24 (.int .i64 0) (.int .i64 0) (.slice none 0 0)) (h5 : Below w1.heap.size w1.drew w5) (hr : Row w5 o n A) (ho : w1.heap.size ≤ o) :
    AMv w w5.heap.size o co W H n A (w5.alloc (.cells #[.int .i64 W, .int .i64 H, .slice (some ⟨o, 0, none⟩) n co] 24)) := by
  have l1 := t1.lt
  have s5 : w1.heap.size ≤ w5.heap.size := h5.size
  have lo := hr.1
  have x : Ex (fun _ => False) w5 (w5.alloc (.cells #[.int .i64 W, .int .i64 H, .slice (some ⟨o, 0, none⟩) n co] 24)) := (Ex.refl _ _).alloc _
  have hd : Below w.heap.size w w1.drew := h1.drew
  exact ⟨Three.new0 w5 _ _ _ _, hr.ex x (fun h => h), ((show Three w1.drew _ _ _ _ _ from t1).below h5 l1).ex x (fun h => h), by omega, by omega, by omega, (hd.trans (h5.mono (by have := h1.size; omega))).alloc (by have := h1.size; omega) _⟩
theorem amv_b {w w1 w5 : World} {o co n : Nat} {W H : Int} {A : Nat → Nat → Int} (h1 : Below w.heap.size w w1) (t1 : Three w1 (w.heap.size + 1 + 1) 24 (.int .i64 0) (.int .i64 0) (.slice none 0 0)) (h5 : Below (w1.heap.size + 1) (w1.drew.alloc (.cells #[.int .i64 0, .int .i64 0, .slice none 0 0] 24)) w5) (hr : Row w5 o n A) (ho : w1.heap.size + 1 ≤ o) :
    AMv w w1.heap.size o co W H n A (((w5.setCell ⟨w1.heap.size, 0, none⟩ (.int .i64 W)).setCell ⟨w1.heap.size, 1, none⟩ (.int .i64 H)).setCell ⟨w1.heap.size, 2, none⟩ (.slice (some ⟨o, 0, none⟩) n co)) := by
  have l1 := t1.lt
  have y : Three (w1.drew.alloc (.cells #[.int .i64 0, .int .i64 0, .slice none 0 0] 24)) w1.heap.size 24 (.int .i64 0) (.int .i64 0) (.slice none 0 0) := Three.new0 w1.drew _ _ _ _
  have hs := h5.size
  simp at hs
  have x : Ex (fun k => k = w1.heap.size) w5 (((w5.setCell ⟨w1.heap.size, 0, none⟩ (.int .i64 W)).setCell ⟨w1.heap.size, 1, none⟩ (.int .i64 H)).setCell ⟨w1.heap.size, 2, none⟩ (.slice (some ⟨o, 0, none⟩) n co)) := three_ex
  have t5 : Three (w1.drew.alloc (.cells #[.int .i64 0, .int .i64 0, .slice none 0 0] 24)) (w.heap.size + 1 + 1) 24 (.int .i64 0) (.int .i64 0) (.slice none 0 0) := (show Three w1.drew _ _ _ _ _ from t1).below ((Below.refl _ w1.drew).alloc (Nat.le_refl _) _) l1
  have hB : Below w.heap.size w w5 := ((show Below w.heap.size w w1.drew from h1.drew).alloc (show w.heap.size ≤ w1.drew.heap.size from h1.size) _).trans (h5.mono (by have := h1.size; omega))
  exact ⟨(y.below h5 (by omega)).set, hr.ex x (by omega), (t5.below h5 (by omega)).ex x (by omega), by omega, by omega, by omega, hB.trans (x.below hB.size (fun k hk => by have := h1.size; omega))⟩

theorem add_rel {w wr X : World} {P o co : Nat} {W H : Int} {n k : Nat} {A B K : Nat → Nat → Int} (h : AMv w P o co W H n K wr ∧ Half n k (adG A B) A K) (hk : k < n) (hX : Below wr.heap.size wr X) :
    AMv w P o co W H n (upd (upd (upd (upd K k 0 (adG A B k 0)) k 1 (adG A B k 1)) k 2 (adG A B k 2)) k 3 (adG A B k 3)) ((((X.setCell ⟨o, k * 4, none⟩ (.int .i64 (A k 0 + B k 0))).setCell ⟨o, k * 4 + 1, none⟩ (.int .i64 (A k 1 + B k 1))).setCell ⟨o, k * 4 + 2, none⟩ (.int .i64 (A k 2 + B k 2))).setCell ⟨o, k * 4 + 3, none⟩ (.int .i64 (A k 3 + B k 3))) ∧
    Half n (k + 1) (adG A B) A (upd (upd (upd (upd K k 0 (adG A B k 0)) k 1 (adG A B k 1)) k 2 (adG A B k 2)) k 3 (adG A B k 3)) := by
  have x := Ex.of_below (S := fun _ => False) hX
  obtain ⟨c1, c2⟩ := chain1 (h.1.2.1.ex x (fun h => h)) hk (A k 0 + B k 0) (A k 1 + B k 1) (A k 2 + B k 2) (A k 3 + B k 3)
  exact ⟨h.1.step ((x.mono (fun _ h => h.elim)).trans c1) c2, half_step h.2 hk⟩

set_option maxRecDepth 100000 in
set_option maxHeartbeats 16000000 in
theorem gAdded_ok (W H : Int) (n c c' b off b' off' : Nat) (A B : Nat → Nat → Int) (w : World) (ha : VG W H n A) (hb' : VG W H n B) (hlt : b < w.heap.size) (hlt' : b' < w.heap.size) (hA : Grd w b off n A) (hB : Grd w b' off' n B) (hs : OkG n (adG A B)) :
    Calls Tryd.prog 186 #[.agg #[.int .i64 W, .int .i64 H, .slice (some ⟨b, off, none⟩) n c], .agg #[.int .i64 W, .int .i64 H, .slice (some ⟨b', off', none⟩) n c']] w (Made W H n (adG A B) w) := by
  have hn1 : n ≤ 1024 := by have := ha.1.bd; have := ha.2.1; omega
  have hn0 : 1 ≤ n := by have := ha.1.bd; have := ha.2.1; omega
  have CS := Lib.hid (fun w' (hb : Below w.heap.size w w') => sides_ok W H n n c c' (some ⟨b, off, none⟩) (some ⟨b', off', none⟩) A B w' ha hb' ((show CellsIn w _ n A from .inr ⟨b, off, rfl, hlt, hA⟩).below hb) ((show CellsIn w _ n B from .inr ⟨b', off', rfl, hlt', hB⟩).below hb))
  have CP := Lib.hid (fun w' (hb : Below w.heap.size w w') => copied_any b off n c A w' hn0 (by omega) (hA.below hb hlt))
  have OA := Lib.hid ha.2.2
  have OB := Lib.hid hb'.2.2
  have SV := Lib.hid ha
  have OS := Lib.hid (show OkG n (adG A B) from hs)
  have HB := Lib.hid hB
  clear ha hb' hA hB hs
  go_enter Tryd.func186, Tryd.ntmps186
  go_wp2_with (go_at_call 207; (with_reducible refine (CS.out _ (by (repeat' (first | (with_reducible exact Below.refl _ _) | (with_reducible refine Below.setCell ?_ (by first | omega | (simp; done) | (simp; omega)) _) | (with_reducible refine Below.alloc ?_ (by first | omega | (simp; done) | (simp; omega)) _) | (with_reducible refine Below.drew ?_) | (with_reducible refine below_drewN ?_ _) | (with_reducible refine Below.trans ?_ (Below.mono (by assumption) (by first | omega | (simp; done) | (simp; omega)))))))).mono ?_); rintro e w1 ⟨rfl, hb⟩; obtain ⟨hc, hf, hz⟩ := bcall hb; (try simp at hc hf hz))
  have H1 := Lib.hid (show Below w.heap.size w w1 from by (repeat' (first | (with_reducible exact Below.refl _ _) | (with_reducible refine Below.setCell ?_ (by first | omega | (simp; done) | (simp; omega)) _) | (with_reducible refine Below.alloc ?_ (by first | omega | (simp; done) | (simp; omega)) _) | (with_reducible refine Below.drew ?_) | (with_reducible refine below_drewN ?_ _) | (with_reducible refine Below.trans ?_ (Below.mono (by assumption) (by first | omega | (simp; done) | (simp; omega)))))))
  have T1 := Lib.hid (show Three w1 (w.heap.size + 1 + 1) 24 (.int .i64 0) (.int .i64 0) (.slice none 0 0) from by
    have t := Three.new0 ((w.alloc (.cells #[.int .i64 W, .int .i64 H, .slice (some ⟨b, off, none⟩) n c] 24)).alloc (.cells #[.int .i64 W, .int .i64 H, .slice (some ⟨b', off', none⟩) n c'] 24)) 24 (.int .i64 0) (.int .i64 0) (.slice none 0 0)
    simp only [World.size_alloc] at t
    exact t.below hb (by simp))
  have z0 : w1.cell? ⟨w.heap.size, 0, none⟩ = some (.int .i64 W) := by simp [hc, go_sem]
  have z1 : w1.cell? ⟨w.heap.size, 1, none⟩ = some (.int .i64 H) := by simp [hc, go_sem]
  have z2 : w1.cell? ⟨w.heap.size, 2, none⟩ = some (.slice (some ⟨b, off, none⟩) n c) := by simp [hc, go_sem]
  have z3 : w1.cell? ⟨w.heap.size + 1, 2, none⟩ = some (.slice (some ⟨b', off', none⟩) n c') := by simp [hc, go_sem]
  have lw : w.heap.size < w1.heap.size := by omega
  have lw1 : w.heap.size + 1 < w1.heap.size := by omega
  clear CS hb hc hf
  go_region_held3 (fun w' => w'.cell? ⟨w.heap.size, 0, none⟩ = some (.int .i64 W) ∧ w'.cell? ⟨w.heap.size, 1, none⟩ = some (.int .i64 H) ∧ w'.cell? ⟨w.heap.size, 2, none⟩ = some (.slice (some ⟨b, off, none⟩) n c)) (first | (go_split_ands; (try dsimp only); refine ⟨?_, ?_, ?_⟩ <;> (first | (with_reducible assumption) | (with_reducible exact keep_cell (by assumption) (by first | omega | (simp; done) | (simp; omega)) (by assumption)) | (with_reducible exact (World.cell?_alloc_past _ _ _ (by show _ < _; omega)).trans (by assumption)) | (with_reducible exact (World.cell?_alloc_past _ _ _ (by show _ < _; omega)).trans ((World.cell?_alloc_past _ _ _ (by show _ < _; omega)).symm.trans (by assumption))) | (simp [go_sem]; with_reducible assumption))) | (simp [go_sem, ↓IntWalk.iteOmega, *]; done)) ((go_at_call 196; (with_reducible refine (CP.out _ (H1.out.trans (by (repeat' (first | (with_reducible exact Below.refl _ _) | (with_reducible refine Below.setCell ?_ (by first | omega | (simp; done) | (simp; omega)) _) | (with_reducible refine Below.alloc ?_ (by first | omega | (simp; done) | (simp; omega)) _) | (with_reducible refine Below.drew ?_) | (with_reducible refine below_drewN ?_ _) | (with_reducible refine Below.trans ?_ (Below.mono (by assumption) (by first | omega | (simp; done) | (simp; omega))))))))).mono ?_); rintro e w5 ⟨o, co, rfl, hr5, hg5, hcc, hm, hb5⟩; obtain ⟨hc5, hf5, hz5⟩ := bcall hb5; (try simp at hc5 hf5 hz5)))
  · have H0 := Lib.hid (amv_a (W := W) (H := H) (co := co) H1.out T1.out (hb5.mono (by simp)) hr5 (by simp at hg5; omega))
    obtain ⟨P, hP⟩ : ∃ P, P = w5.heap.size := ⟨_, rfl⟩
    obtain ⟨w0, hw0⟩ : ∃ w0, w0 = w5.alloc (.cells #[.int .i64 W, .int .i64 H, .slice (some ⟨o, 0, none⟩) n co] 24) := ⟨_, rfl⟩
    rw [← hw0] at H0
    rw [← hP] at H0
    have sB : w0.cell? ⟨w.heap.size + 1, 2, none⟩ = some (.slice (some ⟨b', off', none⟩) n c') := by
      rw [hw0]
      simp [go_sem, ↓IntWalk.iteOmega, *]
    rw [← hw0]
    rw [← hP]
    have lB : w.heap.size + 1 < w0.heap.size := by have := H0.out.1.lt; have := H0.out.2.2.2.2.2.1; omega
    clear hP hw0 hb5 hr5 hg5 hc5 hf5 hz5 H1 T1 hz z0 z1 z2 z3
    go_wp2
    clear sB
    go_loopw [30] (fun i wr => ∃ (k : Nat) (K : Nat → Nat → Int), k ≤ n ∧ i = .int .i64 k ∧ Hid (AMv w P o co W H n K wr ∧ Half n k (adG A B) A K)) (fun i _ => n - (intOf i).toNat)
    case atStart => exact ⟨0, _, Nat.zero_le _, rfl, Lib.hid ⟨H0.out, half_zero _ _ _⟩⟩
    case round =>
      obtain ⟨k, K, hk, rfl, HH⟩ := hrel
      obtain ⟨tP, hrow, tR, qo, qP, qs, hBw⟩ := HH.out.1
      have lP := tP.lt
      have P0 := tP.c0
      have P1 := tP.c1
      have P2 := tP.c2
      have R0 := tR.c0
      have R1 := tR.c1
      have R2 := tR.c2
      have r0 := tR.free 0
      have r1 := tR.free 1
      have r2 := tR.free 2
      have lR := tR.lt
      have lo := hrow.1
      have HW := Lib.hid hBw
      by_cases hlk : k < n
      · obtain ⟨e0, e1, e2, e3⟩ := HB.out.get hBw hlt' hlk
        obtain ⟨a0, a1, a2, a3⟩ := hrow.at4 hlk
        obtain ⟨f0, f1, f2, f3⟩ := hrow.free4 hlk
        rw [HH.out.2.2 k (Nat.le_refl _) hlk 0 (by omega)] at a0
        rw [HH.out.2.2 k (Nat.le_refl _) hlk 1 (by omega)] at a1
        rw [HH.out.2.2 k (Nat.le_refl _) hlk 2 (by omega)] at a2
        rw [HH.out.2.2 k (Nat.le_refl _) hlk 3 (by omega)] at a3
        have hsz := hBw.size
        have KA := Lib.hid (OA.out.1 k hlk)
        have KB := Lib.hid (OB.out.1 k hlk)
        have p0 : (0 : Int) ≤ (k : Int) := by omega
        have p1 : (k : Int) < (n : Int) := by omega
        clear hrow tP tR hBw
        have KS := Lib.hid (show Ok4 (A k 0 + B k 0) (A k 1 + B k 1) (A k 2 + B k 2) (A k 3 + B k 3) from OS.out.1 k hlk)
        go_wp2
        go_region_held3 (fun w' => w'.cell? ⟨P, 2, none⟩ = some (.slice (some ⟨o, 0, none⟩) n co) ∧ w'.cell? ⟨o, k * 4, none⟩ = some (.int .i64 (A k 0)) ∧ w'.cell? ⟨o, k * 4 + 1, none⟩ = some (.int .i64 (A k 1)) ∧ w'.cell? ⟨o, k * 4 + 2, none⟩ = some (.int .i64 (A k 2)) ∧ w'.cell? ⟨o, k * 4 + 3, none⟩ = some (.int .i64 (A k 3)) ∧ w'.cell? ⟨wr.heap.size, 0, none⟩ = some (.int .i64 (B k 0)) ∧ w'.cell? ⟨wr.heap.size, 1, none⟩ = some (.int .i64 (B k 1)) ∧ w'.cell? ⟨wr.heap.size, 2, none⟩ = some (.int .i64 (B k 2)) ∧ w'.cell? ⟨wr.heap.size, 3, none⟩ = some (.int .i64 (B k 3))) (first | (go_split_ands; (try dsimp only); refine ⟨?_, ?_, ?_, ?_, ?_, ?_, ?_, ?_, ?_⟩ <;> (first | (with_reducible assumption) | (with_reducible exact keep_cell (by assumption) (by first | omega | (simp; done) | (simp; omega)) (by assumption)) | (with_reducible exact (World.cell?_alloc_past _ _ _ (by show _ < _; omega)).trans (by assumption)) | (with_reducible exact (World.cell?_alloc_past _ _ _ (by show _ < _; omega)).trans ((World.cell?_alloc_past _ _ _ (by show _ < _; omega)).symm.trans (by assumption))) | (simp [go_sem]; with_reducible assumption))) | (simp [go_sem, ↓IntWalk.iteOmega, *]; done)) ((go_at_call 182; (with_reducible refine (added_ok _ _ _ _ _ _ _ _ _ KA.out KB.out KS.out).mono ?_); rintro e w7 ⟨rfl, hb7⟩; obtain ⟨hc7, hf7, hz7⟩ := bcall hb7; (try simp at hc7 hf7 hz7)))
        all_goals
          go_wp2
          clear hc7 hf7
          go_roundw
          case rel => exact ⟨k + 1, _, by omega, by go_num, Lib.hid (add_rel HH.out hlk (by (repeat' (first | (with_reducible exact Below.refl _ _) | (with_reducible refine Below.setCell ?_ (by first | omega | (simp; done) | (simp; omega)) _) | (with_reducible refine Below.alloc ?_ (by first | omega | (simp; done) | (simp; omega)) _) | (with_reducible refine Below.drew ?_) | (with_reducible refine below_drewN ?_ _) | (with_reducible refine Below.trans ?_ (Below.mono (by assumption) (by first | omega | (simp; done) | (simp; omega))))))))⟩
          case measure => simp [intOf]; omega
      · obtain rfl : n = k := by omega
        have HV := Lib.hid (fun w' (hb : Below wr.heap.size wr w') => gValid_ok W H (some ⟨o, 0, none⟩) n co (adG A B) w' ⟨SV.out.1, SV.out.2.1, OS.out⟩ (((hrow.eqG (half_all HH.out.2)).cellsIn).below hb))
        have HR := Lib.hid (hrow.eqG (half_all HH.out.2))
        clear hrow tP tR hBw
        go_wp2_with (go_at_call 83; (with_reducible refine (HV.out _ (by (repeat' (first | (with_reducible exact Below.refl _ _) | (with_reducible refine Below.setCell ?_ (by first | omega | (simp; done) | (simp; omega)) _) | (with_reducible refine Below.alloc ?_ (by first | omega | (simp; done) | (simp; omega)) _) | (with_reducible refine Below.drew ?_) | (with_reducible refine below_drewN ?_ _) | (with_reducible refine Below.trans ?_ (Below.mono (by assumption) (by first | omega | (simp; done) | (simp; omega)))))))).mono ?_); rintro e w7 ⟨rfl, hb7⟩; obtain ⟨hc7, hf7, hz7⟩ := bcall hb7; (try simp at hc7 hf7 hz7))
        refine bodyPost_ret (v := .tuple #[.agg #[.int .i64 W, .int .i64 H, .slice (some ⟨o, 0, none⟩) n co], .int .i64 0]) (by simp [results, Tryd.results186, go_sem, ↓IntWalk.iteOmega, *]) rfl ?_
        exact made_pass (HR.out.cellsIn.below hb7) (HW.out.trans (hb7.mono HW.out.size)) (by omega) (by omega)
  · have H0 := Lib.hid (amv_b (W := W) (H := H) (co := co) H1.out T1.out (hb5.mono (by simp)) hr5 (by simp at hg5; omega))
    obtain ⟨P, hP⟩ : ∃ P, P = w1.heap.size := ⟨_, rfl⟩
    obtain ⟨w0, hw0⟩ : ∃ w0, w0 = ((w5.setCell ⟨w1.heap.size, 0, none⟩ (.int .i64 W)).setCell ⟨w1.heap.size, 1, none⟩ (.int .i64 H)).setCell ⟨w1.heap.size, 2, none⟩ (.slice (some ⟨o, 0, none⟩) n co) := ⟨_, rfl⟩
    rw [← hw0] at H0
    rw [← hP] at H0
    have sB : w0.cell? ⟨w.heap.size + 1, 2, none⟩ = some (.slice (some ⟨b', off', none⟩) n c') := by
      rw [hw0]
      simp [go_sem, ↓IntWalk.iteOmega, *]
    rw [← hw0]
    rw [← hP]
    have lB : w.heap.size + 1 < w0.heap.size := by have := H0.out.1.lt; have := H0.out.2.2.2.2.2.1; omega
    clear hP hw0 hb5 hr5 hg5 hc5 hf5 hz5 H1 T1 hz z0 z1 z2 z3
    go_wp2
    clear sB
    go_loopw [30] (fun i wr => ∃ (k : Nat) (K : Nat → Nat → Int), k ≤ n ∧ i = .int .i64 k ∧ Hid (AMv w P o co W H n K wr ∧ Half n k (adG A B) A K)) (fun i _ => n - (intOf i).toNat)
    case atStart => exact ⟨0, _, Nat.zero_le _, rfl, Lib.hid ⟨H0.out, half_zero _ _ _⟩⟩
    case round =>
      obtain ⟨k, K, hk, rfl, HH⟩ := hrel
      obtain ⟨tP, hrow, tR, qo, qP, qs, hBw⟩ := HH.out.1
      have lP := tP.lt
      have P0 := tP.c0
      have P1 := tP.c1
      have P2 := tP.c2
      have R0 := tR.c0
      have R1 := tR.c1
      have R2 := tR.c2
      have r0 := tR.free 0
      have r1 := tR.free 1
      have r2 := tR.free 2
      have lR := tR.lt
      have lo := hrow.1
      have HW := Lib.hid hBw
      by_cases hlk : k < n
      · obtain ⟨e0, e1, e2, e3⟩ := HB.out.get hBw hlt' hlk
        obtain ⟨a0, a1, a2, a3⟩ := hrow.at4 hlk
        obtain ⟨f0, f1, f2, f3⟩ := hrow.free4 hlk
        rw [HH.out.2.2 k (Nat.le_refl _) hlk 0 (by omega)] at a0
        rw [HH.out.2.2 k (Nat.le_refl _) hlk 1 (by omega)] at a1
        rw [HH.out.2.2 k (Nat.le_refl _) hlk 2 (by omega)] at a2
        rw [HH.out.2.2 k (Nat.le_refl _) hlk 3 (by omega)] at a3
        have hsz := hBw.size
        have KA := Lib.hid (OA.out.1 k hlk)
        have KB := Lib.hid (OB.out.1 k hlk)
        have p0 : (0 : Int) ≤ (k : Int) := by omega
        have p1 : (k : Int) < (n : Int) := by omega
        clear hrow tP tR hBw
        have KS := Lib.hid (show Ok4 (A k 0 + B k 0) (A k 1 + B k 1) (A k 2 + B k 2) (A k 3 + B k 3) from OS.out.1 k hlk)
        go_wp2
        go_region_held3 (fun w' => w'.cell? ⟨P, 2, none⟩ = some (.slice (some ⟨o, 0, none⟩) n co) ∧ w'.cell? ⟨o, k * 4, none⟩ = some (.int .i64 (A k 0)) ∧ w'.cell? ⟨o, k * 4 + 1, none⟩ = some (.int .i64 (A k 1)) ∧ w'.cell? ⟨o, k * 4 + 2, none⟩ = some (.int .i64 (A k 2)) ∧ w'.cell? ⟨o, k * 4 + 3, none⟩ = some (.int .i64 (A k 3)) ∧ w'.cell? ⟨wr.heap.size, 0, none⟩ = some (.int .i64 (B k 0)) ∧ w'.cell? ⟨wr.heap.size, 1, none⟩ = some (.int .i64 (B k 1)) ∧ w'.cell? ⟨wr.heap.size, 2, none⟩ = some (.int .i64 (B k 2)) ∧ w'.cell? ⟨wr.heap.size, 3, none⟩ = some (.int .i64 (B k 3))) (first | (go_split_ands; (try dsimp only); refine ⟨?_, ?_, ?_, ?_, ?_, ?_, ?_, ?_, ?_⟩ <;> (first | (with_reducible assumption) | (with_reducible exact keep_cell (by assumption) (by first | omega | (simp; done) | (simp; omega)) (by assumption)) | (with_reducible exact (World.cell?_alloc_past _ _ _ (by show _ < _; omega)).trans (by assumption)) | (with_reducible exact (World.cell?_alloc_past _ _ _ (by show _ < _; omega)).trans ((World.cell?_alloc_past _ _ _ (by show _ < _; omega)).symm.trans (by assumption))) | (simp [go_sem]; with_reducible assumption))) | (simp [go_sem, ↓IntWalk.iteOmega, *]; done)) ((go_at_call 182; (with_reducible refine (added_ok _ _ _ _ _ _ _ _ _ KA.out KB.out KS.out).mono ?_); rintro e w7 ⟨rfl, hb7⟩; obtain ⟨hc7, hf7, hz7⟩ := bcall hb7; (try simp at hc7 hf7 hz7)))
        all_goals
          go_wp2
          clear hc7 hf7
          go_roundw
          case rel => exact ⟨k + 1, _, by omega, by go_num, Lib.hid (add_rel HH.out hlk (by (repeat' (first | (with_reducible exact Below.refl _ _) | (with_reducible refine Below.setCell ?_ (by first | omega | (simp; done) | (simp; omega)) _) | (with_reducible refine Below.alloc ?_ (by first | omega | (simp; done) | (simp; omega)) _) | (with_reducible refine Below.drew ?_) | (with_reducible refine below_drewN ?_ _) | (with_reducible refine Below.trans ?_ (Below.mono (by assumption) (by first | omega | (simp; done) | (simp; omega))))))))⟩
          case measure => simp [intOf]; omega
      · obtain rfl : n = k := by omega
        have HV := Lib.hid (fun w' (hb : Below wr.heap.size wr w') => gValid_ok W H (some ⟨o, 0, none⟩) n co (adG A B) w' ⟨SV.out.1, SV.out.2.1, OS.out⟩ (((hrow.eqG (half_all HH.out.2)).cellsIn).below hb))
        have HR := Lib.hid (hrow.eqG (half_all HH.out.2))
        clear hrow tP tR hBw
        go_wp2_with (go_at_call 83; (with_reducible refine (HV.out _ (by (repeat' (first | (with_reducible exact Below.refl _ _) | (with_reducible refine Below.setCell ?_ (by first | omega | (simp; done) | (simp; omega)) _) | (with_reducible refine Below.alloc ?_ (by first | omega | (simp; done) | (simp; omega)) _) | (with_reducible refine Below.drew ?_) | (with_reducible refine below_drewN ?_ _) | (with_reducible refine Below.trans ?_ (Below.mono (by assumption) (by first | omega | (simp; done) | (simp; omega)))))))).mono ?_); rintro e w7 ⟨rfl, hb7⟩; obtain ⟨hc7, hf7, hz7⟩ := bcall hb7; (try simp at hc7 hf7 hz7))
        refine bodyPost_ret (v := .tuple #[.agg #[.int .i64 W, .int .i64 H, .slice (some ⟨o, 0, none⟩) n co], .int .i64 0]) (by simp [results, Tryd.results186, go_sem, ↓IntWalk.iteOmega, *]) rfl ?_
        exact made_pass (HR.out.cellsIn.below hb7) (HW.out.trans (hb7.mono HW.out.size)) (by omega) (by omega)

set_option maxRecDepth 100000 in
set_option maxHeartbeats 16000000 in
theorem gAdded_limit (W H : Int) (n c c' b off b' off' : Nat) (A B : Nat → Nat → Int) (w : World) (ha : VG W H n A) (hb' : VG W H n B) (hlt : b < w.heap.size) (hlt' : b' < w.heap.size) (hA : Grd w b off n A) (hB : Grd w b' off' n B) (hs : ¬ OkG n (adG A B)) :
    Calls Tryd.prog 186 #[.agg #[.int .i64 W, .int .i64 H, .slice (some ⟨b, off, none⟩) n c], .agg #[.int .i64 W, .int .i64 H, .slice (some ⟨b', off', none⟩) n c']] w fun e w' => e = .returned (.tuple #[.agg #[.int .i64 0, .int .i64 0, .slice (none) 0 0], .int .i64 4]) ∧ Below w.heap.size w w' := by
  have hn1 : n ≤ 1024 := by have := ha.1.bd; have := ha.2.1; omega
  have hn0 : 1 ≤ n := by have := ha.1.bd; have := ha.2.1; omega
  have CS := Lib.hid (fun w' (hb : Below w.heap.size w w') => sides_ok W H n n c c' (some ⟨b, off, none⟩) (some ⟨b', off', none⟩) A B w' ha hb' ((show CellsIn w _ n A from .inr ⟨b, off, rfl, hlt, hA⟩).below hb) ((show CellsIn w _ n B from .inr ⟨b', off', rfl, hlt', hB⟩).below hb))
  have CP := Lib.hid (fun w' (hb : Below w.heap.size w w') => copied_any b off n c A w' hn0 (by omega) (hA.below hb hlt))
  have OA := Lib.hid ha.2.2
  have OB := Lib.hid hb'.2.2
  have SV := Lib.hid ha
  have OS := Lib.hid (show ¬ OkG n (adG A B) from hs)
  have HB := Lib.hid hB
  clear ha hb' hA hB hs
  go_enter Tryd.func186, Tryd.ntmps186
  go_wp2_with (go_at_call 207; (with_reducible refine (CS.out _ (by (repeat' (first | (with_reducible exact Below.refl _ _) | (with_reducible refine Below.setCell ?_ (by first | omega | (simp; done) | (simp; omega)) _) | (with_reducible refine Below.alloc ?_ (by first | omega | (simp; done) | (simp; omega)) _) | (with_reducible refine Below.drew ?_) | (with_reducible refine below_drewN ?_ _) | (with_reducible refine Below.trans ?_ (Below.mono (by assumption) (by first | omega | (simp; done) | (simp; omega)))))))).mono ?_); rintro e w1 ⟨rfl, hb⟩; obtain ⟨hc, hf, hz⟩ := bcall hb; (try simp at hc hf hz))
  have H1 := Lib.hid (show Below w.heap.size w w1 from by (repeat' (first | (with_reducible exact Below.refl _ _) | (with_reducible refine Below.setCell ?_ (by first | omega | (simp; done) | (simp; omega)) _) | (with_reducible refine Below.alloc ?_ (by first | omega | (simp; done) | (simp; omega)) _) | (with_reducible refine Below.drew ?_) | (with_reducible refine below_drewN ?_ _) | (with_reducible refine Below.trans ?_ (Below.mono (by assumption) (by first | omega | (simp; done) | (simp; omega)))))))
  have T1 := Lib.hid (show Three w1 (w.heap.size + 1 + 1) 24 (.int .i64 0) (.int .i64 0) (.slice none 0 0) from by
    have t := Three.new0 ((w.alloc (.cells #[.int .i64 W, .int .i64 H, .slice (some ⟨b, off, none⟩) n c] 24)).alloc (.cells #[.int .i64 W, .int .i64 H, .slice (some ⟨b', off', none⟩) n c'] 24)) 24 (.int .i64 0) (.int .i64 0) (.slice none 0 0)
    simp only [World.size_alloc] at t
    exact t.below hb (by simp))
  have z0 : w1.cell? ⟨w.heap.size, 0, none⟩ = some (.int .i64 W) := by simp [hc, go_sem]
  have z1 : w1.cell? ⟨w.heap.size, 1, none⟩ = some (.int .i64 H) := by simp [hc, go_sem]
  have z2 : w1.cell? ⟨w.heap.size, 2, none⟩ = some (.slice (some ⟨b, off, none⟩) n c) := by simp [hc, go_sem]
  have z3 : w1.cell? ⟨w.heap.size + 1, 2, none⟩ = some (.slice (some ⟨b', off', none⟩) n c') := by simp [hc, go_sem]
  have lw : w.heap.size < w1.heap.size := by omega
  have lw1 : w.heap.size + 1 < w1.heap.size := by omega
  clear CS hb hc hf
  go_region_held3 (fun w' => w'.cell? ⟨w.heap.size, 0, none⟩ = some (.int .i64 W) ∧ w'.cell? ⟨w.heap.size, 1, none⟩ = some (.int .i64 H) ∧ w'.cell? ⟨w.heap.size, 2, none⟩ = some (.slice (some ⟨b, off, none⟩) n c)) (first | (go_split_ands; (try dsimp only); refine ⟨?_, ?_, ?_⟩ <;> (first | (with_reducible assumption) | (with_reducible exact keep_cell (by assumption) (by first | omega | (simp; done) | (simp; omega)) (by assumption)) | (with_reducible exact (World.cell?_alloc_past _ _ _ (by show _ < _; omega)).trans (by assumption)) | (with_reducible exact (World.cell?_alloc_past _ _ _ (by show _ < _; omega)).trans ((World.cell?_alloc_past _ _ _ (by show _ < _; omega)).symm.trans (by assumption))) | (simp [go_sem]; with_reducible assumption))) | (simp [go_sem, ↓IntWalk.iteOmega, *]; done)) ((go_at_call 196; (with_reducible refine (CP.out _ (H1.out.trans (by (repeat' (first | (with_reducible exact Below.refl _ _) | (with_reducible refine Below.setCell ?_ (by first | omega | (simp; done) | (simp; omega)) _) | (with_reducible refine Below.alloc ?_ (by first | omega | (simp; done) | (simp; omega)) _) | (with_reducible refine Below.drew ?_) | (with_reducible refine below_drewN ?_ _) | (with_reducible refine Below.trans ?_ (Below.mono (by assumption) (by first | omega | (simp; done) | (simp; omega))))))))).mono ?_); rintro e w5 ⟨o, co, rfl, hr5, hg5, hcc, hm, hb5⟩; obtain ⟨hc5, hf5, hz5⟩ := bcall hb5; (try simp at hc5 hf5 hz5)))
  · have H0 := Lib.hid (amv_a (W := W) (H := H) (co := co) H1.out T1.out (hb5.mono (by simp)) hr5 (by simp at hg5; omega))
    obtain ⟨P, hP⟩ : ∃ P, P = w5.heap.size := ⟨_, rfl⟩
    obtain ⟨w0, hw0⟩ : ∃ w0, w0 = w5.alloc (.cells #[.int .i64 W, .int .i64 H, .slice (some ⟨o, 0, none⟩) n co] 24) := ⟨_, rfl⟩
    rw [← hw0] at H0
    rw [← hP] at H0
    have sB : w0.cell? ⟨w.heap.size + 1, 2, none⟩ = some (.slice (some ⟨b', off', none⟩) n c') := by
      rw [hw0]
      simp [go_sem, ↓IntWalk.iteOmega, *]
    rw [← hw0]
    rw [← hP]
    have lB : w.heap.size + 1 < w0.heap.size := by have := H0.out.1.lt; have := H0.out.2.2.2.2.2.1; omega
    clear hP hw0 hb5 hr5 hg5 hc5 hf5 hz5 H1 T1 hz z0 z1 z2 z3
    go_wp2
    clear sB
    go_loopw [30] (fun i wr => ∃ (k : Nat) (K : Nat → Nat → Int), k ≤ n ∧ i = .int .i64 k ∧ Hid (AMv w P o co W H n K wr ∧ Half n k (adG A B) A K)) (fun i _ => n - (intOf i).toNat)
    case atStart => exact ⟨0, _, Nat.zero_le _, rfl, Lib.hid ⟨H0.out, half_zero _ _ _⟩⟩
    case round =>
      obtain ⟨k, K, hk, rfl, HH⟩ := hrel
      obtain ⟨tP, hrow, tR, qo, qP, qs, hBw⟩ := HH.out.1
      have lP := tP.lt
      have P0 := tP.c0
      have P1 := tP.c1
      have P2 := tP.c2
      have R0 := tR.c0
      have R1 := tR.c1
      have R2 := tR.c2
      have r0 := tR.free 0
      have r1 := tR.free 1
      have r2 := tR.free 2
      have lR := tR.lt
      have lo := hrow.1
      have HW := Lib.hid hBw
      by_cases hlk : k < n
      · obtain ⟨e0, e1, e2, e3⟩ := HB.out.get hBw hlt' hlk
        obtain ⟨a0, a1, a2, a3⟩ := hrow.at4 hlk
        obtain ⟨f0, f1, f2, f3⟩ := hrow.free4 hlk
        rw [HH.out.2.2 k (Nat.le_refl _) hlk 0 (by omega)] at a0
        rw [HH.out.2.2 k (Nat.le_refl _) hlk 1 (by omega)] at a1
        rw [HH.out.2.2 k (Nat.le_refl _) hlk 2 (by omega)] at a2
        rw [HH.out.2.2 k (Nat.le_refl _) hlk 3 (by omega)] at a3
        have hsz := hBw.size
        have KA := Lib.hid (OA.out.1 k hlk)
        have KB := Lib.hid (OB.out.1 k hlk)
        have p0 : (0 : Int) ≤ (k : Int) := by omega
        have p1 : (k : Int) < (n : Int) := by omega
        clear hrow tP tR hBw
        by_cases hx : Ok4 (A k 0 + B k 0) (A k 1 + B k 1) (A k 2 + B k 2) (A k 3 + B k 3)
        · have KS := Lib.hid hx; clear hx
          go_wp2
          go_region_held3 (fun w' => w'.cell? ⟨P, 2, none⟩ = some (.slice (some ⟨o, 0, none⟩) n co) ∧ w'.cell? ⟨o, k * 4, none⟩ = some (.int .i64 (A k 0)) ∧ w'.cell? ⟨o, k * 4 + 1, none⟩ = some (.int .i64 (A k 1)) ∧ w'.cell? ⟨o, k * 4 + 2, none⟩ = some (.int .i64 (A k 2)) ∧ w'.cell? ⟨o, k * 4 + 3, none⟩ = some (.int .i64 (A k 3)) ∧ w'.cell? ⟨wr.heap.size, 0, none⟩ = some (.int .i64 (B k 0)) ∧ w'.cell? ⟨wr.heap.size, 1, none⟩ = some (.int .i64 (B k 1)) ∧ w'.cell? ⟨wr.heap.size, 2, none⟩ = some (.int .i64 (B k 2)) ∧ w'.cell? ⟨wr.heap.size, 3, none⟩ = some (.int .i64 (B k 3))) (first | (go_split_ands; (try dsimp only); refine ⟨?_, ?_, ?_, ?_, ?_, ?_, ?_, ?_, ?_⟩ <;> (first | (with_reducible assumption) | (with_reducible exact keep_cell (by assumption) (by first | omega | (simp; done) | (simp; omega)) (by assumption)) | (with_reducible exact (World.cell?_alloc_past _ _ _ (by show _ < _; omega)).trans (by assumption)) | (with_reducible exact (World.cell?_alloc_past _ _ _ (by show _ < _; omega)).trans ((World.cell?_alloc_past _ _ _ (by show _ < _; omega)).symm.trans (by assumption))) | (simp [go_sem]; with_reducible assumption))) | (simp [go_sem, ↓IntWalk.iteOmega, *]; done)) ((go_at_call 182; (with_reducible refine (added_ok _ _ _ _ _ _ _ _ _ KA.out KB.out KS.out).mono ?_); rintro e w7 ⟨rfl, hb7⟩; obtain ⟨hc7, hf7, hz7⟩ := bcall hb7; (try simp at hc7 hf7 hz7)))
          all_goals
            go_wp2
            clear hc7 hf7
            go_roundw
            case rel => exact ⟨k + 1, _, by omega, by go_num, Lib.hid (add_rel HH.out hlk (by (repeat' (first | (with_reducible exact Below.refl _ _) | (with_reducible refine Below.setCell ?_ (by first | omega | (simp; done) | (simp; omega)) _) | (with_reducible refine Below.alloc ?_ (by first | omega | (simp; done) | (simp; omega)) _) | (with_reducible refine Below.drew ?_) | (with_reducible refine below_drewN ?_ _) | (with_reducible refine Below.trans ?_ (Below.mono (by assumption) (by first | omega | (simp; done) | (simp; omega))))))))⟩
            case measure => simp [intOf]; omega
        · have KS := Lib.hid hx; clear hx
          go_wp2
          go_region_held3 (fun w' => w'.cell? ⟨P, 2, none⟩ = some (.slice (some ⟨o, 0, none⟩) n co) ∧ w'.cell? ⟨o, k * 4, none⟩ = some (.int .i64 (A k 0)) ∧ w'.cell? ⟨o, k * 4 + 1, none⟩ = some (.int .i64 (A k 1)) ∧ w'.cell? ⟨o, k * 4 + 2, none⟩ = some (.int .i64 (A k 2)) ∧ w'.cell? ⟨o, k * 4 + 3, none⟩ = some (.int .i64 (A k 3)) ∧ w'.cell? ⟨wr.heap.size, 0, none⟩ = some (.int .i64 (B k 0)) ∧ w'.cell? ⟨wr.heap.size, 1, none⟩ = some (.int .i64 (B k 1)) ∧ w'.cell? ⟨wr.heap.size, 2, none⟩ = some (.int .i64 (B k 2)) ∧ w'.cell? ⟨wr.heap.size, 3, none⟩ = some (.int .i64 (B k 3))) (first | (go_split_ands; (try dsimp only); refine ⟨?_, ?_, ?_, ?_, ?_, ?_, ?_, ?_, ?_⟩ <;> (first | (with_reducible assumption) | (with_reducible exact keep_cell (by assumption) (by first | omega | (simp; done) | (simp; omega)) (by assumption)) | (with_reducible exact (World.cell?_alloc_past _ _ _ (by show _ < _; omega)).trans (by assumption)) | (with_reducible exact (World.cell?_alloc_past _ _ _ (by show _ < _; omega)).trans ((World.cell?_alloc_past _ _ _ (by show _ < _; omega)).symm.trans (by assumption))) | (simp [go_sem]; with_reducible assumption))) | (simp [go_sem, ↓IntWalk.iteOmega, *]; done)) ((go_at_call 182; (with_reducible refine (added_limit _ _ _ _ _ _ _ _ _ KA.out KB.out KS.out).mono ?_); rintro e w7 ⟨rfl, hb7⟩; obtain ⟨hc7, hf7, hz7⟩ := bcall hb7; (try simp at hc7 hf7 hz7)))
          all_goals
            go_wp2
            refine bodyPost_ret (v := .tuple #[.agg #[.int .i64 0, .int .i64 0, .slice (none) 0 0], .int .i64 4]) (by simp [results, Tryd.results186, go_sem, ↓IntWalk.iteOmega, *]) rfl ⟨rfl, ?_⟩
            have hW := HW.out
            (repeat' (first | (with_reducible exact Below.refl _ _) | (with_reducible refine Below.setCell ?_ (by first | omega | (simp; done) | (simp; omega)) _) | (with_reducible refine Below.alloc ?_ (by first | omega | (simp; done) | (simp; omega)) _) | (with_reducible refine Below.drew ?_) | (with_reducible refine below_drewN ?_ _) | (with_reducible refine Below.trans ?_ (Below.mono (by assumption) (by first | omega | (simp; done) | (simp; omega))))))
      · obtain rfl : n = k := by omega
        have HV := Lib.hid (fun w' (hb : Below wr.heap.size wr w') => gValid_bad W H (some ⟨o, 0, none⟩) n co (adG A B) w' (fun h => OS.out h.2.2) (((hrow.eqG (half_all HH.out.2)).cellsIn).below hb))
        clear hrow tP tR hBw
        go_wp2_with (go_at_call 83; (with_reducible refine (HV.out _ (by (repeat' (first | (with_reducible exact Below.refl _ _) | (with_reducible refine Below.setCell ?_ (by first | omega | (simp; done) | (simp; omega)) _) | (with_reducible refine Below.alloc ?_ (by first | omega | (simp; done) | (simp; omega)) _) | (with_reducible refine Below.drew ?_) | (with_reducible refine below_drewN ?_ _) | (with_reducible refine Below.trans ?_ (Below.mono (by assumption) (by first | omega | (simp; done) | (simp; omega)))))))).mono ?_); rintro e w7 ⟨rfl, hb7⟩; obtain ⟨hc7, hf7, hz7⟩ := bcall hb7; (try simp at hc7 hf7 hz7))
        refine bodyPost_ret (v := .tuple #[.agg #[.int .i64 0, .int .i64 0, .slice (none) 0 0], .int .i64 4]) (by simp [results, Tryd.results186, go_sem, ↓IntWalk.iteOmega, *]) rfl ⟨rfl, ?_⟩
        have hW := HW.out
        (repeat' (first | (with_reducible exact Below.refl _ _) | (with_reducible refine Below.setCell ?_ (by first | omega | (simp; done) | (simp; omega)) _) | (with_reducible refine Below.alloc ?_ (by first | omega | (simp; done) | (simp; omega)) _) | (with_reducible refine Below.drew ?_) | (with_reducible refine below_drewN ?_ _) | (with_reducible refine Below.trans ?_ (Below.mono (by assumption) (by first | omega | (simp; done) | (simp; omega))))))
  · have H0 := Lib.hid (amv_b (W := W) (H := H) (co := co) H1.out T1.out (hb5.mono (by simp)) hr5 (by simp at hg5; omega))
    obtain ⟨P, hP⟩ : ∃ P, P = w1.heap.size := ⟨_, rfl⟩
    obtain ⟨w0, hw0⟩ : ∃ w0, w0 = ((w5.setCell ⟨w1.heap.size, 0, none⟩ (.int .i64 W)).setCell ⟨w1.heap.size, 1, none⟩ (.int .i64 H)).setCell ⟨w1.heap.size, 2, none⟩ (.slice (some ⟨o, 0, none⟩) n co) := ⟨_, rfl⟩
    rw [← hw0] at H0
    rw [← hP] at H0
    have sB : w0.cell? ⟨w.heap.size + 1, 2, none⟩ = some (.slice (some ⟨b', off', none⟩) n c') := by
      rw [hw0]
      simp [go_sem, ↓IntWalk.iteOmega, *]
    rw [← hw0]
    rw [← hP]
    have lB : w.heap.size + 1 < w0.heap.size := by have := H0.out.1.lt; have := H0.out.2.2.2.2.2.1; omega
    clear hP hw0 hb5 hr5 hg5 hc5 hf5 hz5 H1 T1 hz z0 z1 z2 z3
    go_wp2
    clear sB
    go_loopw [30] (fun i wr => ∃ (k : Nat) (K : Nat → Nat → Int), k ≤ n ∧ i = .int .i64 k ∧ Hid (AMv w P o co W H n K wr ∧ Half n k (adG A B) A K)) (fun i _ => n - (intOf i).toNat)
    case atStart => exact ⟨0, _, Nat.zero_le _, rfl, Lib.hid ⟨H0.out, half_zero _ _ _⟩⟩
    case round =>
      obtain ⟨k, K, hk, rfl, HH⟩ := hrel
      obtain ⟨tP, hrow, tR, qo, qP, qs, hBw⟩ := HH.out.1
      have lP := tP.lt
      have P0 := tP.c0
      have P1 := tP.c1
      have P2 := tP.c2
      have R0 := tR.c0
      have R1 := tR.c1
      have R2 := tR.c2
      have r0 := tR.free 0
      have r1 := tR.free 1
      have r2 := tR.free 2
      have lR := tR.lt
      have lo := hrow.1
      have HW := Lib.hid hBw
      by_cases hlk : k < n
      · obtain ⟨e0, e1, e2, e3⟩ := HB.out.get hBw hlt' hlk
        obtain ⟨a0, a1, a2, a3⟩ := hrow.at4 hlk
        obtain ⟨f0, f1, f2, f3⟩ := hrow.free4 hlk
        rw [HH.out.2.2 k (Nat.le_refl _) hlk 0 (by omega)] at a0
        rw [HH.out.2.2 k (Nat.le_refl _) hlk 1 (by omega)] at a1
        rw [HH.out.2.2 k (Nat.le_refl _) hlk 2 (by omega)] at a2
        rw [HH.out.2.2 k (Nat.le_refl _) hlk 3 (by omega)] at a3
        have hsz := hBw.size
        have KA := Lib.hid (OA.out.1 k hlk)
        have KB := Lib.hid (OB.out.1 k hlk)
        have p0 : (0 : Int) ≤ (k : Int) := by omega
        have p1 : (k : Int) < (n : Int) := by omega
        clear hrow tP tR hBw
        by_cases hx : Ok4 (A k 0 + B k 0) (A k 1 + B k 1) (A k 2 + B k 2) (A k 3 + B k 3)
        · have KS := Lib.hid hx; clear hx
          go_wp2
          go_region_held3 (fun w' => w'.cell? ⟨P, 2, none⟩ = some (.slice (some ⟨o, 0, none⟩) n co) ∧ w'.cell? ⟨o, k * 4, none⟩ = some (.int .i64 (A k 0)) ∧ w'.cell? ⟨o, k * 4 + 1, none⟩ = some (.int .i64 (A k 1)) ∧ w'.cell? ⟨o, k * 4 + 2, none⟩ = some (.int .i64 (A k 2)) ∧ w'.cell? ⟨o, k * 4 + 3, none⟩ = some (.int .i64 (A k 3)) ∧ w'.cell? ⟨wr.heap.size, 0, none⟩ = some (.int .i64 (B k 0)) ∧ w'.cell? ⟨wr.heap.size, 1, none⟩ = some (.int .i64 (B k 1)) ∧ w'.cell? ⟨wr.heap.size, 2, none⟩ = some (.int .i64 (B k 2)) ∧ w'.cell? ⟨wr.heap.size, 3, none⟩ = some (.int .i64 (B k 3))) (first | (go_split_ands; (try dsimp only); refine ⟨?_, ?_, ?_, ?_, ?_, ?_, ?_, ?_, ?_⟩ <;> (first | (with_reducible assumption) | (with_reducible exact keep_cell (by assumption) (by first | omega | (simp; done) | (simp; omega)) (by assumption)) | (with_reducible exact (World.cell?_alloc_past _ _ _ (by show _ < _; omega)).trans (by assumption)) | (with_reducible exact (World.cell?_alloc_past _ _ _ (by show _ < _; omega)).trans ((World.cell?_alloc_past _ _ _ (by show _ < _; omega)).symm.trans (by assumption))) | (simp [go_sem]; with_reducible assumption))) | (simp [go_sem, ↓IntWalk.iteOmega, *]; done)) ((go_at_call 182; (with_reducible refine (added_ok _ _ _ _ _ _ _ _ _ KA.out KB.out KS.out).mono ?_); rintro e w7 ⟨rfl, hb7⟩; obtain ⟨hc7, hf7, hz7⟩ := bcall hb7; (try simp at hc7 hf7 hz7)))
          all_goals
            go_wp2
            clear hc7 hf7
            go_roundw
            case rel => exact ⟨k + 1, _, by omega, by go_num, Lib.hid (add_rel HH.out hlk (by (repeat' (first | (with_reducible exact Below.refl _ _) | (with_reducible refine Below.setCell ?_ (by first | omega | (simp; done) | (simp; omega)) _) | (with_reducible refine Below.alloc ?_ (by first | omega | (simp; done) | (simp; omega)) _) | (with_reducible refine Below.drew ?_) | (with_reducible refine below_drewN ?_ _) | (with_reducible refine Below.trans ?_ (Below.mono (by assumption) (by first | omega | (simp; done) | (simp; omega))))))))⟩
            case measure => simp [intOf]; omega
        · have KS := Lib.hid hx; clear hx
          go_wp2
          go_region_held3 (fun w' => w'.cell? ⟨P, 2, none⟩ = some (.slice (some ⟨o, 0, none⟩) n co) ∧ w'.cell? ⟨o, k * 4, none⟩ = some (.int .i64 (A k 0)) ∧ w'.cell? ⟨o, k * 4 + 1, none⟩ = some (.int .i64 (A k 1)) ∧ w'.cell? ⟨o, k * 4 + 2, none⟩ = some (.int .i64 (A k 2)) ∧ w'.cell? ⟨o, k * 4 + 3, none⟩ = some (.int .i64 (A k 3)) ∧ w'.cell? ⟨wr.heap.size, 0, none⟩ = some (.int .i64 (B k 0)) ∧ w'.cell? ⟨wr.heap.size, 1, none⟩ = some (.int .i64 (B k 1)) ∧ w'.cell? ⟨wr.heap.size, 2, none⟩ = some (.int .i64 (B k 2)) ∧ w'.cell? ⟨wr.heap.size, 3, none⟩ = some (.int .i64 (B k 3))) (first | (go_split_ands; (try dsimp only); refine ⟨?_, ?_, ?_, ?_, ?_, ?_, ?_, ?_, ?_⟩ <;> (first | (with_reducible assumption) | (with_reducible exact keep_cell (by assumption) (by first | omega | (simp; done) | (simp; omega)) (by assumption)) | (with_reducible exact (World.cell?_alloc_past _ _ _ (by show _ < _; omega)).trans (by assumption)) | (with_reducible exact (World.cell?_alloc_past _ _ _ (by show _ < _; omega)).trans ((World.cell?_alloc_past _ _ _ (by show _ < _; omega)).symm.trans (by assumption))) | (simp [go_sem]; with_reducible assumption))) | (simp [go_sem, ↓IntWalk.iteOmega, *]; done)) ((go_at_call 182; (with_reducible refine (added_limit _ _ _ _ _ _ _ _ _ KA.out KB.out KS.out).mono ?_); rintro e w7 ⟨rfl, hb7⟩; obtain ⟨hc7, hf7, hz7⟩ := bcall hb7; (try simp at hc7 hf7 hz7)))
          all_goals
            go_wp2
            refine bodyPost_ret (v := .tuple #[.agg #[.int .i64 0, .int .i64 0, .slice (none) 0 0], .int .i64 4]) (by simp [results, Tryd.results186, go_sem, ↓IntWalk.iteOmega, *]) rfl ⟨rfl, ?_⟩
            have hW := HW.out
            (repeat' (first | (with_reducible exact Below.refl _ _) | (with_reducible refine Below.setCell ?_ (by first | omega | (simp; done) | (simp; omega)) _) | (with_reducible refine Below.alloc ?_ (by first | omega | (simp; done) | (simp; omega)) _) | (with_reducible refine Below.drew ?_) | (with_reducible refine below_drewN ?_ _) | (with_reducible refine Below.trans ?_ (Below.mono (by assumption) (by first | omega | (simp; done) | (simp; omega))))))
      · obtain rfl : n = k := by omega
        have HV := Lib.hid (fun w' (hb : Below wr.heap.size wr w') => gValid_bad W H (some ⟨o, 0, none⟩) n co (adG A B) w' (fun h => OS.out h.2.2) (((hrow.eqG (half_all HH.out.2)).cellsIn).below hb))
        clear hrow tP tR hBw
        go_wp2_with (go_at_call 83; (with_reducible refine (HV.out _ (by (repeat' (first | (with_reducible exact Below.refl _ _) | (with_reducible refine Below.setCell ?_ (by first | omega | (simp; done) | (simp; omega)) _) | (with_reducible refine Below.alloc ?_ (by first | omega | (simp; done) | (simp; omega)) _) | (with_reducible refine Below.drew ?_) | (with_reducible refine below_drewN ?_ _) | (with_reducible refine Below.trans ?_ (Below.mono (by assumption) (by first | omega | (simp; done) | (simp; omega)))))))).mono ?_); rintro e w7 ⟨rfl, hb7⟩; obtain ⟨hc7, hf7, hz7⟩ := bcall hb7; (try simp at hc7 hf7 hz7))
        refine bodyPost_ret (v := .tuple #[.agg #[.int .i64 0, .int .i64 0, .slice (none) 0 0], .int .i64 4]) (by simp [results, Tryd.results186, go_sem, ↓IntWalk.iteOmega, *]) rfl ⟨rfl, ?_⟩
        have hW := HW.out
        (repeat' (first | (with_reducible exact Below.refl _ _) | (with_reducible refine Below.setCell ?_ (by first | omega | (simp; done) | (simp; omega)) _) | (with_reducible refine Below.alloc ?_ (by first | omega | (simp; done) | (simp; omega)) _) | (with_reducible refine Below.drew ?_) | (with_reducible refine below_drewN ?_ _) | (with_reducible refine Below.trans ?_ (Below.mono (by assumption) (by first | omega | (simp; done) | (simp; omega))))))

end Go.Proofs.YtglkikdjchpmjaaDoor

namespace Go.Proofs.YtglkikdjchpmjaaDoor
set_option linter.unusedSimpArgs false
set_option linter.unusedVariables false
open Go.RowKit

theorem ad_bd {A B : Nat → Nat → Int} {n : Nat} (hA : OkG n A) (hB : OkG n B) : ∀ i, i < n → 0 ≤ adG A B i 0 ∧ adG A B i 0 ≤ 2000000000 ∧ 0 ≤ adG A B i 1 ∧ adG A B i 1 ≤ 2000000000 ∧ 0 ≤ adG A B i 2 ∧ adG A B i 2 ≤ 2000000000 ∧ 0 ≤ adG A B i 3 ∧ adG A B i 3 ≤ 2000000000 := by
  intro i hi
  obtain ⟨a0, a1, a2, a3, a4⟩ := hA.1 i hi
  obtain ⟨b0, b1, b2, b3, b4⟩ := hB.1 i hi
  unfold adG
  omega
theorem radd_start {w w1 wo : World} {o co n : Nat} {W H : Int} {A : Nat → Nat → Int} (h1 : Below w.heap.size w w1) (t1 : Three w1 (w.heap.size + 1 + 1) 24 (.int .i64 0) (.int .i64 0) (.slice none 0 0)) (h5 : Below w1.heap.size w1 wo) (hr : Row wo o n A) (ho : w1.heap.size + 1 ≤ o) :
    AMv w wo.heap.size o co W H n A (wo.alloc (.cells #[.int .i64 W, .int .i64 H, .slice (some ⟨o, 0, none⟩) n co] 24)) := by
  have l1 := t1.lt
  have s5 := h5.size
  have lo := hr.1
  have x : Ex (fun _ => False) wo (wo.alloc (.cells #[.int .i64 W, .int .i64 H, .slice (some ⟨o, 0, none⟩) n co] 24)) := (Ex.refl _ _).alloc _
  exact ⟨Three.new0 wo _ _ _ _, hr.ex x (fun h => h), (t1.below h5 l1).ex x (fun h => h), by omega, by omega, by omega, (h1.trans (h5.mono h1.size)).alloc (by have := h1.size; omega) _⟩

theorem radd_rel {w wr X : World} {P o co : Nat} {W H : Int} {n k : Nat} {A B K : Nat → Nat → Int} {v : Value} (h : AMv w P o co W H n K wr ∧ Half n k (adG A B) A K ∧ wr.cell? ⟨w.heap.size + 1, 2, none⟩ = some v) (hk : k < n) (hl : w.heap.size + 1 < wr.heap.size) (hX : Below wr.heap.size wr X) :
    AMv w P o co W H n (upd (upd (upd (upd K k 0 (adG A B k 0)) k 1 (adG A B k 1)) k 2 (adG A B k 2)) k 3 (adG A B k 3)) ((((X.setCell ⟨o, k * 4, none⟩ (.int .i64 (A k 0 + B k 0))).setCell ⟨o, k * 4 + 1, none⟩ (.int .i64 (A k 1 + B k 1))).setCell ⟨o, k * 4 + 2, none⟩ (.int .i64 (A k 2 + B k 2))).setCell ⟨o, k * 4 + 3, none⟩ (.int .i64 (A k 3 + B k 3))) ∧
    Half n (k + 1) (adG A B) A (upd (upd (upd (upd K k 0 (adG A B k 0)) k 1 (adG A B k 1)) k 2 (adG A B k 2)) k 3 (adG A B k 3)) ∧
    ((((X.setCell ⟨o, k * 4, none⟩ (.int .i64 (A k 0 + B k 0))).setCell ⟨o, k * 4 + 1, none⟩ (.int .i64 (A k 1 + B k 1))).setCell ⟨o, k * 4 + 2, none⟩ (.int .i64 (A k 2 + B k 2))).setCell ⟨o, k * 4 + 3, none⟩ (.int .i64 (A k 3 + B k 3))).cell? ⟨w.heap.size + 1, 2, none⟩ = some v := by
  obtain ⟨q1, q2⟩ := add_rel ⟨h.1, h.2.1⟩ hk hX
  have x := Ex.of_below (S := fun _ => False) hX
  obtain ⟨c1, _⟩ := chain1 (h.1.2.1.ex x (fun h => h)) hk (A k 0 + B k 0) (A k 1 + B k 1) (A k 2 + B k 2) (A k 3 + B k 3)
  have qo := h.1.2.2.2.1
  exact ⟨q1, q2, ((c1.cell (Nat.lt_of_lt_of_le hl hX.size) (by omega)).trans (hX.cell (p := ⟨w.heap.size + 1, 2, none⟩) hl)).trans h.2.2⟩
/-- What Added gives. -/
def RAd (W H : Int) (n : Nat) (A B : Nat → Nat → Int) (w : World) (e : Ending) (w' : World) : Prop := (wt A n + wt B n ≤ 1000000000 ∧ Made W H n (adG A B) w e w') ∨ (¬ wt A n + wt B n ≤ 1000000000 ∧ e = .returned (.tuple #[.agg #[.int .i64 0, .int .i64 0, .slice (none) 0 0], .int .i64 4]) ∧ Below w.heap.size w w')

end Go.Proofs.YtglkikdjchpmjaaDoor

/- Added, of grids given as arguments; grids that are not the same. -/


namespace Go.Proofs.YtglkikdjchpmjaaDoor
set_option linter.unusedSimpArgs false
set_option linter.unusedVariables false
open Go.RowKit

theorem gAddedI_ok (W H : Int) (n c c' : Nat) (ao ao' : Option Addr) (A B : Nat → Nat → Int) (w : World) (ha : VG W H n A) (hb' : VG W H n B) (hA : CellsIn w ao n A) (hB : CellsIn w ao' n B) (hs : wt A n + wt B n ≤ 1000000000) :
    Calls Tryd.prog 186 #[.agg #[.int .i64 W, .int .i64 H, .slice (ao) n c], .agg #[.int .i64 W, .int .i64 H, .slice (ao') n c']] w (Made W H n (adG A B) w) := by
  obtain ⟨W', H', rfl, rfl, s, _⟩ := Sides.vg ha
  obtain ⟨b, off, rfl, hlt, hA⟩ := cells_of s hA
  obtain ⟨b', off', rfl, hlt', hB⟩ := cells_of s hB
  exact gAdded_ok _ _ n c c' b off b' off' A B w ha hb' hlt hlt' hA hB ((ad_ok ha.2.2 hb'.2.2).2 hs)
theorem gAddedI_limit (W H : Int) (n c c' : Nat) (ao ao' : Option Addr) (A B : Nat → Nat → Int) (w : World) (ha : VG W H n A) (hb' : VG W H n B) (hA : CellsIn w ao n A) (hB : CellsIn w ao' n B) (hs : 1000000000 < wt A n + wt B n) :
    Calls Tryd.prog 186 #[.agg #[.int .i64 W, .int .i64 H, .slice (ao) n c], .agg #[.int .i64 W, .int .i64 H, .slice (ao') n c']] w fun e w' => e = .returned (.tuple #[.agg #[.int .i64 0, .int .i64 0, .slice (none) 0 0], .int .i64 4]) ∧ Below w.heap.size w w' := by
  obtain ⟨W', H', rfl, rfl, s, _⟩ := Sides.vg ha
  obtain ⟨b, off, rfl, hlt, hA⟩ := cells_of s hA
  obtain ⟨b', off', rfl, hlt', hB⟩ := cells_of s hB
  exact gAdded_limit _ _ n c c' b off b' off' A B w ha hb' hlt hlt' hA hB (fun k => by have := (ad_ok ha.2.2 hb'.2.2).1 k; omega)
end Go.Proofs.YtglkikdjchpmjaaDoor
