/- Levels: Even and Blocks, by both. -/
import Derived.Test.YtpnfppcmklcinaaKLevH
import Derived.Test.YtpnfppcmklcinaaKDiff
import Derived.Deep.RegionHeld3
namespace Go.Proofs.Ytpnfppcmklcinaa
set_option linter.unusedSimpArgs false
set_option linter.unusedVariables false
open Go.RowKit

theorem sameB_eq {n : Nat} {G K : Nat → Nat → Int} {b1 b2 : Bool} (h1 : SameB n G K b1) (h2 : SameB n G K b2) : b1 = b2 := by
  unfold SameB at h1 h2
  cases b1 <;> cases b2 <;> simp_all
theorem sameB_ex (n : Nat) (G K : Nat → Nat → Int) : ∃ bb, SameB n G K bb := by
  by_cases h : EqG n G K
  · exact ⟨true, fun _ => h, fun _ => rfl⟩
  · exact ⟨false, fun e => (by cases e), fun e => absurd e h⟩

attribute [local irreducible] wpStill
set_option maxRecDepth 100000 in
set_option maxHeartbeats 4000000 in
theorem even_err (W H : Int) (m cap : Nat) (ao : Option Addr) (K : Nat → Nat → Int) (z : Int) (w : World) (hz : z ≠ 0) (h : ∀ w', Below w.heap.size w w' → Calls Try.prog 47 #[.agg #[.int .i64 W, .int .i64 H, .slice (ao) m cap]] w' (GZ 0 0 0 K z w')) :
    Calls Try.prog 49 #[.agg #[.int .i64 W, .int .i64 H, .slice (ao) m cap]] w fun e w' => e = .returned (.tuple #[.bool false, .int .i64 z]) ∧ Below w.heap.size w w' := by
  have CP := Lib.hid h
  have z0 : (z == 0) = false := beq_eq_false_iff_ne.2 hz
  have z1 : (z != 0) = true := by simp [bne, z0]
  clear h hz
  go_enter Try.func49, Try.ntmps49
  go_wp2_with (go_at_call 47; (with_reducible refine (CP.out _ (by (repeat' (first | (with_reducible exact Below.refl _ _) | (with_reducible refine Below.setCell ?_ (by first | omega | (simp; done) | (simp; omega)) _) | (with_reducible refine Below.alloc ?_ (by first | omega | (simp; done) | (simp; omega)) _) | (with_reducible refine Below.drew ?_) | (with_reducible refine below_drewN ?_ _) | (with_reducible refine Below.trans ?_ (Below.mono (by assumption) (by first | omega | (simp; done) | (simp; omega)))))))).mono ?_); rintro e w2 ⟨o, co, rfl, ho, _, hb⟩; obtain ⟨hc, hf, hz⟩ := bcall hb; (try simp at hc hf hz))
  refine bodyPost_ret (v := .tuple #[.bool false, .int .i64 z]) (by simp [results, Try.results49, go_sem, ↓IntWalk.iteOmega, *]) rfl ⟨rfl, ?_⟩
  (repeat' (first | (with_reducible exact Below.refl _ _) | (with_reducible refine Below.setCell ?_ (by first | omega | (simp; done) | (simp; omega)) _) | (with_reducible refine Below.alloc ?_ (by first | omega | (simp; done) | (simp; omega)) _) | (with_reducible refine Below.drew ?_) | (with_reducible refine below_drewN ?_ _) | (with_reducible refine Below.trans ?_ (Below.mono (by assumption) (by first | omega | (simp; done) | (simp; omega))))))
set_option maxRecDepth 100000 in
set_option maxHeartbeats 4000000 in
theorem reven_err (W H : Int) (m cap : Nat) (ao : Option Addr) (z : Int) (w : World) (hz : z ≠ 0) (h : ∀ w', Below w.heap.size w w' → Calls Try.prog 113 #[.agg #[.int .i64 W, .int .i64 H, .slice (ao) m cap]] w' fun e w'' => e = .returned (.int .i64 z) ∧ Below w'.heap.size w' w'') :
    Calls Try.prog 50 #[.agg #[.int .i64 W, .int .i64 H, .slice (ao) m cap]] w fun e w' => e = .returned (.tuple #[.bool false, .int .i64 z]) ∧ Below w.heap.size w w' := by
  have CP := Lib.hid h
  have z0 : (z == 0) = false := beq_eq_false_iff_ne.2 hz
  have z1 : (z != 0) = true := by simp [bne, z0]
  clear h hz
  go_enter Try.func50, Try.ntmps50
  go_wp2_with (go_at_call 113; (with_reducible refine (CP.out _ (by (repeat' (first | (with_reducible exact Below.refl _ _) | (with_reducible refine Below.setCell ?_ (by first | omega | (simp; done) | (simp; omega)) _) | (with_reducible refine Below.alloc ?_ (by first | omega | (simp; done) | (simp; omega)) _) | (with_reducible refine Below.drew ?_) | (with_reducible refine below_drewN ?_ _) | (with_reducible refine Below.trans ?_ (Below.mono (by assumption) (by first | omega | (simp; done) | (simp; omega)))))))).mono ?_); rintro e w1 ⟨rfl, hb⟩; obtain ⟨hc, hf, hz⟩ := bcall hb; (try simp at hc hf hz))
  refine bodyPost_ret (v := .tuple #[.bool false, .int .i64 z]) (by simp [results, Try.results50, go_sem, ↓IntWalk.iteOmega, *]) rfl ⟨rfl, ?_⟩
  (repeat' (first | (with_reducible exact Below.refl _ _) | (with_reducible refine Below.setCell ?_ (by first | omega | (simp; done) | (simp; omega)) _) | (with_reducible refine Below.alloc ?_ (by first | omega | (simp; done) | (simp; omega)) _) | (with_reducible refine Below.drew ?_) | (with_reducible refine below_drewN ?_ _) | (with_reducible refine Below.trans ?_ (Below.mono (by assumption) (by first | omega | (simp; done) | (simp; omega))))))
set_option maxRecDepth 100000 in
set_option maxHeartbeats 4000000 in
theorem even_in (bb : Bool) (W H n m cap : Nat) (ao : Option Addr) (G : Nat → Nat → Int) (w : World) (s : Sides W H n) (hm : m = n * 4) (h2 : Sides (2 * W) (2 * H) m) (hG : OkG m G) (hC : CellsIn w ao m G) (hbb : SameB m (refG W (coaG W G)) G bb) :
    Calls Try.prog 49 #[.agg #[.int .i64 (2 * (W : Int)), .int .i64 (2 * (H : Int)), .slice (ao) m cap]] w fun e w' => e = .returned (.tuple #[.bool bb, .int .i64 0]) ∧ Below w.heap.size w w' := by
  have CP := Lib.hid (fun w' (hb : Below w.heap.size w w') => show Calls Try.prog 47 #[.agg #[.int .i64 (2 * (W : Int)), .int .i64 (2 * (H : Int)), .slice (ao) m cap]] w' (GZ W H n (coaG W G) 0 w') from by
    obtain ⟨b, off, rfl, hlt, hGr⟩ := cells_of1 h2 (hC.below hb)
    exact (coarsen_in W H b off n m cap G w' s hm h2 hG hlt hGr).mono fun _ _ h => gz_made h)
  have RP := Lib.hid (fun w' ao' c' (h : CellsIn w' ao' n (coaG W G)) => show Calls Try.prog 44 #[.agg #[.int .i64 W, .int .i64 H, .slice (ao') n c']] w' (GZ (2 * (W : Int)) (2 * (H : Int)) m (refG W (coaG W G)) 0 w') from by
    obtain ⟨b, off, rfl, hlt, hGr⟩ := cells_of1 s h
    exact (refine_in W H b off n m c' (coaG W G) w' s (okG_coa s.n0 hm hG) hlt hGr hm h2).mono fun _ _ h => gz_made h)
  have HC := Lib.hid hC
  have hm2 := h2.n1
  have EQ := Lib.hid (fun w' ao' c' (h : CellsIn w' ao' m (refG W (coaG W G))) (hb : Below w.heap.size w w') => equalCells_any ao' ao m c' cap (refG W (coaG W G)) G w' (by omega) h (hC.below hb))
  have HB := Lib.hid hbb
  clear s hm h2 hG hC hbb
  go_enter Try.func49, Try.ntmps49
  go_wp2_with (first | (go_at_call 47; (with_reducible refine (CP.out _ (by (repeat' (first | (with_reducible exact Below.refl _ _) | (with_reducible refine Below.setCell ?_ (by first | omega | (simp; done) | (simp; omega)) _) | (with_reducible refine Below.alloc ?_ (by first | omega | (simp; done) | (simp; omega)) _) | (with_reducible refine Below.drew ?_) | (with_reducible refine below_drewN ?_ _) | (with_reducible refine Below.trans ?_ (Below.mono (by assumption) (by first | omega | (simp; done) | (simp; omega)))))))).mono ?_); rintro e w2 ⟨o, co, rfl, ho, _, hb⟩; have HO := Lib.hid ho.out; obtain ⟨hc, hf, hz⟩ := bcall hb; (try simp at hc hf hz)) | (go_at_call 44; (with_reducible refine (RP.out _ _ _ (HO.out.below (show Below w2.heap.size w2 _ from by (repeat' (first | (with_reducible exact Below.refl _ _) | (with_reducible refine Below.setCell ?_ (by first | omega | (simp; done) | (simp; omega)) _) | (with_reducible refine Below.alloc ?_ (by first | omega | (simp; done) | (simp; omega)) _) | (with_reducible refine Below.drew ?_) | (with_reducible refine below_drewN ?_ _) | (with_reducible refine Below.trans ?_ (Below.mono (by assumption) (by first | omega | (simp; done) | (simp; omega))))))))).mono ?_); rintro e w3 ⟨o3, c3, rfl, ho3, _, hb⟩; have HO3 := Lib.hid ho3.out; obtain ⟨hc, hf, hz⟩ := bcall hb; (try simp at hc hf hz)) | (go_at_call 115; (with_reducible refine (EQ.out _ _ _ (HO3.out.below (show Below w3.heap.size w3 _ from by (repeat' (first | (with_reducible exact Below.refl _ _) | (with_reducible refine Below.setCell ?_ (by first | omega | (simp; done) | (simp; omega)) _) | (with_reducible refine Below.alloc ?_ (by first | omega | (simp; done) | (simp; omega)) _) | (with_reducible refine Below.drew ?_) | (with_reducible refine below_drewN ?_ _) | (with_reducible refine Below.trans ?_ (Below.mono (by assumption) (by first | omega | (simp; done) | (simp; omega)))))))) (by (repeat' (first | (with_reducible exact Below.refl _ _) | (with_reducible refine Below.setCell ?_ (by first | omega | (simp; done) | (simp; omega)) _) | (with_reducible refine Below.alloc ?_ (by first | omega | (simp; done) | (simp; omega)) _) | (with_reducible refine Below.drew ?_) | (with_reducible refine below_drewN ?_ _) | (with_reducible refine Below.trans ?_ (Below.mono (by assumption) (by first | omega | (simp; done) | (simp; omega)))))))).mono ?_); rintro e w4 ⟨bb', rfl, hs, hb⟩; obtain rfl := sameB_eq HB.out hs; clear hs))
  refine bodyPost_ret (v := .tuple #[.bool bb, .int .i64 0]) (by simp [results, Try.results49, go_sem, ↓IntWalk.iteOmega, *]) rfl ⟨rfl, ?_⟩
  (repeat' (first | (with_reducible exact Below.refl _ _) | (with_reducible refine Below.setCell ?_ (by first | omega | (simp; done) | (simp; omega)) _) | (with_reducible refine Below.alloc ?_ (by first | omega | (simp; done) | (simp; omega)) _) | (with_reducible refine Below.drew ?_) | (with_reducible refine below_drewN ?_ _) | (with_reducible refine Below.trans ?_ (Below.mono (by assumption) (by first | omega | (simp; done) | (simp; omega))))))
set_option maxRecDepth 100000 in
set_option maxHeartbeats 8000000 in
theorem reven_in (bb : Bool) (W H b off n m cap : Nat) (G : Nat → Nat → Int) (w : World) (s : Sides W H n) (hm : m = n * 4) (h2 : Sides (2 * W) (2 * H) m) (hG : OkG m G) (hlt : b < w.heap.size) (hC : Grd w b off m G) (hbb : SameB m (refG W (coaG W G)) G bb) :
    Calls Try.prog 50 #[.agg #[.int .i64 (2 * (W : Int)), .int .i64 (2 * (H : Int)), .slice (some ⟨b, off, none⟩) m cap]] w fun e w' => e = .returned (.tuple #[.bool bb, .int .i64 0]) ∧ Below w.heap.size w w' := by
  have EV := Lib.hid (fun w' (hb : Below w.heap.size w w') => even6_ok W H m cap (some ⟨b, off, none⟩) G w' h2 hG (getI hC hb hlt))
  have CO := Lib.hid (fun w' (hb : Below w.heap.size w w') => coarsened_in W H b off n m cap G w' s hm h2 hG (Nat.lt_of_lt_of_le hlt hb.size) (hC.below hb hlt))
  have RF := Lib.hid (fun w' b' c' (h : Row w' b' n (coaG W G)) => refined_in W H b' 0 n m c' (coaG W G) w' s (okG_coa s.n0 hm hG) h.1 h.grd hm h2)
  have hm2 := h2.n1
  have SG := Lib.hid (fun w' b' c' (h : Row w' b' m (refG W (coaG W G))) (hb : Below w.heap.size w w') => sameGrid6_any (2 * (W : Int)) (2 * (H : Int)) (some ⟨b', 0, none⟩) (some ⟨b, off, none⟩) m c' cap (refG W (coaG W G)) G w' (by omega) h.cellsIn (getI hC hb hlt))
  have HB := Lib.hid hbb
  clear s hm h2 hG hC hbb
  go_enter Try.func50, Try.ntmps50
  go_wp2_with (go_at_call 113; (with_reducible refine (EV.out _ (by (repeat' (first | (with_reducible exact Below.refl _ _) | (with_reducible refine Below.setCell ?_ (by first | omega | (simp; done) | (simp; omega)) _) | (with_reducible refine Below.alloc ?_ (by first | omega | (simp; done) | (simp; omega)) _) | (with_reducible refine Below.drew ?_) | (with_reducible refine below_drewN ?_ _) | (with_reducible refine Below.trans ?_ (Below.mono (by assumption) (by first | omega | (simp; done) | (simp; omega)))))))).mono ?_); rintro e w1 ⟨rfl, hb⟩; obtain ⟨hc, hf, hz⟩ := bcall hb; (try simp at hc hf hz))
  have k0 : w1.cell? ⟨w.heap.size, 0, none⟩ = some (.int .i64 (2 * (W : Int))) := by simp [go_sem, ↓IntWalk.iteOmega, *]
  have k1 : w1.cell? ⟨w.heap.size, 1, none⟩ = some (.int .i64 (2 * (H : Int))) := by simp [go_sem, ↓IntWalk.iteOmega, *]
  have k2 : w1.cell? ⟨w.heap.size, 2, none⟩ = some (.slice (some ⟨b, off, none⟩) m cap) := by simp [go_sem, ↓IntWalk.iteOmega, *]
  have B1 := Lib.hid (show Below w.heap.size w w1 from by (repeat' (first | (with_reducible exact Below.refl _ _) | (with_reducible refine Below.setCell ?_ (by first | omega | (simp; done) | (simp; omega)) _) | (with_reducible refine Below.alloc ?_ (by first | omega | (simp; done) | (simp; omega)) _) | (with_reducible refine Below.drew ?_) | (with_reducible refine below_drewN ?_ _) | (with_reducible refine Below.trans ?_ (Below.mono (by assumption) (by first | omega | (simp; done) | (simp; omega)))))))
  have l1 : w.heap.size < w1.heap.size := by omega
  clear hc hf hz hb
  go_region_held3 (fun w' => w'.cell? ⟨w.heap.size, 0, none⟩ = some (.int .i64 (2 * (W : Int))) ∧ w'.cell? ⟨w.heap.size, 1, none⟩ = some (.int .i64 (2 * (H : Int))) ∧ w'.cell? ⟨w.heap.size, 2, none⟩ = some (.slice (some ⟨b, off, none⟩) m cap)) (first | (go_split_ands; (try dsimp only); refine ⟨?_, ?_, ?_⟩ <;> (first | (with_reducible assumption) | (with_reducible exact keep_cell (by assumption) (by first | omega | (simp; done) | (simp; omega)) (by assumption)) | (with_reducible exact (World.cell?_alloc_past _ _ _ (by show _ < _; omega)).trans (by assumption)) | (with_reducible exact (World.cell?_alloc_past _ _ _ (by show _ < _; omega)).trans ((World.cell?_alloc_past _ _ _ (by show _ < _; omega)).symm.trans (by assumption))) | (simp [go_sem]; with_reducible assumption))) | (simp [go_sem, ↓IntWalk.iteOmega, *]; done)) (first | (go_at_call 114; (with_reducible refine (CO.out _ (show Below w.heap.size w w1.drew from B1.out.drew)).mono ?_); rintro e w2 ⟨o, co, rfl, ho, lo, hb2⟩; have HO := Lib.hid ho; have s2 := hb2.size; (try simp at s2); clear ho) | (go_at_call 112; (with_reducible refine (RF.out _ _ _ HO.out).mono ?_); rintro e w3 ⟨o3, c3, rfl, ho3, lo3, hb3⟩; have HO3 := Lib.hid ho3; have s3 := hb3.size; have B3 := Lib.hid (B1.out.trans ((show Below w1.heap.size w1 w3 from (show Below w1.heap.size w1 w1.drew from (Below.refl _ _).drew).trans (hb2.trans (hb3.mono hb2.size))).mono B1.out.size)); clear ho3) | (go_at_call 46; (with_reducible refine (SG.out _ _ _ HO3.out B3.out).mono ?_); rintro e w4 ⟨bb', rfl, hs, hb4⟩; obtain rfl := sameB_eq HB.out hs; clear hs; have B4 := Lib.hid (B3.out.trans (hb4.mono B3.out.size))))
  go_wp2
  refine bodyPost_ret (v := .tuple #[.bool bb, .int .i64 0]) (by simp [results, Try.results50, go_sem, ↓IntWalk.iteOmega, *]) rfl ⟨rfl, ?_⟩
  exact B4.out

theorem even_both (W H : Int) (ao : Option Addr) (m cap : Nat) (G : Nat → Nat → Int) : ∃ (bb : Bool) (z : Int),
    (∀ w, CellsIn w ao m G → Calls Try.prog 49 #[.agg #[.int .i64 W, .int .i64 H, .slice (ao) m cap]] w fun e w' => e = .returned (.tuple #[.bool bb, .int .i64 z]) ∧ Below w.heap.size w w') ∧ (∀ w, CellsIn w ao m G → Calls Try.prog 50 #[.agg #[.int .i64 W, .int .i64 H, .slice (ao) m cap]] w fun e w' => e = .returned (.tuple #[.bool bb, .int .i64 z]) ∧ Below w.heap.size w w') ∧
    (∀ W0 H0 n, CanCoa W H m G W0 H0 n → z = 0 ∧ SameB m (refG W0 (coaG W0 G)) G bb) := by
  obtain ⟨W', H', n', K, z, h1, h2, h3, h4, h5⟩ := coarsen_gz W H ao m cap G
  rcases h4 with ⟨rfl, W0, H0, n, ⟨rfl, rfl, s, hm, s2, hG⟩, rfl, rfl, rfl, rfl⟩ | ⟨hz, rfl, rfl, rfl, hno⟩
  · obtain ⟨bb, hbb⟩ := sameB_ex m (refG W0 (coaG W0 G)) G
    refine ⟨bb, 0, fun w hC => even_in bb W0 H0 n' m cap ao G w s hm s2 hG hC hbb, fun w hC => ?_, fun W1 H1 n1 c => ?_⟩
    · obtain ⟨b, off, rfl, hlt, hGr⟩ := cells_of1 s2 hC
      exact reven_in bb W0 H0 b off n' m cap G w s hm s2 hG hlt hGr hbb
    · obtain rfl : W1 = W0 := by have := c.1; omega
      exact ⟨rfl, hbb⟩
  · exact ⟨false, z, fun w hC => even_err W H m cap ao K z w hz (fun w' hb => h1 w' (hC.below hb)), fun w hC => reven_err W H m cap ao z w hz (fun w' hb => h5 hz w' (hC.below hb)), fun W1 H1 n1 c => absurd c (hno W1 H1 n1)⟩

/-- The numbers below n, as a list. -/
def natL (M : Nat → Nat) : Nat → List Nat
  | 0 => []
  | i + 1 => natL M i ++ [M i]
theorem natL_len (M : Nat → Nat) (i : Nat) : (natL M i).length = i := by
  induction i with
  | zero => rfl
  | succ i ih => simp [natL, ih]
theorem natL_get (M : Nat → Nat) (i j : Nat) (h : j < i) : (natL M i)[j]? = some (M j) := by
  induction i with
  | zero => omega
  | succ i ih =>
    simp only [natL]
    by_cases e : j < i
    · rw [List.getElem?_append_left (by rw [natL_len]; exact e)]
      exact ih e
    · obtain rfl : j = i := by omega
      rw [List.getElem?_append_right (by rw [natL_len]; exact Nat.le_refl _), natL_len]
      simp
/-- A list of numbers and an error. -/
def NZ (n : Nat) (M : Nat → Nat) (z : Int) (w : World) (e : Ending) (w' : World) : Prop :=
  ∃ (ao : Option Addr) (c : Nat), e = .returned (.tuple #[.slice ao n c, .int .i64 z]) ∧ Hid (NumsIn w' ao n (fun i => (M i : Int))) ∧ Below w.heap.size w w'
theorem nz_end {w wr : World} {base n : Nat} {v : Value} {M : Nat → Nat} (h : OwnNums wr base v (natL M n)) (hb : Below w.heap.size w wr) : NZ n M 0 w (.returned (.tuple #[v, .int .i64 0])) wr := by
  obtain ⟨ao, c, rfl, hf⟩ := h.form
  refine ⟨ao, c, by rw [natL_len], Lib.hid ?_, hb⟩
  by_cases hn : n = 0
  · exact .inl hn
  · have hne : natL M n ≠ [] := fun e => hn (by rw [← natL_len M n, e]; rfl)
    obtain ⟨g, rfl, hg, hc⟩ := hf hne
    refine .inr ⟨g, 0, rfl, hg, fun i hi => ?_⟩
    rw [Nat.zero_add]
    exact hc i _ (natL_get M n i hi)
/-- The masses of cells. -/
def cellM (G : Nat → Nat → Int) (i : Nat) : Nat := (G i 0 + G i 1 + G i 2 + G i 3).toNat

set_option maxRecDepth 100000 in
set_option maxHeartbeats 4000000 in
theorem blocks_err (W H : Int) (m cap : Nat) (ao : Option Addr) (K : Nat → Nat → Int) (z : Int) (w : World) (hz : z ≠ 0) (h : ∀ w', Below w.heap.size w w' → Calls Try.prog 47 #[.agg #[.int .i64 W, .int .i64 H, .slice (ao) m cap]] w' (GZ 0 0 0 K z w')) :
    Calls Try.prog 51 #[.agg #[.int .i64 W, .int .i64 H, .slice (ao) m cap]] w (NZ 0 (fun _ => 0) z w) := by
  have CP := Lib.hid h
  have z0 : (z == 0) = false := beq_eq_false_iff_ne.2 hz
  have z1 : (z != 0) = true := by simp [bne, z0]
  clear h hz
  go_enter Try.func51, Try.ntmps51
  go_wp2_with (go_at_call 47; (with_reducible refine (CP.out _ (by (repeat' (first | (with_reducible exact Below.refl _ _) | (with_reducible refine Below.setCell ?_ (by first | omega | (simp; done) | (simp; omega)) _) | (with_reducible refine Below.alloc ?_ (by first | omega | (simp; done) | (simp; omega)) _) | (with_reducible refine Below.drew ?_) | (with_reducible refine below_drewN ?_ _) | (with_reducible refine Below.trans ?_ (Below.mono (by assumption) (by first | omega | (simp; done) | (simp; omega)))))))).mono ?_); rintro e w2 ⟨o, co, rfl, ho, _, hb⟩; obtain ⟨hc, hf, hz⟩ := bcall hb; (try simp at hc hf hz))
  refine bodyPost_ret (v := .tuple #[.slice none 0 0, .int .i64 z]) (by simp [results, Try.results51, go_sem, ↓IntWalk.iteOmega, *]) rfl ⟨none, 0, rfl, Lib.hid (.inl rfl), ?_⟩
  (repeat' (first | (with_reducible exact Below.refl _ _) | (with_reducible refine Below.setCell ?_ (by first | omega | (simp; done) | (simp; omega)) _) | (with_reducible refine Below.alloc ?_ (by first | omega | (simp; done) | (simp; omega)) _) | (with_reducible refine Below.drew ?_) | (with_reducible refine below_drewN ?_ _) | (with_reducible refine Below.trans ?_ (Below.mono (by assumption) (by first | omega | (simp; done) | (simp; omega))))))
set_option maxRecDepth 100000 in
set_option maxHeartbeats 4000000 in
theorem rblocks_err (W H : Int) (m cap : Nat) (ao : Option Addr) (K : Nat → Nat → Int) (z : Int) (w : World) (h : ∀ w', Below w.heap.size w w' → Calls Try.prog 48 #[.agg #[.int .i64 W, .int .i64 H, .slice (ao) m cap]] w' (GZ 0 0 0 K z w')) :
    Calls Try.prog 52 #[.agg #[.int .i64 W, .int .i64 H, .slice (ao) m cap]] w (NZ 0 (fun _ => 0) z w) := by
  have CP := Lib.hid h
  clear h
  go_enter Try.func52, Try.ntmps52
  go_wp2_with (go_at_call 48; (with_reducible refine (CP.out _ (by (repeat' (first | (with_reducible exact Below.refl _ _) | (with_reducible refine Below.setCell ?_ (by first | omega | (simp; done) | (simp; omega)) _) | (with_reducible refine Below.alloc ?_ (by first | omega | (simp; done) | (simp; omega)) _) | (with_reducible refine Below.drew ?_) | (with_reducible refine below_drewN ?_ _) | (with_reducible refine Below.trans ?_ (Below.mono (by assumption) (by first | omega | (simp; done) | (simp; omega)))))))).mono ?_); rintro e w2 ⟨o, co, rfl, ho, _, hb⟩; obtain ⟨hc, hf, hz⟩ := bcall hb; (try simp at hc hf hz))
  refine wp_loop_rounds 1 ?_
  rw [rounds_succ]
  go_wp2
  refine bodyPost_ret (v := .tuple #[.slice none 0 0, .int .i64 z]) (by simp [results, Try.results52, go_sem, ↓IntWalk.iteOmega, *]) rfl ⟨none, 0, rfl, Lib.hid (.inl rfl), ?_⟩
  (repeat' (first | (with_reducible exact Below.refl _ _) | (with_reducible refine Below.setCell ?_ (by first | omega | (simp; done) | (simp; omega)) _) | (with_reducible refine Below.alloc ?_ (by first | omega | (simp; done) | (simp; omega)) _) | (with_reducible refine Below.drew ?_) | (with_reducible refine below_drewN ?_ _) | (with_reducible refine Below.trans ?_ (Below.mono (by assumption) (by first | omega | (simp; done) | (simp; omega))))))
set_option maxRecDepth 100000 in
set_option maxHeartbeats 8000000 in
theorem blocks_in (W H n m cap : Nat) (ao : Option Addr) (G : Nat → Nat → Int) (w : World) (s : Sides W H n) (hm : m = n * 4) (h2 : Sides (2 * W) (2 * H) m) (hG : OkG m G) (hC : CellsIn w ao m G) :
    Calls Try.prog 51 #[.agg #[.int .i64 (2 * (W : Int)), .int .i64 (2 * (H : Int)), .slice (ao) m cap]] w (NZ n (cellM (coaG W G)) 0 w) := by
  have CP := Lib.hid (fun w' (hb : Below w.heap.size w w') => show Calls Try.prog 47 #[.agg #[.int .i64 (2 * (W : Int)), .int .i64 (2 * (H : Int)), .slice (ao) m cap]] w' (Made W H n (coaG W G) w') from by
    obtain ⟨b, off, rfl, hlt, hGr⟩ := cells_of1 h2 (hC.below hb)
    exact coarsen_in W H b off n m cap G w' s hm h2 hG hlt hGr)
  have HK := Lib.hid (okG_coa s.n0 hm hG)
  have hn1 := s.n1
  have hn0 : 1 ≤ n := by
    have h1 := s.w0
    have h2 := s.h0
    have := s.n0
    have : 1 * 1 ≤ W * H := Nat.mul_le_mul h1 h2
    omega
  obtain ⟨i0, hi, hz0, hz1, hz2⟩ := info_parts info_int
  clear s hm h2 hG hC
  obtain ⟨K, hK⟩ : ∃ K, K = coaG W G := ⟨_, rfl⟩
  rw [← hK] at CP HK
  rw [← hK]
  clear hK
  go_enter Try.func51, Try.ntmps51
  go_wp2_with (go_at_call 47; (with_reducible refine (CP.out _ (by (repeat' (first | (with_reducible exact Below.refl _ _) | (with_reducible refine Below.setCell ?_ (by first | omega | (simp; done) | (simp; omega)) _) | (with_reducible refine Below.alloc ?_ (by first | omega | (simp; done) | (simp; omega)) _) | (with_reducible refine Below.drew ?_) | (with_reducible refine below_drewN ?_ _) | (with_reducible refine Below.trans ?_ (Below.mono (by assumption) (by first | omega | (simp; done) | (simp; omega)))))))).mono ?_); rintro e w2 ⟨o, co, rfl, ho, lo, hb⟩; have HO := Lib.hid ho; obtain ⟨hc, hf, hz⟩ := bcall hb; (try simp at hc hf hz lo); clear ho)
  obtain ⟨wl, hwl⟩ : ∃ wl, wl = w2.alloc (.cells #[.int .i64 W, .int .i64 H, .slice (some ⟨o, 0, none⟩) n co] 34) := ⟨_, rfl⟩
  have BB := Lib.hid (show Below w.heap.size w wl from by rw [hwl]; (repeat' (first | (with_reducible exact Below.refl _ _) | (with_reducible refine Below.setCell ?_ (by first | omega | (simp; done) | (simp; omega)) _) | (with_reducible refine Below.alloc ?_ (by first | omega | (simp; done) | (simp; omega)) _) | (with_reducible refine Below.drew ?_) | (with_reducible refine below_drewN ?_ _) | (with_reducible refine Below.trans ?_ (Below.mono (by assumption) (by first | omega | (simp; done) | (simp; omega)))))))
  have HG := Lib.hid (show Grd wl o 0 n K from by
    rcases HO.out with h | ⟨b', o', e, hlt, hGr⟩
    · omega
    · cases e
      rw [hwl]
      exact hGr.below ((Below.refl w2.heap.size w2).alloc (Nat.le_refl _) _) hlt)
  have lo2 : o < wl.heap.size := by
    rcases HO.out with h | ⟨b', o', e, hlt, hGr⟩
    · omega
    · cases e
      rw [hwl]
      simp
      omega
  rw [← hwl]
  clear hwl hc hf hz hb lo
  go_loopw [6, 22] (fun l i wr => ∃ k : Nat, k ≤ n ∧ i = .int .i64 k ∧ Hid (OwnNums wr wl.heap.size l (natL (cellM K) k) ∧ Below wl.heap.size wl wr)) (fun _ i _ => n - (intOf i).toNat)
  case atStart => exact ⟨0, Nat.zero_le _, rfl, Lib.hid ⟨OwnNums.nil _ _, Below.refl _ _⟩⟩
  case round =>
    obtain ⟨k, hk, rfl, HH⟩ := hrel
    by_cases hlk : k < n
    · obtain ⟨e0, e1, e2, e3⟩ := HG.out.get HH.out.2 lo2 hlk
      rw [Nat.zero_add] at e0 e1 e2 e3
      have lo3 : o < wr.heap.size := Nat.lt_of_lt_of_le lo2 HH.out.2.size
      have p0 : (0 : Int) ≤ (k : Int) := by omega
      have p1 : (k : Int) < (n : Int) := by omega
      have KK := Lib.hid (HK.out.1 k hlk)
      have HM := Lib.hid (show K k 0 + K k 1 + K k 2 + K k 3 = (cellM K k : Int) from by
        obtain ⟨_, _, _, _, _⟩ := KK.out
        unfold cellM
        omega)
      have hcm : (cellM K k : Int) ≤ 1000000000 := by
        obtain ⟨_, _, _, _, _⟩ := KK.out
        have := HM.out
        omega
      have hlen := natL_len (cellM K) k
      have HD := Lib.hid (show natL (cellM K) (k + 1) = natL (cellM K) k ++ [cellM K k] from rfl)
      have MC := Lib.hid (fun w' => show Calls Try.prog 116 #[.agg #[.int .i64 (K k 0), .int .i64 (K k 1), .int .i64 (K k 2), .int .i64 (K k 3)]] w' fun e w'' => e = .returned (.tuple #[.int .i64 ((cellM K k : Int)), .int .i64 0]) ∧ Below w'.heap.size w' w'' from by
        have := mass_ok _ _ _ _ w' KK.out
        rw [HM.out] at this
        exact this)
      obtain ⟨c, hc⟩ : ∃ c, c = cellM K k := ⟨_, rfl⟩
      rw [← hc] at HD MC hcm
      obtain ⟨L, hL⟩ : ∃ L, L = natL (cellM K) k := ⟨_, rfl⟩
      rw [← hL] at HD hlen HH
      clear hc hL
      have hW5 := HH.out.2.size
      go_wp2_with (first | (go_at_call 116; (with_reducible refine (MC.out _).mono ?_); rintro e w1 ⟨rfl, hb⟩; obtain ⟨hc, hf, hz⟩ := bcall hb; (try simp at hc hf hz)) | (at_builtin; refine wpList_append_own _ rfl _ _ 35 rfl wl.heap.size 3 i0 (.int .i64 0) 1 8 Try.underlying35 hi hz0 hz1 hz2 rfl (by omega) _ _ _ rfl (HH.out.1.below (by (repeat' (first | (with_reducible exact Below.refl _ _) | (with_reducible refine Below.setCell ?_ (by first | omega | (simp; done) | (simp; omega)) _) | (with_reducible refine Below.alloc ?_ (by first | omega | (simp; done) | (simp; omega)) _) | (with_reducible refine Below.drew ?_) | (with_reducible refine below_drewN ?_ _) | (with_reducible refine Below.trans ?_ (Below.mono (by assumption) (by first | omega | (simp; done) | (simp; omega)))))))) _ 1 1 [.int .i64 c] rfl rfl (by intro j u hu; match j with | 0 => (simp at hu; subst hu; simp only [Addr.add, Nat.zero_add]; exact (World.cell?_alloc_at _ _ _ _ (by simp)).trans rfl) | _ + 1 => simp at hu) (by intro u hu; simp at hu; subst hu; rfl) (by unfold maxLen; omega) (by omega) (by simp; omega) ?_; intro v' w6 hown hgrow _))
      have HN := Lib.hid (own_app HH.out (by (repeat' (first | (with_reducible exact Below.refl _ _) | (with_reducible refine Below.setCell ?_ (by first | omega | (simp; done) | (simp; omega)) _) | (with_reducible refine Below.alloc ?_ (by first | omega | (simp; done) | (simp; omega)) _) | (with_reducible refine Below.drew ?_) | (with_reducible refine below_drewN ?_ _) | (with_reducible refine Below.trans ?_ (Below.mono (by assumption) (by first | omega | (simp; done) | (simp; omega))))))) hown hgrow)
      clear hown hgrow
      go_roundw
      case rel => exact ⟨k + 1, by omega, by go_num, Lib.hid (by rw [HD.out]; exact HN.out)⟩
      case measure => simp [intOf]; omega
    · obtain rfl : k = n := by omega
      go_wp2
      go_ret2
      exact nz_end HH.out.1 (BB.out.trans (HH.out.2.mono BB.out.size))
set_option maxRecDepth 100000 in
set_option maxHeartbeats 8000000 in
theorem rblocks_in (W H n m cap : Nat) (ao : Option Addr) (G : Nat → Nat → Int) (w : World) (s : Sides W H n) (hm : m = n * 4) (h2 : Sides (2 * W) (2 * H) m) (hG : OkG m G) (hC : CellsIn w ao m G) :
    Calls Try.prog 52 #[.agg #[.int .i64 (2 * (W : Int)), .int .i64 (2 * (H : Int)), .slice (ao) m cap]] w (NZ n (cellM (coaG W G)) 0 w) := by
  have CP := Lib.hid (fun w' (hb : Below w.heap.size w w') => show Calls Try.prog 48 #[.agg #[.int .i64 (2 * (W : Int)), .int .i64 (2 * (H : Int)), .slice (ao) m cap]] w' (Made W H n (coaG W G) w') from by
    obtain ⟨b, off, rfl, hlt, hGr⟩ := cells_of1 h2 (hC.below hb)
    exact rcoarsen_in W H b off n m cap G w' s hm h2 hG hlt hGr)
  have HK := Lib.hid (okG_coa s.n0 hm hG)
  have hn1 := s.n1
  have hn0 : 1 ≤ n := by
    have h1 := s.w0
    have h2 := s.h0
    have := s.n0
    have : 1 * 1 ≤ W * H := Nat.mul_le_mul h1 h2
    omega
  obtain ⟨i0, hi, hz0, hz1, hz2⟩ := info_parts info_int
  clear s hm h2 hG hC
  obtain ⟨K, hK⟩ : ∃ K, K = coaG W G := ⟨_, rfl⟩
  rw [← hK] at CP HK
  rw [← hK]
  clear hK
  go_enter Try.func52, Try.ntmps52
  go_wp2_with (go_at_call 48; (with_reducible refine (CP.out _ (by (repeat' (first | (with_reducible exact Below.refl _ _) | (with_reducible refine Below.setCell ?_ (by first | omega | (simp; done) | (simp; omega)) _) | (with_reducible refine Below.alloc ?_ (by first | omega | (simp; done) | (simp; omega)) _) | (with_reducible refine Below.drew ?_) | (with_reducible refine below_drewN ?_ _) | (with_reducible refine Below.trans ?_ (Below.mono (by assumption) (by first | omega | (simp; done) | (simp; omega)))))))).mono ?_); rintro e w2 ⟨o, co, rfl, ho, lo, hb⟩; have HO := Lib.hid ho; obtain ⟨hc, hf, hz⟩ := bcall hb; (try simp at hc hf hz lo); clear ho)
  obtain ⟨wl, hwl⟩ : ∃ wl, wl = w2.alloc (.cells #[.int .i64 W, .int .i64 H, .slice (some ⟨o, 0, none⟩) n co] 34) := ⟨_, rfl⟩
  have BB := Lib.hid (show Below w.heap.size w wl from by rw [hwl]; (repeat' (first | (with_reducible exact Below.refl _ _) | (with_reducible refine Below.setCell ?_ (by first | omega | (simp; done) | (simp; omega)) _) | (with_reducible refine Below.alloc ?_ (by first | omega | (simp; done) | (simp; omega)) _) | (with_reducible refine Below.drew ?_) | (with_reducible refine below_drewN ?_ _) | (with_reducible refine Below.trans ?_ (Below.mono (by assumption) (by first | omega | (simp; done) | (simp; omega)))))))
  have k2 : wl.cell? ⟨w2.heap.size, 2, none⟩ = some (.slice (some ⟨o, 0, none⟩) n co) := by rw [hwl, alloc_cell, if_neg (by omega), if_pos rfl]; rfl
  have l2 : w2.heap.size < wl.heap.size := by rw [hwl]; simp
  have HG := Lib.hid (show Grd wl o 0 n K from by
    rcases HO.out with h | ⟨b', o', e, hlt, hGr⟩
    · omega
    · cases e
      rw [hwl]
      exact hGr.below ((Below.refl w2.heap.size w2).alloc (Nat.le_refl _) _) hlt)
  have lo2 : o < wl.heap.size := by
    rcases HO.out with h | ⟨b', o', e, hlt, hGr⟩
    · omega
    · cases e
      rw [hwl]
      simp
      omega
  rw [← hwl]
  obtain ⟨F, hF⟩ : ∃ F, F = w2.heap.size := ⟨_, rfl⟩
  rw [← hF] at k2 l2
  rw [← hF]
  clear hwl hc hf hz hb lo hF
  go_loopw [6, 7] (fun l i wr => ∃ k : Nat, k ≤ n ∧ i = .int .i64 k ∧ Hid (OwnNums wr wl.heap.size l (natL (cellM K) k) ∧ Below wl.heap.size wl wr)) (fun _ i _ => n - (intOf i).toNat)
  case atStart => exact ⟨0, Nat.zero_le _, rfl, Lib.hid ⟨OwnNums.nil _ _, Below.refl _ _⟩⟩
  case round =>
    obtain ⟨k, hk, rfl, HH⟩ := hrel
    have r2 : wr.cell? ⟨F, 2, none⟩ = some (.slice (some ⟨o, 0, none⟩) n co) := (HH.out.2.cell (p := ⟨F, 2, none⟩) l2).trans k2
    by_cases hlk : k < n
    · obtain ⟨e0, e1, e2, e3⟩ := HG.out.get HH.out.2 lo2 hlk
      rw [Nat.zero_add] at e0 e1 e2 e3
      have lo3 : o < wr.heap.size := Nat.lt_of_lt_of_le lo2 HH.out.2.size
      have lF3 : F < wr.heap.size := Nat.lt_of_lt_of_le l2 HH.out.2.size
      have p0 : (0 : Int) ≤ (k : Int) := by omega
      have p1 : (k : Int) < (n : Int) := by omega
      have KK := Lib.hid (HK.out.1 k hlk)
      have HM := Lib.hid (show K k 0 + K k 1 + K k 2 + K k 3 = (cellM K k : Int) from by
        obtain ⟨_, _, _, _, _⟩ := KK.out
        unfold cellM
        omega)
      have hcm : (cellM K k : Int) ≤ 1000000000 := by
        obtain ⟨_, _, _, _, _⟩ := KK.out
        have := HM.out
        omega
      have hlen := natL_len (cellM K) k
      have HD := Lib.hid (show natL (cellM K) (k + 1) = natL (cellM K) k ++ [cellM K k] from rfl)
      have MC := Lib.hid (fun w' => show Calls Try.prog 117 #[.agg #[.int .i64 (K k 0), .int .i64 (K k 1), .int .i64 (K k 2), .int .i64 (K k 3)]] w' fun e w'' => e = .returned (.int .i64 ((cellM K k : Int))) ∧ Below w'.heap.size w' w'' from by
        have := cellMass6 _ _ _ _ w' KK.out
        rw [HM.out] at this
        exact this)
      obtain ⟨c, hc⟩ : ∃ c, c = cellM K k := ⟨_, rfl⟩
      rw [← hc] at HD MC hcm
      obtain ⟨L, hL⟩ : ∃ L, L = natL (cellM K) k := ⟨_, rfl⟩
      rw [← hL] at HD hlen HH
      clear hc hL
      have hW5 := HH.out.2.size
      go_wp2_with (first | (go_at_call 117; (with_reducible refine (MC.out _).mono ?_); rintro e w1 ⟨rfl, hb⟩; obtain ⟨hc, hf, hz⟩ := bcall hb; (try simp at hc hf hz)) | (at_builtin; refine wpList_append_own _ rfl _ _ 35 rfl wl.heap.size 3 i0 (.int .i64 0) 1 8 Try.underlying35 hi hz0 hz1 hz2 rfl (by omega) _ _ _ rfl (HH.out.1.below (by (repeat' (first | (with_reducible exact Below.refl _ _) | (with_reducible refine Below.setCell ?_ (by first | omega | (simp; done) | (simp; omega)) _) | (with_reducible refine Below.alloc ?_ (by first | omega | (simp; done) | (simp; omega)) _) | (with_reducible refine Below.drew ?_) | (with_reducible refine below_drewN ?_ _) | (with_reducible refine Below.trans ?_ (Below.mono (by assumption) (by first | omega | (simp; done) | (simp; omega)))))))) _ 1 1 [.int .i64 c] rfl rfl (by intro j u hu; match j with | 0 => (simp at hu; subst hu; simp only [Addr.add, Nat.zero_add]; exact (World.cell?_alloc_at _ _ _ _ (by simp)).trans rfl) | _ + 1 => simp at hu) (by intro u hu; simp at hu; subst hu; rfl) (by unfold maxLen; omega) (by omega) (by simp; omega) ?_; intro v' w6 hown hgrow _))
      have HN := Lib.hid (own_app HH.out (by (repeat' (first | (with_reducible exact Below.refl _ _) | (with_reducible refine Below.setCell ?_ (by first | omega | (simp; done) | (simp; omega)) _) | (with_reducible refine Below.alloc ?_ (by first | omega | (simp; done) | (simp; omega)) _) | (with_reducible refine Below.drew ?_) | (with_reducible refine below_drewN ?_ _) | (with_reducible refine Below.trans ?_ (Below.mono (by assumption) (by first | omega | (simp; done) | (simp; omega))))))) hown hgrow)
      clear hown hgrow
      go_roundw
      case rel => exact ⟨k + 1, by omega, by go_num, Lib.hid (by rw [HD.out]; exact HN.out)⟩
      case measure => simp [intOf]; omega
    · obtain rfl : k = n := by omega
      go_wp2
      go_ret2
      exact nz_end HH.out.1 (BB.out.trans (HH.out.2.mono BB.out.size))

theorem blocks_both (W H : Int) (ao : Option Addr) (m cap : Nat) (G : Nat → Nat → Int) : ∃ (n : Nat) (M : Nat → Nat) (z : Int), n ≤ 1024 ∧
    (∀ w, CellsIn w ao m G → Calls Try.prog 51 #[.agg #[.int .i64 W, .int .i64 H, .slice (ao) m cap]] w (NZ n M z w)) ∧ (∀ w, CellsIn w ao m G → Calls Try.prog 52 #[.agg #[.int .i64 W, .int .i64 H, .slice (ao) m cap]] w (NZ n M z w)) := by
  obtain ⟨W', H', n', K, z, h1, h2, h3, h4, h5⟩ := coarsen_gz W H ao m cap G
  rcases h4 with ⟨rfl, W0, H0, n, ⟨rfl, rfl, s, hm, s2, hG⟩, rfl, rfl, rfl, rfl⟩ | ⟨hz, rfl, rfl, rfl, hno⟩
  · exact ⟨n', cellM (coaG W0 G), 0, s.n1, fun w hC => blocks_in W0 H0 n' m cap ao G w s hm s2 hG hC, fun w hC => rblocks_in W0 H0 n' m cap ao G w s hm s2 hG hC⟩
  · exact ⟨0, fun _ => 0, z, by omega, fun w hC => blocks_err W H m cap ao K z w hz (fun w' hb => h1 w' (hC.below hb)), fun w hC => rblocks_err W H m cap ao K z w (fun w' hb => h2 w' (hC.below hb))⟩
end Go.Proofs.Ytpnfppcmklcinaa
