/- Cells in memory of their own, and a new machine: by the program. -/
import Derived.Test.YtmkhbkkhoemkoaaSteps
namespace Go.Proofs.Ytmkhbkkhoemkoaa
set_option linter.unusedSimpArgs false
set_option linter.unusedVariables false
open Go.RowKit

theorem info_cell : (Try.prog.info? 40).map (fun i => (i.zero, i.size, i.bytes)) = some (some (.agg #[.int .i64 0, .int .i64 0, .int .i64 0, .int .i64 0]), 4, 32) := by kernel_rfl

/-- The cells of a grid, one after another. -/
def cellsL (G : Nat → Nat → Int) (n : Nat) : List Value := (List.range (n * 4)).map fun j => .int .i64 (G (j / 4) (j % 4))
theorem cellsL_length (G : Nat → Nat → Int) (n : Nat) : (cellsL G n).length = n * 4 := by simp [cellsL]
theorem cellsL_get (G : Nat → Nat → Int) (n j : Nat) (h : j < n * 4) : (cellsL G n)[j]? = some (.int .i64 (G (j / 4) (j % 4))) := by simp [cellsL, h]
theorem cellsL_one (G : Nat → Nat → Int) (n : Nat) : ∀ u ∈ cellsL G n, u.oneCell' = true := by
  intro u hu
  simp only [cellsL, List.mem_map] at hu
  obtain ⟨j, _, rfl⟩ := hu
  rfl
theorem Grd.flat {w : World} {b off n : Nat} {G : Nat → Nat → Int} (h : Grd w b off n G) (j : Nat) (hj : j < n * 4) : w.cell? ⟨b, off + j, none⟩ = some (.int .i64 (G (j / 4) (j % 4))) := by
  obtain ⟨h0, h1, h2, h3⟩ := h (j / 4) (by omega)
  have hd : j % 4 < 4 := Nat.mod_lt _ (by omega)
  have e : j = j / 4 * 4 + j % 4 := by omega
  generalize j / 4 = i at *
  generalize j % 4 = d at *
  subst e
  match d, hd with
  | 0, _ => exact h0
  | 1, _ => rw [← Nat.add_assoc]; exact h1
  | 2, _ => rw [← Nat.add_assoc]; exact h2
  | 3, _ => rw [← Nat.add_assoc]; exact h3
theorem cellsL_at {w : World} {b off n : Nat} {G : Nat → Nat → Int} (h : Grd w b off n G) : ∀ (j : Nat) u, (cellsL G n)[j]? = some u → w.cell? ((⟨b, off, none⟩ : Addr).add j) = some u := by
  intro j u hu
  have hj : j < n * 4 := by
    have := (List.getElem?_eq_some_iff.1 hu).1
    rwa [cellsL_length] at this
  rw [cellsL_get G n j hj] at hu
  cases hu
  rw [Go.WideShapes.add_plain]
  exact h.flat j hj
theorem row_of_owned {w : World} {base n : Nat} {v : Value} {G : Nat → Nat → Int} (h : w.ownsRow base 40 4 v n (cellsL G n)) (hn : 1 ≤ n) : ∃ g c, v = .slice (some ⟨g, 0, none⟩) n c ∧ Row w g n G ∧ base ≤ g ∧ n ≤ c ∧ c ≤ maxLen := by
  rcases h.2 with ⟨_, h0⟩ | ⟨g, cap, cur, rfl, hg, hh, hc, hm, hs, ht⟩
  · omega
  · refine ⟨g, cap, rfl, ⟨(Array.getElem?_eq_some_iff.1 hh).1, fun j hj => ⟨?_, h.frozenAt j⟩⟩, hg, hc, hm⟩
    rw [h.cellAt j hj]
    exact cellsL_get G n j hj

/-- What a copy gives. -/
def Copied (n : Nat) (G : Nat → Nat → Int) (w : World) (e : Ending) (w' : World) : Prop := ∃ g c, e = .returned (.slice (some ⟨g, 0, none⟩) n c) ∧ Row w' g n G ∧ w.heap.size ≤ g ∧ n ≤ c ∧ c ≤ maxLen ∧ Below w.heap.size w w'

set_option maxRecDepth 100000 in
set_option maxHeartbeats 1000000 in
theorem copied_any (b off n cap : Nat) (G : Nat → Nat → Int) (w : World) (h1 : 1 ≤ n) (h2 : n ≤ 100000) (hG : Grd w b off n G) :
    Calls Try.prog 54 #[.slice (some ⟨b, off, none⟩) n cap] w (Copied n G w) := by
  obtain ⟨i0, hi, hz0, hz1, hz2⟩ := info_parts info_cell
  have hc := cellsL_at hG
  clear hG
  have H := Lib.hid hc; clear hc
  go_enter Try.func54, Try.ntmps54
  go_wp2_with (at_builtin; refine wpList_append_grows _ rfl _ _ 22 rfl 40 i0 (.agg #[.int .i64 0, .int .i64 0, .int .i64 0, .int .i64 0]) 4 32 Try.underlying22 hi hz0 hz1 hz2 rfl (by omega) (some ⟨b, off, none⟩) 0 0 [] rfl (by simp) rfl (by simp) ⟨b, off, none⟩ n cap (cellsL G n) rfl (cellsL_length G n) H.out (cellsL_one G n) (by omega) (by unfold maxLen; omega) (by omega) ?_; intro v' w1 hown hgrow)
  rw [Nat.zero_add, List.nil_append] at hown
  obtain ⟨g, c, rfl, hr, hg, hc, hm⟩ := row_of_owned hown h1
  go_ret
  exact ⟨g, c, rfl, hr, hg, hc, hm, (Below.refl _ _).grown hgrow (Nat.le_refl _) (by simp)⟩

/-- Cells without particles, one after another. -/
def zeros (n : Nat) : Array Value := madeCells (Value.cells (.agg #[.int .i64 0, .int .i64 0, .int .i64 0, .int .i64 0])) (n * 4)
theorem zeros_get (n j : Nat) (h : j < n * 4) : (zeros n)[j]? = some (.int .i64 0) := by
  unfold zeros madeCells
  have hs : (Value.cells (.agg #[.int .i64 0, .int .i64 0, .int .i64 0, .int .i64 0])) = #[.int .i64 0, .int .i64 0, .int .i64 0, .int .i64 0] := rfl
  rw [hs]
  have hd : j % 4 < 4 := Nat.mod_lt _ (by omega)
  simp only [Array.getElem?_map, Array.getElem?_range, h, ↓reduceIte, Option.map_some]
  show some ((#[.int .i64 0, .int .i64 0, .int .i64 0, .int .i64 0] : Array Value)[j % 4]!) = _
  match j % 4, hd with
  | 0, _ => rfl
  | 1, _ => rfl
  | 2, _ => rfl
  | 3, _ => rfl
theorem run_zeros (n : Nat) (hn : n ≤ 100000) (w : World) : (Instr.makeSlice 22 (.int .i64 n) (.int .i64 n)).run Try.prog w = .ok (.slice (some ⟨w.heap.size, 0, none⟩) n n) (w.alloc (.cells (zeros n) 40)) := by
  obtain ⟨i0, hi, hz0, hz1, hz2⟩ := info_parts info_cell
  have := run_make (P := Try.prog) (w := w) 22 40 i0 _ Try.underlying22 hi hz0 .i64 .i64 n n (by omega) (by omega) (by rw [hz2]; omega) (by omega)
  rw [hz1, Int.toNat_natCast] at this
  exact this
theorem row_zeros (w : World) (n : Nat) : Row (w.alloc (.cells (zeros n) 40)) w.heap.size n (fun _ _ => 0) := by
  have hh : (w.alloc (.cells (zeros n) 40)).heap[w.heap.size]? = some (.cells (zeros n) 40 (0, 0)) := World.alloc_heap_new w _
  refine ⟨(Array.getElem?_eq_some_iff.1 hh).1, fun j hj => ⟨?_, ?_⟩⟩
  · simp only [World.cell?, hh]
    exact zeros_get n j hj
  · exact frozen_of_row _ _ j _ _ hh

theorem mch_new {w1 : World} {W H n rb ro len rc g c B : Nat} {R : Nat → Int × Int} {G : Nat → Nat → Int} {wr : World} (hr : Row w1 g n G) (hg : B ≤ g) (hB : B ≤ w1.heap.size) (hrb : rb < B) (hR : RulesAt w1 rb ro len R)
    (hw : wr = ((w1.alloc (.cells (zeros n) 40)).alloc (.cells #[.int .i64 W, .int .i64 H, .slice (some ⟨g, 0, none⟩) n c, .slice (some ⟨rb, ro, none⟩) len rc, .slice (some ⟨w1.heap.size, 0, none⟩) n n] 78)).drew) :
    MchG wr (w1.heap.size + 1) W H n rb ro len rc R G B wr.heap.size := by
  subst hw
  have x : Ex (fun _ => False) w1 (((w1.alloc (.cells (zeros n) 40)).alloc (.cells #[.int .i64 W, .int .i64 H, .slice (some ⟨g, 0, none⟩) n c, .slice (some ⟨rb, ro, none⟩) len rc, .slice (some ⟨w1.heap.size, 0, none⟩) n n] 78)).drew) := (((Ex.refl _ w1).alloc _).alloc _).drew
  have hm : Mch (((w1.alloc (.cells (zeros n) 40)).alloc (.cells #[.int .i64 W, .int .i64 H, .slice (some ⟨g, 0, none⟩) n c, .slice (some ⟨rb, ro, none⟩) len rc, .slice (some ⟨w1.heap.size, 0, none⟩) n n] 78)).drew) (w1.heap.size + 1) W H n g c (.slice (some ⟨rb, ro, none⟩) len rc) w1.heap.size n := by
    have := World.alloc_heap_new (w1.alloc (.cells (zeros n) 40)) (.cells #[.int .i64 W, .int .i64 H, .slice (some ⟨g, 0, none⟩) n c, .slice (some ⟨rb, ro, none⟩) len rc, .slice (some ⟨w1.heap.size, 0, none⟩) n n] 78)
    rw [World.size_alloc] at this
    exact this
  have hlt := hr.1
  exact ⟨⟨g, c, w1.heap.size, n, _, hm, hr.ex x (fun h => h), ((row_zeros w1 n).alloc _).ex (S := fun _ => False) ((Ex.refl _ _).drew) (fun h => h), by omega, by omega, by omega, by omega, hg, hB, by simp [World.drew], by simp [World.drew]; omega, by simp [World.drew]; omega⟩, hR.ex x (by omega) (fun h => h), hrb, Nat.le_trans hB x.size, Nat.le_refl _⟩

set_option maxRecDepth 100000 in
set_option maxHeartbeats 2000000 in
theorem newMachine_any (W H b off n cap rb ro len rc : Nat) (R : Nat → Int × Int) (G : Nat → Nat → Int) (w : World) (s : Sides W H n) (hlt : b < w.heap.size) (hG : Grd w b off n G) (hrb : rb < w.heap.size) (hR : RulesAt w rb ro len R) :
    Calls Try.prog 34 #[.agg #[.int .i64 W, .int .i64 H, .slice (some ⟨b, off, none⟩) n cap], .slice (some ⟨rb, ro, none⟩) len rc] w fun e w' => ∃ m, e = .returned (.pointer (some ⟨m, 0, none⟩)) ∧ MchG w' m W H n rb ro len rc R G w.heap.size w'.heap.size ∧ Below w.heap.size w w' := by
  have hn : n ≤ 1024 := s.n1
  have h1 : 1 ≤ n := by
    rw [s.n0]
    exact Nat.mul_le_mul s.w0 s.h0
  have HG := Lib.hid hG; clear hG
  go_enter Try.func34, Try.ntmps34
  go_wp2_with fail
  go_at_call 54
  refine (copied_any b off n cap G _ h1 (by omega) (HG.out.below ((Below.refl _ w).alloc (Nat.le_refl _) _) hlt)).mono ?_
  rintro e w1 ⟨g, c, rfl, hr, hg, hc, hm, hb⟩
  have HRow := Lib.hid hr
  have HB := Lib.hid (show Below w.heap.size w w1 from ((Below.refl _ w).alloc (Nat.le_refl _) _).trans (hb.mono (by simp)))
  have b0 : w1.cell? ⟨w.heap.size, 0, none⟩ = some (.int .i64 W) := (hb.cell (p := ⟨w.heap.size, 0, none⟩) (by simp)).trans (by simp)
  have b1 : w1.cell? ⟨w.heap.size, 1, none⟩ = some (.int .i64 H) := (hb.cell (p := ⟨w.heap.size, 1, none⟩) (by simp)).trans (by simp)
  have hsz : w.heap.size < w1.heap.size := by have := hb.size; simp at this; omega
  have hg' : w.heap.size ≤ g := by simp at hg; omega
  have hmk := fun wx => run_zeros n (by omega) wx
  clear hb hr hg
  go_wp2_with fail
  go_region_held3 (fun w' => w'.cell? ⟨w.heap.size, 0, none⟩ = some (.int .i64 W) ∧ w'.cell? ⟨w.heap.size, 1, none⟩ = some (.int .i64 H)) (first | (go_split_ands; (try dsimp only); refine ⟨?_, ?_⟩ <;> (first | (with_reducible assumption) | (with_reducible exact keep_cell (by assumption) (by first | omega | (simp; done) | (simp; omega)) (by assumption)) | (with_reducible exact (World.cell?_alloc_past _ _ _ (by show _ < _; omega)).trans (by assumption)) | (with_reducible exact (World.cell?_alloc_past _ _ _ (by show _ < _; omega)).trans ((World.cell?_alloc_past _ _ _ (by show _ < _; omega)).symm.trans (by assumption))) | (simp [go_sem]; with_reducible assumption))) | (simp [go_sem, ↓IntWalk.iteOmega, *]; done)) (fail)
  go_wp2
  go_ret
  refine ⟨_, rfl, mch_new HRow.out hg' (by omega) hrb (fun i hi => ⟨(HB.out.cell (p := ⟨rb, ro + i * 2, none⟩) hrb).trans (hR i hi).1, (HB.out.cell (p := ⟨rb, ro + i * 2 + 1, none⟩) hrb).trans (hR i hi).2⟩) rfl, ((HB.out.alloc (by omega) _).alloc (by simp; omega) _).drew⟩
end Go.Proofs.Ytmkhbkkhoemkoaa
