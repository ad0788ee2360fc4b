/- One's own row of numbers, made and written. -/
import Derived.Test.YtglkikdjchpmjaaDoorKSameN
import Derived.Test.YtglkikdjchpmjaaDoorKMach
namespace Go.Proofs.YtglkikdjchpmjaaDoor
set_option linter.unusedSimpArgs false
set_option linter.unusedVariables false
open Go.RowKit

/-- A row of one's own numbers. -/
def RowZ (w : World) (b n : Nat) (K : Nat → Int) : Prop := b < w.heap.size ∧ ∀ j, j < n → w.cell? ⟨b, j, none⟩ = some (.int .i64 (K j)) ∧ w.frozen? ⟨b, j, none⟩ = false
def updZ (K : Nat → Int) (i : Nat) (v : Int) : Nat → Int := fun j => if j = i then v else K j
theorem RowZ.set {w : World} {b n : Nat} {K : Nat → Int} (h : RowZ w b n K) {i : Nat} (hi : i < n) (v : Int) : RowZ (w.setCell ⟨b, i, none⟩ (.int .i64 v)) b n (updZ K i v) := by
  refine ⟨by simpa [World.setCell] using h.1, fun j hj => ⟨?_, ?_⟩⟩
  · unfold updZ
    by_cases e : j = i
    · subst e
      rw [if_pos rfl]
      exact World.cell?_setCell_same _ _ _ (h.2 j hj).1
    · rw [if_neg e, World.cell?_setCell_other _ _ _ _ (by intro e2; cases e2; exact e rfl)]
      exact (h.2 j hj).1
  · rw [World.frozen?_setCell]
    exact (h.2 j hj).2
theorem RowZ.ex {S : Nat → Prop} {w w' : World} {b n : Nat} {K : Nat → Int} (h : RowZ w b n K) (hx : Ex S w w') (hs : ¬ S b) : RowZ w' b n K :=
  ⟨Nat.lt_of_lt_of_le h.1 hx.size, fun j hj => ⟨(hx.cell h.1 hs).trans (h.2 j hj).1, (hx.frozen h.1 hs).trans (h.2 j hj).2⟩⟩
theorem RowZ.nums {w : World} {b n : Nat} {K : Nat → Int} (h : RowZ w b n K) : NumsAt w b 0 n K := fun i hi => by rw [Nat.zero_add]; exact (h.2 i hi).1

theorem info_intZ : (Tryd.prog.info? 3).map (fun i => (i.zero, i.size, i.bytes)) = some (some (.int .i64 0), 1, 8) := by kernel_rfl
def zerosI (n : Nat) : Array Value := madeCells (Value.cells (.int .i64 0)) (n * 1)
theorem zerosI_get (n j : Nat) (h : j < n) : (zerosI n)[j]? = some (.int .i64 0) := by
  unfold zerosI madeCells
  have hs : (Value.cells (.int .i64 0)) = #[.int .i64 0] := rfl
  rw [hs]
  simp [h, Nat.mod_one]
theorem run_zerosI (n : Nat) (hn : n ≤ 100000) (w : World) : (Instr.makeSlice 25 (.int .i64 n) (.int .i64 n)).run Tryd.prog w = .ok (.slice (some ⟨w.heap.size, 0, none⟩) n n) (w.alloc (.cells (zerosI n) 3)) := by
  obtain ⟨i0, hi, hz0, hz1, hz2⟩ := info_parts info_intZ
  have := run_make (P := Tryd.prog) (w := w) 25 3 i0 _ Tryd.underlying25 hi hz0 .i64 .i64 n n (by omega) (by omega) (by rw [hz2]; omega) (by omega)
  rw [hz1, Int.toNat_natCast] at this
  exact this
theorem rowZ_zeros (w : World) (n : Nat) : RowZ (w.alloc (.cells (zerosI n) 3)) w.heap.size n (fun _ => 0) := by
  have hh : (w.alloc (.cells (zerosI n) 3)).heap[w.heap.size]? = some (.cells (zerosI n) 3 (0, 0)) := World.alloc_heap_new w _
  refine ⟨(Array.getElem?_eq_some_iff.1 hh).1, fun j hj => ⟨?_, ?_⟩⟩
  · simp only [World.cell?, hh]
    exact zerosI_get n j hj
  · exact frozen_of_row _ _ j _ _ hh
end Go.Proofs.YtglkikdjchpmjaaDoor
