/- Walls: whether they are valid, the wall without walls, whether two are the same: by the program and by the reference. -/
import Derived.Test.YtmpfchgampiohaaDoorKSent
import Derived.Test.YtmpfchgampiohaaDoorKRefG4
namespace Go.Proofs.YtmpfchgampiohaaDoor
set_option linter.unusedSimpArgs false
set_option linter.unusedVariables false
open Go.RowKit
attribute [local go_sem] Oper.semAt_some

/-- A cell may be of a kind and belong to a body. -/
def OkP (k b : Int) : Prop := (k = 0 ∧ b = 0) ∨ ((1 ≤ k ∧ k ≤ 3) ∧ 1 ≤ b ∧ b ≤ 9)
instance (k b : Int) : Decidable (OkP k b) := by unfold OkP; exact inferInstance
/-- The wall is valid for the valid grid. -/
def WV (W H : Int) (n : Nat) (G : Nat → Nat → Int) (nk : Nat) (K : Nat → Int) (nb : Nat) (B : Nat → Int) : Prop := VG W H n G ∧ nk = n ∧ nb = n ∧ ∀ i, i < n → OkP (K i) (B i)

theorem not_wv {W H : Int} {n : Nat} {G : Nat → Nat → Int} {nk : Nat} {K : Nat → Int} {nb : Nat} {B : Nat → Int} (h : ¬ WV W H n G nk K nb B) : ¬ VG W H n G ∨ (VG W H n G ∧ (nk ≠ n ∨ nb ≠ n)) ∨ (VG W H n G ∧ nk = n ∧ nb = n ∧ ¬ ∀ i, i < n → OkP (K i) (B i)) := by
  by_cases h1 : VG W H n G
  · by_cases h2 : nk = n
    · by_cases h3 : nb = n
      · exact .inr (.inr ⟨h1, h2, h3, fun h4 => h ⟨h1, h2, h3, h4⟩⟩)
      · exact .inr (.inl ⟨h1, .inr h3⟩)
    · exact .inr (.inl ⟨h1, .inl h2⟩)
  · exact .inl h1
theorem vg_pos {W H : Int} {n : Nat} {G : Nat → Nat → Int} (h : VG W H n G) : 1 ≤ n ∧ n ≤ 1024 := by
  have := h.1.bd
  have := h.2.1
  omega
/-- Numbers without value, one after another. -/
def zerosI (n : Nat) : Array Value := madeCells (Value.cells (.int .i64 0)) (n * 1)
theorem info_int3 : (Tryd.prog.info? 3).map (fun i => (i.zero, i.size, i.bytes)) = some (some (.int .i64 0), 1, 8) := by kernel_rfl
theorem zerosI_get (n j : Nat) (h : j < n) : (zerosI n)[j]? = some (.int .i64 0) := by
  unfold zerosI madeCells
  have hs : (Value.cells (.int .i64 0)) = #[.int .i64 0] := rfl
  rw [hs]
  simp [h, Nat.mod_one]
theorem run_zerosI (n : Nat) (hn : n ≤ 100000) (w : World) : (Instr.makeSlice 30 (.int .i64 n) (.int .i64 n)).run Tryd.prog w = .ok (.slice (some ⟨w.heap.size, 0, none⟩) n n) (w.alloc (.cells (zerosI n) 3)) := by
  obtain ⟨i0, hi, hz0, hz1, hz2⟩ := info_parts info_int3
  have := run_make (P := Tryd.prog) (w := w) 30 3 i0 _ Tryd.underlying30 hi hz0 .i64 .i64 n n (by omega) (by omega) (by rw [hz2]; omega) (by omega)
  rw [hz1, Int.toNat_natCast] at this
  exact this
theorem nums_zeros (w : World) (n : Nat) : NumsAt (w.alloc (.cells (zerosI n) 3)) w.heap.size 0 n (fun _ => 0) := by
  have hh : (w.alloc (.cells (zerosI n) 3)).heap[w.heap.size]? = some (.cells (zerosI n) 3 (0, 0)) := World.alloc_heap_new w _
  intro j hj
  simp only [World.cell?, hh, Nat.zero_add]
  exact zerosI_get n j hj
/-- A wall in memory of its own. -/
def GaveW (n : Nat) (K B : Nat → Int) (w : World) (e : Ending) (w' : World) : Prop := ∃ bk bb ck cb : Nat, e = .returned (.agg #[.slice (some ⟨bk, 0, none⟩) n ck, .slice (some ⟨bb, 0, none⟩) n cb]) ∧ Hid (NumsIn w' (some ⟨bk, 0, none⟩) n K ∧ NumsIn w' (some ⟨bb, 0, none⟩) n B) ∧ w.heap.size ≤ bk ∧ w.heap.size ≤ bb ∧ Below w.heap.size w w'
def GaveWE (n : Nat) (K B : Nat → Int) (w : World) (e : Ending) (w' : World) : Prop := ∃ bk bb ck cb : Nat, e = .returned (.tuple #[.agg #[.slice (some ⟨bk, 0, none⟩) n ck, .slice (some ⟨bb, 0, none⟩) n cb], .int .i64 0]) ∧ Hid (NumsIn w' (some ⟨bk, 0, none⟩) n K ∧ NumsIn w' (some ⟨bb, 0, none⟩) n B) ∧ w.heap.size ≤ bk ∧ w.heap.size ≤ bb ∧ Below w.heap.size w w'

theorem two_zeros (w0 : World) (n s : Nat) (hs : w0.heap.size = s) : NumsIn (((w0.alloc (.cells (zerosI n) 3)).alloc (.cells (zerosI n) 3)).drew) (some ⟨s, 0, none⟩) n (fun _ => 0) ∧ NumsIn (((w0.alloc (.cells (zerosI n) 3)).alloc (.cells (zerosI n) 3)).drew) (some ⟨s + 1, 0, none⟩) n (fun _ => 0) := by
  subst hs
  have h1 := nums_zeros w0 n
  have h2 := nums_zeros (w0.alloc (.cells (zerosI n) 3)) n
  rw [World.size_alloc] at h2
  refine ⟨.inr ⟨_, 0, rfl, by simp [World.drew]; omega, ?_⟩, .inr ⟨_, 0, rfl, by simp [World.drew], ?_⟩⟩
  · exact h1.below (m := w0.heap.size + 1) (((Below.refl _ _).alloc (by simp) _).drew) (by omega)
  · exact h2.below (m := w0.heap.size + 1 + 1) ((Below.refl _ _).drew) (by omega)

theorem NumsIn.two {w : World} {P b n : Nat} {K : Nat → Int} {v0 v1 : Value} (h : NumsIn w (some ⟨b, 0, none⟩) n K) (hne : P ≠ b) : NumsIn ((w.setCell ⟨P, 0, none⟩ v0).setCell ⟨P, 1, none⟩ v1) (some ⟨b, 0, none⟩) n K := by
  rcases h with h | ⟨b', off, e, hlt, hK⟩
  · exact .inl h
  · cases e
    refine .inr ⟨b, 0, rfl, by simpa using hlt, fun i hi => ?_⟩
    have x : Below (P + 1) w w := Below.refl _ _
    have e1 : ((w.setCell ⟨P, 0, none⟩ v0).setCell ⟨P, 1, none⟩ v1).heap[b]? = w.heap[b]? := (Below.heap_setCell _ ⟨P, 1, none⟩ v1 b (Ne.symm hne)).trans (Below.heap_setCell w ⟨P, 0, none⟩ v0 b (Ne.symm hne))
    simp only [World.cell?, e1]
    exact hK i hi

end Go.Proofs.YtmpfchgampiohaaDoor
