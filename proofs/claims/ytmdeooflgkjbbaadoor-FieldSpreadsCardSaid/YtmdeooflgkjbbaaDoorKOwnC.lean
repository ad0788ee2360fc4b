/- Cells appended to one's own slice, which a grid in a block holds. -/
import Derived.Test.YtmdeooflgkjbbaaDoorKStreamR
import Derived.Laws.AppendOwn
namespace Go.Proofs.YtmdeooflgkjbbaaDoor
set_option linter.unusedSimpArgs false
set_option linter.unusedVariables false
open Go.RowKit

/-- A grid in a block, its cells a row of its own so far, what was there kept. -/
def TopH (B : Nat) (w0 : World) (W H : Int) (k : Nat) (K : Nat → Nat → Int) (v : Value) (wr : World) : Prop :=
  wr.ownsRow (B + 1) 62 4 v k (cellsL K k) ∧ Three wr B 24 (.int .i64 W) (.int .i64 H) v ∧ Below B w0 wr
theorem cellsL_succ (K : Nat → Nat → Int) (k : Nat) : cellsL K (k + 1) = cellsL K k ++ [.int .i64 (K k 0), .int .i64 (K k 1), .int .i64 (K k 2), .int .i64 (K k 3)] := by
  apply List.ext_getElem?
  intro j
  by_cases hj : j < k * 4
  · rw [cellsL_get K (k + 1) j (by omega), List.getElem?_append_left (by rw [cellsL_length]; exact hj), cellsL_get K k j hj]
  · by_cases hj' : j < (k + 1) * 4
    · rw [cellsL_get K (k + 1) j hj', List.getElem?_append_right (by rw [cellsL_length]; omega), cellsL_length]
      have hd : j / 4 = k := by omega
      rcases (show j = k * 4 ∨ j = k * 4 + 1 ∨ j = k * 4 + 2 ∨ j = k * 4 + 3 by omega) with h | h | h | h
      · rw [hd, show j % 4 = 0 by omega, show j - k * 4 = 0 by omega]; rfl
      · rw [hd, show j % 4 = 1 by omega, show j - k * 4 = 1 by omega]; rfl
      · rw [hd, show j % 4 = 2 by omega, show j - k * 4 = 2 by omega]; rfl
      · rw [hd, show j % 4 = 3 by omega, show j - k * 4 = 3 by omega]; rfl
    · rw [List.getElem?_eq_none (by rw [cellsL_length]; omega), List.getElem?_eq_none (by simp [cellsL_length]; omega)]
theorem TopH.own_lt {B : Nat} {w0 wr : World} {W H : Int} {k : Nat} {K : Nat → Nat → Int} {v : Value} (h : TopH B w0 W H k K v wr) : ∀ j, v.ownBlock = some j → B + 1 ≤ j ∧ j < wr.heap.size := by
  intro j hj
  rcases h.1.2 with ⟨rfl, _⟩ | ⟨g, cap, cur, rfl, hg, hh, _⟩
  · cases hj
  · cases hj
    exact ⟨hg, (Array.getElem?_eq_some_iff.1 hh).1⟩
theorem Three.put2 {W : World} {B : Nat} {t : TypeId} {x y z : Value} (h : Three W B t x y z) (u : Value) : Three (W.setCell ⟨B, 2, none⟩ u) B t x y u := by
  have hh : W.heap[B]? = some (.cells #[x, y, z] t (0, 0)) := h
  unfold Three
  simp [World.setCell, Array.getElem?_modify, hh]
theorem Three.kept {W W' : World} {row : Option Nat} {B : Nat} {t : TypeId} {x y z : Value} (h : Three W B t x y z) (hg : W.grownBy W' row) (hne : some B ≠ row) : Three W' B t x y z := (hg.block B h.lt hne).trans h
theorem owns_below {w w' : World} {base : Nat} {e : TypeId} {size : Nat} {v : Value} {n : Nat} {xs : List Value} (h : w.ownsRow base e size v n xs) (hb : Below w.heap.size w w') : w'.ownsRow base e size v n xs := by
  refine ⟨h.1, ?_⟩
  rcases h.2 with hn | ⟨g, cap, cur, rfl, hg, hgg, rest⟩
  · exact .inl hn
  · refine .inr ⟨g, cap, cur, rfl, hg, ?_, rest⟩
    rw [hb.block g (Array.getElem?_eq_some_iff.1 hgg).1]
    exact hgg
theorem four_new (w : World) (a b c d : Int) (t : TypeId) : ∀ (j : Nat) u, ([.int .i64 a, .int .i64 b, .int .i64 c, .int .i64 d] : List Value)[j]? = some u → (w.alloc (.cells #[.int .i64 a, .int .i64 b, .int .i64 c, .int .i64 d] t)).cell? ((⟨w.heap.size, 0, none⟩ : Addr).add j) = some u := by
  intro j u hu
  match j, hu with
  | 0, hu => simp at hu; subst hu; simp only [Addr.add, Nat.zero_add]; exact (World.cell?_alloc_at _ _ _ _ (by simp)).trans rfl
  | 1, hu => simp at hu; subst hu; simp only [Addr.add, Nat.zero_add]; exact (World.cell?_alloc_at _ _ _ _ (by simp)).trans rfl
  | 2, hu => simp at hu; subst hu; simp only [Addr.add, Nat.zero_add]; exact (World.cell?_alloc_at _ _ _ _ (by simp)).trans rfl
  | 3, hu => simp at hu; subst hu; simp only [Addr.add, Nat.zero_add]; exact (World.cell?_alloc_at _ _ _ _ (by simp)).trans rfl
  | _ + 4, hu => simp at hu
theorem four_one (a b c d : Int) : ∀ u ∈ ([.int .i64 a, .int .i64 b, .int .i64 c, .int .i64 d] : List Value), u.oneCell' = true := by
  intro u hu
  simp at hu
  rcases hu with rfl | rfl | rfl | rfl <;> rfl
theorem owns_form {w : World} {base : Nat} {e : TypeId} {size : Nat} {v : Value} {n : Nat} {xs : List Value} (h : w.ownsRow base e size v n xs) : ∃ ao c, v = .slice ao n c := by
  rcases h.2 with ⟨rfl, rfl⟩ | ⟨g, cap, cur, rfl, _⟩
  · exact ⟨_, _, rfl⟩
  · exact ⟨_, _, rfl⟩
theorem TopH.three6 {B : Nat} {w0 wr X w6 : World} {W H : Int} {k : Nat} {K : Nat → Nat → Int} {v : Value} (h : TopH B w0 W H k K v wr) (hX : Below wr.heap.size wr X) (hgrow : X.grownBy w6 v.ownBlock) : Three w6 B 24 (.int .i64 W) (.int .i64 H) v := by
  have hw := h.own_lt
  have l3 := h.2.1.lt
  exact (h.2.1.below hX l3).kept hgrow (fun e => by have := hw B e.symm; omega)
theorem TopH.app {B : Nat} {w0 wr X w6 : World} {W H : Int} {k : Nat} {K : Nat → Nat → Int} {v v' : Value} (h : TopH B w0 W H k K v wr) (hB : B ≤ w0.heap.size) (hX : Below wr.heap.size wr X)
    (hown : w6.ownsRow (B + 1) 62 4 v' (k + 1) (cellsL K k ++ [.int .i64 (K k 0), .int .i64 (K k 1), .int .i64 (K k 2), .int .i64 (K k 3)])) (hgrow : X.grownBy w6 v.ownBlock) : TopH B w0 W H (k + 1) K v' (w6.setCell ⟨B, 2, none⟩ v') := by
  have hw := h.own_lt
  obtain ⟨_, t3, hb⟩ := h
  have l3 := t3.lt
  have tX := t3.below hX l3
  have t6 : Three w6 B 24 (.int .i64 W) (.int .i64 H) v := tX.kept hgrow (fun e => by have := hw B e.symm; omega)
  refine ⟨?_, t6.put2 v', ?_⟩
  · rw [cellsL_succ]
    refine ⟨hown.1, ?_⟩
    rcases hown.2 with hn | ⟨g, cp, cur, rfl, hg, hh, rest⟩
    · exact .inl hn
    · exact .inr ⟨g, cp, cur, rfl, hg, (Below.heap_setCell w6 ⟨B, 2, none⟩ _ g (by simp; omega)).trans hh, rest⟩
  · have b1 : Below B w0 X := hb.trans (hX.mono (by omega))
    have b2 : Below B w0 w6 := b1.grown hgrow (by have := hX.size; omega) (fun j hj => by have := hw j hj; omega)
    exact b2.setCell (p := ⟨B, 2, none⟩) (Nat.le_refl _) _
end Go.Proofs.YtmdeooflgkjbbaaDoor
