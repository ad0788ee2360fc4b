/- Numbers in memory of their own: a copy of a list, a copy of a wall. -/
import Derived.Test.YtmpfchgampiohaaDoorKWall
import Derived.WalkSpells
import Derived.Laws.Cover3
import Derived.Test.YtmpfchgampiohaaDoorKCopy
namespace Go.Proofs.YtmpfchgampiohaaDoor
set_option linter.unusedSimpArgs false
set_option linter.unusedVariables false
open Go.RowKit

/-- One's own row of numbers. -/
def RowI (w : World) (b n : Nat) (K : Nat → Int) : Prop := b < w.heap.size ∧ ∀ j, j < n → w.cell? ⟨b, j, none⟩ = some (.int .i64 (K j)) ∧ w.frozen? ⟨b, j, none⟩ = false
theorem RowI.nums {w : World} {b n : Nat} {K : Nat → Int} (h : RowI w b n K) : NumsAt w b 0 n K := fun i hi => by rw [Nat.zero_add]; exact (h.2 i hi).1
theorem RowI.ex {S : Nat → Prop} {w w' : World} {b n : Nat} {K : Nat → Int} (h : RowI w b n K) (x : Ex S w w') (hs : ¬ S b) : RowI w' b n K :=
  ⟨Nat.lt_of_lt_of_le h.1 x.size, fun j hj => ⟨(x.cell h.1 hs).trans (h.2 j hj).1, (x.frozen h.1 hs).trans (h.2 j hj).2⟩⟩
/-- The numbers of a list, one after another. -/
def numsL (K : Nat → Int) (n : Nat) : List Value := (List.range n).map fun j => .int .i64 (K j)
theorem numsL_length (K : Nat → Int) (n : Nat) : (numsL K n).length = n := by simp [numsL]
theorem numsL_get (K : Nat → Int) (n j : Nat) (h : j < n) : (numsL K n)[j]? = some (.int .i64 (K j)) := by simp [numsL, h]
theorem numsL_one (K : Nat → Int) (n : Nat) : ∀ u ∈ numsL K n, u.oneCell' = true := by
  intro u hu
  simp only [numsL, List.mem_map] at hu
  obtain ⟨j, _, rfl⟩ := hu
  rfl
theorem numsL_at {w : World} {b off n : Nat} {K : Nat → Int} (h : NumsAt w b off n K) : ∀ (j : Nat) u, (numsL K n)[j]? = some u → w.cell? ((⟨b, off, none⟩ : Addr).add j) = some u := by
  intro j u hu
  have hj : j < n := by
    have := (List.getElem?_eq_some_iff.1 hu).1
    rwa [numsL_length] at this
  rw [numsL_get K n j hj] at hu
  cases hu
  rw [Go.WideShapes.add_plain]
  exact h j hj
theorem rowI_of_owned {w : World} {base n : Nat} {v : Value} {K : Nat → Int} (h : w.ownsRow base 3 1 v n (numsL K n)) (hn : 1 ≤ n) : ∃ g c, v = .slice (some ⟨g, 0, none⟩) n c ∧ RowI w g n K ∧ base ≤ g ∧ n ≤ c ∧ c ≤ maxLen := by
  rcases h.2 with ⟨_, h0⟩ | ⟨g, cap, cur, rfl, hg, hh, hc, hm, hs, ht⟩
  · omega
  · refine ⟨g, cap, rfl, ⟨(Array.getElem?_eq_some_iff.1 hh).1, fun j hj => ⟨?_, h.frozenAt j⟩⟩, hg, hc, hm⟩
    rw [h.cellAt j (by omega)]
    exact numsL_get K n j hj
/-- What a copy gives. -/
def CopiedI (n : Nat) (K : Nat → Int) (w : World) (e : Ending) (w' : World) : Prop := ∃ g c, e = .returned (.slice (some ⟨g, 0, none⟩) n c) ∧ RowI w' g n K ∧ w.heap.size ≤ g ∧ n ≤ c ∧ c ≤ maxLen ∧ Below w.heap.size w w'

theorem RowI.below {m : Nat} {w w' : World} {b n : Nat} {K : Nat → Int} (h : RowI w b n K) (hb : Below m w w') (hlt : b < m) : RowI w' b n K :=
  ⟨Nat.lt_of_lt_of_le h.1 hb.size, fun j hj => ⟨(hb.cell (p := ⟨b, j, none⟩) hlt).trans (h.2 j hj).1, (hb.frozen (p := ⟨b, j, none⟩) hlt).trans (h.2 j hj).2⟩⟩
theorem RowI.two {w : World} {P b n : Nat} {K : Nat → Int} {v0 v1 : Value} (h : RowI w b n K) (hne : P ≠ b) : RowI ((w.setCell ⟨P, 0, none⟩ v0).setCell ⟨P, 1, none⟩ v1) b n K := by
  have x : Ex (fun k => k = P) w ((w.setCell ⟨P, 0, none⟩ v0).setCell ⟨P, 1, none⟩ v1) := by
    refine Ex.setCell (Ex.setCell (Ex.refl _ w) ?_ _) ?_ _ <;> rfl
  exact h.ex x (by omega)
/-- A wall in memory of its own, whose cells may be written. -/
def OwnW (n : Nat) (K B : Nat → Int) (w : World) (e : Ending) (w' : World) : Prop := ∃ bk bb ck cb : Nat, e = .returned (.agg #[.slice (some ⟨bk, 0, none⟩) n ck, .slice (some ⟨bb, 0, none⟩) n cb]) ∧ Hid (RowI w' bk n K ∧ RowI w' bb n B ∧ bk ≠ bb) ∧ w.heap.size ≤ bk ∧ w.heap.size ≤ bb ∧ Below w.heap.size w w'

end Go.Proofs.YtmpfchgampiohaaDoor

/- A copy of a grid's cells, by slices.Clone. -/



namespace Go.Proofs.YtmpfchgampiohaaDoor
set_option linter.unusedSimpArgs false
set_option linter.unusedVariables false
open Go.RowKit

end Go.Proofs.YtmpfchgampiohaaDoor
