/- slices.Collect over the cells of a body: by the program. -/
import Derived.Test.YtmdeooflgkjbbaaDoorKSeqW
import Derived.Test.YtmdeooflgkjbbaaDoorKInQ
import Derived.Maps.OwnIn
import Derived.Shelf.SlIterI.Nil
namespace Go.Proofs.YtmdeooflgkjbbaaDoor
set_option linter.unusedSimpArgs false
set_option linter.unusedVariables false
open Go.RowKit Go.Maps Go.Shelf Go.Sort

theorem info_intC : (Tryd.prog.info? 3).map (fun i => (i.zero, i.size, i.bytes)) = some (some (.int .i64 0), 1, 8) := by kernel_rfl

/-- The box holds a row of one's own above it, with what has come. -/
def ColI (N : Nat) (w : World) (pre : List (CelW N)) (X : World) : Prop :=
  ∃ v, Boxed X w.heap.size 40 v ∧ X.ownsRow (w.heap.size + 1) 3 1 v pre.length ((List.map (fun x : CelW N => (x.1 : Int)) pre).map encZ) ∧ Below w.heap.size w X
theorem colI_own {N Bd : Nat} {w : World} (hB : w.heap.size ≤ Bd) : OwnFrom Bd (ColI N w) := fun s X Y row hs hg hr => by
  obtain ⟨v, h1, h2, h3⟩ := hs
  have hr' : ∀ r, row = some r → ∃ o : Obj, X.heap[r]? = some o ∧ o.isCells = false := fun r e => (hr r e).2
  refine ⟨v, boxed_own _ _ (fun (_ : Unit) => v) () X Y row h1 hg hr', h2.kept hg ?_, ownFrom_below (β := Unit) (Nat.le_refl _) hB () X Y row h3 hg hr⟩
  rcases h2.2 with ⟨rfl, _⟩ | ⟨g, cap, cur, rfl, _, hgb, _⟩
  · exact .inl rfl
  · refine .inr fun e' => ?_
    obtain ⟨o, ho, hw⟩ := hr' g (by simpa [Value.ownBlock] using e'.symm)
    rw [hgb] at ho
    cases ho
    cases hw
theorem kb_two {S : Nat → Prop} {w A B : World} (hA : Below w.heap.size w A) (hB : Below w.heap.size w B) (hs : A.heap.size ≤ B.heap.size) (hS : ∀ k, S k → k < w.heap.size) : KB S A B := ⟨hs, fun k hk => (hB.block k (hS k hk)).trans (hA.block k (hS k hk)).symm⟩
theorem row_cells {w : World} {base : Nat} {e : TypeId} {size : Nat} {v : Value} {k : Nat} {xs : List Value} (h : w.ownsRow base e size v k xs) : ∀ (j : Nat) (o : Obj), v.ownBlock = some j → w.heap[j]? = some o → o.isCells = true := fun j o hj ho => by
  rcases h.2 with ⟨rfl, _⟩ | ⟨g, cap, cur, rfl, _, hgb, _⟩
  · cases hj
  · have : g = j := by simpa [Value.ownBlock] using hj
    subst this
    rw [hgb] at ho
    cases ho
    rfl

theorem row_form {w : World} {base : Nat} {e : TypeId} {size : Nat} {v : Value} {k : Nat} {xs : List Value} (h : w.ownsRow base e size v (k + 1) xs) : ∃ g cap, v = .slice (some ⟨g, 0, none⟩) (k + 1) cap := by
  rcases h.2 with ⟨_, h0⟩ | ⟨g, cap, cur, rfl, _⟩
  · omega
  · exact ⟨g, cap, rfl⟩

end Go.Proofs.YtmdeooflgkjbbaaDoor
