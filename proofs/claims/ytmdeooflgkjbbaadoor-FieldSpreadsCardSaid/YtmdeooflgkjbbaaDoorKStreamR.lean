/- Stream and Unstream: their result lies in memory of its own. -/
import Derived.Test.YtmdeooflgkjbbaaDoorKDiff
import Derived.Test.YtmdeooflgkjbbaaDoorKRefG4
namespace Go.Proofs.YtmdeooflgkjbbaaDoor
set_option linter.unusedSimpArgs false
set_option linter.unusedVariables false
open Go.RowKit

/-- A grid in memory of its own, without an error. -/
def MadeR (W H : Int) (n : Nat) (K : Nat → Nat → Int) (w : World) (e : Ending) (w' : World) : Prop :=
  ∃ b c, e = .returned (.tuple #[.agg #[.int .i64 W, .int .i64 H, .slice (some ⟨b, 0, none⟩) n c], .int .i64 0]) ∧ Row w' b n K ∧ w.heap.size ≤ b ∧ Below w.heap.size w w'
theorem madeR_pass {W H : Int} {n b c r : Nat} {K : Nat → Nat → Int} {w w5 : World} {v0 v1 v2 : Value} (hr : Row w5 b n K) (hb : Below w.heap.size w w5) (h1 : w.heap.size ≤ r) (h2 : r < b) :
    MadeR W H n K w (.returned (.tuple #[.agg #[.int .i64 W, .int .i64 H, .slice (some ⟨b, 0, none⟩) n c], .int .i64 0])) (((w5.setCell ⟨r, 0, none⟩ v0).setCell ⟨r, 1, none⟩ v1).setCell ⟨r, 2, none⟩ v2) :=
  ⟨b, c, rfl, hr.ex three_ex (by omega), by omega, hb.trans (three_ex.below hb.size (fun k hk => by omega))⟩

end Go.Proofs.YtmdeooflgkjbbaaDoor
