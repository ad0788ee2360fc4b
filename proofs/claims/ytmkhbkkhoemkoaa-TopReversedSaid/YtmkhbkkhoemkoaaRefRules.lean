/- Whether rules are valid, and the rule of a step: by the reference. -/
import Derived.Test.YtmkhbkkhoemkoaaAt
import Derived.LoopTactic
namespace Go.Proofs.Ytmkhbkkhoemkoaa
set_option linter.unusedSimpArgs false
set_option linter.unusedVariables false
open Go.RowKit

theorem RulesAt.get {w wr : World} {b off n : Nat} {R : Nat → Int × Int} (h : RulesAt w b off n R) (hb : Below w.heap.size w wr) (hlt : b < w.heap.size) {k : Nat} (hk : k < n) :
    wr.cell? ⟨b, off + k * 2, none⟩ = some (.int .i64 ((R k).1)) ∧ wr.cell? ⟨b, off + k * 2 + 1, none⟩ = some (.int .i64 ((R k).2)) :=
  ⟨(hb.cell (p := ⟨b, off + k * 2, none⟩) hlt).trans (h k hk).1, (hb.cell (p := ⟨b, off + k * 2 + 1, none⟩) hlt).trans (h k hk).2⟩

end Go.Proofs.Ytmkhbkkhoemkoaa
