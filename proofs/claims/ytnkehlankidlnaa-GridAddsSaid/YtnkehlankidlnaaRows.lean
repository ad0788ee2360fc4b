/-
  No cell of these rows narrows 'for every input' (looked for: loops, veiled, ifaces, maps, wideKeys, modest, calm, conditions, laid).
  DERIVED. THE GIVEN ROWS OF THIS SEAT. 7 by the template 'for every input the law returns true; each argument reads behind the call as it read before'; 0 by the template 'total and deterministic' (their statements: YtnkehlankidlnaaTotals.lean).
  GIVEN WITH THE SEED: the statements are not yours to turn. If you find one false, say at which input.
  Laid BY PROGRAM, IN A SANDBOX (cutbox-rows.mjs): the forced cells as the released guide's own fill.sh prints them over the translation 58b25cfb3d2be1f9… (all of the seat's roots in one cut). By AI agents, Wed Nov 11 2026. No macro, syntax, notation, axiom, sorry.
-/
import Derived.Test.YtnkehlankidlnaaChecked
import GoSem.Claim
import GoSem.ClaimJoined
import GoSem.ClaimMapViews
import Derived.JoinedTies
import Derived.KernelRfl
namespace Go.Proofs.Ytnkehlankidlnaa
/- THE CELL 'sum', in the pinned program and in every row, IS THE sha256 OF THE DUMP (.gsa) THAT YtnkehlankidlnaaProg.lean LOADS. Nothing in Lean hashes anything: it is a label: what it is worth is what the hold of that sum in a sandbox is worth. -/
noncomputable def Try.pinned : Pinned := { name := "ytnkehlankidlnaa", sum := "58b25cfb3d2be1f93a08157f7bcbf0b3425a359a7de846fbefd27677750ec781", checked := Try.checked }
namespace Rows
def none {H : Type} : Left H := { results := [], args := [] }

/-- 'slipstreamlaw01.CellOrders': WHATEVER THE INPUT: true; the input reads as it did. -/
def cellOrdersSpec : ChangeSpec := { name := "cellOrders", fn := fun _ => fun
  | [d1, d2] => { results := [.lit (.bool true)], args := [d1, d2] }
  | _ => none }
def cellOrdersRow : OpenClaim := { program := "ytnkehlankidlnaa", sum := "58b25cfb3d2be1f93a08157f7bcbf0b3425a359a7de846fbefd27677750ec781", func := "slipstream/slipstreamlaw01.CellOrders", spec := "cellOrders", unfollowed := true, recurses := true, apart := false }
def CellOrdersSaid : Prop := cellOrdersRow.holds Try.pinned (OpenSpec.ofChange cellOrdersSpec)

/-- ITS FALSE NEIGHBOUR: 'it returns false'. Refute it at one input. -/
def cellOrdersWrong : ChangeSpec := { name := "cellOrders", fn := fun _ => fun
  | [d1, d2] => { results := [.lit (.bool false)], args := [d1, d2] }
  | _ => none }
def CellOrdersWrongFalsely : Prop := cellOrdersRow.holds Try.pinned (OpenSpec.ofChange cellOrdersWrong)

/-- 'slipstreamlaw01.CellAdds': WHATEVER THE INPUT: true; the input reads as it did. -/
def cellAddsSpec : ChangeSpec := { name := "cellAdds", fn := fun _ => fun
  | [d1, d2] => { results := [.lit (.bool true)], args := [d1, d2] }
  | _ => none }
def cellAddsRow : OpenClaim := { program := "ytnkehlankidlnaa", sum := "58b25cfb3d2be1f93a08157f7bcbf0b3425a359a7de846fbefd27677750ec781", func := "slipstream/slipstreamlaw01.CellAdds", spec := "cellAdds", unfollowed := true, recurses := true, apart := false }
def CellAddsSaid : Prop := cellAddsRow.holds Try.pinned (OpenSpec.ofChange cellAddsSpec)

/-- ITS FALSE NEIGHBOUR: 'it returns false'. Refute it at one input. -/
def cellAddsWrong : ChangeSpec := { name := "cellAdds", fn := fun _ => fun
  | [d1, d2] => { results := [.lit (.bool false)], args := [d1, d2] }
  | _ => none }
def CellAddsWrongFalsely : Prop := cellAddsRow.holds Try.pinned (OpenSpec.ofChange cellAddsWrong)

/-- 'slipstreamlaw02.GridStreams': WHATEVER THE INPUT: true; the input reads as it did. -/
def gridStreamsSpec : ChangeSpec := { name := "gridStreams", fn := fun _ => fun
  | [d] => { results := [.lit (.bool true)], args := [d] }
  | _ => none }
def gridStreamsRow : OpenClaim := { program := "ytnkehlankidlnaa", sum := "58b25cfb3d2be1f93a08157f7bcbf0b3425a359a7de846fbefd27677750ec781", func := "slipstream/slipstreamlaw02.GridStreams", spec := "gridStreams", unfollowed := true, recurses := true, apart := false }
def GridStreamsSaid : Prop := gridStreamsRow.holds Try.pinned (OpenSpec.ofChange gridStreamsSpec)

/-- ITS FALSE NEIGHBOUR: 'it returns false'. Refute it at one input. -/
def gridStreamsWrong : ChangeSpec := { name := "gridStreams", fn := fun _ => fun
  | [d] => { results := [.lit (.bool false)], args := [d] }
  | _ => none }
def GridStreamsWrongFalsely : Prop := gridStreamsRow.holds Try.pinned (OpenSpec.ofChange gridStreamsWrong)

/-- 'slipstreamlaw02.GridPuts': WHATEVER THE INPUT: true; the input reads as it did. -/
def gridPutsSpec : ChangeSpec := { name := "gridPuts", fn := fun _ => fun
  | [d1, d2, d3] => { results := [.lit (.bool true)], args := [d1, d2, d3] }
  | _ => none }
def gridPutsRow : OpenClaim := { program := "ytnkehlankidlnaa", sum := "58b25cfb3d2be1f93a08157f7bcbf0b3425a359a7de846fbefd27677750ec781", func := "slipstream/slipstreamlaw02.GridPuts", spec := "gridPuts", unfollowed := true, recurses := true, apart := false }
def GridPutsSaid : Prop := gridPutsRow.holds Try.pinned (OpenSpec.ofChange gridPutsSpec)

/-- ITS FALSE NEIGHBOUR: 'it returns false'. Refute it at one input. -/
def gridPutsWrong : ChangeSpec := { name := "gridPuts", fn := fun _ => fun
  | [d1, d2, d3] => { results := [.lit (.bool false)], args := [d1, d2, d3] }
  | _ => none }
def GridPutsWrongFalsely : Prop := gridPutsRow.holds Try.pinned (OpenSpec.ofChange gridPutsWrong)

/-- 'slipstreamlaw02.GridMoves': WHATEVER THE INPUT: true; the input reads as it did. -/
def gridMovesSpec : ChangeSpec := { name := "gridMoves", fn := fun _ => fun
  | [d1, d2, d3] => { results := [.lit (.bool true)], args := [d1, d2, d3] }
  | _ => none }
def gridMovesRow : OpenClaim := { program := "ytnkehlankidlnaa", sum := "58b25cfb3d2be1f93a08157f7bcbf0b3425a359a7de846fbefd27677750ec781", func := "slipstream/slipstreamlaw02.GridMoves", spec := "gridMoves", unfollowed := true, recurses := true, apart := false }
def GridMovesSaid : Prop := gridMovesRow.holds Try.pinned (OpenSpec.ofChange gridMovesSpec)

/-- ITS FALSE NEIGHBOUR: 'it returns false'. Refute it at one input. -/
def gridMovesWrong : ChangeSpec := { name := "gridMoves", fn := fun _ => fun
  | [d1, d2, d3] => { results := [.lit (.bool false)], args := [d1, d2, d3] }
  | _ => none }
def GridMovesWrongFalsely : Prop := gridMovesRow.holds Try.pinned (OpenSpec.ofChange gridMovesWrong)

/-- 'slipstreamlaw02.GridSymmetric': WHATEVER THE INPUT: true; the input reads as it did. -/
def gridSymmetricSpec : ChangeSpec := { name := "gridSymmetric", fn := fun _ => fun
  | [d1, d2, d3] => { results := [.lit (.bool true)], args := [d1, d2, d3] }
  | _ => none }
def gridSymmetricRow : OpenClaim := { program := "ytnkehlankidlnaa", sum := "58b25cfb3d2be1f93a08157f7bcbf0b3425a359a7de846fbefd27677750ec781", func := "slipstream/slipstreamlaw02.GridSymmetric", spec := "gridSymmetric", unfollowed := true, recurses := true, apart := false }
def GridSymmetricSaid : Prop := gridSymmetricRow.holds Try.pinned (OpenSpec.ofChange gridSymmetricSpec)

/-- ITS FALSE NEIGHBOUR: 'it returns false'. Refute it at one input. -/
def gridSymmetricWrong : ChangeSpec := { name := "gridSymmetric", fn := fun _ => fun
  | [d1, d2, d3] => { results := [.lit (.bool false)], args := [d1, d2, d3] }
  | _ => none }
def GridSymmetricWrongFalsely : Prop := gridSymmetricRow.holds Try.pinned (OpenSpec.ofChange gridSymmetricWrong)

/-- 'slipstreamlaw02.GridAdds': WHATEVER THE INPUT: true; the input reads as it did. -/
def gridAddsSpec : ChangeSpec := { name := "gridAdds", fn := fun _ => fun
  | [d1, d2] => { results := [.lit (.bool true)], args := [d1, d2] }
  | _ => none }
def gridAddsRow : OpenClaim := { program := "ytnkehlankidlnaa", sum := "58b25cfb3d2be1f93a08157f7bcbf0b3425a359a7de846fbefd27677750ec781", func := "slipstream/slipstreamlaw02.GridAdds", spec := "gridAdds", unfollowed := true, recurses := true, apart := false }
def GridAddsSaid : Prop := gridAddsRow.holds Try.pinned (OpenSpec.ofChange gridAddsSpec)

/-- ITS FALSE NEIGHBOUR: 'it returns false'. Refute it at one input. -/
def gridAddsWrong : ChangeSpec := { name := "gridAdds", fn := fun _ => fun
  | [d1, d2] => { results := [.lit (.bool false)], args := [d1, d2] }
  | _ => none }
def GridAddsWrongFalsely : Prop := gridAddsRow.holds Try.pinned (OpenSpec.ofChange gridAddsWrong)

/- THE SECOND FORM. 'bulk': how many values and letters a reading holds, each counted each time it is reached (what is shared counts as often as it is met; a slice's spare places count too). A statement '..UptoSaid' is the law's where the arguments, and the package variables that the reading takes, are together of bulk at most 1048576: NARROWER than '..Said'. Prove '..Said' where nothing that the law and all that it calls make is longer than what came in: it says more and counts as full. Else prove '..UptoSaid'. A law counts once. -/
mutual
def uptoBulk {H : Type} : DataW H → Nat
  | .lit (.string bytes) => bytes.length + 1
  | .lit _ => 1
  | .nil => 1
  | .ptr d => uptoBulk d + 1
  | .slice elems spare => uptoBulkAll elems + uptoBulkAll spare + 1
  | .agg parts => uptoBulkAll parts + 1
  | .iface _ d => uptoBulk d + 1
  | .map entries => uptoBulkEntries entries + 1
  | .held _ => 1
def uptoBulkAll {H : Type} : List (DataW H) → Nat
  | [] => 0
  | d :: r => uptoBulk d + uptoBulkAll r
def uptoBulkEntries {H : Type} : List (Lit × DataW H) → Nat
  | [] => 0
  | x :: r => uptoBulkEntry x + uptoBulkEntries r
def uptoBulkEntry {H : Type} : Lit × DataW H → Nat
  | (.string bytes, d) => bytes.length + uptoBulk d + 1
  | (_, d) => uptoBulk d + 1
 end
def uptoSmall : (H : Type) → List (DataW H) → Bool := fun _ ds => decide (uptoBulkAll ds ≤ 1048576)
def OpenSpec.upto (s : _root_.Go.ChangeSpec) : _root_.Go.OpenSpec := { _root_.Go.OpenSpec.ofChange s with cond := some uptoSmall }

/-- 'slipstreamlaw01.CellOrders', WHERE WHAT IT READS IS OF BULK AT MOST 1048576: true; the input reads as it did. -/
def cellOrdersUptoRow : OpenClaim := { program := "ytnkehlankidlnaa", sum := "58b25cfb3d2be1f93a08157f7bcbf0b3425a359a7de846fbefd27677750ec781", func := "slipstream/slipstreamlaw01.CellOrders", spec := "cellOrders", unfollowed := true, recurses := true, apart := false, narrowed := true }
def CellOrdersUptoSaid : Prop := cellOrdersUptoRow.holds Try.pinned (OpenSpec.upto cellOrdersSpec)

/-- 'slipstreamlaw01.CellAdds', WHERE WHAT IT READS IS OF BULK AT MOST 1048576: true; the input reads as it did. -/
def cellAddsUptoRow : OpenClaim := { program := "ytnkehlankidlnaa", sum := "58b25cfb3d2be1f93a08157f7bcbf0b3425a359a7de846fbefd27677750ec781", func := "slipstream/slipstreamlaw01.CellAdds", spec := "cellAdds", unfollowed := true, recurses := true, apart := false, narrowed := true }
def CellAddsUptoSaid : Prop := cellAddsUptoRow.holds Try.pinned (OpenSpec.upto cellAddsSpec)

/-- 'slipstreamlaw02.GridStreams', WHERE WHAT IT READS IS OF BULK AT MOST 1048576: true; the input reads as it did. -/
def gridStreamsUptoRow : OpenClaim := { program := "ytnkehlankidlnaa", sum := "58b25cfb3d2be1f93a08157f7bcbf0b3425a359a7de846fbefd27677750ec781", func := "slipstream/slipstreamlaw02.GridStreams", spec := "gridStreams", unfollowed := true, recurses := true, apart := false, narrowed := true }
def GridStreamsUptoSaid : Prop := gridStreamsUptoRow.holds Try.pinned (OpenSpec.upto gridStreamsSpec)

/-- 'slipstreamlaw02.GridPuts', WHERE WHAT IT READS IS OF BULK AT MOST 1048576: true; the input reads as it did. -/
def gridPutsUptoRow : OpenClaim := { program := "ytnkehlankidlnaa", sum := "58b25cfb3d2be1f93a08157f7bcbf0b3425a359a7de846fbefd27677750ec781", func := "slipstream/slipstreamlaw02.GridPuts", spec := "gridPuts", unfollowed := true, recurses := true, apart := false, narrowed := true }
def GridPutsUptoSaid : Prop := gridPutsUptoRow.holds Try.pinned (OpenSpec.upto gridPutsSpec)

/-- 'slipstreamlaw02.GridMoves', WHERE WHAT IT READS IS OF BULK AT MOST 1048576: true; the input reads as it did. -/
def gridMovesUptoRow : OpenClaim := { program := "ytnkehlankidlnaa", sum := "58b25cfb3d2be1f93a08157f7bcbf0b3425a359a7de846fbefd27677750ec781", func := "slipstream/slipstreamlaw02.GridMoves", spec := "gridMoves", unfollowed := true, recurses := true, apart := false, narrowed := true }
def GridMovesUptoSaid : Prop := gridMovesUptoRow.holds Try.pinned (OpenSpec.upto gridMovesSpec)

/-- 'slipstreamlaw02.GridSymmetric', WHERE WHAT IT READS IS OF BULK AT MOST 1048576: true; the input reads as it did. -/
def gridSymmetricUptoRow : OpenClaim := { program := "ytnkehlankidlnaa", sum := "58b25cfb3d2be1f93a08157f7bcbf0b3425a359a7de846fbefd27677750ec781", func := "slipstream/slipstreamlaw02.GridSymmetric", spec := "gridSymmetric", unfollowed := true, recurses := true, apart := false, narrowed := true }
def GridSymmetricUptoSaid : Prop := gridSymmetricUptoRow.holds Try.pinned (OpenSpec.upto gridSymmetricSpec)

/-- 'slipstreamlaw02.GridAdds', WHERE WHAT IT READS IS OF BULK AT MOST 1048576: true; the input reads as it did. -/
def gridAddsUptoRow : OpenClaim := { program := "ytnkehlankidlnaa", sum := "58b25cfb3d2be1f93a08157f7bcbf0b3425a359a7de846fbefd27677750ec781", func := "slipstream/slipstreamlaw02.GridAdds", spec := "gridAdds", unfollowed := true, recurses := true, apart := false, narrowed := true }
def GridAddsUptoSaid : Prop := gridAddsUptoRow.holds Try.pinned (OpenSpec.upto gridAddsSpec)

end Rows
end Go.Proofs.Ytnkehlankidlnaa
