/-
  NARROWER THAN 'FOR EVERY INPUT', by the rows' own cells (each row's printed sentence says how): FieldMeans: laid · FieldWeighs: laid · FieldCrosses: laid · FieldSpreads: laid · WallRemoves: laid · PhaseKinds: laid.
  DERIVED. THE GIVEN ROWS OF THIS SEAT. 6 by the template 'for every input the law returns true; each argument reads behind the call as it read before'; 0 by the template 'total and deterministic' (their statements: YtmdeooflgkjbbaaDoorTotals.lean).
  GIVEN WITH THE SEED: the statements are not yours to turn. If you find one false, say at which input.
  Laid BY PROGRAM, IN A SANDBOX (cutbox-rows.mjs): the forced cells as the released guide's own fill.sh prints them over the translation 168849e407acb4c8… (all of the seat's roots in one cut). By AI agents, Wed Nov 11 2026. No macro, syntax, notation, axiom, sorry.
-/
import Derived.Test.YtmdeooflgkjbbaaDoorChecked
import GoSem.Claim
import GoSem.ClaimJoined
import GoSem.ClaimMapViews
import Derived.JoinedTies
import Derived.KernelRfl
namespace Go.Proofs.YtmdeooflgkjbbaaDoor
/- THE CELL 'sum', in the pinned program and in every row, IS THE sha256 OF THE DUMP (.gsa) THAT YtmdeooflgkjbbaaDoorProg.lean LOADS. Nothing in Lean hashes anything: it is a label: what it is worth is what the hold of that sum in a sandbox is worth. -/
noncomputable def Tryd.pinned : Pinned := { name := "ytmdeooflgkjbbaadoor", sum := "168849e407acb4c8a6ebe0b105ce4337b1af7de8044b719035d30a986e886b17", checked := Tryd.checked }
namespace Rows
def none {H : Type} : Left H := { results := [], args := [] }

/- WHAT THE LISTED PACKAGE-LEVEL VARIABLES READ AS WHEN THE CALL BEGINS. Each datum BY PROGRAM (the guide's laid-datum.mjs) off the statement by which the dump's own 'gosem.cut.vars' lays the variable. In a bare row this is a premise. The card (YtmdeooflgkjbbaaDoorCards.lean) ties it to the program's text. -/
def laid_slipstream_field_moves {H : Type} : DataW H := .agg [.agg [.lit (.int .i64 1), .lit (.int .i64 0), .lit (.int .u8 62)], .agg [.lit (.int .i64 0), .lit (.int .i64 1), .lit (.int .u8 94)], .agg [.lit (.int .i64 (-1)), .lit (.int .i64 0), .lit (.int .u8 60)], .agg [.lit (.int .i64 0), .lit (.int .i64 (-1)), .lit (.int .u8 118)]]
def laid_slipstream_field_across {H : Type} : DataW H := .agg [.agg [.lit (.int .i64 0), .lit (.int .i64 2)], .agg [.lit (.int .i64 1), .lit (.int .i64 3)]]
def laid_slipstream_wall_exchanged {H : Type} : DataW H := .agg [.agg [.lit (.int .i64 0), .lit (.int .i64 1), .lit (.int .i64 2), .lit (.int .i64 3)], .agg [.lit (.int .i64 2), .lit (.int .i64 3), .lit (.int .i64 0), .lit (.int .i64 1)], .agg [.lit (.int .i64 1), .lit (.int .i64 0), .lit (.int .i64 3), .lit (.int .i64 2)], .agg [.lit (.int .i64 3), .lit (.int .i64 2), .lit (.int .i64 1), .lit (.int .i64 0)]]
def laid_slipstream_phase_ends {H : Type} : DataW H := .agg [.agg [.lit (.int .i64 0), .lit (.int .i64 2)], .agg [.lit (.int .i64 1), .lit (.int .i64 3)]]

/-- 'slipstreamlaw08.FieldMeans': WHATEVER THE INPUT: true; the input reads as it did. -/
def fieldMeansSpec : ChangeSpec := { name := "fieldMeans", fn := fun _ => fun
  | [d1, d2, d3, d4, d5, d6] => { results := [.lit (.bool true)], args := [d1, d2, d3, d4, d5, d6] }
  | _ => none }
def fieldMeansRow : OpenClaim := { program := "ytmdeooflgkjbbaadoor", sum := "168849e407acb4c8a6ebe0b105ce4337b1af7de8044b719035d30a986e886b17", func := "slipstream/slipstreamlaw08.FieldMeans", spec := "fieldMeans", inPlace := ["internal/abi.NoEscape"], unfollowed := true, recurses := true, named := ["slipstream/field.moves"], apart := false, laid := [("slipstream/field.moves", laid_slipstream_field_moves)] }
def FieldMeansSaid : Prop := fieldMeansRow.holds Tryd.pinned (OpenSpec.ofChange fieldMeansSpec)

/-- ITS FALSE NEIGHBOUR: 'it returns false'. Refute it at one input. -/
def fieldMeansWrong : ChangeSpec := { name := "fieldMeans", fn := fun _ => fun
  | [d1, d2, d3, d4, d5, d6] => { results := [.lit (.bool false)], args := [d1, d2, d3, d4, d5, d6] }
  | _ => none }
def FieldMeansWrongFalsely : Prop := fieldMeansRow.holds Tryd.pinned (OpenSpec.ofChange fieldMeansWrong)

/-- 'slipstreamlaw08.FieldWeighs': WHATEVER THE INPUT: true; the input reads as it did. -/
def fieldWeighsSpec : ChangeSpec := { name := "fieldWeighs", fn := fun _ => fun
  | [d1, d2, d3, d4, d5] => { results := [.lit (.bool true)], args := [d1, d2, d3, d4, d5] }
  | _ => none }
def fieldWeighsRow : OpenClaim := { program := "ytmdeooflgkjbbaadoor", sum := "168849e407acb4c8a6ebe0b105ce4337b1af7de8044b719035d30a986e886b17", func := "slipstream/slipstreamlaw08.FieldWeighs", spec := "fieldWeighs", inPlace := ["internal/abi.NoEscape"], unfollowed := true, recurses := true, named := ["slipstream/field.moves"], apart := false, laid := [("slipstream/field.moves", laid_slipstream_field_moves)] }
def FieldWeighsSaid : Prop := fieldWeighsRow.holds Tryd.pinned (OpenSpec.ofChange fieldWeighsSpec)

/-- ITS FALSE NEIGHBOUR: 'it returns false'. Refute it at one input. -/
def fieldWeighsWrong : ChangeSpec := { name := "fieldWeighs", fn := fun _ => fun
  | [d1, d2, d3, d4, d5] => { results := [.lit (.bool false)], args := [d1, d2, d3, d4, d5] }
  | _ => none }
def FieldWeighsWrongFalsely : Prop := fieldWeighsRow.holds Tryd.pinned (OpenSpec.ofChange fieldWeighsWrong)

/-- 'slipstreamlaw08.FieldCrosses': WHATEVER THE INPUT: true; the input reads as it did. -/
def fieldCrossesSpec : ChangeSpec := { name := "fieldCrosses", fn := fun _ => fun
  | [d1, d2, d3, d4, d5] => { results := [.lit (.bool true)], args := [d1, d2, d3, d4, d5] }
  | _ => none }
def fieldCrossesRow : OpenClaim := { program := "ytmdeooflgkjbbaadoor", sum := "168849e407acb4c8a6ebe0b105ce4337b1af7de8044b719035d30a986e886b17", func := "slipstream/slipstreamlaw08.FieldCrosses", spec := "fieldCrosses", inPlace := ["internal/abi.NoEscape"], unfollowed := true, recurses := true, named := ["slipstream/field.moves", "slipstream/field.across"], apart := false, laid := [("slipstream/field.moves", laid_slipstream_field_moves), ("slipstream/field.across", laid_slipstream_field_across)] }
def FieldCrossesSaid : Prop := fieldCrossesRow.holds Tryd.pinned (OpenSpec.ofChange fieldCrossesSpec)

/-- ITS FALSE NEIGHBOUR: 'it returns false'. Refute it at one input. -/
def fieldCrossesWrong : ChangeSpec := { name := "fieldCrosses", fn := fun _ => fun
  | [d1, d2, d3, d4, d5] => { results := [.lit (.bool false)], args := [d1, d2, d3, d4, d5] }
  | _ => none }
def FieldCrossesWrongFalsely : Prop := fieldCrossesRow.holds Tryd.pinned (OpenSpec.ofChange fieldCrossesWrong)

/-- 'slipstreamlaw08.FieldSpreads': WHATEVER THE INPUT: true; the input reads as it did. -/
def fieldSpreadsSpec : ChangeSpec := { name := "fieldSpreads", fn := fun _ => fun
  | [d] => { results := [.lit (.bool true)], args := [d] }
  | _ => none }
def fieldSpreadsRow : OpenClaim := { program := "ytmdeooflgkjbbaadoor", sum := "168849e407acb4c8a6ebe0b105ce4337b1af7de8044b719035d30a986e886b17", func := "slipstream/slipstreamlaw08.FieldSpreads", spec := "fieldSpreads", inPlace := ["internal/abi.NoEscape"], unfollowed := true, recurses := true, named := ["slipstream/field.moves"], apart := false, laid := [("slipstream/field.moves", laid_slipstream_field_moves)] }
def FieldSpreadsSaid : Prop := fieldSpreadsRow.holds Tryd.pinned (OpenSpec.ofChange fieldSpreadsSpec)

/-- ITS FALSE NEIGHBOUR: 'it returns false'. Refute it at one input. -/
def fieldSpreadsWrong : ChangeSpec := { name := "fieldSpreads", fn := fun _ => fun
  | [d] => { results := [.lit (.bool false)], args := [d] }
  | _ => none }
def FieldSpreadsWrongFalsely : Prop := fieldSpreadsRow.holds Tryd.pinned (OpenSpec.ofChange fieldSpreadsWrong)

/-- 'slipstreamlaw03.WallRemoves': WHATEVER THE INPUT: true; the input reads as it did. -/
def wallRemovesSpec : ChangeSpec := { name := "wallRemoves", fn := fun _ => fun
  | [d1, d2, d3] => { results := [.lit (.bool true)], args := [d1, d2, d3] }
  | _ => none }
def wallRemovesRow : OpenClaim := { program := "ytmdeooflgkjbbaadoor", sum := "168849e407acb4c8a6ebe0b105ce4337b1af7de8044b719035d30a986e886b17", func := "slipstream/slipstreamlaw03.WallRemoves", spec := "wallRemoves", unfollowed := true, recurses := true, named := ["slipstream/wall.exchanged"], apart := false, laid := [("slipstream/wall.exchanged", laid_slipstream_wall_exchanged)] }
def WallRemovesSaid : Prop := wallRemovesRow.holds Tryd.pinned (OpenSpec.ofChange wallRemovesSpec)

/-- ITS FALSE NEIGHBOUR: 'it returns false'. Refute it at one input. -/
def wallRemovesWrong : ChangeSpec := { name := "wallRemoves", fn := fun _ => fun
  | [d1, d2, d3] => { results := [.lit (.bool false)], args := [d1, d2, d3] }
  | _ => none }
def WallRemovesWrongFalsely : Prop := wallRemovesRow.holds Tryd.pinned (OpenSpec.ofChange wallRemovesWrong)

/-- 'slipstreamlaw04.PhaseKinds': WHATEVER THE INPUT: true; the input reads as it did. -/
def phaseKindsSpec : ChangeSpec := { name := "phaseKinds", fn := fun _ => fun
  | [d1, d2, d3] => { results := [.lit (.bool true)], args := [d1, d2, d3] }
  | _ => none }
def phaseKindsRow : OpenClaim := { program := "ytmdeooflgkjbbaadoor", sum := "168849e407acb4c8a6ebe0b105ce4337b1af7de8044b719035d30a986e886b17", func := "slipstream/slipstreamlaw04.PhaseKinds", spec := "phaseKinds", unfollowed := true, recurses := true, named := ["slipstream/phase.ends"], apart := false, laid := [("slipstream/phase.ends", laid_slipstream_phase_ends)] }
def PhaseKindsSaid : Prop := phaseKindsRow.holds Tryd.pinned (OpenSpec.ofChange phaseKindsSpec)

/-- ITS FALSE NEIGHBOUR: 'it returns false'. Refute it at one input. -/
def phaseKindsWrong : ChangeSpec := { name := "phaseKinds", fn := fun _ => fun
  | [d1, d2, d3] => { results := [.lit (.bool false)], args := [d1, d2, d3] }
  | _ => none }
def PhaseKindsWrongFalsely : Prop := phaseKindsRow.holds Tryd.pinned (OpenSpec.ofChange phaseKindsWrong)

/- THE SECOND FORM. 'bulk': how many values and letters a reading holds, each counted each time it is reached (what is shared counts as often as it is met; a slice's spare places count too). A statement '..UptoSaid' is the law's where the arguments, and the package variables that the reading takes, are together of bulk at most 1048576: NARROWER than '..Said'. Prove '..Said' where nothing that the law and all that it calls make is longer than what came in: it says more and counts as full. Else prove '..UptoSaid'. A law counts once. -/
mutual
def uptoBulk {H : Type} : DataW H → Nat
  | .lit (.string bytes) => bytes.length + 1
  | .lit _ => 1
  | .nil => 1
  | .ptr d => uptoBulk d + 1
  | .slice elems spare => uptoBulkAll elems + uptoBulkAll spare + 1
  | .agg parts => uptoBulkAll parts + 1
  | .iface _ d => uptoBulk d + 1
  | .map entries => uptoBulkEntries entries + 1
  | .held _ => 1
def uptoBulkAll {H : Type} : List (DataW H) → Nat
  | [] => 0
  | d :: r => uptoBulk d + uptoBulkAll r
def uptoBulkEntries {H : Type} : List (Lit × DataW H) → Nat
  | [] => 0
  | x :: r => uptoBulkEntry x + uptoBulkEntries r
def uptoBulkEntry {H : Type} : Lit × DataW H → Nat
  | (.string bytes, d) => bytes.length + uptoBulk d + 1
  | (_, d) => uptoBulk d + 1
 end
def uptoSmall : (H : Type) → List (DataW H) → Bool := fun _ ds => decide (uptoBulkAll ds ≤ 1048576)
def OpenSpec.upto (s : _root_.Go.ChangeSpec) : _root_.Go.OpenSpec := { _root_.Go.OpenSpec.ofChange s with cond := some uptoSmall }

/-- 'slipstreamlaw08.FieldMeans', WHERE WHAT IT READS IS OF BULK AT MOST 1048576: true; the input reads as it did. -/
def fieldMeansUptoRow : OpenClaim := { program := "ytmdeooflgkjbbaadoor", sum := "168849e407acb4c8a6ebe0b105ce4337b1af7de8044b719035d30a986e886b17", func := "slipstream/slipstreamlaw08.FieldMeans", spec := "fieldMeans", inPlace := ["internal/abi.NoEscape"], unfollowed := true, recurses := true, named := ["slipstream/field.moves"], apart := false, laid := [("slipstream/field.moves", laid_slipstream_field_moves)], narrowed := true }
def FieldMeansUptoSaid : Prop := fieldMeansUptoRow.holds Tryd.pinned (OpenSpec.upto fieldMeansSpec)

/-- 'slipstreamlaw08.FieldWeighs', WHERE WHAT IT READS IS OF BULK AT MOST 1048576: true; the input reads as it did. -/
def fieldWeighsUptoRow : OpenClaim := { program := "ytmdeooflgkjbbaadoor", sum := "168849e407acb4c8a6ebe0b105ce4337b1af7de8044b719035d30a986e886b17", func := "slipstream/slipstreamlaw08.FieldWeighs", spec := "fieldWeighs", inPlace := ["internal/abi.NoEscape"], unfollowed := true, recurses := true, named := ["slipstream/field.moves"], apart := false, laid := [("slipstream/field.moves", laid_slipstream_field_moves)], narrowed := true }
def FieldWeighsUptoSaid : Prop := fieldWeighsUptoRow.holds Tryd.pinned (OpenSpec.upto fieldWeighsSpec)

/-- 'slipstreamlaw08.FieldCrosses', WHERE WHAT IT READS IS OF BULK AT MOST 1048576: true; the input reads as it did. -/
def fieldCrossesUptoRow : OpenClaim := { program := "ytmdeooflgkjbbaadoor", sum := "168849e407acb4c8a6ebe0b105ce4337b1af7de8044b719035d30a986e886b17", func := "slipstream/slipstreamlaw08.FieldCrosses", spec := "fieldCrosses", inPlace := ["internal/abi.NoEscape"], unfollowed := true, recurses := true, named := ["slipstream/field.moves", "slipstream/field.across"], apart := false, laid := [("slipstream/field.moves", laid_slipstream_field_moves), ("slipstream/field.across", laid_slipstream_field_across)], narrowed := true }
def FieldCrossesUptoSaid : Prop := fieldCrossesUptoRow.holds Tryd.pinned (OpenSpec.upto fieldCrossesSpec)

/-- 'slipstreamlaw08.FieldSpreads', WHERE WHAT IT READS IS OF BULK AT MOST 1048576: true; the input reads as it did. -/
def fieldSpreadsUptoRow : OpenClaim := { program := "ytmdeooflgkjbbaadoor", sum := "168849e407acb4c8a6ebe0b105ce4337b1af7de8044b719035d30a986e886b17", func := "slipstream/slipstreamlaw08.FieldSpreads", spec := "fieldSpreads", inPlace := ["internal/abi.NoEscape"], unfollowed := true, recurses := true, named := ["slipstream/field.moves"], apart := false, laid := [("slipstream/field.moves", laid_slipstream_field_moves)], narrowed := true }
def FieldSpreadsUptoSaid : Prop := fieldSpreadsUptoRow.holds Tryd.pinned (OpenSpec.upto fieldSpreadsSpec)

/-- 'slipstreamlaw03.WallRemoves', WHERE WHAT IT READS IS OF BULK AT MOST 1048576: true; the input reads as it did. -/
def wallRemovesUptoRow : OpenClaim := { program := "ytmdeooflgkjbbaadoor", sum := "168849e407acb4c8a6ebe0b105ce4337b1af7de8044b719035d30a986e886b17", func := "slipstream/slipstreamlaw03.WallRemoves", spec := "wallRemoves", unfollowed := true, recurses := true, named := ["slipstream/wall.exchanged"], apart := false, laid := [("slipstream/wall.exchanged", laid_slipstream_wall_exchanged)], narrowed := true }
def WallRemovesUptoSaid : Prop := wallRemovesUptoRow.holds Tryd.pinned (OpenSpec.upto wallRemovesSpec)

/-- 'slipstreamlaw04.PhaseKinds', WHERE WHAT IT READS IS OF BULK AT MOST 1048576: true; the input reads as it did. -/
def phaseKindsUptoRow : OpenClaim := { program := "ytmdeooflgkjbbaadoor", sum := "168849e407acb4c8a6ebe0b105ce4337b1af7de8044b719035d30a986e886b17", func := "slipstream/slipstreamlaw04.PhaseKinds", spec := "phaseKinds", unfollowed := true, recurses := true, named := ["slipstream/phase.ends"], apart := false, laid := [("slipstream/phase.ends", laid_slipstream_phase_ends)], narrowed := true }
def PhaseKindsUptoSaid : Prop := phaseKindsUptoRow.holds Tryd.pinned (OpenSpec.upto phaseKindsSpec)

end Rows
end Go.Proofs.YtmdeooflgkjbbaaDoor
