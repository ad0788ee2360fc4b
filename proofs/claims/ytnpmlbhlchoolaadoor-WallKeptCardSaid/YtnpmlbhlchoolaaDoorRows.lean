/-
  NARROWER THAN 'FOR EVERY INPUT', by the rows' own cells (each row's printed sentence says how): WallSteps: laid · WallRuns: laid · WallKept: laid · WallImpulses: laid · WallDrags: laid · WallMirrors: laid.
  DERIVED. THE GIVEN ROWS OF THIS SEAT. 6 by the template 'for every input the law returns true; each argument reads behind the call as it read before'; 0 by the template 'total and deterministic' (their statements: YtnpmlbhlchoolaaDoorTotals.lean).
  GIVEN WITH THE SEED: the statements are not yours to turn. If you find one false, say at which input.
  Laid BY PROGRAM, IN A SANDBOX (cutbox-rows.mjs): the forced cells as the released guide's own fill.sh prints them over the translation ce4cdc8ea57e707c… (all of the seat's roots in one cut). By AI agents, Wed Nov 11 2026. No macro, syntax, notation, axiom, sorry.
-/
import Derived.Test.YtnpmlbhlchoolaaDoorChecked
import GoSem.Claim
import GoSem.ClaimJoined
import GoSem.ClaimMapViews
import Derived.JoinedTies
import Derived.KernelRfl
namespace Go.Proofs.YtnpmlbhlchoolaaDoor
/- THE CELL 'sum', in the pinned program and in every row, IS THE sha256 OF THE DUMP (.gsa) THAT YtnpmlbhlchoolaaDoorProg.lean LOADS. Nothing in Lean hashes anything: it is a label: what it is worth is what the hold of that sum in a sandbox is worth. -/
noncomputable def Tryd.pinned : Pinned := { name := "ytnpmlbhlchoolaadoor", sum := "ce4cdc8ea57e707cb27a56d58fdb1547ad87c55e9c4035c51cbaaa06fc2b351a", checked := Tryd.checked }
namespace Rows
def none {H : Type} : Left H := { results := [], args := [] }

/- WHAT THE LISTED PACKAGE-LEVEL VARIABLES READ AS WHEN THE CALL BEGINS. Each datum BY PROGRAM (the guide's laid-datum.mjs) off the statement by which the dump's own 'gosem.cut.vars' lays the variable. In a bare row this is a premise. The card (YtnpmlbhlchoolaaDoorCards.lean) ties it to the program's text. -/
def laid_slipstream_wall_exchanged {H : Type} : DataW H := .agg [.agg [.lit (.int .i64 0), .lit (.int .i64 1), .lit (.int .i64 2), .lit (.int .i64 3)], .agg [.lit (.int .i64 2), .lit (.int .i64 3), .lit (.int .i64 0), .lit (.int .i64 1)], .agg [.lit (.int .i64 1), .lit (.int .i64 0), .lit (.int .i64 3), .lit (.int .i64 2)], .agg [.lit (.int .i64 3), .lit (.int .i64 2), .lit (.int .i64 1), .lit (.int .i64 0)]]

/-- 'slipstreamlaw03.WallSteps': WHATEVER THE INPUT: true; the input reads as it did. -/
def wallStepsSpec : ChangeSpec := { name := "wallSteps", fn := fun _ => fun
  | [d1, d2, d3] => { results := [.lit (.bool true)], args := [d1, d2, d3] }
  | _ => none }
def wallStepsRow : OpenClaim := { program := "ytnpmlbhlchoolaadoor", sum := "ce4cdc8ea57e707cb27a56d58fdb1547ad87c55e9c4035c51cbaaa06fc2b351a", func := "slipstream/slipstreamlaw03.WallSteps", spec := "wallSteps", unfollowed := true, recurses := true, named := ["slipstream/wall.exchanged"], apart := false, laid := [("slipstream/wall.exchanged", laid_slipstream_wall_exchanged)] }
def WallStepsSaid : Prop := wallStepsRow.holds Tryd.pinned (OpenSpec.ofChange wallStepsSpec)

/-- ITS FALSE NEIGHBOUR: 'it returns false'. Refute it at one input. -/
def wallStepsWrong : ChangeSpec := { name := "wallSteps", fn := fun _ => fun
  | [d1, d2, d3] => { results := [.lit (.bool false)], args := [d1, d2, d3] }
  | _ => none }
def WallStepsWrongFalsely : Prop := wallStepsRow.holds Tryd.pinned (OpenSpec.ofChange wallStepsWrong)

/-- 'slipstreamlaw03.WallRuns': WHATEVER THE INPUT: true; the input reads as it did. -/
def wallRunsSpec : ChangeSpec := { name := "wallRuns", fn := fun _ => fun
  | [d1, d2, d3] => { results := [.lit (.bool true)], args := [d1, d2, d3] }
  | _ => none }
def wallRunsRow : OpenClaim := { program := "ytnpmlbhlchoolaadoor", sum := "ce4cdc8ea57e707cb27a56d58fdb1547ad87c55e9c4035c51cbaaa06fc2b351a", func := "slipstream/slipstreamlaw03.WallRuns", spec := "wallRuns", unfollowed := true, recurses := true, named := ["slipstream/wall.exchanged"], apart := false, laid := [("slipstream/wall.exchanged", laid_slipstream_wall_exchanged)] }
def WallRunsSaid : Prop := wallRunsRow.holds Tryd.pinned (OpenSpec.ofChange wallRunsSpec)

/-- ITS FALSE NEIGHBOUR: 'it returns false'. Refute it at one input. -/
def wallRunsWrong : ChangeSpec := { name := "wallRuns", fn := fun _ => fun
  | [d1, d2, d3] => { results := [.lit (.bool false)], args := [d1, d2, d3] }
  | _ => none }
def WallRunsWrongFalsely : Prop := wallRunsRow.holds Tryd.pinned (OpenSpec.ofChange wallRunsWrong)

/-- 'slipstreamlaw03.WallKept': WHATEVER THE INPUT: true; the input reads as it did. -/
def wallKeptSpec : ChangeSpec := { name := "wallKept", fn := fun _ => fun
  | [d1, d2, d3] => { results := [.lit (.bool true)], args := [d1, d2, d3] }
  | _ => none }
def wallKeptRow : OpenClaim := { program := "ytnpmlbhlchoolaadoor", sum := "ce4cdc8ea57e707cb27a56d58fdb1547ad87c55e9c4035c51cbaaa06fc2b351a", func := "slipstream/slipstreamlaw03.WallKept", spec := "wallKept", unfollowed := true, recurses := true, named := ["slipstream/wall.exchanged"], apart := false, laid := [("slipstream/wall.exchanged", laid_slipstream_wall_exchanged)] }
def WallKeptSaid : Prop := wallKeptRow.holds Tryd.pinned (OpenSpec.ofChange wallKeptSpec)

/-- ITS FALSE NEIGHBOUR: 'it returns false'. Refute it at one input. -/
def wallKeptWrong : ChangeSpec := { name := "wallKept", fn := fun _ => fun
  | [d1, d2, d3] => { results := [.lit (.bool false)], args := [d1, d2, d3] }
  | _ => none }
def WallKeptWrongFalsely : Prop := wallKeptRow.holds Tryd.pinned (OpenSpec.ofChange wallKeptWrong)

/-- 'slipstreamlaw03.WallImpulses': WHATEVER THE INPUT: true; the input reads as it did. -/
def wallImpulsesSpec : ChangeSpec := { name := "wallImpulses", fn := fun _ => fun
  | [d1, d2] => { results := [.lit (.bool true)], args := [d1, d2] }
  | _ => none }
def wallImpulsesRow : OpenClaim := { program := "ytnpmlbhlchoolaadoor", sum := "ce4cdc8ea57e707cb27a56d58fdb1547ad87c55e9c4035c51cbaaa06fc2b351a", func := "slipstream/slipstreamlaw03.WallImpulses", spec := "wallImpulses", unfollowed := true, recurses := true, named := ["slipstream/wall.exchanged"], apart := false, laid := [("slipstream/wall.exchanged", laid_slipstream_wall_exchanged)] }
def WallImpulsesSaid : Prop := wallImpulsesRow.holds Tryd.pinned (OpenSpec.ofChange wallImpulsesSpec)

/-- ITS FALSE NEIGHBOUR: 'it returns false'. Refute it at one input. -/
def wallImpulsesWrong : ChangeSpec := { name := "wallImpulses", fn := fun _ => fun
  | [d1, d2] => { results := [.lit (.bool false)], args := [d1, d2] }
  | _ => none }
def WallImpulsesWrongFalsely : Prop := wallImpulsesRow.holds Tryd.pinned (OpenSpec.ofChange wallImpulsesWrong)

/-- 'slipstreamlaw03.WallDrags': WHATEVER THE INPUT: true; the input reads as it did. -/
def wallDragsSpec : ChangeSpec := { name := "wallDrags", fn := fun _ => fun
  | [d1, d2, d3] => { results := [.lit (.bool true)], args := [d1, d2, d3] }
  | _ => none }
def wallDragsRow : OpenClaim := { program := "ytnpmlbhlchoolaadoor", sum := "ce4cdc8ea57e707cb27a56d58fdb1547ad87c55e9c4035c51cbaaa06fc2b351a", func := "slipstream/slipstreamlaw03.WallDrags", spec := "wallDrags", unfollowed := true, recurses := true, named := ["slipstream/wall.exchanged"], apart := false, laid := [("slipstream/wall.exchanged", laid_slipstream_wall_exchanged)] }
def WallDragsSaid : Prop := wallDragsRow.holds Tryd.pinned (OpenSpec.ofChange wallDragsSpec)

/-- ITS FALSE NEIGHBOUR: 'it returns false'. Refute it at one input. -/
def wallDragsWrong : ChangeSpec := { name := "wallDrags", fn := fun _ => fun
  | [d1, d2, d3] => { results := [.lit (.bool false)], args := [d1, d2, d3] }
  | _ => none }
def WallDragsWrongFalsely : Prop := wallDragsRow.holds Tryd.pinned (OpenSpec.ofChange wallDragsWrong)

/-- 'slipstreamlaw03.WallMirrors': WHATEVER THE INPUT: true; the input reads as it did. -/
def wallMirrorsSpec : ChangeSpec := { name := "wallMirrors", fn := fun _ => fun
  | [d1, d2] => { results := [.lit (.bool true)], args := [d1, d2] }
  | _ => none }
def wallMirrorsRow : OpenClaim := { program := "ytnpmlbhlchoolaadoor", sum := "ce4cdc8ea57e707cb27a56d58fdb1547ad87c55e9c4035c51cbaaa06fc2b351a", func := "slipstream/slipstreamlaw03.WallMirrors", spec := "wallMirrors", unfollowed := true, recurses := true, named := ["slipstream/wall.exchanged"], apart := false, laid := [("slipstream/wall.exchanged", laid_slipstream_wall_exchanged)] }
def WallMirrorsSaid : Prop := wallMirrorsRow.holds Tryd.pinned (OpenSpec.ofChange wallMirrorsSpec)

/-- ITS FALSE NEIGHBOUR: 'it returns false'. Refute it at one input. -/
def wallMirrorsWrong : ChangeSpec := { name := "wallMirrors", fn := fun _ => fun
  | [d1, d2] => { results := [.lit (.bool false)], args := [d1, d2] }
  | _ => none }
def WallMirrorsWrongFalsely : Prop := wallMirrorsRow.holds Tryd.pinned (OpenSpec.ofChange wallMirrorsWrong)

/- THE SECOND FORM. 'bulk': how many values and letters a reading holds, each counted each time it is reached (what is shared counts as often as it is met; a slice's spare places count too). A statement '..UptoSaid' is the law's where the arguments, and the package variables that the reading takes, are together of bulk at most 1048576: NARROWER than '..Said'. Prove '..Said' where nothing that the law and all that it calls make is longer than what came in: it says more and counts as full. Else prove '..UptoSaid'. A law counts once. -/
mutual
def uptoBulk {H : Type} : DataW H → Nat
  | .lit (.string bytes) => bytes.length + 1
  | .lit _ => 1
  | .nil => 1
  | .ptr d => uptoBulk d + 1
  | .slice elems spare => uptoBulkAll elems + uptoBulkAll spare + 1
  | .agg parts => uptoBulkAll parts + 1
  | .iface _ d => uptoBulk d + 1
  | .map entries => uptoBulkEntries entries + 1
  | .held _ => 1
def uptoBulkAll {H : Type} : List (DataW H) → Nat
  | [] => 0
  | d :: r => uptoBulk d + uptoBulkAll r
def uptoBulkEntries {H : Type} : List (Lit × DataW H) → Nat
  | [] => 0
  | x :: r => uptoBulkEntry x + uptoBulkEntries r
def uptoBulkEntry {H : Type} : Lit × DataW H → Nat
  | (.string bytes, d) => bytes.length + uptoBulk d + 1
  | (_, d) => uptoBulk d + 1
 end
def uptoSmall : (H : Type) → List (DataW H) → Bool := fun _ ds => decide (uptoBulkAll ds ≤ 1048576)
def OpenSpec.upto (s : _root_.Go.ChangeSpec) : _root_.Go.OpenSpec := { _root_.Go.OpenSpec.ofChange s with cond := some uptoSmall }

/-- 'slipstreamlaw03.WallSteps', WHERE WHAT IT READS IS OF BULK AT MOST 1048576: true; the input reads as it did. -/
def wallStepsUptoRow : OpenClaim := { program := "ytnpmlbhlchoolaadoor", sum := "ce4cdc8ea57e707cb27a56d58fdb1547ad87c55e9c4035c51cbaaa06fc2b351a", func := "slipstream/slipstreamlaw03.WallSteps", spec := "wallSteps", unfollowed := true, recurses := true, named := ["slipstream/wall.exchanged"], apart := false, laid := [("slipstream/wall.exchanged", laid_slipstream_wall_exchanged)], narrowed := true }
def WallStepsUptoSaid : Prop := wallStepsUptoRow.holds Tryd.pinned (OpenSpec.upto wallStepsSpec)

/-- 'slipstreamlaw03.WallRuns', WHERE WHAT IT READS IS OF BULK AT MOST 1048576: true; the input reads as it did. -/
def wallRunsUptoRow : OpenClaim := { program := "ytnpmlbhlchoolaadoor", sum := "ce4cdc8ea57e707cb27a56d58fdb1547ad87c55e9c4035c51cbaaa06fc2b351a", func := "slipstream/slipstreamlaw03.WallRuns", spec := "wallRuns", unfollowed := true, recurses := true, named := ["slipstream/wall.exchanged"], apart := false, laid := [("slipstream/wall.exchanged", laid_slipstream_wall_exchanged)], narrowed := true }
def WallRunsUptoSaid : Prop := wallRunsUptoRow.holds Tryd.pinned (OpenSpec.upto wallRunsSpec)

/-- 'slipstreamlaw03.WallKept', WHERE WHAT IT READS IS OF BULK AT MOST 1048576: true; the input reads as it did. -/
def wallKeptUptoRow : OpenClaim := { program := "ytnpmlbhlchoolaadoor", sum := "ce4cdc8ea57e707cb27a56d58fdb1547ad87c55e9c4035c51cbaaa06fc2b351a", func := "slipstream/slipstreamlaw03.WallKept", spec := "wallKept", unfollowed := true, recurses := true, named := ["slipstream/wall.exchanged"], apart := false, laid := [("slipstream/wall.exchanged", laid_slipstream_wall_exchanged)], narrowed := true }
def WallKeptUptoSaid : Prop := wallKeptUptoRow.holds Tryd.pinned (OpenSpec.upto wallKeptSpec)

/-- 'slipstreamlaw03.WallImpulses', WHERE WHAT IT READS IS OF BULK AT MOST 1048576: true; the input reads as it did. -/
def wallImpulsesUptoRow : OpenClaim := { program := "ytnpmlbhlchoolaadoor", sum := "ce4cdc8ea57e707cb27a56d58fdb1547ad87c55e9c4035c51cbaaa06fc2b351a", func := "slipstream/slipstreamlaw03.WallImpulses", spec := "wallImpulses", unfollowed := true, recurses := true, named := ["slipstream/wall.exchanged"], apart := false, laid := [("slipstream/wall.exchanged", laid_slipstream_wall_exchanged)], narrowed := true }
def WallImpulsesUptoSaid : Prop := wallImpulsesUptoRow.holds Tryd.pinned (OpenSpec.upto wallImpulsesSpec)

/-- 'slipstreamlaw03.WallDrags', WHERE WHAT IT READS IS OF BULK AT MOST 1048576: true; the input reads as it did. -/
def wallDragsUptoRow : OpenClaim := { program := "ytnpmlbhlchoolaadoor", sum := "ce4cdc8ea57e707cb27a56d58fdb1547ad87c55e9c4035c51cbaaa06fc2b351a", func := "slipstream/slipstreamlaw03.WallDrags", spec := "wallDrags", unfollowed := true, recurses := true, named := ["slipstream/wall.exchanged"], apart := false, laid := [("slipstream/wall.exchanged", laid_slipstream_wall_exchanged)], narrowed := true }
def WallDragsUptoSaid : Prop := wallDragsUptoRow.holds Tryd.pinned (OpenSpec.upto wallDragsSpec)

/-- 'slipstreamlaw03.WallMirrors', WHERE WHAT IT READS IS OF BULK AT MOST 1048576: true; the input reads as it did. -/
def wallMirrorsUptoRow : OpenClaim := { program := "ytnpmlbhlchoolaadoor", sum := "ce4cdc8ea57e707cb27a56d58fdb1547ad87c55e9c4035c51cbaaa06fc2b351a", func := "slipstream/slipstreamlaw03.WallMirrors", spec := "wallMirrors", unfollowed := true, recurses := true, named := ["slipstream/wall.exchanged"], apart := false, laid := [("slipstream/wall.exchanged", laid_slipstream_wall_exchanged)], narrowed := true }
def WallMirrorsUptoSaid : Prop := wallMirrorsUptoRow.holds Tryd.pinned (OpenSpec.upto wallMirrorsSpec)

end Rows
end Go.Proofs.YtnpmlbhlchoolaaDoor
