/-
  NARROWER THAN 'FOR EVERY INPUT', by the rows' own cells (each row's printed sentence says how): GridSums: laid · WallSends: laid · WallSteps: laid · WallRuns: laid · WallKept: laid · WallImpulses: laid · WallDrags: laid · WallDiscs: laid · WallShapes: laid · WallGrows: laid · WallRemoves: laid · WallMirrors: laid.
  DERIVED. THE GIVEN ROWS OF THIS SEAT. 12 by the template 'for every input the law returns true; each argument reads behind the call as it read before'; 0 by the template 'total and deterministic' (their statements: YtnkehlankidlnaaDoorTotals.lean).
  GIVEN WITH THE SEED: the statements are not yours to turn. If you find one false, say at which input.
  Laid BY PROGRAM, IN A SANDBOX (cutbox-rows.mjs): the forced cells as the released guide's own fill.sh prints them over the translation 16d837af425f93f3… (all of the seat's roots in one cut). By AI agents, Wed Nov 11 2026. No macro, syntax, notation, axiom, sorry.
-/
import Derived.Test.YtnkehlankidlnaaDoorChecked
import GoSem.Claim
import GoSem.ClaimJoined
import GoSem.ClaimMapViews
import Derived.JoinedTies
import Derived.KernelRfl
namespace Go.Proofs.YtnkehlankidlnaaDoor
/- THE CELL 'sum', in the pinned program and in every row, IS THE sha256 OF THE DUMP (.gsa) THAT YtnkehlankidlnaaDoorProg.lean LOADS. Nothing in Lean hashes anything: it is a label: what it is worth is what the hold of that sum in a sandbox is worth. -/
noncomputable def Tryd.pinned : Pinned := { name := "ytnkehlankidlnaadoor", sum := "16d837af425f93f3248838f7cb59b437b190bd04f25ab15637aa62c6a80e91c8", checked := Tryd.checked }
namespace Rows
def none {H : Type} : Left H := { results := [], args := [] }

/- WHAT THE LISTED PACKAGE-LEVEL VARIABLES READ AS WHEN THE CALL BEGINS. Each datum BY PROGRAM (the guide's laid-datum.mjs) off the statement by which the dump's own 'gosem.cut.vars' lays the variable. In a bare row this is a premise. The card (YtnkehlankidlnaaDoorCards.lean) ties it to the program's text. -/
def laid_math_bits_deBruijn32tab {H : Type} : DataW H := .agg [.lit (.int .u8 0), .lit (.int .u8 1), .lit (.int .u8 28), .lit (.int .u8 2), .lit (.int .u8 29), .lit (.int .u8 14), .lit (.int .u8 24), .lit (.int .u8 3), .lit (.int .u8 30), .lit (.int .u8 22), .lit (.int .u8 20), .lit (.int .u8 15), .lit (.int .u8 25), .lit (.int .u8 17), .lit (.int .u8 4), .lit (.int .u8 8), .lit (.int .u8 31), .lit (.int .u8 27), .lit (.int .u8 13), .lit (.int .u8 23), .lit (.int .u8 21), .lit (.int .u8 19), .lit (.int .u8 16), .lit (.int .u8 7), .lit (.int .u8 26), .lit (.int .u8 12), .lit (.int .u8 18), .lit (.int .u8 6), .lit (.int .u8 11), .lit (.int .u8 5), .lit (.int .u8 10), .lit (.int .u8 9)]
def laid_math_bits_deBruijn64tab {H : Type} : DataW H := .agg [.lit (.int .u8 0), .lit (.int .u8 1), .lit (.int .u8 56), .lit (.int .u8 2), .lit (.int .u8 57), .lit (.int .u8 49), .lit (.int .u8 28), .lit (.int .u8 3), .lit (.int .u8 61), .lit (.int .u8 58), .lit (.int .u8 42), .lit (.int .u8 50), .lit (.int .u8 38), .lit (.int .u8 29), .lit (.int .u8 17), .lit (.int .u8 4), .lit (.int .u8 62), .lit (.int .u8 47), .lit (.int .u8 59), .lit (.int .u8 36), .lit (.int .u8 45), .lit (.int .u8 43), .lit (.int .u8 51), .lit (.int .u8 22), .lit (.int .u8 53), .lit (.int .u8 39), .lit (.int .u8 33), .lit (.int .u8 30), .lit (.int .u8 24), .lit (.int .u8 18), .lit (.int .u8 12), .lit (.int .u8 5), .lit (.int .u8 63), .lit (.int .u8 55), .lit (.int .u8 48), .lit (.int .u8 27), .lit (.int .u8 60), .lit (.int .u8 41), .lit (.int .u8 37), .lit (.int .u8 16), .lit (.int .u8 46), .lit (.int .u8 35), .lit (.int .u8 44), .lit (.int .u8 21), .lit (.int .u8 52), .lit (.int .u8 32), .lit (.int .u8 23), .lit (.int .u8 11), .lit (.int .u8 54), .lit (.int .u8 26), .lit (.int .u8 40), .lit (.int .u8 15), .lit (.int .u8 34), .lit (.int .u8 20), .lit (.int .u8 31), .lit (.int .u8 10), .lit (.int .u8 25), .lit (.int .u8 14), .lit (.int .u8 19), .lit (.int .u8 9), .lit (.int .u8 13), .lit (.int .u8 8), .lit (.int .u8 7), .lit (.int .u8 6)]
def laid_internal_strconv_uint64pow10 {H : Type} : DataW H := .agg [.lit (.int .u64 1), .lit (.int .u64 10), .lit (.int .u64 100), .lit (.int .u64 1000), .lit (.int .u64 10000), .lit (.int .u64 100000), .lit (.int .u64 1000000), .lit (.int .u64 10000000), .lit (.int .u64 100000000), .lit (.int .u64 1000000000), .lit (.int .u64 10000000000), .lit (.int .u64 100000000000), .lit (.int .u64 1000000000000), .lit (.int .u64 10000000000000), .lit (.int .u64 100000000000000), .lit (.int .u64 1000000000000000), .lit (.int .u64 10000000000000000), .lit (.int .u64 100000000000000000), .lit (.int .u64 1000000000000000000), .lit (.int .u64 10000000000000000000)]
def laid_slipstream_wall_exchanged {H : Type} : DataW H := .agg [.agg [.lit (.int .i64 0), .lit (.int .i64 1), .lit (.int .i64 2), .lit (.int .i64 3)], .agg [.lit (.int .i64 2), .lit (.int .i64 3), .lit (.int .i64 0), .lit (.int .i64 1)], .agg [.lit (.int .i64 1), .lit (.int .i64 0), .lit (.int .i64 3), .lit (.int .i64 2)], .agg [.lit (.int .i64 3), .lit (.int .i64 2), .lit (.int .i64 1), .lit (.int .i64 0)]]

/-- 'slipstreamlaw02.GridSums': WHATEVER THE INPUT: true; the input reads as it did. -/
def gridSumsSpec : ChangeSpec := { name := "gridSums", fn := fun _ => fun
  | [d1, d2, d3] => { results := [.lit (.bool true)], args := [d1, d2, d3] }
  | _ => none }
def gridSumsRow : OpenClaim := { program := "ytnkehlankidlnaadoor", sum := "16d837af425f93f3248838f7cb59b437b190bd04f25ab15637aa62c6a80e91c8", func := "slipstream/slipstreamlaw02.GridSums", spec := "gridSums", inPlace := ["internal/abi.NoEscape", "internal/bytealg.MakeNoZero"], unfollowed := true, recurses := true, named := ["internal/strconv.uint64pow10", "math/bits.deBruijn32tab", "math/bits.deBruijn64tab"], apart := false, laid := [("math/bits.deBruijn32tab", laid_math_bits_deBruijn32tab), ("math/bits.deBruijn64tab", laid_math_bits_deBruijn64tab), ("internal/strconv.uint64pow10", laid_internal_strconv_uint64pow10)] }
def GridSumsSaid : Prop := gridSumsRow.holds Tryd.pinned (OpenSpec.ofChange gridSumsSpec)

/-- ITS FALSE NEIGHBOUR: 'it returns false'. Refute it at one input. -/
def gridSumsWrong : ChangeSpec := { name := "gridSums", fn := fun _ => fun
  | [d1, d2, d3] => { results := [.lit (.bool false)], args := [d1, d2, d3] }
  | _ => none }
def GridSumsWrongFalsely : Prop := gridSumsRow.holds Tryd.pinned (OpenSpec.ofChange gridSumsWrong)

/-- 'slipstreamlaw03.WallSends': WHATEVER THE INPUT: true; the input reads as it did. -/
def wallSendsSpec : ChangeSpec := { name := "wallSends", fn := fun _ => fun
  | [d1, d2, d3] => { results := [.lit (.bool true)], args := [d1, d2, d3] }
  | _ => none }
def wallSendsRow : OpenClaim := { program := "ytnkehlankidlnaadoor", sum := "16d837af425f93f3248838f7cb59b437b190bd04f25ab15637aa62c6a80e91c8", func := "slipstream/slipstreamlaw03.WallSends", spec := "wallSends", named := ["slipstream/wall.exchanged"], apart := false, laid := [("slipstream/wall.exchanged", laid_slipstream_wall_exchanged)] }
def WallSendsSaid : Prop := wallSendsRow.holds Tryd.pinned (OpenSpec.ofChange wallSendsSpec)

/-- ITS FALSE NEIGHBOUR: 'it returns false'. Refute it at one input. -/
def wallSendsWrong : ChangeSpec := { name := "wallSends", fn := fun _ => fun
  | [d1, d2, d3] => { results := [.lit (.bool false)], args := [d1, d2, d3] }
  | _ => none }
def WallSendsWrongFalsely : Prop := wallSendsRow.holds Tryd.pinned (OpenSpec.ofChange wallSendsWrong)

/-- 'slipstreamlaw03.WallSteps': WHATEVER THE INPUT: true; the input reads as it did. -/
def wallStepsSpec : ChangeSpec := { name := "wallSteps", fn := fun _ => fun
  | [d1, d2, d3] => { results := [.lit (.bool true)], args := [d1, d2, d3] }
  | _ => none }
def wallStepsRow : OpenClaim := { program := "ytnkehlankidlnaadoor", sum := "16d837af425f93f3248838f7cb59b437b190bd04f25ab15637aa62c6a80e91c8", func := "slipstream/slipstreamlaw03.WallSteps", spec := "wallSteps", unfollowed := true, recurses := true, named := ["slipstream/wall.exchanged"], apart := false, laid := [("slipstream/wall.exchanged", laid_slipstream_wall_exchanged)] }
def WallStepsSaid : Prop := wallStepsRow.holds Tryd.pinned (OpenSpec.ofChange wallStepsSpec)

/-- ITS FALSE NEIGHBOUR: 'it returns false'. Refute it at one input. -/
def wallStepsWrong : ChangeSpec := { name := "wallSteps", fn := fun _ => fun
  | [d1, d2, d3] => { results := [.lit (.bool false)], args := [d1, d2, d3] }
  | _ => none }
def WallStepsWrongFalsely : Prop := wallStepsRow.holds Tryd.pinned (OpenSpec.ofChange wallStepsWrong)

/-- 'slipstreamlaw03.WallRuns': WHATEVER THE INPUT: true; the input reads as it did. -/
def wallRunsSpec : ChangeSpec := { name := "wallRuns", fn := fun _ => fun
  | [d1, d2, d3] => { results := [.lit (.bool true)], args := [d1, d2, d3] }
  | _ => none }
def wallRunsRow : OpenClaim := { program := "ytnkehlankidlnaadoor", sum := "16d837af425f93f3248838f7cb59b437b190bd04f25ab15637aa62c6a80e91c8", func := "slipstream/slipstreamlaw03.WallRuns", spec := "wallRuns", unfollowed := true, recurses := true, named := ["slipstream/wall.exchanged"], apart := false, laid := [("slipstream/wall.exchanged", laid_slipstream_wall_exchanged)] }
def WallRunsSaid : Prop := wallRunsRow.holds Tryd.pinned (OpenSpec.ofChange wallRunsSpec)

/-- ITS FALSE NEIGHBOUR: 'it returns false'. Refute it at one input. -/
def wallRunsWrong : ChangeSpec := { name := "wallRuns", fn := fun _ => fun
  | [d1, d2, d3] => { results := [.lit (.bool false)], args := [d1, d2, d3] }
  | _ => none }
def WallRunsWrongFalsely : Prop := wallRunsRow.holds Tryd.pinned (OpenSpec.ofChange wallRunsWrong)

/-- 'slipstreamlaw03.WallKept': WHATEVER THE INPUT: true; the input reads as it did. -/
def wallKeptSpec : ChangeSpec := { name := "wallKept", fn := fun _ => fun
  | [d1, d2, d3] => { results := [.lit (.bool true)], args := [d1, d2, d3] }
  | _ => none }
def wallKeptRow : OpenClaim := { program := "ytnkehlankidlnaadoor", sum := "16d837af425f93f3248838f7cb59b437b190bd04f25ab15637aa62c6a80e91c8", func := "slipstream/slipstreamlaw03.WallKept", spec := "wallKept", unfollowed := true, recurses := true, named := ["slipstream/wall.exchanged"], apart := false, laid := [("slipstream/wall.exchanged", laid_slipstream_wall_exchanged)] }
def WallKeptSaid : Prop := wallKeptRow.holds Tryd.pinned (OpenSpec.ofChange wallKeptSpec)

/-- ITS FALSE NEIGHBOUR: 'it returns false'. Refute it at one input. -/
def wallKeptWrong : ChangeSpec := { name := "wallKept", fn := fun _ => fun
  | [d1, d2, d3] => { results := [.lit (.bool false)], args := [d1, d2, d3] }
  | _ => none }
def WallKeptWrongFalsely : Prop := wallKeptRow.holds Tryd.pinned (OpenSpec.ofChange wallKeptWrong)

/-- 'slipstreamlaw03.WallImpulses': WHATEVER THE INPUT: true; the input reads as it did. -/
def wallImpulsesSpec : ChangeSpec := { name := "wallImpulses", fn := fun _ => fun
  | [d1, d2] => { results := [.lit (.bool true)], args := [d1, d2] }
  | _ => none }
def wallImpulsesRow : OpenClaim := { program := "ytnkehlankidlnaadoor", sum := "16d837af425f93f3248838f7cb59b437b190bd04f25ab15637aa62c6a80e91c8", func := "slipstream/slipstreamlaw03.WallImpulses", spec := "wallImpulses", unfollowed := true, recurses := true, named := ["slipstream/wall.exchanged"], apart := false, laid := [("slipstream/wall.exchanged", laid_slipstream_wall_exchanged)] }
def WallImpulsesSaid : Prop := wallImpulsesRow.holds Tryd.pinned (OpenSpec.ofChange wallImpulsesSpec)

/-- ITS FALSE NEIGHBOUR: 'it returns false'. Refute it at one input. -/
def wallImpulsesWrong : ChangeSpec := { name := "wallImpulses", fn := fun _ => fun
  | [d1, d2] => { results := [.lit (.bool false)], args := [d1, d2] }
  | _ => none }
def WallImpulsesWrongFalsely : Prop := wallImpulsesRow.holds Tryd.pinned (OpenSpec.ofChange wallImpulsesWrong)

/-- 'slipstreamlaw03.WallDrags': WHATEVER THE INPUT: true; the input reads as it did. -/
def wallDragsSpec : ChangeSpec := { name := "wallDrags", fn := fun _ => fun
  | [d1, d2, d3] => { results := [.lit (.bool true)], args := [d1, d2, d3] }
  | _ => none }
def wallDragsRow : OpenClaim := { program := "ytnkehlankidlnaadoor", sum := "16d837af425f93f3248838f7cb59b437b190bd04f25ab15637aa62c6a80e91c8", func := "slipstream/slipstreamlaw03.WallDrags", spec := "wallDrags", unfollowed := true, recurses := true, named := ["slipstream/wall.exchanged"], apart := false, laid := [("slipstream/wall.exchanged", laid_slipstream_wall_exchanged)] }
def WallDragsSaid : Prop := wallDragsRow.holds Tryd.pinned (OpenSpec.ofChange wallDragsSpec)

/-- ITS FALSE NEIGHBOUR: 'it returns false'. Refute it at one input. -/
def wallDragsWrong : ChangeSpec := { name := "wallDrags", fn := fun _ => fun
  | [d1, d2, d3] => { results := [.lit (.bool false)], args := [d1, d2, d3] }
  | _ => none }
def WallDragsWrongFalsely : Prop := wallDragsRow.holds Tryd.pinned (OpenSpec.ofChange wallDragsWrong)

/-- 'slipstreamlaw03.WallDiscs': WHATEVER THE INPUT: true; the input reads as it did. -/
def wallDiscsSpec : ChangeSpec := { name := "wallDiscs", fn := fun _ => fun
  | [d1, d2, d3] => { results := [.lit (.bool true)], args := [d1, d2, d3] }
  | _ => none }
def wallDiscsRow : OpenClaim := { program := "ytnkehlankidlnaadoor", sum := "16d837af425f93f3248838f7cb59b437b190bd04f25ab15637aa62c6a80e91c8", func := "slipstream/slipstreamlaw03.WallDiscs", spec := "wallDiscs", unfollowed := true, recurses := true, named := ["slipstream/wall.exchanged"], apart := false, laid := [("slipstream/wall.exchanged", laid_slipstream_wall_exchanged)] }
def WallDiscsSaid : Prop := wallDiscsRow.holds Tryd.pinned (OpenSpec.ofChange wallDiscsSpec)

/-- ITS FALSE NEIGHBOUR: 'it returns false'. Refute it at one input. -/
def wallDiscsWrong : ChangeSpec := { name := "wallDiscs", fn := fun _ => fun
  | [d1, d2, d3] => { results := [.lit (.bool false)], args := [d1, d2, d3] }
  | _ => none }
def WallDiscsWrongFalsely : Prop := wallDiscsRow.holds Tryd.pinned (OpenSpec.ofChange wallDiscsWrong)

/-- 'slipstreamlaw03.WallShapes': WHATEVER THE INPUT: true; the input reads as it did. -/
def wallShapesSpec : ChangeSpec := { name := "wallShapes", fn := fun _ => fun
  | [d1, d2] => { results := [.lit (.bool true)], args := [d1, d2] }
  | _ => none }
def wallShapesRow : OpenClaim := { program := "ytnkehlankidlnaadoor", sum := "16d837af425f93f3248838f7cb59b437b190bd04f25ab15637aa62c6a80e91c8", func := "slipstream/slipstreamlaw03.WallShapes", spec := "wallShapes", unfollowed := true, recurses := true, named := ["slipstream/wall.exchanged"], apart := false, laid := [("slipstream/wall.exchanged", laid_slipstream_wall_exchanged)] }
def WallShapesSaid : Prop := wallShapesRow.holds Tryd.pinned (OpenSpec.ofChange wallShapesSpec)

/-- ITS FALSE NEIGHBOUR: 'it returns false'. Refute it at one input. -/
def wallShapesWrong : ChangeSpec := { name := "wallShapes", fn := fun _ => fun
  | [d1, d2] => { results := [.lit (.bool false)], args := [d1, d2] }
  | _ => none }
def WallShapesWrongFalsely : Prop := wallShapesRow.holds Tryd.pinned (OpenSpec.ofChange wallShapesWrong)

/-- 'slipstreamlaw03.WallGrows': WHATEVER THE INPUT: true; the input reads as it did. -/
def wallGrowsSpec : ChangeSpec := { name := "wallGrows", fn := fun _ => fun
  | [d1, d2, d3] => { results := [.lit (.bool true)], args := [d1, d2, d3] }
  | _ => none }
def wallGrowsRow : OpenClaim := { program := "ytnkehlankidlnaadoor", sum := "16d837af425f93f3248838f7cb59b437b190bd04f25ab15637aa62c6a80e91c8", func := "slipstream/slipstreamlaw03.WallGrows", spec := "wallGrows", unfollowed := true, recurses := true, named := ["slipstream/wall.exchanged"], apart := false, laid := [("slipstream/wall.exchanged", laid_slipstream_wall_exchanged)] }
def WallGrowsSaid : Prop := wallGrowsRow.holds Tryd.pinned (OpenSpec.ofChange wallGrowsSpec)

/-- ITS FALSE NEIGHBOUR: 'it returns false'. Refute it at one input. -/
def wallGrowsWrong : ChangeSpec := { name := "wallGrows", fn := fun _ => fun
  | [d1, d2, d3] => { results := [.lit (.bool false)], args := [d1, d2, d3] }
  | _ => none }
def WallGrowsWrongFalsely : Prop := wallGrowsRow.holds Tryd.pinned (OpenSpec.ofChange wallGrowsWrong)

/-- 'slipstreamlaw03.WallRemoves': WHATEVER THE INPUT: true; the input reads as it did. -/
def wallRemovesSpec : ChangeSpec := { name := "wallRemoves", fn := fun _ => fun
  | [d1, d2, d3] => { results := [.lit (.bool true)], args := [d1, d2, d3] }
  | _ => none }
def wallRemovesRow : OpenClaim := { program := "ytnkehlankidlnaadoor", sum := "16d837af425f93f3248838f7cb59b437b190bd04f25ab15637aa62c6a80e91c8", func := "slipstream/slipstreamlaw03.WallRemoves", spec := "wallRemoves", unfollowed := true, recurses := true, named := ["slipstream/wall.exchanged"], apart := false, laid := [("slipstream/wall.exchanged", laid_slipstream_wall_exchanged)] }
def WallRemovesSaid : Prop := wallRemovesRow.holds Tryd.pinned (OpenSpec.ofChange wallRemovesSpec)

/-- ITS FALSE NEIGHBOUR: 'it returns false'. Refute it at one input. -/
def wallRemovesWrong : ChangeSpec := { name := "wallRemoves", fn := fun _ => fun
  | [d1, d2, d3] => { results := [.lit (.bool false)], args := [d1, d2, d3] }
  | _ => none }
def WallRemovesWrongFalsely : Prop := wallRemovesRow.holds Tryd.pinned (OpenSpec.ofChange wallRemovesWrong)

/-- 'slipstreamlaw03.WallMirrors': WHATEVER THE INPUT: true; the input reads as it did. -/
def wallMirrorsSpec : ChangeSpec := { name := "wallMirrors", fn := fun _ => fun
  | [d1, d2] => { results := [.lit (.bool true)], args := [d1, d2] }
  | _ => none }
def wallMirrorsRow : OpenClaim := { program := "ytnkehlankidlnaadoor", sum := "16d837af425f93f3248838f7cb59b437b190bd04f25ab15637aa62c6a80e91c8", func := "slipstream/slipstreamlaw03.WallMirrors", spec := "wallMirrors", unfollowed := true, recurses := true, named := ["slipstream/wall.exchanged"], apart := false, laid := [("slipstream/wall.exchanged", laid_slipstream_wall_exchanged)] }
def WallMirrorsSaid : Prop := wallMirrorsRow.holds Tryd.pinned (OpenSpec.ofChange wallMirrorsSpec)

/-- ITS FALSE NEIGHBOUR: 'it returns false'. Refute it at one input. -/
def wallMirrorsWrong : ChangeSpec := { name := "wallMirrors", fn := fun _ => fun
  | [d1, d2] => { results := [.lit (.bool false)], args := [d1, d2] }
  | _ => none }
def WallMirrorsWrongFalsely : Prop := wallMirrorsRow.holds Tryd.pinned (OpenSpec.ofChange wallMirrorsWrong)

/- THE SECOND FORM. 'bulk': how many values and letters a reading holds, each counted each time it is reached (what is shared counts as often as it is met; a slice's spare places count too). A statement '..UptoSaid' is the law's where the arguments, and the package variables that the reading takes, are together of bulk at most 1048576: NARROWER than '..Said'. Prove '..Said' where nothing that the law and all that it calls make is longer than what came in: it says more and counts as full. Else prove '..UptoSaid'. A law counts once. -/
mutual
def uptoBulk {H : Type} : DataW H → Nat
  | .lit (.string bytes) => bytes.length + 1
  | .lit _ => 1
  | .nil => 1
  | .ptr d => uptoBulk d + 1
  | .slice elems spare => uptoBulkAll elems + uptoBulkAll spare + 1
  | .agg parts => uptoBulkAll parts + 1
  | .iface _ d => uptoBulk d + 1
  | .map entries => uptoBulkEntries entries + 1
  | .held _ => 1
def uptoBulkAll {H : Type} : List (DataW H) → Nat
  | [] => 0
  | d :: r => uptoBulk d + uptoBulkAll r
def uptoBulkEntries {H : Type} : List (Lit × DataW H) → Nat
  | [] => 0
  | x :: r => uptoBulkEntry x + uptoBulkEntries r
def uptoBulkEntry {H : Type} : Lit × DataW H → Nat
  | (.string bytes, d) => bytes.length + uptoBulk d + 1
  | (_, d) => uptoBulk d + 1
 end
def uptoSmall : (H : Type) → List (DataW H) → Bool := fun _ ds => decide (uptoBulkAll ds ≤ 1048576)
def OpenSpec.upto (s : _root_.Go.ChangeSpec) : _root_.Go.OpenSpec := { _root_.Go.OpenSpec.ofChange s with cond := some uptoSmall }

/-- 'slipstreamlaw02.GridSums', WHERE WHAT IT READS IS OF BULK AT MOST 1048576: true; the input reads as it did. -/
def gridSumsUptoRow : OpenClaim := { program := "ytnkehlankidlnaadoor", sum := "16d837af425f93f3248838f7cb59b437b190bd04f25ab15637aa62c6a80e91c8", func := "slipstream/slipstreamlaw02.GridSums", spec := "gridSums", inPlace := ["internal/abi.NoEscape", "internal/bytealg.MakeNoZero"], unfollowed := true, recurses := true, named := ["internal/strconv.uint64pow10", "math/bits.deBruijn32tab", "math/bits.deBruijn64tab"], apart := false, laid := [("math/bits.deBruijn32tab", laid_math_bits_deBruijn32tab), ("math/bits.deBruijn64tab", laid_math_bits_deBruijn64tab), ("internal/strconv.uint64pow10", laid_internal_strconv_uint64pow10)], narrowed := true }
def GridSumsUptoSaid : Prop := gridSumsUptoRow.holds Tryd.pinned (OpenSpec.upto gridSumsSpec)

/-- 'slipstreamlaw03.WallSends', WHERE WHAT IT READS IS OF BULK AT MOST 1048576: true; the input reads as it did. -/
def wallSendsUptoRow : OpenClaim := { program := "ytnkehlankidlnaadoor", sum := "16d837af425f93f3248838f7cb59b437b190bd04f25ab15637aa62c6a80e91c8", func := "slipstream/slipstreamlaw03.WallSends", spec := "wallSends", named := ["slipstream/wall.exchanged"], apart := false, laid := [("slipstream/wall.exchanged", laid_slipstream_wall_exchanged)], narrowed := true }
def WallSendsUptoSaid : Prop := wallSendsUptoRow.holds Tryd.pinned (OpenSpec.upto wallSendsSpec)

/-- 'slipstreamlaw03.WallSteps', WHERE WHAT IT READS IS OF BULK AT MOST 1048576: true; the input reads as it did. -/
def wallStepsUptoRow : OpenClaim := { program := "ytnkehlankidlnaadoor", sum := "16d837af425f93f3248838f7cb59b437b190bd04f25ab15637aa62c6a80e91c8", func := "slipstream/slipstreamlaw03.WallSteps", spec := "wallSteps", unfollowed := true, recurses := true, named := ["slipstream/wall.exchanged"], apart := false, laid := [("slipstream/wall.exchanged", laid_slipstream_wall_exchanged)], narrowed := true }
def WallStepsUptoSaid : Prop := wallStepsUptoRow.holds Tryd.pinned (OpenSpec.upto wallStepsSpec)

/-- 'slipstreamlaw03.WallRuns', WHERE WHAT IT READS IS OF BULK AT MOST 1048576: true; the input reads as it did. -/
def wallRunsUptoRow : OpenClaim := { program := "ytnkehlankidlnaadoor", sum := "16d837af425f93f3248838f7cb59b437b190bd04f25ab15637aa62c6a80e91c8", func := "slipstream/slipstreamlaw03.WallRuns", spec := "wallRuns", unfollowed := true, recurses := true, named := ["slipstream/wall.exchanged"], apart := false, laid := [("slipstream/wall.exchanged", laid_slipstream_wall_exchanged)], narrowed := true }
def WallRunsUptoSaid : Prop := wallRunsUptoRow.holds Tryd.pinned (OpenSpec.upto wallRunsSpec)

/-- 'slipstreamlaw03.WallKept', WHERE WHAT IT READS IS OF BULK AT MOST 1048576: true; the input reads as it did. -/
def wallKeptUptoRow : OpenClaim := { program := "ytnkehlankidlnaadoor", sum := "16d837af425f93f3248838f7cb59b437b190bd04f25ab15637aa62c6a80e91c8", func := "slipstream/slipstreamlaw03.WallKept", spec := "wallKept", unfollowed := true, recurses := true, named := ["slipstream/wall.exchanged"], apart := false, laid := [("slipstream/wall.exchanged", laid_slipstream_wall_exchanged)], narrowed := true }
def WallKeptUptoSaid : Prop := wallKeptUptoRow.holds Tryd.pinned (OpenSpec.upto wallKeptSpec)

/-- 'slipstreamlaw03.WallImpulses', WHERE WHAT IT READS IS OF BULK AT MOST 1048576: true; the input reads as it did. -/
def wallImpulsesUptoRow : OpenClaim := { program := "ytnkehlankidlnaadoor", sum := "16d837af425f93f3248838f7cb59b437b190bd04f25ab15637aa62c6a80e91c8", func := "slipstream/slipstreamlaw03.WallImpulses", spec := "wallImpulses", unfollowed := true, recurses := true, named := ["slipstream/wall.exchanged"], apart := false, laid := [("slipstream/wall.exchanged", laid_slipstream_wall_exchanged)], narrowed := true }
def WallImpulsesUptoSaid : Prop := wallImpulsesUptoRow.holds Tryd.pinned (OpenSpec.upto wallImpulsesSpec)

/-- 'slipstreamlaw03.WallDrags', WHERE WHAT IT READS IS OF BULK AT MOST 1048576: true; the input reads as it did. -/
def wallDragsUptoRow : OpenClaim := { program := "ytnkehlankidlnaadoor", sum := "16d837af425f93f3248838f7cb59b437b190bd04f25ab15637aa62c6a80e91c8", func := "slipstream/slipstreamlaw03.WallDrags", spec := "wallDrags", unfollowed := true, recurses := true, named := ["slipstream/wall.exchanged"], apart := false, laid := [("slipstream/wall.exchanged", laid_slipstream_wall_exchanged)], narrowed := true }
def WallDragsUptoSaid : Prop := wallDragsUptoRow.holds Tryd.pinned (OpenSpec.upto wallDragsSpec)

/-- 'slipstreamlaw03.WallDiscs', WHERE WHAT IT READS IS OF BULK AT MOST 1048576: true; the input reads as it did. -/
def wallDiscsUptoRow : OpenClaim := { program := "ytnkehlankidlnaadoor", sum := "16d837af425f93f3248838f7cb59b437b190bd04f25ab15637aa62c6a80e91c8", func := "slipstream/slipstreamlaw03.WallDiscs", spec := "wallDiscs", unfollowed := true, recurses := true, named := ["slipstream/wall.exchanged"], apart := false, laid := [("slipstream/wall.exchanged", laid_slipstream_wall_exchanged)], narrowed := true }
def WallDiscsUptoSaid : Prop := wallDiscsUptoRow.holds Tryd.pinned (OpenSpec.upto wallDiscsSpec)

/-- 'slipstreamlaw03.WallShapes', WHERE WHAT IT READS IS OF BULK AT MOST 1048576: true; the input reads as it did. -/
def wallShapesUptoRow : OpenClaim := { program := "ytnkehlankidlnaadoor", sum := "16d837af425f93f3248838f7cb59b437b190bd04f25ab15637aa62c6a80e91c8", func := "slipstream/slipstreamlaw03.WallShapes", spec := "wallShapes", unfollowed := true, recurses := true, named := ["slipstream/wall.exchanged"], apart := false, laid := [("slipstream/wall.exchanged", laid_slipstream_wall_exchanged)], narrowed := true }
def WallShapesUptoSaid : Prop := wallShapesUptoRow.holds Tryd.pinned (OpenSpec.upto wallShapesSpec)

/-- 'slipstreamlaw03.WallGrows', WHERE WHAT IT READS IS OF BULK AT MOST 1048576: true; the input reads as it did. -/
def wallGrowsUptoRow : OpenClaim := { program := "ytnkehlankidlnaadoor", sum := "16d837af425f93f3248838f7cb59b437b190bd04f25ab15637aa62c6a80e91c8", func := "slipstream/slipstreamlaw03.WallGrows", spec := "wallGrows", unfollowed := true, recurses := true, named := ["slipstream/wall.exchanged"], apart := false, laid := [("slipstream/wall.exchanged", laid_slipstream_wall_exchanged)], narrowed := true }
def WallGrowsUptoSaid : Prop := wallGrowsUptoRow.holds Tryd.pinned (OpenSpec.upto wallGrowsSpec)

/-- 'slipstreamlaw03.WallRemoves', WHERE WHAT IT READS IS OF BULK AT MOST 1048576: true; the input reads as it did. -/
def wallRemovesUptoRow : OpenClaim := { program := "ytnkehlankidlnaadoor", sum := "16d837af425f93f3248838f7cb59b437b190bd04f25ab15637aa62c6a80e91c8", func := "slipstream/slipstreamlaw03.WallRemoves", spec := "wallRemoves", unfollowed := true, recurses := true, named := ["slipstream/wall.exchanged"], apart := false, laid := [("slipstream/wall.exchanged", laid_slipstream_wall_exchanged)], narrowed := true }
def WallRemovesUptoSaid : Prop := wallRemovesUptoRow.holds Tryd.pinned (OpenSpec.upto wallRemovesSpec)

/-- 'slipstreamlaw03.WallMirrors', WHERE WHAT IT READS IS OF BULK AT MOST 1048576: true; the input reads as it did. -/
def wallMirrorsUptoRow : OpenClaim := { program := "ytnkehlankidlnaadoor", sum := "16d837af425f93f3248838f7cb59b437b190bd04f25ab15637aa62c6a80e91c8", func := "slipstream/slipstreamlaw03.WallMirrors", spec := "wallMirrors", unfollowed := true, recurses := true, named := ["slipstream/wall.exchanged"], apart := false, laid := [("slipstream/wall.exchanged", laid_slipstream_wall_exchanged)], narrowed := true }
def WallMirrorsUptoSaid : Prop := wallMirrorsUptoRow.holds Tryd.pinned (OpenSpec.upto wallMirrorsSpec)

end Rows
end Go.Proofs.YtnkehlankidlnaaDoor
