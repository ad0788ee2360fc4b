/-
  NARROWER THAN 'FOR EVERY INPUT', by the rows' own cells (each row's printed sentence says how): WallImpulses: laid · TopDragged: laid.
  DERIVED. THE GIVEN ROWS OF THIS SEAT. 2 by the template 'for every input the law returns true; each argument reads behind the call as it read before'; 0 by the template 'total and deterministic' (their statements: YtdbehbeaigfpcaaDoorTotals.lean).
  GIVEN WITH THE SEED: the statements are not yours to turn. If you find one false, say at which input.
  Laid BY PROGRAM, IN A SANDBOX (cutbox-rows.mjs): the forced cells as the released guide's own fill.sh prints them over the translation c62ba0555ec62987… (all of the seat's roots in one cut). By AI agents, Wed Nov 11 2026. No macro, syntax, notation, axiom, sorry.
-/
import Derived.Test.YtdbehbeaigfpcaaDoorChecked
import GoSem.Claim
import GoSem.ClaimJoined
import GoSem.ClaimMapViews
import Derived.JoinedTies
import Derived.KernelRfl
namespace Go.Proofs.YtdbehbeaigfpcaaDoor
/- THE CELL 'sum', in the pinned program and in every row, IS THE sha256 OF THE DUMP (.gsa) THAT YtdbehbeaigfpcaaDoorProg.lean LOADS. Nothing in Lean hashes anything: it is a label: what it is worth is what the hold of that sum in a sandbox is worth. -/
noncomputable def Tryd.pinned : Pinned := { name := "ytdbehbeaigfpcaadoor", sum := "c62ba0555ec629877f0db87370224eb8d1058b1b74600acba788d3907735f748", checked := Tryd.checked }
namespace Rows
def none {H : Type} : Left H := { results := [], args := [] }

/- WHAT THE LISTED PACKAGE-LEVEL VARIABLES READ AS WHEN THE CALL BEGINS. Each datum BY PROGRAM (the guide's laid-datum.mjs) off the statement by which the dump's own 'gosem.cut.vars' lays the variable. In a bare row this is a premise. The card (YtdbehbeaigfpcaaDoorCards.lean) ties it to the program's text. -/
def laid_slipstream_wall_exchanged {H : Type} : DataW H := .agg [.agg [.lit (.int .i64 0), .lit (.int .i64 1), .lit (.int .i64 2), .lit (.int .i64 3)], .agg [.lit (.int .i64 2), .lit (.int .i64 3), .lit (.int .i64 0), .lit (.int .i64 1)], .agg [.lit (.int .i64 1), .lit (.int .i64 0), .lit (.int .i64 3), .lit (.int .i64 2)], .agg [.lit (.int .i64 3), .lit (.int .i64 2), .lit (.int .i64 1), .lit (.int .i64 0)]]

/-- 'slipstreamlaw03.WallImpulses': WHATEVER THE INPUT: true; the input reads as it did. -/
def wallImpulsesSpec : ChangeSpec := { name := "wallImpulses", fn := fun _ => fun
  | [d1, d2] => { results := [.lit (.bool true)], args := [d1, d2] }
  | _ => none }
def wallImpulsesRow : OpenClaim := { program := "ytdbehbeaigfpcaadoor", sum := "c62ba0555ec629877f0db87370224eb8d1058b1b74600acba788d3907735f748", func := "slipstream/slipstreamlaw03.WallImpulses", spec := "wallImpulses", unfollowed := true, recurses := true, named := ["slipstream/wall.exchanged"], apart := false, laid := [("slipstream/wall.exchanged", laid_slipstream_wall_exchanged)] }
def WallImpulsesSaid : Prop := wallImpulsesRow.holds Tryd.pinned (OpenSpec.ofChange wallImpulsesSpec)

/-- ITS FALSE NEIGHBOUR: 'it returns false'. Refute it at one input. -/
def wallImpulsesWrong : ChangeSpec := { name := "wallImpulses", fn := fun _ => fun
  | [d1, d2] => { results := [.lit (.bool false)], args := [d1, d2] }
  | _ => none }
def WallImpulsesWrongFalsely : Prop := wallImpulsesRow.holds Tryd.pinned (OpenSpec.ofChange wallImpulsesWrong)

/-- 'slipstreamtop.TopDragged': WHATEVER THE INPUT: true; the input reads as it did. -/
def topDraggedSpec : ChangeSpec := { name := "topDragged", fn := fun _ => fun
  | [d1, d2, d3] => { results := [.lit (.bool true)], args := [d1, d2, d3] }
  | _ => none }
def topDraggedRow : OpenClaim := { program := "ytdbehbeaigfpcaadoor", sum := "c62ba0555ec629877f0db87370224eb8d1058b1b74600acba788d3907735f748", func := "slipstream/slipstreamtop.TopDragged", spec := "topDragged", unfollowed := true, recurses := true, named := ["slipstream/wall.exchanged"], apart := false, laid := [("slipstream/wall.exchanged", laid_slipstream_wall_exchanged)] }
def TopDraggedSaid : Prop := topDraggedRow.holds Tryd.pinned (OpenSpec.ofChange topDraggedSpec)

/-- ITS FALSE NEIGHBOUR: 'it returns false'. Refute it at one input. -/
def topDraggedWrong : ChangeSpec := { name := "topDragged", fn := fun _ => fun
  | [d1, d2, d3] => { results := [.lit (.bool false)], args := [d1, d2, d3] }
  | _ => none }
def TopDraggedWrongFalsely : Prop := topDraggedRow.holds Tryd.pinned (OpenSpec.ofChange topDraggedWrong)

/- THE SECOND FORM. 'bulk': how many values and letters a reading holds, each counted each time it is reached (what is shared counts as often as it is met; a slice's spare places count too). A statement '..UptoSaid' is the law's where the arguments, and the package variables that the reading takes, are together of bulk at most 1048576: NARROWER than '..Said'. Prove '..Said' where nothing that the law and all that it calls make is longer than what came in: it says more and counts as full. Else prove '..UptoSaid'. A law counts once. -/
mutual
def uptoBulk {H : Type} : DataW H → Nat
  | .lit (.string bytes) => bytes.length + 1
  | .lit _ => 1
  | .nil => 1
  | .ptr d => uptoBulk d + 1
  | .slice elems spare => uptoBulkAll elems + uptoBulkAll spare + 1
  | .agg parts => uptoBulkAll parts + 1
  | .iface _ d => uptoBulk d + 1
  | .map entries => uptoBulkEntries entries + 1
  | .held _ => 1
def uptoBulkAll {H : Type} : List (DataW H) → Nat
  | [] => 0
  | d :: r => uptoBulk d + uptoBulkAll r
def uptoBulkEntries {H : Type} : List (Lit × DataW H) → Nat
  | [] => 0
  | x :: r => uptoBulkEntry x + uptoBulkEntries r
def uptoBulkEntry {H : Type} : Lit × DataW H → Nat
  | (.string bytes, d) => bytes.length + uptoBulk d + 1
  | (_, d) => uptoBulk d + 1
 end
def uptoSmall : (H : Type) → List (DataW H) → Bool := fun _ ds => decide (uptoBulkAll ds ≤ 1048576)
def OpenSpec.upto (s : _root_.Go.ChangeSpec) : _root_.Go.OpenSpec := { _root_.Go.OpenSpec.ofChange s with cond := some uptoSmall }

/-- 'slipstreamlaw03.WallImpulses', WHERE WHAT IT READS IS OF BULK AT MOST 1048576: true; the input reads as it did. -/
def wallImpulsesUptoRow : OpenClaim := { program := "ytdbehbeaigfpcaadoor", sum := "c62ba0555ec629877f0db87370224eb8d1058b1b74600acba788d3907735f748", func := "slipstream/slipstreamlaw03.WallImpulses", spec := "wallImpulses", unfollowed := true, recurses := true, named := ["slipstream/wall.exchanged"], apart := false, laid := [("slipstream/wall.exchanged", laid_slipstream_wall_exchanged)], narrowed := true }
def WallImpulsesUptoSaid : Prop := wallImpulsesUptoRow.holds Tryd.pinned (OpenSpec.upto wallImpulsesSpec)

/-- 'slipstreamtop.TopDragged', WHERE WHAT IT READS IS OF BULK AT MOST 1048576: true; the input reads as it did. -/
def topDraggedUptoRow : OpenClaim := { program := "ytdbehbeaigfpcaadoor", sum := "c62ba0555ec629877f0db87370224eb8d1058b1b74600acba788d3907735f748", func := "slipstream/slipstreamtop.TopDragged", spec := "topDragged", unfollowed := true, recurses := true, named := ["slipstream/wall.exchanged"], apart := false, laid := [("slipstream/wall.exchanged", laid_slipstream_wall_exchanged)], narrowed := true }
def TopDraggedUptoSaid : Prop := topDraggedUptoRow.holds Tryd.pinned (OpenSpec.upto topDraggedSpec)

end Rows
end Go.Proofs.YtdbehbeaigfpcaaDoor
