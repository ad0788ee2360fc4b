/-
  DERIVED. GIVEN WITH THE SEED: THE CARDS: each row of YtnpmlbhlchoolaaDoorRows.lean that lists a variable, with what it lists TIED to the program's text (the seventh form; the later family's looks); each row that meets fmt, with fmt's text TOLD by the authors' own Lean function (tested against real Go, not proved from fmt's source: count such statements apart). THE CARD IS WHAT COUNTS. Prove the row's statement (the work); the ties are given (YtnpmlbhlchoolaaDoorTie.lean); close each card by the builder's one call (the guide's Derived/Test/ToyasCard.lean, 'card_holds'). Laid BY PROGRAM, IN A SANDBOX (cutbox-door.mjs). By AI agents, Wed Nov 11 2026. No macro, syntax, notation, axiom, sorry.
-/
import Derived.Test.YtnpmlbhlchoolaaDoorRows
import GoSem.ClaimSeven
namespace Go.Proofs.YtnpmlbhlchoolaaDoor
namespace Rows

/-- THE TIED CARD OF 'slipstreamlaw03.WallSteps'. -/
def wallStepsCard : Claim7 := { stood := { row := wallStepsRow, standIns := [], harness := (true, "1dcc3085adb849005d3e4fce4cae23730e448796bee5795c4f5a43a1a7992244"), looks := false }, kinds := [], alts := [], laidByText := true, laidKinds := [.data], laidTests := true, laidLooks := .later }
def WallStepsCardSaid : Prop := Claim7.holds Tryd.pinned (.plain (OpenSpec.ofChange wallStepsSpec)) wallStepsCard

/-- THE TIED CARD OF 'slipstreamlaw03.WallRuns'. -/
def wallRunsCard : Claim7 := { stood := { row := wallRunsRow, standIns := [], harness := (true, "1dcc3085adb849005d3e4fce4cae23730e448796bee5795c4f5a43a1a7992244"), looks := false }, kinds := [], alts := [], laidByText := true, laidKinds := [.data], laidTests := true, laidLooks := .later }
def WallRunsCardSaid : Prop := Claim7.holds Tryd.pinned (.plain (OpenSpec.ofChange wallRunsSpec)) wallRunsCard

/-- THE TIED CARD OF 'slipstreamlaw03.WallKept'. -/
def wallKeptCard : Claim7 := { stood := { row := wallKeptRow, standIns := [], harness := (true, "1dcc3085adb849005d3e4fce4cae23730e448796bee5795c4f5a43a1a7992244"), looks := false }, kinds := [], alts := [], laidByText := true, laidKinds := [.data], laidTests := true, laidLooks := .later }
def WallKeptCardSaid : Prop := Claim7.holds Tryd.pinned (.plain (OpenSpec.ofChange wallKeptSpec)) wallKeptCard

/-- THE TIED CARD OF 'slipstreamlaw03.WallImpulses'. -/
def wallImpulsesCard : Claim7 := { stood := { row := wallImpulsesRow, standIns := [], harness := (true, "1dcc3085adb849005d3e4fce4cae23730e448796bee5795c4f5a43a1a7992244"), looks := false }, kinds := [], alts := [], laidByText := true, laidKinds := [.data], laidTests := true, laidLooks := .later }
def WallImpulsesCardSaid : Prop := Claim7.holds Tryd.pinned (.plain (OpenSpec.ofChange wallImpulsesSpec)) wallImpulsesCard

/-- THE TIED CARD OF 'slipstreamlaw03.WallDrags'. -/
def wallDragsCard : Claim7 := { stood := { row := wallDragsRow, standIns := [], harness := (true, "1dcc3085adb849005d3e4fce4cae23730e448796bee5795c4f5a43a1a7992244"), looks := false }, kinds := [], alts := [], laidByText := true, laidKinds := [.data], laidTests := true, laidLooks := .later }
def WallDragsCardSaid : Prop := Claim7.holds Tryd.pinned (.plain (OpenSpec.ofChange wallDragsSpec)) wallDragsCard

/-- THE TIED CARD OF 'slipstreamlaw03.WallMirrors'. -/
def wallMirrorsCard : Claim7 := { stood := { row := wallMirrorsRow, standIns := [], harness := (true, "1dcc3085adb849005d3e4fce4cae23730e448796bee5795c4f5a43a1a7992244"), looks := false }, kinds := [], alts := [], laidByText := true, laidKinds := [.data], laidTests := true, laidLooks := .later }
def WallMirrorsCardSaid : Prop := Claim7.holds Tryd.pinned (.plain (OpenSpec.ofChange wallMirrorsSpec)) wallMirrorsCard

/-- THE SECOND FORM's CARD OF 'slipstreamlaw03.WallSteps'. -/
def wallStepsUptoCard : Claim7 := { stood := { row := wallStepsUptoRow, standIns := [], harness := (true, "1dcc3085adb849005d3e4fce4cae23730e448796bee5795c4f5a43a1a7992244"), looks := false }, kinds := [], alts := [], laidByText := true, laidKinds := [.data], laidTests := true, laidLooks := .later }
def WallStepsUptoCardSaid : Prop := Claim7.holds Tryd.pinned (.plain (OpenSpec.upto wallStepsSpec)) wallStepsUptoCard

/-- THE SECOND FORM's CARD OF 'slipstreamlaw03.WallRuns'. -/
def wallRunsUptoCard : Claim7 := { stood := { row := wallRunsUptoRow, standIns := [], harness := (true, "1dcc3085adb849005d3e4fce4cae23730e448796bee5795c4f5a43a1a7992244"), looks := false }, kinds := [], alts := [], laidByText := true, laidKinds := [.data], laidTests := true, laidLooks := .later }
def WallRunsUptoCardSaid : Prop := Claim7.holds Tryd.pinned (.plain (OpenSpec.upto wallRunsSpec)) wallRunsUptoCard

/-- THE SECOND FORM's CARD OF 'slipstreamlaw03.WallKept'. -/
def wallKeptUptoCard : Claim7 := { stood := { row := wallKeptUptoRow, standIns := [], harness := (true, "1dcc3085adb849005d3e4fce4cae23730e448796bee5795c4f5a43a1a7992244"), looks := false }, kinds := [], alts := [], laidByText := true, laidKinds := [.data], laidTests := true, laidLooks := .later }
def WallKeptUptoCardSaid : Prop := Claim7.holds Tryd.pinned (.plain (OpenSpec.upto wallKeptSpec)) wallKeptUptoCard

/-- THE SECOND FORM's CARD OF 'slipstreamlaw03.WallImpulses'. -/
def wallImpulsesUptoCard : Claim7 := { stood := { row := wallImpulsesUptoRow, standIns := [], harness := (true, "1dcc3085adb849005d3e4fce4cae23730e448796bee5795c4f5a43a1a7992244"), looks := false }, kinds := [], alts := [], laidByText := true, laidKinds := [.data], laidTests := true, laidLooks := .later }
def WallImpulsesUptoCardSaid : Prop := Claim7.holds Tryd.pinned (.plain (OpenSpec.upto wallImpulsesSpec)) wallImpulsesUptoCard

/-- THE SECOND FORM's CARD OF 'slipstreamlaw03.WallDrags'. -/
def wallDragsUptoCard : Claim7 := { stood := { row := wallDragsUptoRow, standIns := [], harness := (true, "1dcc3085adb849005d3e4fce4cae23730e448796bee5795c4f5a43a1a7992244"), looks := false }, kinds := [], alts := [], laidByText := true, laidKinds := [.data], laidTests := true, laidLooks := .later }
def WallDragsUptoCardSaid : Prop := Claim7.holds Tryd.pinned (.plain (OpenSpec.upto wallDragsSpec)) wallDragsUptoCard

/-- THE SECOND FORM's CARD OF 'slipstreamlaw03.WallMirrors'. -/
def wallMirrorsUptoCard : Claim7 := { stood := { row := wallMirrorsUptoRow, standIns := [], harness := (true, "1dcc3085adb849005d3e4fce4cae23730e448796bee5795c4f5a43a1a7992244"), looks := false }, kinds := [], alts := [], laidByText := true, laidKinds := [.data], laidTests := true, laidLooks := .later }
def WallMirrorsUptoCardSaid : Prop := Claim7.holds Tryd.pinned (.plain (OpenSpec.upto wallMirrorsSpec)) wallMirrorsUptoCard
end Rows
end Go.Proofs.YtnpmlbhlchoolaaDoor
