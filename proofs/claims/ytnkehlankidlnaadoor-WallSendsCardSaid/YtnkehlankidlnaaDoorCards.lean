/-
  DERIVED. GIVEN WITH THE SEED: THE CARDS: each row of YtnkehlankidlnaaDoorRows.lean that lists a variable, with what it lists TIED to the program's text (the seventh form; the later family's looks); each row that meets fmt, with fmt's text TOLD by the authors' own Lean function (tested against real Go, not proved from fmt's source: count such statements apart). THE CARD IS WHAT COUNTS. Prove the row's statement (the work); the ties are given (YtnkehlankidlnaaDoorTie.lean); close each card by the builder's one call (the guide's Derived/Test/ToyasCard.lean, 'card_holds'). Laid BY PROGRAM, IN A SANDBOX (cutbox-door.mjs). By AI agents, Wed Nov 11 2026. No macro, syntax, notation, axiom, sorry.
-/
import Derived.Test.YtnkehlankidlnaaDoorRows
import GoSem.ClaimSeven
namespace Go.Proofs.YtnkehlankidlnaaDoor
namespace Rows

/-- THE TIED CARD OF 'slipstreamlaw02.GridSums'. -/
def gridSumsCard : Claim7 := { stood := { row := gridSumsRow, standIns := [], harness := (true, "f4e75a419a7baabaedda820585afec8c8cc7005528a4d1b9780dd5bf6c065c5e"), looks := false }, kinds := [], alts := [], laidByText := true, laidKinds := [.data, .data, .data], laidTests := true, laidLooks := .later }
def GridSumsCardSaid : Prop := Claim7.holds Tryd.pinned (.plain (OpenSpec.ofChange gridSumsSpec)) gridSumsCard

/-- THE TIED CARD OF 'slipstreamlaw03.WallSends'. -/
def wallSendsCard : Claim7 := { stood := { row := wallSendsRow, standIns := [], harness := (true, "f4e75a419a7baabaedda820585afec8c8cc7005528a4d1b9780dd5bf6c065c5e"), looks := false }, kinds := [], alts := [], laidByText := true, laidKinds := [.data], laidTests := true, laidLooks := .later }
def WallSendsCardSaid : Prop := Claim7.holds Tryd.pinned (.plain (OpenSpec.ofChange wallSendsSpec)) wallSendsCard

/-- THE TIED CARD OF 'slipstreamlaw03.WallSteps'. -/
def wallStepsCard : Claim7 := { stood := { row := wallStepsRow, standIns := [], harness := (true, "f4e75a419a7baabaedda820585afec8c8cc7005528a4d1b9780dd5bf6c065c5e"), looks := false }, kinds := [], alts := [], laidByText := true, laidKinds := [.data], laidTests := true, laidLooks := .later }
def WallStepsCardSaid : Prop := Claim7.holds Tryd.pinned (.plain (OpenSpec.ofChange wallStepsSpec)) wallStepsCard

/-- THE TIED CARD OF 'slipstreamlaw03.WallRuns'. -/
def wallRunsCard : Claim7 := { stood := { row := wallRunsRow, standIns := [], harness := (true, "f4e75a419a7baabaedda820585afec8c8cc7005528a4d1b9780dd5bf6c065c5e"), looks := false }, kinds := [], alts := [], laidByText := true, laidKinds := [.data], laidTests := true, laidLooks := .later }
def WallRunsCardSaid : Prop := Claim7.holds Tryd.pinned (.plain (OpenSpec.ofChange wallRunsSpec)) wallRunsCard

/-- THE TIED CARD OF 'slipstreamlaw03.WallKept'. -/
def wallKeptCard : Claim7 := { stood := { row := wallKeptRow, standIns := [], harness := (true, "f4e75a419a7baabaedda820585afec8c8cc7005528a4d1b9780dd5bf6c065c5e"), looks := false }, kinds := [], alts := [], laidByText := true, laidKinds := [.data], laidTests := true, laidLooks := .later }
def WallKeptCardSaid : Prop := Claim7.holds Tryd.pinned (.plain (OpenSpec.ofChange wallKeptSpec)) wallKeptCard

/-- THE TIED CARD OF 'slipstreamlaw03.WallImpulses'. -/
def wallImpulsesCard : Claim7 := { stood := { row := wallImpulsesRow, standIns := [], harness := (true, "f4e75a419a7baabaedda820585afec8c8cc7005528a4d1b9780dd5bf6c065c5e"), looks := false }, kinds := [], alts := [], laidByText := true, laidKinds := [.data], laidTests := true, laidLooks := .later }
def WallImpulsesCardSaid : Prop := Claim7.holds Tryd.pinned (.plain (OpenSpec.ofChange wallImpulsesSpec)) wallImpulsesCard

/-- THE TIED CARD OF 'slipstreamlaw03.WallDrags'. -/
def wallDragsCard : Claim7 := { stood := { row := wallDragsRow, standIns := [], harness := (true, "f4e75a419a7baabaedda820585afec8c8cc7005528a4d1b9780dd5bf6c065c5e"), looks := false }, kinds := [], alts := [], laidByText := true, laidKinds := [.data], laidTests := true, laidLooks := .later }
def WallDragsCardSaid : Prop := Claim7.holds Tryd.pinned (.plain (OpenSpec.ofChange wallDragsSpec)) wallDragsCard

/-- THE TIED CARD OF 'slipstreamlaw03.WallDiscs'. -/
def wallDiscsCard : Claim7 := { stood := { row := wallDiscsRow, standIns := [], harness := (true, "f4e75a419a7baabaedda820585afec8c8cc7005528a4d1b9780dd5bf6c065c5e"), looks := false }, kinds := [], alts := [], laidByText := true, laidKinds := [.data], laidTests := true, laidLooks := .later }
def WallDiscsCardSaid : Prop := Claim7.holds Tryd.pinned (.plain (OpenSpec.ofChange wallDiscsSpec)) wallDiscsCard

/-- THE TIED CARD OF 'slipstreamlaw03.WallShapes'. -/
def wallShapesCard : Claim7 := { stood := { row := wallShapesRow, standIns := [], harness := (true, "f4e75a419a7baabaedda820585afec8c8cc7005528a4d1b9780dd5bf6c065c5e"), looks := false }, kinds := [], alts := [], laidByText := true, laidKinds := [.data], laidTests := true, laidLooks := .later }
def WallShapesCardSaid : Prop := Claim7.holds Tryd.pinned (.plain (OpenSpec.ofChange wallShapesSpec)) wallShapesCard

/-- THE TIED CARD OF 'slipstreamlaw03.WallGrows'. -/
def wallGrowsCard : Claim7 := { stood := { row := wallGrowsRow, standIns := [], harness := (true, "f4e75a419a7baabaedda820585afec8c8cc7005528a4d1b9780dd5bf6c065c5e"), looks := false }, kinds := [], alts := [], laidByText := true, laidKinds := [.data], laidTests := true, laidLooks := .later }
def WallGrowsCardSaid : Prop := Claim7.holds Tryd.pinned (.plain (OpenSpec.ofChange wallGrowsSpec)) wallGrowsCard

/-- THE TIED CARD OF 'slipstreamlaw03.WallRemoves'. -/
def wallRemovesCard : Claim7 := { stood := { row := wallRemovesRow, standIns := [], harness := (true, "f4e75a419a7baabaedda820585afec8c8cc7005528a4d1b9780dd5bf6c065c5e"), looks := false }, kinds := [], alts := [], laidByText := true, laidKinds := [.data], laidTests := true, laidLooks := .later }
def WallRemovesCardSaid : Prop := Claim7.holds Tryd.pinned (.plain (OpenSpec.ofChange wallRemovesSpec)) wallRemovesCard

/-- THE TIED CARD OF 'slipstreamlaw03.WallMirrors'. -/
def wallMirrorsCard : Claim7 := { stood := { row := wallMirrorsRow, standIns := [], harness := (true, "f4e75a419a7baabaedda820585afec8c8cc7005528a4d1b9780dd5bf6c065c5e"), looks := false }, kinds := [], alts := [], laidByText := true, laidKinds := [.data], laidTests := true, laidLooks := .later }
def WallMirrorsCardSaid : Prop := Claim7.holds Tryd.pinned (.plain (OpenSpec.ofChange wallMirrorsSpec)) wallMirrorsCard

/-- THE SECOND FORM's CARD OF 'slipstreamlaw02.GridSums'. -/
def gridSumsUptoCard : Claim7 := { stood := { row := gridSumsUptoRow, standIns := [], harness := (true, "f4e75a419a7baabaedda820585afec8c8cc7005528a4d1b9780dd5bf6c065c5e"), looks := false }, kinds := [], alts := [], laidByText := true, laidKinds := [.data, .data, .data], laidTests := true, laidLooks := .later }
def GridSumsUptoCardSaid : Prop := Claim7.holds Tryd.pinned (.plain (OpenSpec.upto gridSumsSpec)) gridSumsUptoCard

/-- THE SECOND FORM's CARD OF 'slipstreamlaw03.WallSends'. -/
def wallSendsUptoCard : Claim7 := { stood := { row := wallSendsUptoRow, standIns := [], harness := (true, "f4e75a419a7baabaedda820585afec8c8cc7005528a4d1b9780dd5bf6c065c5e"), looks := false }, kinds := [], alts := [], laidByText := true, laidKinds := [.data], laidTests := true, laidLooks := .later }
def WallSendsUptoCardSaid : Prop := Claim7.holds Tryd.pinned (.plain (OpenSpec.upto wallSendsSpec)) wallSendsUptoCard

/-- THE SECOND FORM's CARD OF 'slipstreamlaw03.WallSteps'. -/
def wallStepsUptoCard : Claim7 := { stood := { row := wallStepsUptoRow, standIns := [], harness := (true, "f4e75a419a7baabaedda820585afec8c8cc7005528a4d1b9780dd5bf6c065c5e"), looks := false }, kinds := [], alts := [], laidByText := true, laidKinds := [.data], laidTests := true, laidLooks := .later }
def WallStepsUptoCardSaid : Prop := Claim7.holds Tryd.pinned (.plain (OpenSpec.upto wallStepsSpec)) wallStepsUptoCard

/-- THE SECOND FORM's CARD OF 'slipstreamlaw03.WallRuns'. -/
def wallRunsUptoCard : Claim7 := { stood := { row := wallRunsUptoRow, standIns := [], harness := (true, "f4e75a419a7baabaedda820585afec8c8cc7005528a4d1b9780dd5bf6c065c5e"), looks := false }, kinds := [], alts := [], laidByText := true, laidKinds := [.data], laidTests := true, laidLooks := .later }
def WallRunsUptoCardSaid : Prop := Claim7.holds Tryd.pinned (.plain (OpenSpec.upto wallRunsSpec)) wallRunsUptoCard

/-- THE SECOND FORM's CARD OF 'slipstreamlaw03.WallKept'. -/
def wallKeptUptoCard : Claim7 := { stood := { row := wallKeptUptoRow, standIns := [], harness := (true, "f4e75a419a7baabaedda820585afec8c8cc7005528a4d1b9780dd5bf6c065c5e"), looks := false }, kinds := [], alts := [], laidByText := true, laidKinds := [.data], laidTests := true, laidLooks := .later }
def WallKeptUptoCardSaid : Prop := Claim7.holds Tryd.pinned (.plain (OpenSpec.upto wallKeptSpec)) wallKeptUptoCard

/-- THE SECOND FORM's CARD OF 'slipstreamlaw03.WallImpulses'. -/
def wallImpulsesUptoCard : Claim7 := { stood := { row := wallImpulsesUptoRow, standIns := [], harness := (true, "f4e75a419a7baabaedda820585afec8c8cc7005528a4d1b9780dd5bf6c065c5e"), looks := false }, kinds := [], alts := [], laidByText := true, laidKinds := [.data], laidTests := true, laidLooks := .later }
def WallImpulsesUptoCardSaid : Prop := Claim7.holds Tryd.pinned (.plain (OpenSpec.upto wallImpulsesSpec)) wallImpulsesUptoCard

/-- THE SECOND FORM's CARD OF 'slipstreamlaw03.WallDrags'. -/
def wallDragsUptoCard : Claim7 := { stood := { row := wallDragsUptoRow, standIns := [], harness := (true, "f4e75a419a7baabaedda820585afec8c8cc7005528a4d1b9780dd5bf6c065c5e"), looks := false }, kinds := [], alts := [], laidByText := true, laidKinds := [.data], laidTests := true, laidLooks := .later }
def WallDragsUptoCardSaid : Prop := Claim7.holds Tryd.pinned (.plain (OpenSpec.upto wallDragsSpec)) wallDragsUptoCard

/-- THE SECOND FORM's CARD OF 'slipstreamlaw03.WallDiscs'. -/
def wallDiscsUptoCard : Claim7 := { stood := { row := wallDiscsUptoRow, standIns := [], harness := (true, "f4e75a419a7baabaedda820585afec8c8cc7005528a4d1b9780dd5bf6c065c5e"), looks := false }, kinds := [], alts := [], laidByText := true, laidKinds := [.data], laidTests := true, laidLooks := .later }
def WallDiscsUptoCardSaid : Prop := Claim7.holds Tryd.pinned (.plain (OpenSpec.upto wallDiscsSpec)) wallDiscsUptoCard

/-- THE SECOND FORM's CARD OF 'slipstreamlaw03.WallShapes'. -/
def wallShapesUptoCard : Claim7 := { stood := { row := wallShapesUptoRow, standIns := [], harness := (true, "f4e75a419a7baabaedda820585afec8c8cc7005528a4d1b9780dd5bf6c065c5e"), looks := false }, kinds := [], alts := [], laidByText := true, laidKinds := [.data], laidTests := true, laidLooks := .later }
def WallShapesUptoCardSaid : Prop := Claim7.holds Tryd.pinned (.plain (OpenSpec.upto wallShapesSpec)) wallShapesUptoCard

/-- THE SECOND FORM's CARD OF 'slipstreamlaw03.WallGrows'. -/
def wallGrowsUptoCard : Claim7 := { stood := { row := wallGrowsUptoRow, standIns := [], harness := (true, "f4e75a419a7baabaedda820585afec8c8cc7005528a4d1b9780dd5bf6c065c5e"), looks := false }, kinds := [], alts := [], laidByText := true, laidKinds := [.data], laidTests := true, laidLooks := .later }
def WallGrowsUptoCardSaid : Prop := Claim7.holds Tryd.pinned (.plain (OpenSpec.upto wallGrowsSpec)) wallGrowsUptoCard

/-- THE SECOND FORM's CARD OF 'slipstreamlaw03.WallRemoves'. -/
def wallRemovesUptoCard : Claim7 := { stood := { row := wallRemovesUptoRow, standIns := [], harness := (true, "f4e75a419a7baabaedda820585afec8c8cc7005528a4d1b9780dd5bf6c065c5e"), looks := false }, kinds := [], alts := [], laidByText := true, laidKinds := [.data], laidTests := true, laidLooks := .later }
def WallRemovesUptoCardSaid : Prop := Claim7.holds Tryd.pinned (.plain (OpenSpec.upto wallRemovesSpec)) wallRemovesUptoCard

/-- THE SECOND FORM's CARD OF 'slipstreamlaw03.WallMirrors'. -/
def wallMirrorsUptoCard : Claim7 := { stood := { row := wallMirrorsUptoRow, standIns := [], harness := (true, "f4e75a419a7baabaedda820585afec8c8cc7005528a4d1b9780dd5bf6c065c5e"), looks := false }, kinds := [], alts := [], laidByText := true, laidKinds := [.data], laidTests := true, laidLooks := .later }
def WallMirrorsUptoCardSaid : Prop := Claim7.holds Tryd.pinned (.plain (OpenSpec.upto wallMirrorsSpec)) wallMirrorsUptoCard
end Rows
end Go.Proofs.YtnkehlankidlnaaDoor
