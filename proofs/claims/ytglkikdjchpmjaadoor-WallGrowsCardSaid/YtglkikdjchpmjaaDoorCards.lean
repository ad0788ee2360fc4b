/-
  DERIVED. GIVEN WITH THE SEED: THE CARDS: each row of YtglkikdjchpmjaaDoorRows.lean that lists a variable, with what it lists TIED to the program's text (the seventh form; the later family's looks); each row that meets fmt, with fmt's text TOLD by the authors' own Lean function (tested against real Go, not proved from fmt's source: count such statements apart). THE CARD IS WHAT COUNTS. Prove the row's statement (the work); the ties are given (YtglkikdjchpmjaaDoorTie.lean); close each card by the builder's one call (the guide's Derived/Test/ToyasCard.lean, 'card_holds'). Laid BY PROGRAM, IN A SANDBOX (cutbox-door.mjs). By AI agents, Wed Nov 11 2026. No macro, syntax, notation, axiom, sorry.
-/
import Derived.Test.YtglkikdjchpmjaaDoorRows
import GoSem.ClaimSeven
namespace Go.Proofs.YtglkikdjchpmjaaDoor
namespace Rows

/-- THE TIED CARD OF 'slipstreamlaw03.WallDiscs'. -/
def wallDiscsCard : Claim7 := { stood := { row := wallDiscsRow, standIns := [], harness := (true, "99ef5c06a3380caeed48a35bd33891aff231b8ac2ba5d10ceba13dfcd56f84b5"), looks := false }, kinds := [], alts := [], laidByText := true, laidKinds := [.data], laidTests := true, laidLooks := .later }
def WallDiscsCardSaid : Prop := Claim7.holds Tryd.pinned (.plain (OpenSpec.ofChange wallDiscsSpec)) wallDiscsCard

/-- THE TIED CARD OF 'slipstreamlaw03.WallShapes'. -/
def wallShapesCard : Claim7 := { stood := { row := wallShapesRow, standIns := [], harness := (true, "99ef5c06a3380caeed48a35bd33891aff231b8ac2ba5d10ceba13dfcd56f84b5"), looks := false }, kinds := [], alts := [], laidByText := true, laidKinds := [.data], laidTests := true, laidLooks := .later }
def WallShapesCardSaid : Prop := Claim7.holds Tryd.pinned (.plain (OpenSpec.ofChange wallShapesSpec)) wallShapesCard

/-- THE TIED CARD OF 'slipstreamlaw03.WallGrows'. -/
def wallGrowsCard : Claim7 := { stood := { row := wallGrowsRow, standIns := [], harness := (true, "99ef5c06a3380caeed48a35bd33891aff231b8ac2ba5d10ceba13dfcd56f84b5"), looks := false }, kinds := [], alts := [], laidByText := true, laidKinds := [.data], laidTests := true, laidLooks := .later }
def WallGrowsCardSaid : Prop := Claim7.holds Tryd.pinned (.plain (OpenSpec.ofChange wallGrowsSpec)) wallGrowsCard

/-- THE TIED CARD OF 'slipstreamlaw04.PhaseEven'. -/
def phaseEvenCard : Claim7 := { stood := { row := phaseEvenRow, standIns := [], harness := (true, "99ef5c06a3380caeed48a35bd33891aff231b8ac2ba5d10ceba13dfcd56f84b5"), looks := false }, kinds := [], alts := [], laidByText := true, laidKinds := [.data], laidTests := true, laidLooks := .later }
def PhaseEvenCardSaid : Prop := Claim7.holds Tryd.pinned (.plain (OpenSpec.ofChange phaseEvenSpec)) phaseEvenCard

/-- THE TIED CARD OF 'slipstreamlaw08.FieldMeans'. -/
def fieldMeansCard : Claim7 := { stood := { row := fieldMeansRow, standIns := [], harness := (true, "99ef5c06a3380caeed48a35bd33891aff231b8ac2ba5d10ceba13dfcd56f84b5"), looks := false }, kinds := [], alts := [], laidByText := true, laidKinds := [.data], laidTests := true, laidLooks := .later }
def FieldMeansCardSaid : Prop := Claim7.holds Tryd.pinned (.plain (OpenSpec.ofChange fieldMeansSpec)) fieldMeansCard

/-- THE TIED CARD OF 'slipstreamlaw08.FieldWeighs'. -/
def fieldWeighsCard : Claim7 := { stood := { row := fieldWeighsRow, standIns := [], harness := (true, "99ef5c06a3380caeed48a35bd33891aff231b8ac2ba5d10ceba13dfcd56f84b5"), looks := false }, kinds := [], alts := [], laidByText := true, laidKinds := [.data], laidTests := true, laidLooks := .later }
def FieldWeighsCardSaid : Prop := Claim7.holds Tryd.pinned (.plain (OpenSpec.ofChange fieldWeighsSpec)) fieldWeighsCard

/-- THE TIED CARD OF 'slipstreamlaw08.FieldLoops'. -/
def fieldLoopsCard : Claim7 := { stood := { row := fieldLoopsRow, standIns := [], harness := (true, "99ef5c06a3380caeed48a35bd33891aff231b8ac2ba5d10ceba13dfcd56f84b5"), looks := false }, kinds := [], alts := [], laidByText := true, laidKinds := [.data], laidTests := true, laidLooks := .later }
def FieldLoopsCardSaid : Prop := Claim7.holds Tryd.pinned (.plain (OpenSpec.ofChange fieldLoopsSpec)) fieldLoopsCard

/-- THE TIED CARD OF 'slipstreamlaw08.FieldJoins'. -/
def fieldJoinsCard : Claim7 := { stood := { row := fieldJoinsRow, standIns := [], harness := (true, "99ef5c06a3380caeed48a35bd33891aff231b8ac2ba5d10ceba13dfcd56f84b5"), looks := false }, kinds := [], alts := [], laidByText := true, laidKinds := [.data], laidTests := true, laidLooks := .later }
def FieldJoinsCardSaid : Prop := Claim7.holds Tryd.pinned (.plain (OpenSpec.ofChange fieldJoinsSpec)) fieldJoinsCard

/-- THE TIED CARD OF 'slipstreamlaw08.FieldCrosses'. -/
def fieldCrossesCard : Claim7 := { stood := { row := fieldCrossesRow, standIns := [], harness := (true, "99ef5c06a3380caeed48a35bd33891aff231b8ac2ba5d10ceba13dfcd56f84b5"), looks := false }, kinds := [], alts := [], laidByText := true, laidKinds := [.data, .data], laidTests := true, laidLooks := .later }
def FieldCrossesCardSaid : Prop := Claim7.holds Tryd.pinned (.plain (OpenSpec.ofChange fieldCrossesSpec)) fieldCrossesCard

/-- THE TIED CARD OF 'slipstreamtop.TopContinuity'. -/
def topContinuityCard : Claim7 := { stood := { row := topContinuityRow, standIns := [], harness := (true, "99ef5c06a3380caeed48a35bd33891aff231b8ac2ba5d10ceba13dfcd56f84b5"), looks := false }, kinds := [], alts := [], laidByText := true, laidKinds := [.data], laidTests := true, laidLooks := .later }
def TopContinuityCardSaid : Prop := Claim7.holds Tryd.pinned (.plain (OpenSpec.ofChange topContinuitySpec)) topContinuityCard

/-- THE SECOND FORM's CARD OF 'slipstreamlaw03.WallDiscs'. -/
def wallDiscsUptoCard : Claim7 := { stood := { row := wallDiscsUptoRow, standIns := [], harness := (true, "99ef5c06a3380caeed48a35bd33891aff231b8ac2ba5d10ceba13dfcd56f84b5"), looks := false }, kinds := [], alts := [], laidByText := true, laidKinds := [.data], laidTests := true, laidLooks := .later }
def WallDiscsUptoCardSaid : Prop := Claim7.holds Tryd.pinned (.plain (OpenSpec.upto wallDiscsSpec)) wallDiscsUptoCard

/-- THE SECOND FORM's CARD OF 'slipstreamlaw03.WallShapes'. -/
def wallShapesUptoCard : Claim7 := { stood := { row := wallShapesUptoRow, standIns := [], harness := (true, "99ef5c06a3380caeed48a35bd33891aff231b8ac2ba5d10ceba13dfcd56f84b5"), looks := false }, kinds := [], alts := [], laidByText := true, laidKinds := [.data], laidTests := true, laidLooks := .later }
def WallShapesUptoCardSaid : Prop := Claim7.holds Tryd.pinned (.plain (OpenSpec.upto wallShapesSpec)) wallShapesUptoCard

/-- THE SECOND FORM's CARD OF 'slipstreamlaw03.WallGrows'. -/
def wallGrowsUptoCard : Claim7 := { stood := { row := wallGrowsUptoRow, standIns := [], harness := (true, "99ef5c06a3380caeed48a35bd33891aff231b8ac2ba5d10ceba13dfcd56f84b5"), looks := false }, kinds := [], alts := [], laidByText := true, laidKinds := [.data], laidTests := true, laidLooks := .later }
def WallGrowsUptoCardSaid : Prop := Claim7.holds Tryd.pinned (.plain (OpenSpec.upto wallGrowsSpec)) wallGrowsUptoCard

/-- THE SECOND FORM's CARD OF 'slipstreamlaw04.PhaseEven'. -/
def phaseEvenUptoCard : Claim7 := { stood := { row := phaseEvenUptoRow, standIns := [], harness := (true, "99ef5c06a3380caeed48a35bd33891aff231b8ac2ba5d10ceba13dfcd56f84b5"), looks := false }, kinds := [], alts := [], laidByText := true, laidKinds := [.data], laidTests := true, laidLooks := .later }
def PhaseEvenUptoCardSaid : Prop := Claim7.holds Tryd.pinned (.plain (OpenSpec.upto phaseEvenSpec)) phaseEvenUptoCard

/-- THE SECOND FORM's CARD OF 'slipstreamlaw08.FieldMeans'. -/
def fieldMeansUptoCard : Claim7 := { stood := { row := fieldMeansUptoRow, standIns := [], harness := (true, "99ef5c06a3380caeed48a35bd33891aff231b8ac2ba5d10ceba13dfcd56f84b5"), looks := false }, kinds := [], alts := [], laidByText := true, laidKinds := [.data], laidTests := true, laidLooks := .later }
def FieldMeansUptoCardSaid : Prop := Claim7.holds Tryd.pinned (.plain (OpenSpec.upto fieldMeansSpec)) fieldMeansUptoCard

/-- THE SECOND FORM's CARD OF 'slipstreamlaw08.FieldWeighs'. -/
def fieldWeighsUptoCard : Claim7 := { stood := { row := fieldWeighsUptoRow, standIns := [], harness := (true, "99ef5c06a3380caeed48a35bd33891aff231b8ac2ba5d10ceba13dfcd56f84b5"), looks := false }, kinds := [], alts := [], laidByText := true, laidKinds := [.data], laidTests := true, laidLooks := .later }
def FieldWeighsUptoCardSaid : Prop := Claim7.holds Tryd.pinned (.plain (OpenSpec.upto fieldWeighsSpec)) fieldWeighsUptoCard

/-- THE SECOND FORM's CARD OF 'slipstreamlaw08.FieldLoops'. -/
def fieldLoopsUptoCard : Claim7 := { stood := { row := fieldLoopsUptoRow, standIns := [], harness := (true, "99ef5c06a3380caeed48a35bd33891aff231b8ac2ba5d10ceba13dfcd56f84b5"), looks := false }, kinds := [], alts := [], laidByText := true, laidKinds := [.data], laidTests := true, laidLooks := .later }
def FieldLoopsUptoCardSaid : Prop := Claim7.holds Tryd.pinned (.plain (OpenSpec.upto fieldLoopsSpec)) fieldLoopsUptoCard

/-- THE SECOND FORM's CARD OF 'slipstreamlaw08.FieldJoins'. -/
def fieldJoinsUptoCard : Claim7 := { stood := { row := fieldJoinsUptoRow, standIns := [], harness := (true, "99ef5c06a3380caeed48a35bd33891aff231b8ac2ba5d10ceba13dfcd56f84b5"), looks := false }, kinds := [], alts := [], laidByText := true, laidKinds := [.data], laidTests := true, laidLooks := .later }
def FieldJoinsUptoCardSaid : Prop := Claim7.holds Tryd.pinned (.plain (OpenSpec.upto fieldJoinsSpec)) fieldJoinsUptoCard

/-- THE SECOND FORM's CARD OF 'slipstreamlaw08.FieldCrosses'. -/
def fieldCrossesUptoCard : Claim7 := { stood := { row := fieldCrossesUptoRow, standIns := [], harness := (true, "99ef5c06a3380caeed48a35bd33891aff231b8ac2ba5d10ceba13dfcd56f84b5"), looks := false }, kinds := [], alts := [], laidByText := true, laidKinds := [.data, .data], laidTests := true, laidLooks := .later }
def FieldCrossesUptoCardSaid : Prop := Claim7.holds Tryd.pinned (.plain (OpenSpec.upto fieldCrossesSpec)) fieldCrossesUptoCard

/-- THE SECOND FORM's CARD OF 'slipstreamtop.TopContinuity'. -/
def topContinuityUptoCard : Claim7 := { stood := { row := topContinuityUptoRow, standIns := [], harness := (true, "99ef5c06a3380caeed48a35bd33891aff231b8ac2ba5d10ceba13dfcd56f84b5"), looks := false }, kinds := [], alts := [], laidByText := true, laidKinds := [.data], laidTests := true, laidLooks := .later }
def TopContinuityUptoCardSaid : Prop := Claim7.holds Tryd.pinned (.plain (OpenSpec.upto topContinuitySpec)) topContinuityUptoCard
end Rows
end Go.Proofs.YtglkikdjchpmjaaDoor
