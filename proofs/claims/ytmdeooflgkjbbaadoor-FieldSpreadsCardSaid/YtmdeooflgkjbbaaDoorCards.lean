/-
  DERIVED. GIVEN WITH THE SEED: THE CARDS: each row of YtmdeooflgkjbbaaDoorRows.lean that lists a variable, with what it lists TIED to the program's text (the seventh form; the later family's looks); each row that meets fmt, with fmt's text TOLD by the authors' own Lean function (tested against real Go, not proved from fmt's source: count such statements apart). THE CARD IS WHAT COUNTS. Prove the row's statement (the work); the ties are given (YtmdeooflgkjbbaaDoorTie.lean); close each card by the builder's one call (the guide's Derived/Test/ToyasCard.lean, 'card_holds'). Laid BY PROGRAM, IN A SANDBOX (cutbox-door.mjs). By AI agents, Wed Nov 11 2026. No macro, syntax, notation, axiom, sorry.
-/
import Derived.Test.YtmdeooflgkjbbaaDoorRows
import GoSem.ClaimSeven
namespace Go.Proofs.YtmdeooflgkjbbaaDoor
namespace Rows

/-- THE TIED CARD OF 'slipstreamlaw08.FieldMeans'. -/
def fieldMeansCard : Claim7 := { stood := { row := fieldMeansRow, standIns := [], harness := (true, "2746dd18b2d96f6909dd894a9c6c3826f7ed2d09797043138d16ca3a58544658"), looks := false }, kinds := [], alts := [], laidByText := true, laidKinds := [.data], laidTests := true, laidLooks := .later }
def FieldMeansCardSaid : Prop := Claim7.holds Tryd.pinned (.plain (OpenSpec.ofChange fieldMeansSpec)) fieldMeansCard

/-- THE TIED CARD OF 'slipstreamlaw08.FieldWeighs'. -/
def fieldWeighsCard : Claim7 := { stood := { row := fieldWeighsRow, standIns := [], harness := (true, "2746dd18b2d96f6909dd894a9c6c3826f7ed2d09797043138d16ca3a58544658"), looks := false }, kinds := [], alts := [], laidByText := true, laidKinds := [.data], laidTests := true, laidLooks := .later }
def FieldWeighsCardSaid : Prop := Claim7.holds Tryd.pinned (.plain (OpenSpec.ofChange fieldWeighsSpec)) fieldWeighsCard

/-- THE TIED CARD OF 'slipstreamlaw08.FieldCrosses'. -/
def fieldCrossesCard : Claim7 := { stood := { row := fieldCrossesRow, standIns := [], harness := (true, "2746dd18b2d96f6909dd894a9c6c3826f7ed2d09797043138d16ca3a58544658"), looks := false }, kinds := [], alts := [], laidByText := true, laidKinds := [.data, .data], laidTests := true, laidLooks := .later }
def FieldCrossesCardSaid : Prop := Claim7.holds Tryd.pinned (.plain (OpenSpec.ofChange fieldCrossesSpec)) fieldCrossesCard

/-- THE TIED CARD OF 'slipstreamlaw08.FieldSpreads'. -/
def fieldSpreadsCard : Claim7 := { stood := { row := fieldSpreadsRow, standIns := [], harness := (true, "2746dd18b2d96f6909dd894a9c6c3826f7ed2d09797043138d16ca3a58544658"), looks := false }, kinds := [], alts := [], laidByText := true, laidKinds := [.data], laidTests := true, laidLooks := .later }
def FieldSpreadsCardSaid : Prop := Claim7.holds Tryd.pinned (.plain (OpenSpec.ofChange fieldSpreadsSpec)) fieldSpreadsCard

/-- THE TIED CARD OF 'slipstreamlaw03.WallRemoves'. -/
def wallRemovesCard : Claim7 := { stood := { row := wallRemovesRow, standIns := [], harness := (true, "2746dd18b2d96f6909dd894a9c6c3826f7ed2d09797043138d16ca3a58544658"), looks := false }, kinds := [], alts := [], laidByText := true, laidKinds := [.data], laidTests := true, laidLooks := .later }
def WallRemovesCardSaid : Prop := Claim7.holds Tryd.pinned (.plain (OpenSpec.ofChange wallRemovesSpec)) wallRemovesCard

/-- THE TIED CARD OF 'slipstreamlaw04.PhaseKinds'. -/
def phaseKindsCard : Claim7 := { stood := { row := phaseKindsRow, standIns := [], harness := (true, "2746dd18b2d96f6909dd894a9c6c3826f7ed2d09797043138d16ca3a58544658"), looks := false }, kinds := [], alts := [], laidByText := true, laidKinds := [.data], laidTests := true, laidLooks := .later }
def PhaseKindsCardSaid : Prop := Claim7.holds Tryd.pinned (.plain (OpenSpec.ofChange phaseKindsSpec)) phaseKindsCard

/-- THE SECOND FORM's CARD OF 'slipstreamlaw08.FieldMeans'. -/
def fieldMeansUptoCard : Claim7 := { stood := { row := fieldMeansUptoRow, standIns := [], harness := (true, "2746dd18b2d96f6909dd894a9c6c3826f7ed2d09797043138d16ca3a58544658"), looks := false }, kinds := [], alts := [], laidByText := true, laidKinds := [.data], laidTests := true, laidLooks := .later }
def FieldMeansUptoCardSaid : Prop := Claim7.holds Tryd.pinned (.plain (OpenSpec.upto fieldMeansSpec)) fieldMeansUptoCard

/-- THE SECOND FORM's CARD OF 'slipstreamlaw08.FieldWeighs'. -/
def fieldWeighsUptoCard : Claim7 := { stood := { row := fieldWeighsUptoRow, standIns := [], harness := (true, "2746dd18b2d96f6909dd894a9c6c3826f7ed2d09797043138d16ca3a58544658"), looks := false }, kinds := [], alts := [], laidByText := true, laidKinds := [.data], laidTests := true, laidLooks := .later }
def FieldWeighsUptoCardSaid : Prop := Claim7.holds Tryd.pinned (.plain (OpenSpec.upto fieldWeighsSpec)) fieldWeighsUptoCard

/-- THE SECOND FORM's CARD OF 'slipstreamlaw08.FieldCrosses'. -/
def fieldCrossesUptoCard : Claim7 := { stood := { row := fieldCrossesUptoRow, standIns := [], harness := (true, "2746dd18b2d96f6909dd894a9c6c3826f7ed2d09797043138d16ca3a58544658"), looks := false }, kinds := [], alts := [], laidByText := true, laidKinds := [.data, .data], laidTests := true, laidLooks := .later }
def FieldCrossesUptoCardSaid : Prop := Claim7.holds Tryd.pinned (.plain (OpenSpec.upto fieldCrossesSpec)) fieldCrossesUptoCard

/-- THE SECOND FORM's CARD OF 'slipstreamlaw08.FieldSpreads'. -/
def fieldSpreadsUptoCard : Claim7 := { stood := { row := fieldSpreadsUptoRow, standIns := [], harness := (true, "2746dd18b2d96f6909dd894a9c6c3826f7ed2d09797043138d16ca3a58544658"), looks := false }, kinds := [], alts := [], laidByText := true, laidKinds := [.data], laidTests := true, laidLooks := .later }
def FieldSpreadsUptoCardSaid : Prop := Claim7.holds Tryd.pinned (.plain (OpenSpec.upto fieldSpreadsSpec)) fieldSpreadsUptoCard

/-- THE SECOND FORM's CARD OF 'slipstreamlaw03.WallRemoves'. -/
def wallRemovesUptoCard : Claim7 := { stood := { row := wallRemovesUptoRow, standIns := [], harness := (true, "2746dd18b2d96f6909dd894a9c6c3826f7ed2d09797043138d16ca3a58544658"), looks := false }, kinds := [], alts := [], laidByText := true, laidKinds := [.data], laidTests := true, laidLooks := .later }
def WallRemovesUptoCardSaid : Prop := Claim7.holds Tryd.pinned (.plain (OpenSpec.upto wallRemovesSpec)) wallRemovesUptoCard

/-- THE SECOND FORM's CARD OF 'slipstreamlaw04.PhaseKinds'. -/
def phaseKindsUptoCard : Claim7 := { stood := { row := phaseKindsUptoRow, standIns := [], harness := (true, "2746dd18b2d96f6909dd894a9c6c3826f7ed2d09797043138d16ca3a58544658"), looks := false }, kinds := [], alts := [], laidByText := true, laidKinds := [.data], laidTests := true, laidLooks := .later }
def PhaseKindsUptoCardSaid : Prop := Claim7.holds Tryd.pinned (.plain (OpenSpec.upto phaseKindsSpec)) phaseKindsUptoCard
end Rows
end Go.Proofs.YtmdeooflgkjbbaaDoor
