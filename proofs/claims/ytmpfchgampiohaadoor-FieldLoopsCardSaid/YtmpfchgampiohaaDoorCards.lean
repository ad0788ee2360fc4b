/-
  DERIVED. GIVEN WITH THE SEED: THE CARDS: each row of YtmpfchgampiohaaDoorRows.lean that lists a variable, with what it lists TIED to the program's text (the seventh form; the later family's looks); each row that meets fmt, with fmt's text TOLD by the authors' own Lean function (tested against real Go, not proved from fmt's source: count such statements apart). THE CARD IS WHAT COUNTS. Prove the row's statement (the work); the ties are given (YtmpfchgampiohaaDoorTie.lean); close each card by the builder's one call (the guide's Derived/Test/ToyasCard.lean, 'card_holds'). Laid BY PROGRAM, IN A SANDBOX (cutbox-door.mjs). By AI agents, Wed Nov 11 2026. No macro, syntax, notation, axiom, sorry.
-/
import Derived.Test.YtmpfchgampiohaaDoorRows
import GoSem.ClaimSeven
namespace Go.Proofs.YtmpfchgampiohaaDoor
namespace Rows

/-- THE TIED CARD OF 'slipstreamtop.TopContinuity'. -/
def topContinuityCard : Claim7 := { stood := { row := topContinuityRow, standIns := [], harness := (true, "d0219c3ad162b0a0c1185182201adf74e7190fadbdc484694c63d369ba56b064"), looks := false }, kinds := [], alts := [], laidByText := true, laidKinds := [.data], laidTests := true, laidLooks := .later }
def TopContinuityCardSaid : Prop := Claim7.holds Tryd.pinned (.plain (OpenSpec.ofChange topContinuitySpec)) topContinuityCard

/-- THE TIED CARD OF 'slipstreamlaw08.FieldJoins'. -/
def fieldJoinsCard : Claim7 := { stood := { row := fieldJoinsRow, standIns := [], harness := (true, "d0219c3ad162b0a0c1185182201adf74e7190fadbdc484694c63d369ba56b064"), looks := false }, kinds := [], alts := [], laidByText := true, laidKinds := [.data], laidTests := true, laidLooks := .later }
def FieldJoinsCardSaid : Prop := Claim7.holds Tryd.pinned (.plain (OpenSpec.ofChange fieldJoinsSpec)) fieldJoinsCard

/-- THE TIED CARD OF 'slipstreamlaw08.FieldLoops'. -/
def fieldLoopsCard : Claim7 := { stood := { row := fieldLoopsRow, standIns := [], harness := (true, "d0219c3ad162b0a0c1185182201adf74e7190fadbdc484694c63d369ba56b064"), looks := false }, kinds := [], alts := [], laidByText := true, laidKinds := [.data], laidTests := true, laidLooks := .later }
def FieldLoopsCardSaid : Prop := Claim7.holds Tryd.pinned (.plain (OpenSpec.ofChange fieldLoopsSpec)) fieldLoopsCard

/-- THE TIED CARD OF 'slipstreamlaw08.FieldWeighs'. -/
def fieldWeighsCard : Claim7 := { stood := { row := fieldWeighsRow, standIns := [], harness := (true, "d0219c3ad162b0a0c1185182201adf74e7190fadbdc484694c63d369ba56b064"), looks := false }, kinds := [], alts := [], laidByText := true, laidKinds := [.data], laidTests := true, laidLooks := .later }
def FieldWeighsCardSaid : Prop := Claim7.holds Tryd.pinned (.plain (OpenSpec.ofChange fieldWeighsSpec)) fieldWeighsCard

/-- THE TIED CARD OF 'slipstreamlaw08.FieldMeans'. -/
def fieldMeansCard : Claim7 := { stood := { row := fieldMeansRow, standIns := [], harness := (true, "d0219c3ad162b0a0c1185182201adf74e7190fadbdc484694c63d369ba56b064"), looks := false }, kinds := [], alts := [], laidByText := true, laidKinds := [.data], laidTests := true, laidLooks := .later }
def FieldMeansCardSaid : Prop := Claim7.holds Tryd.pinned (.plain (OpenSpec.ofChange fieldMeansSpec)) fieldMeansCard

/-- THE TIED CARD OF 'slipstreamlaw08.FieldCrosses'. -/
def fieldCrossesCard : Claim7 := { stood := { row := fieldCrossesRow, standIns := [], harness := (true, "d0219c3ad162b0a0c1185182201adf74e7190fadbdc484694c63d369ba56b064"), looks := false }, kinds := [], alts := [], laidByText := true, laidKinds := [.data, .data], laidTests := true, laidLooks := .later }
def FieldCrossesCardSaid : Prop := Claim7.holds Tryd.pinned (.plain (OpenSpec.ofChange fieldCrossesSpec)) fieldCrossesCard

/-- THE TIED CARD OF 'slipstreamlaw08.FieldSpreads'. -/
def fieldSpreadsCard : Claim7 := { stood := { row := fieldSpreadsRow, standIns := [], harness := (true, "d0219c3ad162b0a0c1185182201adf74e7190fadbdc484694c63d369ba56b064"), looks := false }, kinds := [], alts := [], laidByText := true, laidKinds := [.data], laidTests := true, laidLooks := .later }
def FieldSpreadsCardSaid : Prop := Claim7.holds Tryd.pinned (.plain (OpenSpec.ofChange fieldSpreadsSpec)) fieldSpreadsCard

/-- THE SECOND FORM's CARD OF 'slipstreamtop.TopContinuity'. -/
def topContinuityUptoCard : Claim7 := { stood := { row := topContinuityUptoRow, standIns := [], harness := (true, "d0219c3ad162b0a0c1185182201adf74e7190fadbdc484694c63d369ba56b064"), looks := false }, kinds := [], alts := [], laidByText := true, laidKinds := [.data], laidTests := true, laidLooks := .later }
def TopContinuityUptoCardSaid : Prop := Claim7.holds Tryd.pinned (.plain (OpenSpec.upto topContinuitySpec)) topContinuityUptoCard

/-- THE SECOND FORM's CARD OF 'slipstreamlaw08.FieldJoins'. -/
def fieldJoinsUptoCard : Claim7 := { stood := { row := fieldJoinsUptoRow, standIns := [], harness := (true, "d0219c3ad162b0a0c1185182201adf74e7190fadbdc484694c63d369ba56b064"), looks := false }, kinds := [], alts := [], laidByText := true, laidKinds := [.data], laidTests := true, laidLooks := .later }
def FieldJoinsUptoCardSaid : Prop := Claim7.holds Tryd.pinned (.plain (OpenSpec.upto fieldJoinsSpec)) fieldJoinsUptoCard

/-- THE SECOND FORM's CARD OF 'slipstreamlaw08.FieldLoops'. -/
def fieldLoopsUptoCard : Claim7 := { stood := { row := fieldLoopsUptoRow, standIns := [], harness := (true, "d0219c3ad162b0a0c1185182201adf74e7190fadbdc484694c63d369ba56b064"), looks := false }, kinds := [], alts := [], laidByText := true, laidKinds := [.data], laidTests := true, laidLooks := .later }
def FieldLoopsUptoCardSaid : Prop := Claim7.holds Tryd.pinned (.plain (OpenSpec.upto fieldLoopsSpec)) fieldLoopsUptoCard

/-- THE SECOND FORM's CARD OF 'slipstreamlaw08.FieldWeighs'. -/
def fieldWeighsUptoCard : Claim7 := { stood := { row := fieldWeighsUptoRow, standIns := [], harness := (true, "d0219c3ad162b0a0c1185182201adf74e7190fadbdc484694c63d369ba56b064"), looks := false }, kinds := [], alts := [], laidByText := true, laidKinds := [.data], laidTests := true, laidLooks := .later }
def FieldWeighsUptoCardSaid : Prop := Claim7.holds Tryd.pinned (.plain (OpenSpec.upto fieldWeighsSpec)) fieldWeighsUptoCard

/-- THE SECOND FORM's CARD OF 'slipstreamlaw08.FieldMeans'. -/
def fieldMeansUptoCard : Claim7 := { stood := { row := fieldMeansUptoRow, standIns := [], harness := (true, "d0219c3ad162b0a0c1185182201adf74e7190fadbdc484694c63d369ba56b064"), looks := false }, kinds := [], alts := [], laidByText := true, laidKinds := [.data], laidTests := true, laidLooks := .later }
def FieldMeansUptoCardSaid : Prop := Claim7.holds Tryd.pinned (.plain (OpenSpec.upto fieldMeansSpec)) fieldMeansUptoCard

/-- THE SECOND FORM's CARD OF 'slipstreamlaw08.FieldCrosses'. -/
def fieldCrossesUptoCard : Claim7 := { stood := { row := fieldCrossesUptoRow, standIns := [], harness := (true, "d0219c3ad162b0a0c1185182201adf74e7190fadbdc484694c63d369ba56b064"), looks := false }, kinds := [], alts := [], laidByText := true, laidKinds := [.data, .data], laidTests := true, laidLooks := .later }
def FieldCrossesUptoCardSaid : Prop := Claim7.holds Tryd.pinned (.plain (OpenSpec.upto fieldCrossesSpec)) fieldCrossesUptoCard

/-- THE SECOND FORM's CARD OF 'slipstreamlaw08.FieldSpreads'. -/
def fieldSpreadsUptoCard : Claim7 := { stood := { row := fieldSpreadsUptoRow, standIns := [], harness := (true, "d0219c3ad162b0a0c1185182201adf74e7190fadbdc484694c63d369ba56b064"), looks := false }, kinds := [], alts := [], laidByText := true, laidKinds := [.data], laidTests := true, laidLooks := .later }
def FieldSpreadsUptoCardSaid : Prop := Claim7.holds Tryd.pinned (.plain (OpenSpec.upto fieldSpreadsSpec)) fieldSpreadsUptoCard
end Rows
end Go.Proofs.YtmpfchgampiohaaDoor
