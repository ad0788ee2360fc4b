/-
  DERIVED. GIVEN WITH THE SEED: THE CARDS: each row of YtjlebdjnjjdnpaaDoorRows.lean that lists a variable, with what it lists TIED to the program's text (the seventh form; the later family's looks); each row that meets fmt, with fmt's text TOLD by the authors' own Lean function (tested against real Go, not proved from fmt's source: count such statements apart). THE CARD IS WHAT COUNTS. Prove the row's statement (the work); the ties are given (YtjlebdjnjjdnpaaDoorTie.lean); close each card by the builder's one call (the guide's Derived/Test/ToyasCard.lean, 'card_holds'). Laid BY PROGRAM, IN A SANDBOX (cutbox-door.mjs). By AI agents, Wed Nov 11 2026. No macro, syntax, notation, axiom, sorry.
-/
import Derived.Test.YtjlebdjnjjdnpaaDoorRows
import GoSem.ClaimSeven
namespace Go.Proofs.YtjlebdjnjjdnpaaDoor
namespace Rows

/-- THE TIED CARD OF 'slipstreamlaw04.PhaseParts'. -/
def phasePartsCard : Claim7 := { stood := { row := phasePartsRow, standIns := [], harness := (true, "a8f2759f2c864fc6585cc11ccdb3f2ec4f24145663fc013558b19d1759dd8c43"), looks := false }, kinds := [], alts := [], laidByText := true, laidKinds := [.data], laidTests := true, laidLooks := .later }
def PhasePartsCardSaid : Prop := Claim7.holds Tryd.pinned (.plain (OpenSpec.ofChange phasePartsSpec)) phasePartsCard

/-- THE TIED CARD OF 'slipstreamlaw04.PhaseMasses'. -/
def phaseMassesCard : Claim7 := { stood := { row := phaseMassesRow, standIns := [], harness := (true, "a8f2759f2c864fc6585cc11ccdb3f2ec4f24145663fc013558b19d1759dd8c43"), looks := false }, kinds := [], alts := [], laidByText := true, laidKinds := [.data], laidTests := true, laidLooks := .later }
def PhaseMassesCardSaid : Prop := Claim7.holds Tryd.pinned (.plain (OpenSpec.ofChange phaseMassesSpec)) phaseMassesCard

/-- THE TIED CARD OF 'slipstreamlaw04.PhaseExchanges'. -/
def phaseExchangesCard : Claim7 := { stood := { row := phaseExchangesRow, standIns := [], harness := (true, "a8f2759f2c864fc6585cc11ccdb3f2ec4f24145663fc013558b19d1759dd8c43"), looks := false }, kinds := [], alts := [], laidByText := true, laidKinds := [.data], laidTests := true, laidLooks := .later }
def PhaseExchangesCardSaid : Prop := Claim7.holds Tryd.pinned (.plain (OpenSpec.ofChange phaseExchangesSpec)) phaseExchangesCard

/-- THE TIED CARD OF 'slipstreamlaw04.PhaseKept'. -/
def phaseKeptCard : Claim7 := { stood := { row := phaseKeptRow, standIns := [], harness := (true, "a8f2759f2c864fc6585cc11ccdb3f2ec4f24145663fc013558b19d1759dd8c43"), looks := false }, kinds := [], alts := [], laidByText := true, laidKinds := [.data], laidTests := true, laidLooks := .later }
def PhaseKeptCardSaid : Prop := Claim7.holds Tryd.pinned (.plain (OpenSpec.ofChange phaseKeptSpec)) phaseKeptCard

/-- THE TIED CARD OF 'slipstreamlaw04.PhaseSwaps'. -/
def phaseSwapsCard : Claim7 := { stood := { row := phaseSwapsRow, standIns := [], harness := (true, "a8f2759f2c864fc6585cc11ccdb3f2ec4f24145663fc013558b19d1759dd8c43"), looks := false }, kinds := [], alts := [], laidByText := true, laidKinds := [.data], laidTests := true, laidLooks := .later }
def PhaseSwapsCardSaid : Prop := Claim7.holds Tryd.pinned (.plain (OpenSpec.ofChange phaseSwapsSpec)) phaseSwapsCard

/-- THE TIED CARD OF 'slipstreamlaw04.PhaseAlone'. -/
def phaseAloneCard : Claim7 := { stood := { row := phaseAloneRow, standIns := [], harness := (true, "a8f2759f2c864fc6585cc11ccdb3f2ec4f24145663fc013558b19d1759dd8c43"), looks := false }, kinds := [], alts := [], laidByText := true, laidKinds := [.data], laidTests := true, laidLooks := .later }
def PhaseAloneCardSaid : Prop := Claim7.holds Tryd.pinned (.plain (OpenSpec.ofChange phaseAloneSpec)) phaseAloneCard

/-- THE TIED CARD OF 'slipstreamlaw04.PhaseEven'. -/
def phaseEvenCard : Claim7 := { stood := { row := phaseEvenRow, standIns := [], harness := (true, "a8f2759f2c864fc6585cc11ccdb3f2ec4f24145663fc013558b19d1759dd8c43"), looks := false }, kinds := [], alts := [], laidByText := true, laidKinds := [.data], laidTests := true, laidLooks := .later }
def PhaseEvenCardSaid : Prop := Claim7.holds Tryd.pinned (.plain (OpenSpec.ofChange phaseEvenSpec)) phaseEvenCard

/-- THE SECOND FORM's CARD OF 'slipstreamlaw04.PhaseParts'. -/
def phasePartsUptoCard : Claim7 := { stood := { row := phasePartsUptoRow, standIns := [], harness := (true, "a8f2759f2c864fc6585cc11ccdb3f2ec4f24145663fc013558b19d1759dd8c43"), looks := false }, kinds := [], alts := [], laidByText := true, laidKinds := [.data], laidTests := true, laidLooks := .later }
def PhasePartsUptoCardSaid : Prop := Claim7.holds Tryd.pinned (.plain (OpenSpec.upto phasePartsSpec)) phasePartsUptoCard

/-- THE SECOND FORM's CARD OF 'slipstreamlaw04.PhaseMasses'. -/
def phaseMassesUptoCard : Claim7 := { stood := { row := phaseMassesUptoRow, standIns := [], harness := (true, "a8f2759f2c864fc6585cc11ccdb3f2ec4f24145663fc013558b19d1759dd8c43"), looks := false }, kinds := [], alts := [], laidByText := true, laidKinds := [.data], laidTests := true, laidLooks := .later }
def PhaseMassesUptoCardSaid : Prop := Claim7.holds Tryd.pinned (.plain (OpenSpec.upto phaseMassesSpec)) phaseMassesUptoCard

/-- THE SECOND FORM's CARD OF 'slipstreamlaw04.PhaseExchanges'. -/
def phaseExchangesUptoCard : Claim7 := { stood := { row := phaseExchangesUptoRow, standIns := [], harness := (true, "a8f2759f2c864fc6585cc11ccdb3f2ec4f24145663fc013558b19d1759dd8c43"), looks := false }, kinds := [], alts := [], laidByText := true, laidKinds := [.data], laidTests := true, laidLooks := .later }
def PhaseExchangesUptoCardSaid : Prop := Claim7.holds Tryd.pinned (.plain (OpenSpec.upto phaseExchangesSpec)) phaseExchangesUptoCard

/-- THE SECOND FORM's CARD OF 'slipstreamlaw04.PhaseKept'. -/
def phaseKeptUptoCard : Claim7 := { stood := { row := phaseKeptUptoRow, standIns := [], harness := (true, "a8f2759f2c864fc6585cc11ccdb3f2ec4f24145663fc013558b19d1759dd8c43"), looks := false }, kinds := [], alts := [], laidByText := true, laidKinds := [.data], laidTests := true, laidLooks := .later }
def PhaseKeptUptoCardSaid : Prop := Claim7.holds Tryd.pinned (.plain (OpenSpec.upto phaseKeptSpec)) phaseKeptUptoCard

/-- THE SECOND FORM's CARD OF 'slipstreamlaw04.PhaseSwaps'. -/
def phaseSwapsUptoCard : Claim7 := { stood := { row := phaseSwapsUptoRow, standIns := [], harness := (true, "a8f2759f2c864fc6585cc11ccdb3f2ec4f24145663fc013558b19d1759dd8c43"), looks := false }, kinds := [], alts := [], laidByText := true, laidKinds := [.data], laidTests := true, laidLooks := .later }
def PhaseSwapsUptoCardSaid : Prop := Claim7.holds Tryd.pinned (.plain (OpenSpec.upto phaseSwapsSpec)) phaseSwapsUptoCard

/-- THE SECOND FORM's CARD OF 'slipstreamlaw04.PhaseAlone'. -/
def phaseAloneUptoCard : Claim7 := { stood := { row := phaseAloneUptoRow, standIns := [], harness := (true, "a8f2759f2c864fc6585cc11ccdb3f2ec4f24145663fc013558b19d1759dd8c43"), looks := false }, kinds := [], alts := [], laidByText := true, laidKinds := [.data], laidTests := true, laidLooks := .later }
def PhaseAloneUptoCardSaid : Prop := Claim7.holds Tryd.pinned (.plain (OpenSpec.upto phaseAloneSpec)) phaseAloneUptoCard

/-- THE SECOND FORM's CARD OF 'slipstreamlaw04.PhaseEven'. -/
def phaseEvenUptoCard : Claim7 := { stood := { row := phaseEvenUptoRow, standIns := [], harness := (true, "a8f2759f2c864fc6585cc11ccdb3f2ec4f24145663fc013558b19d1759dd8c43"), looks := false }, kinds := [], alts := [], laidByText := true, laidKinds := [.data], laidTests := true, laidLooks := .later }
def PhaseEvenUptoCardSaid : Prop := Claim7.holds Tryd.pinned (.plain (OpenSpec.upto phaseEvenSpec)) phaseEvenUptoCard
end Rows
end Go.Proofs.YtjlebdjnjjdnpaaDoor
