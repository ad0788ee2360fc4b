/-
  DERIVED. GIVEN WITH THE SEED: THE CARDS: each row of YtmkhbkkhoemkoaaGreatDoorRows.lean that lists a variable, with what it lists TIED to the program's text (the seventh form; the later family's looks); each row that meets fmt, with fmt's text TOLD by the authors' own Lean function (tested against real Go, not proved from fmt's source: count such statements apart). THE CARD IS WHAT COUNTS. Prove the row's statement (the work); the ties are given (YtmkhbkkhoemkoaaGreatDoorTie.lean); close each card by the builder's one call (the guide's Derived/Test/ToyasCard.lean, 'card_holds'). Laid BY PROGRAM, IN A SANDBOX (cutbox-door.mjs). By AI agents, Wed Nov 11 2026. No macro, syntax, notation, axiom, sorry.
-/
import Derived.Test.YtmkhbkkhoemkoaaGreatDoorRows
import GoSem.ClaimSeven
namespace Go.Proofs.YtmkhbkkhoemkoaaGreatDoor
namespace Rows

/-- THE TIED CARD OF 'slipstreamlaw04.PhaseSteps'. -/
def phaseStepsCard : Claim7 := { stood := { row := phaseStepsRow, standIns := [], harness := (true, "08c4a6a764e9cc10c630a74c7a024a8ef71bd9761ae1e7693136a3c12db5592a"), looks := false }, kinds := [], alts := [], laidByText := true, laidKinds := [.data], laidTests := true, laidLooks := .later }
def PhaseStepsCardSaid : Prop := Claim7.holds Tryz.pinned (.plain (OpenSpec.ofChange phaseStepsSpec)) phaseStepsCard

/-- THE TIED CARD OF 'slipstreamlaw04.PhaseRuns'. -/
def phaseRunsCard : Claim7 := { stood := { row := phaseRunsRow, standIns := [], harness := (true, "08c4a6a764e9cc10c630a74c7a024a8ef71bd9761ae1e7693136a3c12db5592a"), looks := false }, kinds := [], alts := [], laidByText := true, laidKinds := [.data], laidTests := true, laidLooks := .later }
def PhaseRunsCardSaid : Prop := Claim7.holds Tryz.pinned (.plain (OpenSpec.ofChange phaseRunsSpec)) phaseRunsCard

/-- THE SECOND FORM's CARD OF 'slipstreamlaw04.PhaseSteps'. -/
def phaseStepsUptoCard : Claim7 := { stood := { row := phaseStepsUptoRow, standIns := [], harness := (true, "08c4a6a764e9cc10c630a74c7a024a8ef71bd9761ae1e7693136a3c12db5592a"), looks := false }, kinds := [], alts := [], laidByText := true, laidKinds := [.data], laidTests := true, laidLooks := .later }
def PhaseStepsUptoCardSaid : Prop := Claim7.holds Tryz.pinned (.plain (OpenSpec.upto phaseStepsSpec)) phaseStepsUptoCard

/-- THE SECOND FORM's CARD OF 'slipstreamlaw04.PhaseRuns'. -/
def phaseRunsUptoCard : Claim7 := { stood := { row := phaseRunsUptoRow, standIns := [], harness := (true, "08c4a6a764e9cc10c630a74c7a024a8ef71bd9761ae1e7693136a3c12db5592a"), looks := false }, kinds := [], alts := [], laidByText := true, laidKinds := [.data], laidTests := true, laidLooks := .later }
def PhaseRunsUptoCardSaid : Prop := Claim7.holds Tryz.pinned (.plain (OpenSpec.upto phaseRunsSpec)) phaseRunsUptoCard
end Rows
end Go.Proofs.YtmkhbkkhoemkoaaGreatDoor
