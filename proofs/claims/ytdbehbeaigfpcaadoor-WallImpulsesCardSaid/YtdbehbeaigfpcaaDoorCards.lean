/-
  DERIVED. GIVEN WITH THE SEED: THE CARDS: each row of YtdbehbeaigfpcaaDoorRows.lean that lists a variable, with what it lists TIED to the program's text (the seventh form; the later family's looks); each row that meets fmt, with fmt's text TOLD by the authors' own Lean function (tested against real Go, not proved from fmt's source: count such statements apart). THE CARD IS WHAT COUNTS. Prove the row's statement (the work); the ties are given (YtdbehbeaigfpcaaDoorTie.lean); close each card by the builder's one call (the guide's Derived/Test/ToyasCard.lean, 'card_holds'). Laid BY PROGRAM, IN A SANDBOX (cutbox-door.mjs). By AI agents, Wed Nov 11 2026. No macro, syntax, notation, axiom, sorry.
-/
import Derived.Test.YtdbehbeaigfpcaaDoorRows
import GoSem.ClaimSeven
namespace Go.Proofs.YtdbehbeaigfpcaaDoor
namespace Rows

/-- THE TIED CARD OF 'slipstreamlaw03.WallImpulses'. -/
def wallImpulsesCard : Claim7 := { stood := { row := wallImpulsesRow, standIns := [], harness := (true, "9657addbb16d626f7ea748ba31bd3ffb0c7467575a6cbb988d5e6383ce6c9bac"), looks := false }, kinds := [], alts := [], laidByText := true, laidKinds := [.data], laidTests := true, laidLooks := .later }
def WallImpulsesCardSaid : Prop := Claim7.holds Tryd.pinned (.plain (OpenSpec.ofChange wallImpulsesSpec)) wallImpulsesCard

/-- THE TIED CARD OF 'slipstreamtop.TopDragged'. -/
def topDraggedCard : Claim7 := { stood := { row := topDraggedRow, standIns := [], harness := (true, "9657addbb16d626f7ea748ba31bd3ffb0c7467575a6cbb988d5e6383ce6c9bac"), looks := false }, kinds := [], alts := [], laidByText := true, laidKinds := [.data], laidTests := true, laidLooks := .later }
def TopDraggedCardSaid : Prop := Claim7.holds Tryd.pinned (.plain (OpenSpec.ofChange topDraggedSpec)) topDraggedCard

/-- THE SECOND FORM's CARD OF 'slipstreamlaw03.WallImpulses'. -/
def wallImpulsesUptoCard : Claim7 := { stood := { row := wallImpulsesUptoRow, standIns := [], harness := (true, "9657addbb16d626f7ea748ba31bd3ffb0c7467575a6cbb988d5e6383ce6c9bac"), looks := false }, kinds := [], alts := [], laidByText := true, laidKinds := [.data], laidTests := true, laidLooks := .later }
def WallImpulsesUptoCardSaid : Prop := Claim7.holds Tryd.pinned (.plain (OpenSpec.upto wallImpulsesSpec)) wallImpulsesUptoCard

/-- THE SECOND FORM's CARD OF 'slipstreamtop.TopDragged'. -/
def topDraggedUptoCard : Claim7 := { stood := { row := topDraggedUptoRow, standIns := [], harness := (true, "9657addbb16d626f7ea748ba31bd3ffb0c7467575a6cbb988d5e6383ce6c9bac"), looks := false }, kinds := [], alts := [], laidByText := true, laidKinds := [.data], laidTests := true, laidLooks := .later }
def TopDraggedUptoCardSaid : Prop := Claim7.holds Tryd.pinned (.plain (OpenSpec.upto topDraggedSpec)) topDraggedUptoCard
end Rows
end Go.Proofs.YtdbehbeaigfpcaaDoor
