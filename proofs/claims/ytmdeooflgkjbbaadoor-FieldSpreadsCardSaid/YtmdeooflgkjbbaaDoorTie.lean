/-
  DERIVED. GIVEN WITH THE SEED: THE PROGRAM's TIES (one call each: nine closed facts by the kernel) AND EACH ROW's TIE, after the 31st guide's Derived/Test/Toyas{Tie, Card}.lean. No idea stands in it: it is a product of the set-up. Laid BY PROGRAM, IN A SANDBOX (cutbox-door.mjs). By AI agents, Wed Nov 11 2026. No macro, syntax, notation, axiom, sorry.
-/
import Derived.Test.YtmdeooflgkjbbaaDoorRows
import Derived.LaidByTextLater
import Derived.SevenTiedAt
import Derived.LaidSub
import Derived.LaidOnce
namespace Go.Proofs.YtmdeooflgkjbbaaDoor
open Go
set_option maxRecDepth 100000
theorem seatTie1 : Tryd.prog.laidByTextLater [("slipstream/field.moves", Rows.laid_slipstream_field_moves), ("slipstream/field.across", Rows.laid_slipstream_field_across), ("slipstream/phase.ends", Rows.laid_slipstream_phase_ends), ("slipstream/wall.exchanged", Rows.laid_slipstream_wall_exchanged)] [.data, .data, .data, .data] true :=
  Program.laidByTextLater_by_one 41 8 17 (by kernel_rfl) (by kernel_rfl) (by kernel_rfl) (by kernel_rfl) (by kernel_rfl) (by kernel_rfl) (fun _ _ => by kernel_rfl)
theorem noOwnUnsafe : Tryd.pinned.checked.prog.headLifts.contains "ownunsafe" = false := by kernel_rfl
theorem tie : Tryd.prog.laidByTextLater [("slipstream/field.moves", Rows.laid_slipstream_field_moves)] [.data] true :=
  Program.laidByTextLater.sub seatTie1 ["slipstream/field.moves"] (by kernel_rfl) (by kernel_rfl)
theorem fieldMeans_row_tie : Rows.fieldMeansRow.laidByTextAt .later Tryd.pinned [.data] true :=
  OpenClaim.laidByTextAt_later rfl rfl tie noOwnUnsafe
theorem fieldWeighs_row_tie : Rows.fieldWeighsRow.laidByTextAt .later Tryd.pinned [.data] true :=
  OpenClaim.laidByTextAt_later rfl rfl tie noOwnUnsafe
theorem fieldSpreads_row_tie : Rows.fieldSpreadsRow.laidByTextAt .later Tryd.pinned [.data] true :=
  OpenClaim.laidByTextAt_later rfl rfl tie noOwnUnsafe
theorem tie2 : Tryd.prog.laidByTextLater [("slipstream/field.moves", Rows.laid_slipstream_field_moves), ("slipstream/field.across", Rows.laid_slipstream_field_across)] [.data, .data] true :=
  Program.laidByTextLater.sub seatTie1 ["slipstream/field.moves", "slipstream/field.across"] (by kernel_rfl) (by kernel_rfl)
theorem fieldCrosses_row_tie : Rows.fieldCrossesRow.laidByTextAt .later Tryd.pinned [.data, .data] true :=
  OpenClaim.laidByTextAt_later rfl rfl tie2 noOwnUnsafe
theorem tie3 : Tryd.prog.laidByTextLater [("slipstream/wall.exchanged", Rows.laid_slipstream_wall_exchanged)] [.data] true :=
  Program.laidByTextLater.sub seatTie1 ["slipstream/wall.exchanged"] (by kernel_rfl) (by kernel_rfl)
theorem wallRemoves_row_tie : Rows.wallRemovesRow.laidByTextAt .later Tryd.pinned [.data] true :=
  OpenClaim.laidByTextAt_later rfl rfl tie3 noOwnUnsafe
theorem tie4 : Tryd.prog.laidByTextLater [("slipstream/phase.ends", Rows.laid_slipstream_phase_ends)] [.data] true :=
  Program.laidByTextLater.sub seatTie1 ["slipstream/phase.ends"] (by kernel_rfl) (by kernel_rfl)
theorem phaseKinds_row_tie : Rows.phaseKindsRow.laidByTextAt .later Tryd.pinned [.data] true :=
  OpenClaim.laidByTextAt_later rfl rfl tie4 noOwnUnsafe
theorem fieldMeansUpto_row_tie : Rows.fieldMeansUptoRow.laidByTextAt .later Tryd.pinned [.data] true :=
  OpenClaim.laidByTextAt_later rfl rfl tie noOwnUnsafe
theorem fieldWeighsUpto_row_tie : Rows.fieldWeighsUptoRow.laidByTextAt .later Tryd.pinned [.data] true :=
  OpenClaim.laidByTextAt_later rfl rfl tie noOwnUnsafe
theorem fieldCrossesUpto_row_tie : Rows.fieldCrossesUptoRow.laidByTextAt .later Tryd.pinned [.data, .data] true :=
  OpenClaim.laidByTextAt_later rfl rfl tie2 noOwnUnsafe
theorem fieldSpreadsUpto_row_tie : Rows.fieldSpreadsUptoRow.laidByTextAt .later Tryd.pinned [.data] true :=
  OpenClaim.laidByTextAt_later rfl rfl tie noOwnUnsafe
theorem wallRemovesUpto_row_tie : Rows.wallRemovesUptoRow.laidByTextAt .later Tryd.pinned [.data] true :=
  OpenClaim.laidByTextAt_later rfl rfl tie3 noOwnUnsafe
theorem phaseKindsUpto_row_tie : Rows.phaseKindsUptoRow.laidByTextAt .later Tryd.pinned [.data] true :=
  OpenClaim.laidByTextAt_later rfl rfl tie4 noOwnUnsafe
end Go.Proofs.YtmdeooflgkjbbaaDoor
