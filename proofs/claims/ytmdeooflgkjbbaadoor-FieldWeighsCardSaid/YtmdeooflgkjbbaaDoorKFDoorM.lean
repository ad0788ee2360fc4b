/- The door: a world in which the moves lie as they are laid. -/
import Derived.Test.YtmdeooflgkjbbaaDoorKFNext
import Derived.Stop.Joined
import Derived.JoinedOf
namespace Go.Proofs.YtmdeooflgkjbbaaDoor
set_option linter.unusedSimpArgs false
set_option linter.unusedVariables false
open Go.ChangeShapes Go.WideShapes Go.ChangeAt Go.RowKit Go.Joins
set_option maxRecDepth 100000

theorem door_metM (os : Os) (args : Array Value) (gs : Tryd.prog.globalNamed "slipstream/field.moves" = some 1) : laidMetH Tryd.prog [("slipstream/field.moves", Rows.laid_slipstream_field_moves)] ((World.doorLaid Tryd.prog 400 os).forCall (fun _ _ => 0) ⟨#[], args, []⟩).memory :=
  laidMetH_of_parts3 (fuel := 8) (laidMet_of_run' 8 (by kernel_rfl) (by kernel_rfl)) (by kernel_rfl) (by kernel_rfl)
theorem tab_M {W : World} (h : laidMetH Tryd.prog [("slipstream/field.moves", Rows.laid_slipstream_field_moves)] W) : Mvs W := mvs_of h
end Go.Proofs.YtmdeooflgkjbbaaDoor
