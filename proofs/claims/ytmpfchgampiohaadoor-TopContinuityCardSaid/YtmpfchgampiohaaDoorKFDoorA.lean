/- The door: a world in which the table across lies as it is laid. -/
import Derived.Test.YtmpfchgampiohaaDoorKFCrossC
import Derived.Stop.Joined
import Derived.JoinedOf
namespace Go.Proofs.YtmpfchgampiohaaDoor
set_option linter.unusedSimpArgs false
set_option linter.unusedVariables false
open Go.ChangeShapes Go.WideShapes Go.ChangeAt Go.RowKit Go.Joins
set_option maxRecDepth 100000

theorem door_metA (os : Os) (args : Array Value) (gs : Tryd.prog.globalNamed "slipstream/field.across" = some 0) : laidMetH Tryd.prog [("slipstream/field.across", Rows.laid_slipstream_field_across)] ((World.doorLaid Tryd.prog 400 os).forCall (fun _ _ => 0) ⟨#[], args, []⟩).memory :=
  laidMetH_of_parts3 (fuel := 8) (laidMet_of_run' 8 (by kernel_rfl) (by kernel_rfl)) (by kernel_rfl) (by kernel_rfl)
theorem tab_A {W : World} (h : laidMetH Tryd.prog [("slipstream/field.across", Rows.laid_slipstream_field_across)] W) : Acr W := acr_of h
end Go.Proofs.YtmpfchgampiohaaDoor
