/- The door: a world in which the listed variable lies as it is laid. -/
import Derived.Test.YtglkikdjchpmjaaDoorKTable
import Derived.Stop.Joined
import Derived.JoinedOf
namespace Go.Proofs.YtglkikdjchpmjaaDoor
set_option linter.unusedSimpArgs false
set_option linter.unusedVariables false
open Go.ChangeShapes Go.WideShapes Go.ChangeAt Go.RowKit Go.Joins
set_option maxRecDepth 100000

theorem door_met3 (os : Os) (args : Array Value) (gs : Tryd.prog.globalNamed "slipstream/wall.exchanged" = some 1) : laidMetH Tryd.prog [("slipstream/wall.exchanged", Rows.laid_slipstream_wall_exchanged)] ((World.doorLaid Tryd.prog 400 os).forCall (fun _ _ => 0) ⟨#[], args, []⟩).memory :=
  laidMetH_of_parts3 (fuel := 8) (laidMet_of_run' 8 (by kernel_rfl) (by kernel_rfl)) (by kernel_rfl) (by kernel_rfl)
end Go.Proofs.YtglkikdjchpmjaaDoor
