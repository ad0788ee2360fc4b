/- The door: a world in which the moves and the table across lie as they are laid. -/
import Derived.Test.YtmdeooflgkjbbaaDoorKFNext
import Derived.Test.YtmdeooflgkjbbaaDoorKFCrossC
import Derived.Stop.Joined
import Derived.JoinedOf
namespace Go.Proofs.YtmdeooflgkjbbaaDoor
set_option linter.unusedSimpArgs false
set_option linter.unusedVariables false
open Go.ChangeShapes Go.WideShapes Go.ChangeAt Go.RowKit Go.Joins
set_option maxRecDepth 100000

theorem door_metMA (os : Os) (args : Array Value) (gs : Tryd.prog.globalNamed "slipstream/field.moves" = some 1) : laidMetH Tryd.prog [("slipstream/field.moves", Rows.laid_slipstream_field_moves), ("slipstream/field.across", Rows.laid_slipstream_field_across)] ((World.doorLaid Tryd.prog 400 os).forCall (fun _ _ => 0) ⟨#[], args, []⟩).memory :=
  laidMetH_of_parts3 (fuel := 8) (laidMet_of_run' 8 (by kernel_rfl) (by kernel_rfl)) (by kernel_rfl) (by kernel_rfl)
theorem tab_MA {W : World} (h : laidMetH Tryd.prog [("slipstream/field.moves", Rows.laid_slipstream_field_moves), ("slipstream/field.across", Rows.laid_slipstream_field_across)] W) : Mvs W ∧ Acr W := by
  rw [MakeChecks.laidMetH_plain _ _ _ (by kernel_rfl)] at h
  obtain ⟨ps, ⟨g, t, cs, f, p, q, h1, h2, h3, h4, hr, rfl⟩, hnd, hall⟩ := h
  refine ⟨mvs_of ?_, acr_of ?_⟩
  · rw [MakeChecks.laidMetH_plain _ _ _ (by kernel_rfl)]
    refine ⟨_, ⟨g, t, cs, f, p, [], h1, h2, h3, h4, rfl, rfl⟩, ?_, fun b off hm => hall b off ?_⟩
    · rw [List.append_nil]
      exact hnd.sublist (List.sublist_append_left _ _)
    · rw [List.append_nil] at hm
      exact List.mem_append_left _ hm
  · rw [MakeChecks.laidMetH_plain _ _ _ (by kernel_rfl)]
    exact ⟨q, hr, hnd.sublist (List.sublist_append_right _ _), fun b off hm => hall b off (List.mem_append_right _ hm)⟩
end Go.Proofs.YtmdeooflgkjbbaaDoor
