/- The sum of a cell's populations, by the program and by the reference. -/
import Derived.Test.YtpnfppcmklcinaaBase
namespace Go.Proofs.Ytpnfppcmklcinaa
set_option linter.unusedSimpArgs false
set_option linter.unusedVariables false
open Go.RowKit

set_option maxHeartbeats 400000 in
theorem sum_ok (a b c d : Int) (B : Nat) (w : World) (h : Ok4 a b c d) (h0 : w.cell? ⟨B, 0, none⟩ = some (.int .i64 a)) (h1 : w.cell? ⟨B, 1, none⟩ = some (.int .i64 b)) (h2 : w.cell? ⟨B, 2, none⟩ = some (.int .i64 c)) (h3 : w.cell? ⟨B, 3, none⟩ = some (.int .i64 d)) :
    Calls Try.prog 138 #[.slice (some ⟨B, 0, none⟩) 4 4] w fun e w' => e = .returned (.tuple #[.int .i64 (a + b + c + d), .bool true]) ∧ w = w' := by
  obtain ⟨p0, p1, p2, p3, p4⟩ := h
  go_enter Try.func138, Try.ntmps138
  go_wp2
  refine wp_loop_rounds 5 ?_
  rw [rounds_succ]
  go_wp2
  rw [rounds_succ]
  go_wp2
  rw [rounds_succ]
  go_wp2
  rw [rounds_succ]
  go_wp2
  rw [rounds_succ]
  go_wp2
  go_ret2
  exact ⟨rfl, rfl⟩

set_option maxHeartbeats 1000000 in
theorem sum_bad (a b c d : Int) (B : Nat) (w : World) (h : ¬ Ok4 a b c d) (h0 : w.cell? ⟨B, 0, none⟩ = some (.int .i64 a)) (h1 : w.cell? ⟨B, 1, none⟩ = some (.int .i64 b)) (h2 : w.cell? ⟨B, 2, none⟩ = some (.int .i64 c)) (h3 : w.cell? ⟨B, 3, none⟩ = some (.int .i64 d)) :
    Calls Try.prog 138 #[.slice (some ⟨B, 0, none⟩) 4 4] w fun e w' => e = .returned (.tuple #[.int .i64 0, .bool false]) ∧ w = w' := by
  have H := Lib.hid h; clear h
  go_enter Try.func138, Try.ntmps138
  go_wp2
  refine wp_loop_rounds 5 ?_
  rw [rounds_succ]
  go_wp2
  all_goals try (go_ret2; exact ⟨rfl, rfl⟩)
  rw [rounds_succ]
  go_wp2
  all_goals try (go_ret2; exact ⟨rfl, rfl⟩)
  rw [rounds_succ]
  go_wp2
  all_goals try (go_ret2; exact ⟨rfl, rfl⟩)
  rw [rounds_succ]
  go_wp2
  all_goals try (go_ret2; exact ⟨rfl, rfl⟩)
  exfalso
  exact H.out ⟨by omega, by omega, by omega, by omega, by omega⟩
end Go.Proofs.Ytpnfppcmklcinaa
