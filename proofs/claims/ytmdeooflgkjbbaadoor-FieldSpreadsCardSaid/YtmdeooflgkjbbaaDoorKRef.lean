/- The reference's class of a cell, the cell at a place, and what a rule makes of pairs. -/
import Derived.Test.YtmdeooflgkjbbaaDoorKColl
import Derived.StillTailTactics
import Derived.BigRegion
import Derived.Test.YtmdeooflgkjbbaaDoorKBase
import Derived.Laws.BitsAllLaws
import Derived.Laws.BitsLemmas
namespace Go.Proofs.YtmdeooflgkjbbaaDoor
set_option linter.unusedSimpArgs false
set_option linter.unusedVariables false
open Go.RowKit

def absI (n : Int) : Int := max n (-n)

end Go.Proofs.YtmdeooflgkjbbaaDoor

/- The reference's collisions. -/

namespace Go.Proofs.YtmdeooflgkjbbaaDoor
set_option linter.unusedSimpArgs false
set_option linter.unusedVariables false
open Go.RowKit

theorem after_eq {a b c d : Int} (k y : Int) (h : Ok4 a b c d) : (.agg #[.int .i64 (turnTo k y (min a c) (min a c + min b d) + max (a - c) 0), .int .i64 (min a c + min b d - turnTo k y (min a c) (min a c + min b d) + max (b - d) 0), .int .i64 (turnTo k y (min a c) (min a c + min b d) + max (-(a - c)) 0), .int .i64 (min a c + min b d - turnTo k y (min a c) (min a c + min b d) + max (-(b - d)) 0)] : Value) =
    .agg #[.int .i64 (a + more a b c d k y), .int .i64 (b - more a b c d k y), .int .i64 (c + more a b c d k y), .int .i64 (d - more a b c d k y)] := by
  obtain ⟨_, _, _, _, _⟩ := h
  unfold more
  exact c4_eq (by omega) (by omega) (by omega) (by omega)

end Go.Proofs.YtmdeooflgkjbbaaDoor

/- Undo, by the program. -/

namespace Go.Proofs.YtmdeooflgkjbbaaDoor
set_option linter.unusedSimpArgs false
set_option linter.unusedVariables false
open Go.RowKit

theorem okR_neg {k y : Int} (h : OkR k y) : OkR k (-y) := by unfold OkR at *; omega

end Go.Proofs.YtmdeooflgkjbbaaDoor

/- The reference's sums and its undoing; the chapter's example. -/



namespace Go.Proofs.YtmdeooflgkjbbaaDoor
set_option linter.unusedSimpArgs false
set_option linter.unusedVariables false
open Go.RowKit

end Go.Proofs.YtmdeooflgkjbbaaDoor

/- Mirrored and Turned, by the program and by the reference. -/



namespace Go.Proofs.YtmdeooflgkjbbaaDoor
set_option linter.unusedSimpArgs false
set_option linter.unusedVariables false
open Go.RowKit

theorem index_cell0 (w : World) (a b c d : Int) : (Instr.index 62 (.agg #[.int .i64 a, .int .i64 b, .int .i64 c, .int .i64 d]) (.int .i64 0)).run Tryd.prog w = .ok (.int .i64 a) w := by kernel_rfl
theorem index_cell1 (w : World) (a b c d : Int) : (Instr.index 62 (.agg #[.int .i64 a, .int .i64 b, .int .i64 c, .int .i64 d]) (.int .i64 1)).run Tryd.prog w = .ok (.int .i64 b) w := by kernel_rfl
theorem index_cell2 (w : World) (a b c d : Int) : (Instr.index 62 (.agg #[.int .i64 a, .int .i64 b, .int .i64 c, .int .i64 d]) (.int .i64 2)).run Tryd.prog w = .ok (.int .i64 c) w := by kernel_rfl
theorem index_cell3 (w : World) (a b c d : Int) : (Instr.index 62 (.agg #[.int .i64 a, .int .i64 b, .int .i64 c, .int .i64 d]) (.int .i64 3)).run Tryd.prog w = .ok (.int .i64 d) w := by kernel_rfl
attribute [go_sem] index_cell0 index_cell1 index_cell2 index_cell3

/-- Modulo 4, of any number. -/
theorem modulo4 (n r : Int) (w : World) (h : n % 4 = r) :
    Calls Tryd.prog 208 #[.int .i64 n, .int .i64 4] w fun e w' => e = .returned (.int .i64 r) ∧ w = w' := by
  subst h
  have q0 := Int.emod_nonneg n (show (4 : Int) ≠ 0 by omega)
  have q1 := Int.emod_lt_of_pos n (show (0 : Int) < 4 by omega)
  by_cases hn : 0 ≤ n
  · go_enter Tryd.func208, Tryd.ntmps208
    go_wp2
    go_ret
    exact ⟨rfl, rfl⟩
  · rcases tmod_neg (n := n) (m := 4) (by omega) (by omega) with ⟨t0, t1⟩ | ⟨t0, t1⟩
    · have T := Lib.hid t1; clear t1
      have t2 : -4 ≤ n.tmod 4 := by have := T.out; omega
      go_enter Tryd.func208, Tryd.ntmps208
      go_wp2
      go_ret
      exact ⟨ret_i T.out, rfl⟩
    · have T := Lib.hid t1; clear t1
      have T0 := Lib.hid t0
      have t2 : 0 ≤ n.tmod 4 := by omega
      have t3 : n.tmod 4 ≤ 0 := by omega
      clear t0
      go_enter Tryd.func208, Tryd.ntmps208
      go_wp2
      go_ret
      exact ⟨ret_i (by rw [T.out, T0.out]), rfl⟩

theorem and3 (n : Int) : bits .and .i64 n 3 = n % 4 := by
  show IntKind.i64.wrap ((BitVec.ofInt 64 n &&& BitVec.ofInt 64 3).toNat : Int) = _
  have e : (BitVec.ofInt 64 3 : BitVec 64).toNat = 2 ^ 2 - 1 := by decide
  rw [BitVec.toNat_and, e, Nat.and_two_pow_sub_one_eq_mod, BitVec.toNat_ofInt]
  rw [IntKind.wrap_i64]
  omega

end Go.Proofs.YtmdeooflgkjbbaaDoor
