/- Mirrored and Turned, by the program and by the reference. -/
import Derived.Test.YtpnfppcmklcinaaRef3
import Derived.Laws.BitsAllLaws
import Derived.Laws.BitsLemmas
namespace Go.Proofs.Ytpnfppcmklcinaa
set_option linter.unusedSimpArgs false
set_option linter.unusedVariables false
open Go.RowKit

theorem index_cell0 (w : World) (a b c d : Int) : (Instr.index 23 (.agg #[.int .i64 a, .int .i64 b, .int .i64 c, .int .i64 d]) (.int .i64 0)).run Try.prog w = .ok (.int .i64 a) w := by kernel_rfl
theorem index_cell1 (w : World) (a b c d : Int) : (Instr.index 23 (.agg #[.int .i64 a, .int .i64 b, .int .i64 c, .int .i64 d]) (.int .i64 1)).run Try.prog w = .ok (.int .i64 b) w := by kernel_rfl
theorem index_cell2 (w : World) (a b c d : Int) : (Instr.index 23 (.agg #[.int .i64 a, .int .i64 b, .int .i64 c, .int .i64 d]) (.int .i64 2)).run Try.prog w = .ok (.int .i64 c) w := by kernel_rfl
theorem index_cell3 (w : World) (a b c d : Int) : (Instr.index 23 (.agg #[.int .i64 a, .int .i64 b, .int .i64 c, .int .i64 d]) (.int .i64 3)).run Try.prog w = .ok (.int .i64 d) w := by kernel_rfl
attribute [go_sem] index_cell0 index_cell1 index_cell2 index_cell3

/-- Modulo 4, of any number. -/
theorem modulo4 (n r : Int) (w : World) (h : n % 4 = r) :
    Calls Try.prog 168 #[.int .i64 n, .int .i64 4] w fun e w' => e = .returned (.int .i64 r) ∧ w = w' := by
  subst h
  have q0 := Int.emod_nonneg n (show (4 : Int) ≠ 0 by omega)
  have q1 := Int.emod_lt_of_pos n (show (0 : Int) < 4 by omega)
  by_cases hn : 0 ≤ n
  · go_enter Try.func168, Try.ntmps168
    go_wp2
    go_ret
    exact ⟨rfl, rfl⟩
  · rcases tmod_neg (n := n) (m := 4) (by omega) (by omega) with ⟨t0, t1⟩ | ⟨t0, t1⟩
    · have T := Lib.hid t1; clear t1
      have t2 : -4 ≤ n.tmod 4 := by have := T.out; omega
      go_enter Try.func168, Try.ntmps168
      go_wp2
      go_ret
      exact ⟨ret_i T.out, rfl⟩
    · have T := Lib.hid t1; clear t1
      have T0 := Lib.hid t0
      have t2 : 0 ≤ n.tmod 4 := by omega
      have t3 : n.tmod 4 ≤ 0 := by omega
      clear t0
      go_enter Try.func168, Try.ntmps168
      go_wp2
      go_ret
      exact ⟨ret_i (by rw [T.out, T0.out]), rfl⟩

theorem and3 (n : Int) : bits .and .i64 n 3 = n % 4 := by
  show IntKind.i64.wrap ((BitVec.ofInt 64 n &&& BitVec.ofInt 64 3).toNat : Int) = _
  have e : (BitVec.ofInt 64 3 : BitVec 64).toNat = 2 ^ 2 - 1 := by decide
  rw [BitVec.toNat_and, e, Nat.and_two_pow_sub_one_eq_mod, BitVec.toNat_ofInt]
  rw [IntKind.wrap_i64]
  omega

end Go.Proofs.Ytpnfppcmklcinaa
