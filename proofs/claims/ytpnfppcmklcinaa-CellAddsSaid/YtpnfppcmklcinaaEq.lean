/- Two cells, two rules are compared as their numbers are; a field of a class. -/
import Derived.Test.YtpnfppcmklcinaaBase
namespace Go.Proofs.Ytpnfppcmklcinaa
set_option linter.unusedSimpArgs false
set_option linter.unusedVariables false
open Go.RowKit

theorem part_int (w : World) (cs : Array Value) (i : Nat) (v : Value) (h : cs[i]? = some v) : (part 3 cs i).run Try.prog w = .ok v w := by
  have hi : (isAgg 3).run Try.prog w = .ok false w := by kernel_rfl
  simp [part, hi, h]

theorem equalIn_cell (w : World) (d : Nat) (a b c e a' b' c' e' : Int) :
    (Op.equalIn (d + 2) 23 (.agg #[.int .i64 a, .int .i64 b, .int .i64 c, .int .i64 e]) (.agg #[.int .i64 a', .int .i64 b', .int .i64 c', .int .i64 e'])).run Try.prog w = .ok (a == a' && (b == b' && (c == c' && e == e'))) w := by
  have hu : Try.prog.underlying 23 = some (.array 4 3) := Try.underlying23
  have he : Try.prog.underlying 3 = some (.int .i64) := Try.underlying3
  have hr : List.range' 0 4 = [0, 1, 2, 3] := rfl
  have p0 := fun (x0 x1 x2 x3 : Value) => part_int w #[x0, x1, x2, x3] 0 x0 rfl
  have p1 := fun (x0 x1 x2 x3 : Value) => part_int w #[x0, x1, x2, x3] 1 x1 rfl
  have p2 := fun (x0 x1 x2 x3 : Value) => part_int w #[x0, x1, x2, x3] 2 x2 rfl
  have p3 := fun (x0 x1 x2 x3 : Value) => part_int w #[x0, x1, x2, x3] 3 x3 rfl
  have q := fun (x y : Int) => run_equalIn_int (P := Try.prog) w d 3 .i64 .i64 x y he
  unfold Op.equalIn
  simp [run_underlying hu, hr]
  by_cases h0 : a = a' <;> by_cases h1 : b = b' <;> by_cases h2 : c = c' <;> by_cases h3 : e = e' <;> simp [h0, h1, h2, h3, p0, p1, p2, p3, q]

theorem equalIn_cell_max (w : World) (a b c e a' b' c' e' : Int) :
    (Op.equalIn 10000 23 (.agg #[.int .i64 a, .int .i64 b, .int .i64 c, .int .i64 e]) (.agg #[.int .i64 a', .int .i64 b', .int .i64 c', .int .i64 e'])).run Try.prog w = .ok (a == a' && (b == b' && (c == c' && e == e'))) w := equalIn_cell w 9998 ..

attribute [go_sem] equalIn_cell_max
end Go.Proofs.Ytpnfppcmklcinaa
