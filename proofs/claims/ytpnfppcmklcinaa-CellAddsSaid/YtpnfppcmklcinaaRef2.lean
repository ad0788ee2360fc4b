/- The reference's collisions. -/
import Derived.Test.YtpnfppcmklcinaaRef
namespace Go.Proofs.Ytpnfppcmklcinaa
set_option linter.unusedSimpArgs false
set_option linter.unusedVariables false
open Go.RowKit

theorem after_eq {a b c d : Int} (k y : Int) (h : Ok4 a b c d) : (.agg #[.int .i64 (turnTo k y (min a c) (min a c + min b d) + max (a - c) 0), .int .i64 (min a c + min b d - turnTo k y (min a c) (min a c + min b d) + max (b - d) 0), .int .i64 (turnTo k y (min a c) (min a c + min b d) + max (-(a - c)) 0), .int .i64 (min a c + min b d - turnTo k y (min a c) (min a c + min b d) + max (-(b - d)) 0)] : Value) =
    .agg #[.int .i64 (a + more a b c d k y), .int .i64 (b - more a b c d k y), .int .i64 (c + more a b c d k y), .int .i64 (d - more a b c d k y)] := by
  obtain ⟨_, _, _, _, _⟩ := h
  unfold more
  exact c4_eq (by omega) (by omega) (by omega) (by omega)

end Go.Proofs.Ytpnfppcmklcinaa
