/- The reference's collisions. -/
import Derived.Test.YtjlebdjnjjdnpaaDoorRef
namespace Go.Proofs.YtjlebdjnjjdnpaaDoor
set_option linter.unusedSimpArgs false
set_option linter.unusedVariables false
open Go.RowKit

theorem after_eq {a b c d : Int} (k y : Int) (h : Ok4 a b c d) : (.agg #[.int .i64 (turnTo k y (min a c) (min a c + min b d) + max (a - c) 0), .int .i64 (min a c + min b d - turnTo k y (min a c) (min a c + min b d) + max (b - d) 0), .int .i64 (turnTo k y (min a c) (min a c + min b d) + max (-(a - c)) 0), .int .i64 (min a c + min b d - turnTo k y (min a c) (min a c + min b d) + max (-(b - d)) 0)] : Value) =
    .agg #[.int .i64 (a + more a b c d k y), .int .i64 (b - more a b c d k y), .int .i64 (c + more a b c d k y), .int .i64 (d - more a b c d k y)] := by
  obtain ⟨_, _, _, _, _⟩ := h
  unfold more
  exact c4_eq (by omega) (by omega) (by omega) (by omega)

set_option maxHeartbeats 400000 in
theorem opposite_any (k y : Int) (w : World) (h : OkR k y) :
    Calls Tryd.prog 90 #[.agg #[.int .i64 k, .int .i64 y]] w fun e w' => e = .returned (.agg #[.int .i64 k, .int .i64 (-y)]) ∧ Below w.heap.size w w' := by
  have hb : -1000000000 ≤ y ∧ y ≤ 1000000000 := by unfold OkR at h; omega
  obtain ⟨h1, h2⟩ := hb
  clear h
  go_enter Tryd.func90, Tryd.ntmps90
  go_wp2
  refine bodyPost_ret (v := .agg #[.int .i64 k, .int .i64 (-y)]) (by simp [results, Tryd.results90, go_sem, ↓IntWalk.iteOmega, *]) rfl ⟨rfl, ?_⟩
  (repeat' (first | (with_reducible exact Below.refl _ _) | (with_reducible refine Below.setCell ?_ (by first | omega | (simp; done) | (simp; omega)) _) | (with_reducible refine Below.alloc ?_ (by first | omega | (simp; done) | (simp; omega)) _) | (with_reducible refine Below.drew ?_) | (with_reducible refine below_drewN ?_ _) | (with_reducible refine Below.trans ?_ (Below.mono (by assumption) (by first | omega | (simp; done) | (simp; omega))))))

end Go.Proofs.YtjlebdjnjjdnpaaDoor
