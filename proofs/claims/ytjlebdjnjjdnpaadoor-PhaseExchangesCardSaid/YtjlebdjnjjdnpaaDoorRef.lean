/- The reference's class of a cell, the cell at a place, and what a rule makes of pairs. -/
import Derived.Test.YtjlebdjnjjdnpaaDoorColl
import Derived.StillTailTactics
import Derived.BigRegion
namespace Go.Proofs.YtjlebdjnjjdnpaaDoor
set_option linter.unusedSimpArgs false
set_option linter.unusedVariables false
open Go.RowKit

def absI (n : Int) : Int := max n (-n)

set_option maxHeartbeats 400000 in
theorem refModulo_any (n m : Int) (w : World) (h0 : -4000000000 ≤ n) (h1 : n ≤ 4000000000) (hm : 0 < m) (hm' : m ≤ 4000000000) :
    Calls Tryd.prog 132 #[.int .i64 n, .int .i64 m] w fun e w' => e = .returned (.int .i64 (n % m)) ∧ w = w' := by
  have q0 := Int.emod_nonneg n (show m ≠ 0 by omega)
  have q1 := Int.emod_lt_of_pos n hm
  by_cases hn : 0 ≤ n
  · go_enter Tryd.func132, Tryd.ntmps132
    go_wp2
    go_ret
    exact ⟨rfl, rfl⟩
  · rcases tmod_neg (n := n) (m := m) (by omega) hm with ⟨t0, t1⟩ | ⟨t0, t1⟩
    · have T := Lib.hid t1; clear t1
      have t2 : -4000000000 ≤ n.tmod m := by have := T.out; omega
      have t3 : n.tmod m + m ≤ 4000000000 := by have := T.out; omega
      go_enter Tryd.func132, Tryd.ntmps132
      go_wp2
      go_ret
      exact ⟨ret_i T.out, rfl⟩
    · have T := Lib.hid t1; clear t1
      have T0 := Lib.hid t0
      have t2 : 0 ≤ n.tmod m := by omega
      have t3 : n.tmod m ≤ 0 := by omega
      clear t0
      go_enter Tryd.func132, Tryd.ntmps132
      go_wp2
      go_ret
      exact ⟨ret_i (by rw [T.out, T0.out]), rfl⟩

set_option maxHeartbeats 400000 in
theorem refTurn_any (k y h p : Int) (w : World) (hr : OkR k y) (h0 : 0 ≤ h) (h1 : h ≤ p) (h2 : p ≤ 1000000000) :
    Calls Tryd.prog 113 #[.agg #[.int .i64 k, .int .i64 y], .int .i64 h, .int .i64 p] w fun e w' => e = .returned (.int .i64 (turnTo k y h p)) ∧ Below w.heap.size w w' := by
  rcases hr with ⟨rfl | rfl, rfl⟩ | ⟨rfl, h3, h4⟩
  · have e : turnTo 0 0 h p = h := by simp [turnTo]
    rw [e]; clear e
    go_enter Tryd.func113, Tryd.ntmps113
    go_wp2
    go_ret
    refine ⟨rfl, ?_⟩
    (repeat' (first | (with_reducible exact Below.refl _ _) | (with_reducible refine Below.setCell ?_ (by first | omega | (simp; done) | (simp; omega)) _) | (with_reducible refine Below.alloc ?_ (by first | omega | (simp; done) | (simp; omega)) _) | (with_reducible refine Below.drew ?_) | (with_reducible refine below_drewN ?_ _) | (with_reducible refine Below.trans ?_ (Below.mono (by assumption) (by first | omega | (simp; done) | (simp; omega))))))
  · have e : turnTo 1 0 h p = p - h := by simp [turnTo]
    rw [e]; clear e
    go_enter Tryd.func113, Tryd.ntmps113
    go_wp2
    go_ret
    refine ⟨rfl, ?_⟩
    (repeat' (first | (with_reducible exact Below.refl _ _) | (with_reducible refine Below.setCell ?_ (by first | omega | (simp; done) | (simp; omega)) _) | (with_reducible refine Below.alloc ?_ (by first | omega | (simp; done) | (simp; omega)) _) | (with_reducible refine Below.drew ?_) | (with_reducible refine below_drewN ?_ _) | (with_reducible refine Below.trans ?_ (Below.mono (by assumption) (by first | omega | (simp; done) | (simp; omega))))))
  · have e : turnTo 2 y h p = (h + y) % (p + 1) := by simp [turnTo]
    rw [e]; clear e
    go_enter Tryd.func113, Tryd.ntmps113
    go_wp2_with (go_at_call 132; (with_reducible refine (refModulo_any _ _ _ (by omega) (by omega) (by omega) (by omega)).mono ?_); rintro e w1 ⟨rfl, rfl⟩)
    go_ret
    refine ⟨rfl, ?_⟩
    (repeat' (first | (with_reducible exact Below.refl _ _) | (with_reducible refine Below.setCell ?_ (by first | omega | (simp; done) | (simp; omega)) _) | (with_reducible refine Below.alloc ?_ (by first | omega | (simp; done) | (simp; omega)) _) | (with_reducible refine Below.drew ?_) | (with_reducible refine below_drewN ?_ _) | (with_reducible refine Below.trans ?_ (Below.mono (by assumption) (by first | omega | (simp; done) | (simp; omega))))))

end Go.Proofs.YtjlebdjnjjdnpaaDoor
