/- A particle goes round three cells in three steps. -/
import Derived.Test.YtnkehlankidlnaaPeriod
namespace Go.Proofs.Ytnkehlankidlnaa
set_option linter.unusedSimpArgs false
set_option linter.unusedVariables false
open Go.RowKit

def G0 : Nat → Nat → Int := fun i d => if i = 0 ∧ d = 0 then 1 else 0
theorem g0_1 : ¬ EqG 3 (itG 3 1 0 0 G0 1) G0 := by unfold EqG; decide +kernel
theorem g0_2 : ¬ EqG 3 (itG 3 1 0 0 G0 2) G0 := by unfold EqG; decide +kernel
theorem g0_3 : EqG 3 (itG 3 1 0 0 G0 3) G0 := by unfold EqG; decide +kernel
theorem g0_ok : OkG 3 G0 := okG_of (by decide +kernel) (by decide +kernel)

theorem ex_period (b : Nat) (w : World) (hb : b < w.heap.size) (hG : Grd w b 0 3 G0) :
    Calls Try.prog 57 #[.agg #[.int .i64 3, .int .i64 1, .slice (some ⟨b, 0, none⟩) 3 3], .agg #[.int .i64 0, .int .i64 0], .int .i64 9] w fun e w' => e = .returned (.tuple #[.int .i64 3, .int .i64 0]) ∧ Below w.heap.size w w' := by
  refine (period_any 3 1 _ 3 3 9 0 0 G0 w ⟨by omega, by omega, by omega, by omega, by omega, by omega⟩ g0_ok (.inr ⟨b, 0, rfl, hb, hG⟩) (.inl ⟨.inl rfl, rfl⟩) (by omega) (by omega)).mono fun e w' ⟨hb, h⟩ => ⟨?_, hb⟩
  rcases h with ⟨j, j1, j2, hy, hno, he⟩ | ⟨hno, _⟩
  · have : j = 3 := by
      rcases (show j = 1 ∨ j = 2 ∨ j = 3 ∨ 3 < j by omega) with rfl | rfl | rfl | h3
      · exact absurd hy g0_1
      · exact absurd hy g0_2
      · rfl
      · exact absurd g0_3 (hno 3 (by omega) h3)
    subst this
    exact he
  · exact absurd g0_3 (hno 3 (by omega) (by omega))

set_option maxRecDepth 100000 in
set_option maxHeartbeats 2000000 in
theorem awake2_any (w : World) : Calls Try.prog 19 #[] w fun e w' => e = .returned (.bool true) ∧ Below w.heap.size w w' := by
  go_enter Try.func19, Try.ntmps19
  go_wp2_with fail
  go_at_call 57
  refine (ex_period w.heap.size _ (by simp) (fun i hi => by
    match i, hi with
    | 0, _ => simp [G0]
    | 1, _ => simp [G0]
    | 2, _ => simp [G0])).mono ?_
  rintro e w1 ⟨rfl, hb⟩
  go_wp2
  go_ret
  refine ⟨rfl, ?_⟩
  (repeat' (first | (with_reducible exact Below.refl _ _) | (with_reducible refine Below.setCell ?_ (by first | omega | (simp; done) | (simp; omega)) _) | (with_reducible refine Below.alloc ?_ (by first | omega | (simp; done) | (simp; omega)) _) | (with_reducible refine Below.drew ?_) | (with_reducible refine below_drewN ?_ _) | (with_reducible refine Below.trans ?_ (Below.mono (by assumption) (by first | omega | (simp; done) | (simp; omega))))))
end Go.Proofs.Ytnkehlankidlnaa
