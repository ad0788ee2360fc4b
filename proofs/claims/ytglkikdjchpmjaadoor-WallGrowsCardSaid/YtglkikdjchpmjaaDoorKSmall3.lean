/- Small of law 3. -/
import Derived.Test.YtglkikdjchpmjaaDoorKRefWall
import Derived.Test.YtglkikdjchpmjaaDoorKBase
namespace Go.Proofs.YtglkikdjchpmjaaDoor
set_option linter.unusedSimpArgs false
set_option linter.unusedVariables false
open Go.RowKit

theorem small3_yes (W H : Int) (ao : Option Addr) (n cap : Nat) (ak : Option Addr) (nk ck : Nat) (ab : Option Addr) (nb cb N : Nat) (w : World) (h0 : n ≤ N) (h1 : nk ≤ N) (h2 : nb ≤ N) :
    Calls Tryd.prog 13 #[.agg #[.int .i64 W, .int .i64 H, .slice (ao) n cap, .slice (ak) nk ck, .slice (ab) nb cb], .int .i64 N] w fun e w' => e = .returned (.bool true) ∧ Below w.heap.size w w' := by
  go_enter Tryd.func13, Tryd.ntmps13
  go_wp2
  go_ret
  refine ⟨rfl, ?_⟩
  (repeat' (first | (with_reducible exact Below.refl _ _) | (with_reducible refine Below.setCell ?_ (by first | omega | (simp; done) | (simp; omega)) _) | (with_reducible refine Below.alloc ?_ (by first | omega | (simp; done) | (simp; omega)) _) | (with_reducible refine Below.drew ?_) | (with_reducible refine below_drewN ?_ _) | (with_reducible refine Below.trans ?_ (Below.mono (by assumption) (by first | omega | (simp; done) | (simp; omega))))))
theorem small3_no (W H : Int) (ao : Option Addr) (n cap : Nat) (ak : Option Addr) (nk ck : Nat) (ab : Option Addr) (nb cb N : Nat) (w : World) (h : N < n ∨ N < nk ∨ N < nb) :
    Calls Tryd.prog 13 #[.agg #[.int .i64 W, .int .i64 H, .slice (ao) n cap, .slice (ak) nk ck, .slice (ab) nb cb], .int .i64 N] w fun e w' => e = .returned (.bool false) ∧ Below w.heap.size w w' := by
  by_cases h0 : n ≤ N
  · by_cases h1 : nk ≤ N
    · have h2 : ¬ nb ≤ N := by omega
      clear h
      go_enter Tryd.func13, Tryd.ntmps13
      go_wp2
      go_ret
      refine ⟨by simp [h2], ?_⟩
      (repeat' (first | (with_reducible exact Below.refl _ _) | (with_reducible refine Below.setCell ?_ (by first | omega | (simp; done) | (simp; omega)) _) | (with_reducible refine Below.alloc ?_ (by first | omega | (simp; done) | (simp; omega)) _) | (with_reducible refine Below.drew ?_) | (with_reducible refine below_drewN ?_ _) | (with_reducible refine Below.trans ?_ (Below.mono (by assumption) (by first | omega | (simp; done) | (simp; omega))))))
    · clear h
      go_enter Tryd.func13, Tryd.ntmps13
      go_wp2
      go_ret
      refine ⟨rfl, ?_⟩
      (repeat' (first | (with_reducible exact Below.refl _ _) | (with_reducible refine Below.setCell ?_ (by first | omega | (simp; done) | (simp; omega)) _) | (with_reducible refine Below.alloc ?_ (by first | omega | (simp; done) | (simp; omega)) _) | (with_reducible refine Below.drew ?_) | (with_reducible refine below_drewN ?_ _) | (with_reducible refine Below.trans ?_ (Below.mono (by assumption) (by first | omega | (simp; done) | (simp; omega))))))
  · clear h
    go_enter Tryd.func13, Tryd.ntmps13
    go_wp2
    go_ret
    refine ⟨rfl, ?_⟩
    (repeat' (first | (with_reducible exact Below.refl _ _) | (with_reducible refine Below.setCell ?_ (by first | omega | (simp; done) | (simp; omega)) _) | (with_reducible refine Below.alloc ?_ (by first | omega | (simp; done) | (simp; omega)) _) | (with_reducible refine Below.drew ?_) | (with_reducible refine below_drewN ?_ _) | (with_reducible refine Below.trans ?_ (Below.mono (by assumption) (by first | omega | (simp; done) | (simp; omega))))))
theorem small1200_yes (W H : Int) (ao : Option Addr) (n cap : Nat) (ak : Option Addr) (nk ck : Nat) (ab : Option Addr) (nb cb : Nat) (w : World) (h : n ≤ 1200 ∧ nk ≤ 1200 ∧ nb ≤ 1200) :
    Calls Tryd.prog 13 #[.agg #[.int .i64 W, .int .i64 H, .slice (ao) n cap, .slice (ak) nk ck, .slice (ab) nb cb], .int .i64 1200] w fun e w' => e = .returned (.bool true) ∧ Below w.heap.size w w' := small3_yes W H ao n cap ak nk ck ab nb cb 1200 w h.1 h.2.1 h.2.2
theorem small1200_no (W H : Int) (ao : Option Addr) (n cap : Nat) (ak : Option Addr) (nk ck : Nat) (ab : Option Addr) (nb cb : Nat) (w : World) (h : ¬ (n ≤ 1200 ∧ nk ≤ 1200 ∧ nb ≤ 1200)) :
    Calls Tryd.prog 13 #[.agg #[.int .i64 W, .int .i64 H, .slice (ao) n cap, .slice (ak) nk ck, .slice (ab) nb cb], .int .i64 1200] w fun e w' => e = .returned (.bool false) ∧ Below w.heap.size w w' := small3_no W H ao n cap ak nk ck ab nb cb 1200 w (by omega)

end Go.Proofs.YtglkikdjchpmjaaDoor
