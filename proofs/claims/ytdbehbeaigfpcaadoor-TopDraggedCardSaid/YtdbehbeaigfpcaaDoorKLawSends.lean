/- The law WallSends: the walk. -/
import Derived.Test.YtdbehbeaigfpcaaDoorKRefWall
import Derived.Test.YtdbehbeaigfpcaaDoorKBase
namespace Go.Proofs.YtdbehbeaigfpcaaDoor
set_option linter.unusedSimpArgs false
set_option linter.unusedVariables false
open Go.RowKit

theorem small3_yes (W H : Int) (ao : Option Addr) (n cap : Nat) (ak : Option Addr) (nk ck : Nat) (ab : Option Addr) (nb cb N : Nat) (w : World) (h0 : n ≤ N) (h1 : nk ≤ N) (h2 : nb ≤ N) :
    Calls Tryd.prog 5 #[.agg #[.int .i64 W, .int .i64 H, .slice (ao) n cap, .slice (ak) nk ck, .slice (ab) nb cb], .int .i64 N] w fun e w' => e = .returned (.bool true) ∧ Below w.heap.size w w' := by
  go_enter Tryd.func5, Tryd.ntmps5
  go_wp2
  go_ret
  refine ⟨rfl, ?_⟩
  (repeat' (first | (with_reducible exact Below.refl _ _) | (with_reducible refine Below.setCell ?_ (by first | omega | (simp; done) | (simp; omega)) _) | (with_reducible refine Below.alloc ?_ (by first | omega | (simp; done) | (simp; omega)) _) | (with_reducible refine Below.drew ?_) | (with_reducible refine below_drewN ?_ _) | (with_reducible refine Below.trans ?_ (Below.mono (by assumption) (by first | omega | (simp; done) | (simp; omega))))))
theorem small3_no (W H : Int) (ao : Option Addr) (n cap : Nat) (ak : Option Addr) (nk ck : Nat) (ab : Option Addr) (nb cb N : Nat) (w : World) (h : N < n ∨ N < nk ∨ N < nb) :
    Calls Tryd.prog 5 #[.agg #[.int .i64 W, .int .i64 H, .slice (ao) n cap, .slice (ak) nk ck, .slice (ab) nb cb], .int .i64 N] w fun e w' => e = .returned (.bool false) ∧ Below w.heap.size w w' := by
  by_cases h0 : n ≤ N
  · by_cases h1 : nk ≤ N
    · have h2 : ¬ nb ≤ N := by omega
      clear h
      go_enter Tryd.func5, Tryd.ntmps5
      go_wp2
      go_ret
      refine ⟨by simp [h2], ?_⟩
      (repeat' (first | (with_reducible exact Below.refl _ _) | (with_reducible refine Below.setCell ?_ (by first | omega | (simp; done) | (simp; omega)) _) | (with_reducible refine Below.alloc ?_ (by first | omega | (simp; done) | (simp; omega)) _) | (with_reducible refine Below.drew ?_) | (with_reducible refine below_drewN ?_ _) | (with_reducible refine Below.trans ?_ (Below.mono (by assumption) (by first | omega | (simp; done) | (simp; omega))))))
    · clear h
      go_enter Tryd.func5, Tryd.ntmps5
      go_wp2
      go_ret
      refine ⟨rfl, ?_⟩
      (repeat' (first | (with_reducible exact Below.refl _ _) | (with_reducible refine Below.setCell ?_ (by first | omega | (simp; done) | (simp; omega)) _) | (with_reducible refine Below.alloc ?_ (by first | omega | (simp; done) | (simp; omega)) _) | (with_reducible refine Below.drew ?_) | (with_reducible refine below_drewN ?_ _) | (with_reducible refine Below.trans ?_ (Below.mono (by assumption) (by first | omega | (simp; done) | (simp; omega))))))
  · clear h
    go_enter Tryd.func5, Tryd.ntmps5
    go_wp2
    go_ret
    refine ⟨rfl, ?_⟩
    (repeat' (first | (with_reducible exact Below.refl _ _) | (with_reducible refine Below.setCell ?_ (by first | omega | (simp; done) | (simp; omega)) _) | (with_reducible refine Below.alloc ?_ (by first | omega | (simp; done) | (simp; omega)) _) | (with_reducible refine Below.drew ?_) | (with_reducible refine below_drewN ?_ _) | (with_reducible refine Below.trans ?_ (Below.mono (by assumption) (by first | omega | (simp; done) | (simp; omega))))))
theorem small1200_yes (W H : Int) (ao : Option Addr) (n cap : Nat) (ak : Option Addr) (nk ck : Nat) (ab : Option Addr) (nb cb : Nat) (w : World) (h : n ≤ 1200 ∧ nk ≤ 1200 ∧ nb ≤ 1200) :
    Calls Tryd.prog 5 #[.agg #[.int .i64 W, .int .i64 H, .slice (ao) n cap, .slice (ak) nk ck, .slice (ab) nb cb], .int .i64 1200] w fun e w' => e = .returned (.bool true) ∧ Below w.heap.size w w' := small3_yes W H ao n cap ak nk ck ab nb cb 1200 w h.1 h.2.1 h.2.2
theorem small1200_no (W H : Int) (ao : Option Addr) (n cap : Nat) (ak : Option Addr) (nk ck : Nat) (ab : Option Addr) (nb cb : Nat) (w : World) (h : ¬ (n ≤ 1200 ∧ nk ≤ 1200 ∧ nb ≤ 1200)) :
    Calls Tryd.prog 5 #[.agg #[.int .i64 W, .int .i64 H, .slice (ao) n cap, .slice (ak) nk ck, .slice (ab) nb cb], .int .i64 1200] w fun e w' => e = .returned (.bool false) ∧ Below w.heap.size w w' := small3_no W H ao n cap ak nk ck ab nb cb 1200 w (by omega)

/-- A wall and an error code. -/
def GaveX (m : Nat) (z : Int) (w : World) (e : Ending) (w' : World) : Prop := ∃ (a1 a2 : Option Addr) (c1 c2 : Nat), e = .returned (.tuple #[.agg #[.slice (a1) m c1, .slice (a2) m c2], .int .i64 z]) ∧ Hid (NumsIn w' a1 m (fun _ => 0) ∧ NumsIn w' a2 m (fun _ => 0)) ∧ Below w.heap.size w w'

theorem gaveX_of {n : Nat} {w w' : World} {e : Ending} (h : GaveWE n (fun _ => 0) (fun _ => 0) w e w') : GaveX n 0 w e w' := by
  obtain ⟨bk, bb, ck, cb, he, hN, _, _, hb⟩ := h
  exact ⟨_, _, ck, cb, he, hN, hb⟩

end Go.Proofs.YtdbehbeaigfpcaaDoor
