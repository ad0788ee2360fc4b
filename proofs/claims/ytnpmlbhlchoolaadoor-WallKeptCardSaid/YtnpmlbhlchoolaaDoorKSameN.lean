/- Lists of equal numbers are the same: by the reference. -/
import Derived.Test.YtnpmlbhlchoolaaDoorKNumsV
namespace Go.Proofs.YtnpmlbhlchoolaaDoor
set_option linter.unusedSimpArgs false
set_option linter.unusedVariables false
open Go.RowKit

set_option maxHeartbeats 2000000 in
theorem sameNums_yes (ao ao' : Option Addr) (n c c' : Nat) (K : Nat → Int) (w : World) (hl : n ≤ 1000000) (h : NumsIn w ao n K) (h' : NumsIn w ao' n K) :
    Calls Tryd.prog 27 #[.slice ao n c, .slice ao' n c'] w fun e w' => e = .returned (.bool true) ∧ Below w.heap.size w w' := by
  by_cases hL : n = 0
  · subst hL
    clear h h'
    go_enter Tryd.func27, Tryd.ntmps27
    go_wp2
    refine wp_loop_rounds 1 ?_
    rw [rounds_succ]
    go_wp2
    go_ret
    refine ⟨rfl, ?_⟩
    (repeat' (first | (with_reducible exact Below.refl _ _) | (with_reducible refine Below.setCell ?_ (by first | omega | (simp; done) | (simp; omega)) _) | (with_reducible refine Below.alloc ?_ (by first | omega | (simp; done) | (simp; omega)) _) | (with_reducible refine Below.drew ?_) | (with_reducible refine below_drewN ?_ _) | (with_reducible refine Below.trans ?_ (Below.mono (by assumption) (by first | omega | (simp; done) | (simp; omega))))))
  · obtain ⟨g, o, rfl, hg, hc⟩ := numsAt_of h (by omega)
    obtain ⟨g', o', rfl, hg', hc'⟩ := numsAt_of h' (by omega)
    have HC := Lib.hid hc
    have HC' := Lib.hid hc'
    clear h h' hc hc' hL
    go_enter Tryd.func27, Tryd.ntmps27
    go_wp2
    go_loopw [5] (fun i wr => ∃ k : Nat, k ≤ n ∧ i = .int .i64 k ∧ Below w.heap.size w wr) (fun i _ => n - (intOf i).toNat)
    case atStart => exact ⟨0, Nat.zero_le _, rfl, Below.refl _ _⟩
    case round =>
      obtain ⟨k, hk, rfl, hB⟩ := hrel
      by_cases hlk : k < n
      · have c0 := HC.out.get hB hg hlk
        have c1 := HC'.out.get hB hg' hlk
        have p0 : (0 : Int) ≤ (k : Int) := by omega
        have p1 : (k : Int) < (n : Int) := by omega
        go_wp2
        go_quiet (fail)
        go_wp2
        go_roundw
        case rel => exact ⟨k + 1, by omega, by go_num, below_drewN hB _⟩
        case measure => simp [intOf]; omega
      · obtain rfl : n = k := by omega
        go_wp2
        go_ret
        exact ⟨rfl, hB⟩
end Go.Proofs.YtnpmlbhlchoolaaDoor
