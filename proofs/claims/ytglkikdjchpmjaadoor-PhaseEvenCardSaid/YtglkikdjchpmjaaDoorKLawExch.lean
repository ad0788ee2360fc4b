/- The law PhaseExchanges: the walk. -/
import Derived.Test.YtglkikdjchpmjaaDoorKExch2
import Derived.Test.YtglkikdjchpmjaaDoorKRefG4
import Derived.Test.YtglkikdjchpmjaaDoorKBase
namespace Go.Proofs.YtglkikdjchpmjaaDoor
set_option linter.unusedSimpArgs false
set_option linter.unusedVariables false
open Go.RowKit

/-- Two cells as a grid. -/
def two (a b c d a' b' c' d' : Int) : Nat → Nat → Int := fun i j => if i = 0 then (if j = 0 then a else if j = 1 then b else if j = 2 then c else d) else (if j = 0 then a' else if j = 1 then b' else if j = 2 then c' else d')
theorem awake4_any (w : World) (hT : Ends w) : Calls Tryd.prog 28 #[] w fun e w' => e = .returned (.bool true) ∧ Below w.heap.size w w' := by
  have X := Lib.hid (fun wx (hb : Below w.heap.size w wx) => gExchange0 3 0 0 0 1 0 2 0 1 0 (-2) wx (hT.below hb) ⟨by omega, by omega, by omega, by omega, by omega⟩ ⟨by omega, by omega, by omega, by omega, by omega⟩ ⟨by omega, by omega, by omega, by omega, by omega⟩ (.inl ⟨.inr rfl, rfl⟩) (by decide))
  clear hT
  simp only [show (3 : Int) + -2 = 1 by decide, show (0 : Int) - -2 = 2 by decide, show (1 : Int) - -2 = 3 by decide, show (2 : Int) + -2 = 0 by decide] at X
  go_enter Tryd.func28, Tryd.ntmps28
  go_wp2_with (go_at_call 87; (with_reducible refine (X.out _ (by (repeat' (first | (with_reducible exact Below.refl _ _) | (with_reducible refine Below.setCell ?_ (by first | omega | (simp; done) | (simp; omega)) _) | (with_reducible refine Below.alloc ?_ (by first | omega | (simp; done) | (simp; omega)) _) | (with_reducible refine Below.drew ?_) | (with_reducible refine below_drewN ?_ _) | (with_reducible refine Below.trans ?_ (Below.mono (by assumption) (by first | omega | (simp; done) | (simp; omega)))))))).mono ?_); rintro e w1 ⟨rfl, hb⟩; obtain ⟨hc, hf, hz⟩ := bcall hb; (try simp at hc hf hz))
  go_ret
  refine ⟨by simp, ?_⟩
  (repeat' (first | (with_reducible exact Below.refl _ _) | (with_reducible refine Below.setCell ?_ (by first | omega | (simp; done) | (simp; omega)) _) | (with_reducible refine Below.alloc ?_ (by first | omega | (simp; done) | (simp; omega)) _) | (with_reducible refine Below.drew ?_) | (with_reducible refine below_drewN ?_ _) | (with_reducible refine Below.trans ?_ (Below.mono (by assumption) (by first | omega | (simp; done) | (simp; omega))))))

end Go.Proofs.YtglkikdjchpmjaaDoor
