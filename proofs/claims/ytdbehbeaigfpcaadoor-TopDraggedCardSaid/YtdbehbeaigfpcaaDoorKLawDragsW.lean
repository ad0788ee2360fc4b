/- The law WallDrags: the walk. -/
import Derived.Test.YtdbehbeaigfpcaaDoorKDragB
import Derived.Test.YtdbehbeaigfpcaaDoorKLawRunsW
namespace Go.Proofs.YtdbehbeaigfpcaaDoor
set_option linter.unusedSimpArgs false
set_option linter.unusedVariables false
open Go.RowKit

theorem dg_bd {W H n : Nat} {K B : Nat → Int} {len : Nat} {R : Nat → Int × Int} {body : Int} {G : Nat → Nat → Int} (t c : Nat) (hn : n ≤ 1024) (hs : n = W * H) (hK : OkK n K) (hG : OkG n G) :
    (-(2100000000000 * (c : Int)) ≤ dgE W H K len R t G (ownN B body n) c ∧ dgE W H K len R t G (ownN B body n) c ≤ 2100000000000 * (c : Int)) ∧ (-(2100000000000 * (c : Int)) ≤ dgN W H K len R t G (ownN B body n) c ∧ dgN W H K len R t G (ownN B body n) c ≤ 2100000000000 * (c : Int)) :=
  ⟨smB (C := 2100000000000) (by omega) c (fun k _ => (sumL_own hn hK (okG_runW hs hK hG)).1) c (Nat.le_refl _), smB (C := 2100000000000) (by omega) c (fun k _ => (sumL_own hn hK (okG_runW hs hK hG)).2) c (Nat.le_refl _)⟩

section
variable (W H : Int) (ao : Option Addr) (n cap : Nat) (G : Nat → Nat → Int) (ak : Option Addr) (nk ck : Nat) (K : Nat → Int) (ab : Option Addr) (nb cb : Nat) (B : Nat → Int) (ro : Option Addr) (len rc : Nat) (R : Nat → Int × Int) (t x y body : Int) (w : World)
end

end Go.Proofs.YtdbehbeaigfpcaaDoor
