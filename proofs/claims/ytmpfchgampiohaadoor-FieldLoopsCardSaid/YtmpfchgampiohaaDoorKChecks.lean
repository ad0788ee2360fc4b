/- Walls, by the program: the checks ahead of shapes. -/
import Derived.Test.YtmpfchgampiohaaDoorKCloneC
namespace Go.Proofs.YtmpfchgampiohaaDoor
set_option linter.unusedSimpArgs false
set_option linter.unusedVariables false
open Go.RowKit

/-- A point lies on a grid. -/
def OnG (W H x y : Int) : Prop := (0 ≤ x ∧ x < W) ∧ 0 ≤ y ∧ y < H
instance (W H x y : Int) : Decidable (OnG W H x y) := by unfold OnG; exact inferInstance
/-- The first error: of a body (t: whether grid and wall are valid), of a shape, of a disc. -/
def bErr (t : Bool) (b : Int) : Int := if t = true then (if 1 ≤ b ∧ b ≤ 9 then 0 else 7) else 1
def sErr (t : Bool) (b W H x y : Int) : Int := if bErr t b = 0 then (if OnG W H x y then 0 else 7) else bErr t b
def dErr (t : Bool) (b W H x y q : Int) : Int := if sErr t b W H x y = 0 then (if 0 ≤ q ∧ q ≤ 10000 then 0 else 7) else sErr t b W H x y

section
variable (W H : Int) (ao : Option Addr) (n cap : Nat) (ak : Option Addr) (nk ck : Nat) (ab : Option Addr) (nb cb : Nat) (w : World) (t : Bool)

end
end Go.Proofs.YtmpfchgampiohaaDoor
