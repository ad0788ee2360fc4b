/- What walls do to a cell: by the program and by the reference. -/
import Derived.Test.YtmpfchgampiohaaDoorKTable
import Derived.Test.YtmpfchgampiohaaDoorKRef
namespace Go.Proofs.YtmpfchgampiohaaDoor
set_option linter.unusedSimpArgs false
set_option linter.unusedVariables false
open Go.RowKit
attribute [local go_sem] index_cell0 index_cell1 index_cell2 index_cell3

/-- A cell after a kind of wall. -/
def sn (k d : Nat) (a b c e : Int) : Int := if exch k d = 0 then a else if exch k d = 1 then b else if exch k d = 2 then c else e

theorem sn_sn (k : Nat) (a b c e : Int) (hk : k < 4) : sn k 0 (sn k 0 a b c e) (sn k 1 a b c e) (sn k 2 a b c e) (sn k 3 a b c e) = a ∧ sn k 1 (sn k 0 a b c e) (sn k 1 a b c e) (sn k 2 a b c e) (sn k 3 a b c e) = b ∧ sn k 2 (sn k 0 a b c e) (sn k 1 a b c e) (sn k 2 a b c e) (sn k 3 a b c e) = c ∧ sn k 3 (sn k 0 a b c e) (sn k 1 a b c e) (sn k 2 a b c e) (sn k 3 a b c e) = e := by
  match k, hk with
  | 0, _ => exact ⟨rfl, rfl, rfl, rfl⟩
  | 1, _ => exact ⟨rfl, rfl, rfl, rfl⟩
  | 2, _ => exact ⟨rfl, rfl, rfl, rfl⟩
  | 3, _ => exact ⟨rfl, rfl, rfl, rfl⟩
theorem sn_ok {k : Nat} {a b c e : Int} (hk : k < 4) (h : Ok4 a b c e) : Ok4 (sn k 0 a b c e) (sn k 1 a b c e) (sn k 2 a b c e) (sn k 3 a b c e) := by
  unfold Ok4 at *
  match k, hk with
  | 0, _ => simp [sn, exch]; omega
  | 1, _ => simp [sn, exch]; omega
  | 2, _ => simp [sn, exch]; omega
  | 3, _ => simp [sn, exch]; omega

end Go.Proofs.YtmpfchgampiohaaDoor
