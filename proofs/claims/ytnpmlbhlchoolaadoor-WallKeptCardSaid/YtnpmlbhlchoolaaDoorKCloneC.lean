/- A copy of a grid's cells, by slices.Clone. -/
import Derived.Test.YtnpmlbhlchoolaaDoorKCopy
import Derived.WalkSpells
import Derived.Laws.Cover3
namespace Go.Proofs.YtnpmlbhlchoolaaDoor
set_option linter.unusedSimpArgs false
set_option linter.unusedVariables false
open Go.RowKit

set_option maxRecDepth 100000 in
set_option maxHeartbeats 1000000 in
theorem cloneC_any (b off n cap : Nat) (G : Nat → Nat → Int) (w : World) (h1 : 1 ≤ n) (h2 : n ≤ 100000) (hlt : b < w.heap.size) (hG : Grd w b off n G) :
    Calls Tryd.prog 79 #[.slice (some ⟨b, off, none⟩) n cap] w (Copied n G w) := by
  obtain ⟨i0, hi, hz0, hz1, hz2⟩ := info_parts info_cell
  have H := Lib.hid (fun w' (hb : Below w.heap.size w w') => cellsL_at (hG.below hb hlt))
  have hnil : ∀ wx : World, (binOp .eql 22 (.slice (some ⟨b, off, none⟩) n cap) (.slice none 0 0)).run Tryd.prog wx = .ok (.bool false) wx := fun wx => Lib.run_eql_slice_nil wx 22 63 (some ⟨b, off, none⟩) n cap 0 0 Tryd.underlying22
  go_enter Tryd.func79, Tryd.ntmps79
  go_wp2_with (at_builtin; refine wpList_append_grows _ rfl _ _ 22 rfl 63 i0 (.agg #[.int .i64 0, .int .i64 0, .int .i64 0, .int .i64 0]) 4 32 Tryd.underlying22 hi hz0 hz1 hz2 rfl (by omega) (some ⟨w.heap.size, 0, none⟩) 0 0 [] rfl (by simp) rfl (by simp) ⟨b, off, none⟩ n cap (cellsL G n) rfl (cellsL_length G n) (H.out _ (by (repeat' (first | (with_reducible exact Below.refl _ _) | (with_reducible refine Below.setCell ?_ (by first | omega | (simp; done) | (simp; omega)) _) | (with_reducible refine Below.alloc ?_ (by first | omega | (simp; done) | (simp; omega)) _) | (with_reducible refine Below.drew ?_) | (with_reducible refine below_drewN ?_ _) | (with_reducible refine Below.trans ?_ (Below.mono (by assumption) (by first | omega | (simp; done) | (simp; omega)))))))) (cellsL_one G n) (by omega) (by unfold maxLen; omega) (by omega) ?_; intro v' w1 hown hgrow)
  rw [Nat.zero_add, List.nil_append] at hown
  obtain ⟨g, c, rfl, hr, hg, hc, hm⟩ := row_of_owned hown h1
  go_ret
  exact ⟨g, c, rfl, hr, by simp at hg; omega, hc, hm, ((Below.refl _ w).alloc (Nat.le_refl _) _).grown hgrow (by simp) (by simp)⟩
end Go.Proofs.YtnpmlbhlchoolaaDoor
