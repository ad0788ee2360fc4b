/- All particles moved one place: by the reference. -/
import Derived.Test.YtmkhbkkhoemkoaaRefG2
namespace Go.Proofs.Ytmkhbkkhoemkoaa
set_option linter.unusedSimpArgs false
set_option linter.unusedVariables false
open Go.RowKit

theorem Three.new2 (w : World) (t : TypeId) (x y z : Value) (o : Obj) : Three ((w.alloc (.cells #[x, y, z] t)).alloc o) w.heap.size t x y z :=
  (Three.new0 w t x y z).below ((Below.refl _ (w.alloc (.cells #[x, y, z] t))).alloc (Nat.le_refl _) o) (by simp)
theorem Three.new3 (w : World) (t : TypeId) (x y z : Value) (o o2 : Obj) : Three (((w.alloc (.cells #[x, y, z] t)).alloc o).alloc o2) w.heap.size t x y z :=
  (Three.new2 w t x y z o).below ((Below.refl _ _).alloc (Nat.le_refl _) o2) (by simp; omega)
theorem half_step4 {n k : Nat} {D G K : Nat → Nat → Int} {v0 v1 v2 v3 : Int} (h : Half n k D G K) (hk : k < n) (e0 : v0 = D k 0) (e1 : v1 = D k 1) (e2 : v2 = D k 2) (e3 : v3 = D k 3) : Half n (k + 1) D G (upd (upd (upd (upd K k 0 v0) k 1 v1) k 2 v2) k 3 v3) := by
  subst e0 e1 e2 e3
  exact half_step h hk
theorem chain4 {w : World} {b n : Nat} {K : Nat → Nat → Int} {q : Nat} (h : Row w b n K) (l : q < n) (v0 v1 v2 v3 : Int) {k0 k1 k2 k3 : Nat} :
    Ex (fun k => k = b) w ((((((((w.drewN k0).setCell ⟨b, q * 4, none⟩ (.int .i64 v0)).drewN k1).setCell ⟨b, q * 4 + 1, none⟩ (.int .i64 v1)).drewN k2).setCell ⟨b, q * 4 + 2, none⟩ (.int .i64 v2)).drewN k3).setCell ⟨b, q * 4 + 3, none⟩ (.int .i64 v3)) ∧
    Row ((((((((w.drewN k0).setCell ⟨b, q * 4, none⟩ (.int .i64 v0)).drewN k1).setCell ⟨b, q * 4 + 1, none⟩ (.int .i64 v1)).drewN k2).setCell ⟨b, q * 4 + 2, none⟩ (.int .i64 v2)).drewN k3).setCell ⟨b, q * 4 + 3, none⟩ (.int .i64 v3)) b n (upd (upd (upd (upd K q 0 v0) q 1 v1) q 2 v2) q 3 v3) := by
  refine ⟨?_, ?_⟩
  · refine Ex.setCell (Ex.drewN (Ex.setCell (Ex.drewN (Ex.setCell (Ex.drewN (Ex.setCell (Ex.drewN (Ex.refl _ w) k0) ?_ _) k1) ?_ _) k2) ?_ _) k3) ?_ _ <;> rfl
  · exact (((((((h.drewN k0).set l (show 0 < 4 by omega) v0 (o := q * 4) rfl).drewN k1).set l (show 1 < 4 by omega) v1 rfl).drewN k2).set l (show 2 < 4 by omega) v2 rfl).drewN k3).set l (show 3 < 4 by omega) v3 rfl

end Go.Proofs.Ytmkhbkkhoemkoaa
