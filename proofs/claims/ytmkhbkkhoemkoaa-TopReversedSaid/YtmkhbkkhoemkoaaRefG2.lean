/- The reference's grids: blank ones, copies, where particles come from. -/
import Derived.Test.YtmkhbkkhoemkoaaRefG1
import Derived.Test.YtmkhbkkhoemkoaaRefRules
import Derived.Test.YtmkhbkkhoemkoaaRef2
namespace Go.Proofs.Ytmkhbkkhoemkoaa
set_option linter.unusedSimpArgs false
set_option linter.unusedVariables false
open Go.RowKit

theorem nb_opp (W H k : Nat) : nb W H (-1) k 2 = nb W H 1 k 0 ∧ nb W H (-1) k 3 = nb W H 1 k 1 ∧ nb W H (-1) k 0 = nb W H 1 k 2 ∧ nb W H (-1) k 1 = nb W H 1 k 3 := by
  unfold nb
  refine ⟨?_, ?_, ?_, ?_⟩ <;> simp [dx, dy]

/-- A grid that was given. -/
def Gave (W H : Int) (n : Nat) (K : Nat → Nat → Int) (w : World) (e : Ending) (w' : World) : Prop :=
  ∃ b c, e = .returned (.agg #[.int .i64 W, .int .i64 H, .slice (some ⟨b, 0, none⟩) n c]) ∧ Row w' b n K ∧ w.heap.size + 1 ≤ b ∧ Below w.heap.size w w'
theorem three_ex {w5 : World} {r : Nat} {v0 v1 v2 : Value} : Ex (fun k => k = r) w5 (((w5.setCell ⟨r, 0, none⟩ v0).setCell ⟨r, 1, none⟩ v1).setCell ⟨r, 2, none⟩ v2) := by
  refine Ex.setCell (Ex.setCell (Ex.setCell (Ex.refl _ w5) ?_ _) ?_ _) ?_ _ <;> rfl
theorem gave_pass {W H : Int} {n b c r : Nat} {K : Nat → Nat → Int} {w w5 : World} {v0 v1 v2 : Value} (hr : Row w5 b n K) (hb : Below w.heap.size w w5) (h1 : w.heap.size ≤ r) (h2 : r < b) :
    Gave W H n K w (.returned (.agg #[.int .i64 W, .int .i64 H, .slice (some ⟨b, 0, none⟩) n c])) (((w5.setCell ⟨r, 0, none⟩ v0).setCell ⟨r, 1, none⟩ v1).setCell ⟨r, 2, none⟩ v2) :=
  ⟨b, c, rfl, hr.ex three_ex (by omega), by omega, hb.trans (three_ex.below hb.size (fun k hk => by omega))⟩
theorem Three.set {w : World} {B : Nat} {t : TypeId} {x y z v0 v1 v2 : Value} (h : Three w B t x y z) : Three (((w.setCell ⟨B, 0, none⟩ v0).setCell ⟨B, 1, none⟩ v1).setCell ⟨B, 2, none⟩ v2) B t v0 v1 v2 := by
  unfold Three at *
  simp only [World.setCell, Array.getElem?_modify, ↓reduceIte, h, Option.map_some]
  rfl
theorem Three.new0 (w : World) (t : TypeId) (x y z : Value) : Three (w.alloc (.cells #[x, y, z] t)) w.heap.size t x y z := World.alloc_heap_new w _

theorem copy_end {W H : Int} {n g c : Nat} {K : Nat → Nat → Int} {w w5 : World} {v v0 v1 v2 : Value} (hr : Row w5 g n K) (hb : Below w.heap.size w w5) (h1 : w.heap.size + 3 ≤ g) :
    Gave W H n K w (.returned (.agg #[.int .i64 W, .int .i64 H, .slice (some ⟨g, 0, none⟩) n c])) ((((w5.setCell ⟨w.heap.size, 2, none⟩ v).setCell ⟨w.heap.size + 1, 0, none⟩ v0).setCell ⟨w.heap.size + 1, 1, none⟩ v1).setCell ⟨w.heap.size + 1, 2, none⟩ v2) := by
  have x : Ex (fun k => k = w.heap.size) w5 (w5.setCell ⟨w.heap.size, 2, none⟩ v) := by
    refine Ex.setCell (Ex.refl _ w5) ?_ _
    rfl
  exact gave_pass (hr.ex x (by omega)) (hb.trans (x.below hb.size (fun k hk => by omega))) (by omega) (by omega)

end Go.Proofs.Ytmkhbkkhoemkoaa
