/- A body's drag: by the reference. -/
import Derived.Test.YtdbehbeaigfpcaaDoorKRefImW
import Derived.Test.YtdbehbeaigfpcaaDoorKRefWRun
import Derived.Test.YtdbehbeaigfpcaaDoorKRefShapes
import Derived.Deep.CutRange
namespace Go.Proofs.YtdbehbeaigfpcaaDoor
set_option linter.unusedSimpArgs false
set_option linter.unusedVariables false
open Go.RowKit

/-- The impulse by the reference, as one sum over the body's cells. -/
theorem rimpulse_in (W H : Int) (n cap b off bk ok ck bb ob cb : Nat) (K B : Nat → Int) (body : Int) (G : Nat → Nat → Int) (w : World) (hm : 1 ≤ (ownN B body n).length) (hn : n ≤ 1024) (hG : OkG n G) (hlt : b < w.heap.size) (hC : Grd w b off n G) (hK : OkK n K) (lbk : bk < w.heap.size) (hN : NumsAt w bk ok n K) (lbb : bb < w.heap.size) (hB : NumsAt w bb ob n B) :
    Calls Tryd.prog 26 #[.agg #[.int .i64 W, .int .i64 H, .slice (some ⟨b, off, none⟩) n cap], .agg #[.slice (some ⟨bk, ok, none⟩) n ck, .slice (some ⟨bb, ob, none⟩) n cb], .int .i64 body] w fun e w' => e = .returned (.agg #[.int .i64 (sumL (dE K G) (ownN B body n)), .int .i64 (sumL (dN K G) (ownN B body n))]) ∧ Below w.heap.size w w' := by
  obtain ⟨a1, a2⟩ := sumL_im K G (ownN B body n)
  have hl : (ownN B body n).length ≤ n := by rw [ownN_len]; exact cntB_le _ _ _
  have h := rimp_walk W H n cap b off bk ok ck bb ob cb K B body G w (ownN B body n).length (fun j => (ownN B body n).getD j 0) hm (by omega) hn (fun j hj => by
    rw [List.getD_eq_getElem?_getD, List.getElem?_eq_getElem hj]
    exact (ownN_mem (List.getElem_mem hj)).1) hG hlt hC hK lbk hN (fun wx hb => rown_in _ n ck bb ob n cb B body wx hn (Nat.lt_of_lt_of_le lbb hb.size) (hB.below hb lbb)) _ _ (fun _ _ => rfl) (fun _ _ => rfl)
  rw [a1, a2] at h
  exact h

theorem two_ex {w : World} {P : Nat} {u v : Value} : Ex (fun k => k = P) w ((w.setCell ⟨P, 0, none⟩ u).setCell ⟨P, 1, none⟩ v) := by
  refine Ex.setCell (Ex.setCell (Ex.refl _ w) ?_ _) ?_ _ <;> rfl
theorem Two.exB {S : Nat → Prop} {w w' : World} {B : Nat} {t : TypeId} {x y : Value} (h : Two w B t x y) (hx : Ex S w w') (hs : ¬ S B) : Two w' B t x y := (hx.block B h.lt hs).trans h
theorem Grd.exB {S : Nat → Prop} {w w' : World} {b off n : Nat} {G : Nat → Nat → Int} (h : Grd w b off n G) (hb : b < w.heap.size) (hx : Ex S w w') (hs : ¬ S b) : Grd w' b off n G := fun i hi =>
  ⟨(hx.cell hb hs).trans (h i hi).1, (hx.cell hb hs).trans (h i hi).2.1, (hx.cell hb hs).trans (h i hi).2.2.1, (hx.cell hb hs).trans (h i hi).2.2.2⟩

/-- What stands in a round of the drag. -/
structure RDI (w : World) (W H n P : Nat) (kv bv : Value) (x y : Int) (bb oo cc : Nat) (G : Nat → Nat → Int) (wr : World) : Prop where
  g : Three wr w.heap.size 24 (.int .i64 W) (.int .i64 H) (.slice (some ⟨bb, oo, none⟩) n cc)
  wl : Two wr (w.heap.size + 1) 27 kv bv
  rs : Two wr (w.heap.size + 2) 33 (.int .i64 0) (.int .i64 0)
  sum : Two wr P 33 (.int .i64 x) (.int .i64 y)
  cells : Grd wr bb oo n G
  lt : bb < wr.heap.size
  n1 : bb ≠ w.heap.size
  n2 : bb ≠ P
  below : Below w.heap.size w wr
  lo : w.heap.size + 3 ≤ P
section
variable {w wr : World} {W H n P : Nat} {kv bv : Value} {x y : Int} {bb oo cc : Nat} {G : Nat → Nat → Int}
theorem RDI.added (h : RDI w W H n P kv bv x y bb oo cc G wr) {Z : World} (hx : Below wr.heap.size wr Z) (x' y' : Int) : RDI w W H n P kv bv x' y' bb oo cc G ((Z.setCell ⟨P, 0, none⟩ (.int .i64 x')).setCell ⟨P, 1, none⟩ (.int .i64 y')) := by
  have ex : Ex (fun k => k = P) Z ((Z.setCell ⟨P, 0, none⟩ (.int .i64 x')).setCell ⟨P, 1, none⟩ (.int .i64 y')) := two_ex
  have l := h.lo
  have n2 := h.n2
  have hb := h.below.trans (hx.mono h.below.size)
  exact ⟨(h.g.below hx h.g.lt).ex ex (by omega), (h.wl.below hx h.wl.lt).exB ex (by omega), (h.rs.below hx h.rs.lt).exB ex (by omega), (h.sum.below hx h.sum.lt).set2 _ _, (h.cells.below hx h.lt).exB (Nat.lt_of_lt_of_le h.lt hx.size) ex n2, Nat.lt_of_lt_of_le (Nat.lt_of_lt_of_le h.lt hx.size) ex.size, h.n1, n2, hb.trans (ex.below hb.size (fun k hk => by omega)), l⟩
theorem RDI.drew (h : RDI w W H n P kv bv x y bb oo cc G wr) : RDI w W H n P kv bv x y bb oo cc G wr.drew := ⟨h.g, h.wl, h.rs, h.sum, fun i hi => h.cells i hi, h.lt, h.n1, h.n2, h.below.drew, h.lo⟩
theorem RDI.stepped (h : RDI w W H n P kv bv x y bb oo cc G wr) {Z : World} (hx : Below wr.heap.size wr Z) {p cp : Nat} {G' : Nat → Nat → Int} (hr : Row Z p n G') (hp : wr.heap.size ≤ p) : RDI w W H n P kv bv x y p 0 cp G' (((Z.setCell ⟨w.heap.size, 0, none⟩ (.int .i64 W)).setCell ⟨w.heap.size, 1, none⟩ (.int .i64 H)).setCell ⟨w.heap.size, 2, none⟩ (.slice (some ⟨p, 0, none⟩) n cp)) := by
  have ex : Ex (fun k => k = w.heap.size) Z (((Z.setCell ⟨w.heap.size, 0, none⟩ (.int .i64 W)).setCell ⟨w.heap.size, 1, none⟩ (.int .i64 H)).setCell ⟨w.heap.size, 2, none⟩ (.slice (some ⟨p, 0, none⟩) n cp)) := three_ex
  have l := h.lo
  have hs := h.sum.lt
  have hb := h.below.trans (hx.mono h.below.size)
  have hbw := h.below.size
  have hr' := hr.ex ex (by omega)
  exact ⟨(h.g.below hx h.g.lt).set, (h.wl.below hx h.wl.lt).exB ex (by omega), (h.rs.below hx h.rs.lt).exB ex (by omega), (h.sum.below hx h.sum.lt).exB ex (by omega), hr'.grd, hr'.1, by omega, by omega, hb.trans (ex.below hb.size (fun k hk => by omega)), l⟩
end

theorem smB {C : Int} {f : Nat → Int} (hC : 0 ≤ C) (c : Nat) (h : ∀ j, j < c → -C ≤ f j ∧ f j ≤ C) (k : Nat) (hk : k ≤ c) : -(C * (k : Int)) ≤ sm k f ∧ sm k f ≤ C * (k : Int) := by
  induction k with
  | zero => simp [sm]
  | succ k ih =>
    have h1 := ih (by omega)
    have h2 := h k (by omega)
    simp only [sm, Int.natCast_add, Int.mul_add, Int.natCast_one, Int.mul_one]
    omega

end Go.Proofs.YtdbehbeaigfpcaaDoor
