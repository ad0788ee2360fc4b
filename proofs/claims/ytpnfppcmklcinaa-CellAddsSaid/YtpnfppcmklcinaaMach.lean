/- The machine of a grid in memory: its block, its two rows of cells. -/
import Derived.Test.YtpnfppcmklcinaaNb
namespace Go.Proofs.Ytpnfppcmklcinaa
set_option linter.unusedSimpArgs false
set_option linter.unusedVariables false
open Go.RowKit

/-- But for some blocks the world is as it was. -/
structure Ex (S : Nat → Prop) (w w' : World) : Prop where
  os : w'.os = w.os
  tape : w'.tape = w.tape
  output : w'.output = w.output
  size : w.heap.size ≤ w'.heap.size
  block : ∀ k, k < w.heap.size → ¬ S k → w'.heap[k]? = w.heap[k]?
theorem Ex.refl (S : Nat → Prop) (w : World) : Ex S w w := ⟨rfl, rfl, rfl, Nat.le_refl _, fun _ _ _ => rfl⟩
theorem Ex.trans {S : Nat → Prop} {a b c : World} (h : Ex S a b) (g : Ex S b c) : Ex S a c := ⟨g.os.trans h.os, g.tape.trans h.tape, g.output.trans h.output, Nat.le_trans h.size g.size, fun k hk hs => (g.block k (Nat.lt_of_lt_of_le hk h.size) hs).trans (h.block k hk hs)⟩
theorem Ex.mono {S S' : Nat → Prop} {a b : World} (h : Ex S a b) (hs : ∀ k, S k → S' k) : Ex S' a b := ⟨h.os, h.tape, h.output, h.size, fun k hk hn => h.block k hk (fun x => hn (hs k x))⟩
theorem Ex.of_below {S : Nat → Prop} {a b : World} (h : Below a.heap.size a b) : Ex S a b := ⟨h.os, h.tape, h.output, h.size, fun k hk _ => h.block k hk⟩
theorem Ex.below {S : Nat → Prop} {a b : World} (h : Ex S a b) {B : Nat} (hB : B ≤ a.heap.size) (hs : ∀ k, S k → B ≤ k) : Below B a b := ⟨h.os, h.tape, h.output, h.size, fun k hk => h.block k (Nat.lt_of_lt_of_le hk hB) (fun x => by have := hs k x; omega)⟩
theorem Ex.alloc {S : Nat → Prop} {a b : World} (h : Ex S a b) (o : Obj) : Ex S a (b.alloc o) := h.trans (Ex.of_below ((Below.refl _ b).alloc (Nat.le_refl _) o))
theorem Ex.drew {S : Nat → Prop} {a b : World} (h : Ex S a b) : Ex S a b.drew := ⟨h.os, h.tape, h.output, h.size, h.block⟩
theorem Ex.drewN {S : Nat → Prop} {a b : World} (h : Ex S a b) (n : Nat) : Ex S a (b.drewN n) := h.trans (Ex.of_below (by have := below_drewN (Below.refl b.heap.size b) n; exact this))
theorem Ex.setCell {S : Nat → Prop} {a b : World} (h : Ex S a b) {p : Addr} (hp : S p.block) (v : Value) : Ex S a (b.setCell p v) :=
  h.trans ⟨rfl, rfl, rfl, by simp [World.setCell], fun k _ hs => Below.heap_setCell _ _ _ _ (fun e => hs (by rw [e]; exact hp))⟩
theorem Ex.cell {S : Nat → Prop} {a b : World} (h : Ex S a b) {k o : Nat} (hk : k < a.heap.size) (hs : ¬ S k) : b.cell? ⟨k, o, none⟩ = a.cell? ⟨k, o, none⟩ := World.cell?_of_block (a := ⟨k, o, none⟩) (h.block k hk hs)
theorem Ex.frozen {S : Nat → Prop} {a b : World} (h : Ex S a b) {k o : Nat} (hk : k < a.heap.size) (hs : ¬ S k) : b.frozen? ⟨k, o, none⟩ = a.frozen? ⟨k, o, none⟩ := World.frozen?_of_block (a := ⟨k, o, none⟩) (h.block k hk hs)

/-- A row of cells that is one's own. -/
def Row (w : World) (b n : Nat) (G : Nat → Nat → Int) : Prop := b < w.heap.size ∧ ∀ j, j < n * 4 → w.cell? ⟨b, j, none⟩ = some (.int .i64 (G (j / 4) (j % 4))) ∧ w.frozen? ⟨b, j, none⟩ = false
theorem Row.ex {S : Nat → Prop} {w w' : World} {b n : Nat} {G : Nat → Nat → Int} (h : Row w b n G) (hx : Ex S w w') (hs : ¬ S b) : Row w' b n G :=
  ⟨Nat.lt_of_lt_of_le h.1 hx.size, fun j hj => ⟨(hx.cell h.1 hs).trans (h.2 j hj).1, (hx.frozen h.1 hs).trans (h.2 j hj).2⟩⟩
theorem Row.below {w w' : World} {b n m : Nat} {G : Nat → Nat → Int} (h : Row w b n G) (hx : Below m w w') (hs : b < m) : Row w' b n G :=
  ⟨Nat.lt_of_lt_of_le h.1 hx.size, fun j hj => ⟨(hx.cell (p := ⟨b, j, none⟩) hs).trans (h.2 j hj).1, (hx.frozen (p := ⟨b, j, none⟩) hs).trans (h.2 j hj).2⟩⟩
theorem Row.at {w : World} {b n : Nat} {G : Nat → Nat → Int} (h : Row w b n G) {i d : Nat} (hi : i < n) (hd : d < 4) : w.cell? ⟨b, i * 4 + d, none⟩ = some (.int .i64 (G i d)) ∧ w.frozen? ⟨b, i * 4 + d, none⟩ = false := by
  have := h.2 (i * 4 + d) (by omega)
  rw [show (i * 4 + d) / 4 = i by omega, show (i * 4 + d) % 4 = d by omega] at this
  exact this
theorem Row.at4 {w : World} {b n : Nat} {G : Nat → Nat → Int} (h : Row w b n G) {i : Nat} (hi : i < n) : w.cell? ⟨b, i * 4, none⟩ = some (.int .i64 (G i 0)) ∧ w.cell? ⟨b, i * 4 + 1, none⟩ = some (.int .i64 (G i 1)) ∧ w.cell? ⟨b, i * 4 + 2, none⟩ = some (.int .i64 (G i 2)) ∧ w.cell? ⟨b, i * 4 + 3, none⟩ = some (.int .i64 (G i 3)) :=
  ⟨(h.at hi (show 0 < 4 by omega)).1, (h.at hi (show 1 < 4 by omega)).1, (h.at hi (show 2 < 4 by omega)).1, (h.at hi (show 3 < 4 by omega)).1⟩
theorem Row.free4 {w : World} {b n : Nat} {G : Nat → Nat → Int} (h : Row w b n G) {i : Nat} (hi : i < n) : w.frozen? ⟨b, i * 4, none⟩ = false ∧ w.frozen? ⟨b, i * 4 + 1, none⟩ = false ∧ w.frozen? ⟨b, i * 4 + 2, none⟩ = false ∧ w.frozen? ⟨b, i * 4 + 3, none⟩ = false :=
  ⟨(h.at hi (show 0 < 4 by omega)).2, (h.at hi (show 1 < 4 by omega)).2, (h.at hi (show 2 < 4 by omega)).2, (h.at hi (show 3 < 4 by omega)).2⟩
theorem Row.grd {w : World} {b n : Nat} {G : Nat → Nat → Int} (h : Row w b n G) : Grd w b 0 n G := fun i hi => by
  rw [Nat.zero_add]
  exact h.at4 hi
theorem Row.cellsIn {w : World} {b n : Nat} {G : Nat → Nat → Int} (h : Row w b n G) : CellsIn w (some ⟨b, 0, none⟩) n G := .inr ⟨b, 0, rfl, h.1, h.grd⟩
theorem Row.eqG {w : World} {b n : Nat} {G K : Nat → Nat → Int} (h : Row w b n G) (e : EqG n G K) : Row w b n K := ⟨h.1, fun j hj => by
  rw [← e (j / 4) (by omega) (j % 4) (by omega)]
  exact h.2 j hj⟩

/-- One population is another one. -/
def upd (G : Nat → Nat → Int) (i d : Nat) (x : Int) : Nat → Nat → Int := fun i' d' => if i' = i ∧ d' = d then x else G i' d'
theorem upd_same (G : Nat → Nat → Int) (i d : Nat) (x : Int) : upd G i d x i d = x := by simp [upd]
theorem upd_other (G : Nat → Nat → Int) {i d i' d' : Nat} (x : Int) (h : ¬ (i' = i ∧ d' = d)) : upd G i d x i' d' = G i' d' := by simp [upd, h]
theorem Row.set {w : World} {b n : Nat} {G : Nat → Nat → Int} (h : Row w b n G) {i d : Nat} (hi : i < n) (hd : d < 4) (x : Int) {o : Nat} (ho : o = i * 4 + d) : Row (w.setCell ⟨b, o, none⟩ (.int .i64 x)) b n (upd G i d x) := by
  subst ho
  refine ⟨by simpa [World.setCell] using h.1, fun j hj => ⟨?_, by rw [World.frozen?_setCell]; exact (h.2 j hj).2⟩⟩
  by_cases e : i * 4 + d = j
  · subst e
    rw [World.cell?_setCell_same' _ _ _ (by rw [(h.at hi hd).1]; rfl)]
    rw [show (i * 4 + d) / 4 = i by omega, show (i * 4 + d) % 4 = d by omega, upd_same]
  · rw [World.cell?_setCell_other _ _ _ _ (by intro e'; cases e'; exact e rfl), upd_other _ _ (by omega)]
    exact (h.2 j hj).1

/-- The machine's block. -/
def Mch (w : World) (m : Nat) (W H : Int) (n b1 c1 : Nat) (rv : Value) (b2 c2 : Nat) : Prop :=
  w.heap[m]? = some (.cells #[.int .i64 W, .int .i64 H, .slice (some ⟨b1, 0, none⟩) n c1, rv, .slice (some ⟨b2, 0, none⟩) n c2] 218 (0, 0))
section
variable {w w' : World} {m n b1 c1 b2 c2 : Nat} {W H : Int} {rv : Value}
theorem Mch.lt (h : Mch w m W H n b1 c1 rv b2 c2) : m < w.heap.size := (Array.getElem?_eq_some_iff.1 h).1
theorem Mch.k0 (h : Mch w m W H n b1 c1 rv b2 c2) : w.cell? ⟨m, 0, none⟩ = some (.int .i64 W) := by simp [World.cell?, show w.heap[m]? = _ from h]
theorem Mch.k1 (h : Mch w m W H n b1 c1 rv b2 c2) : w.cell? ⟨m, 1, none⟩ = some (.int .i64 H) := by simp [World.cell?, show w.heap[m]? = _ from h]
theorem Mch.k2 (h : Mch w m W H n b1 c1 rv b2 c2) : w.cell? ⟨m, 2, none⟩ = some (.slice (some ⟨b1, 0, none⟩) n c1) := by simp [World.cell?, show w.heap[m]? = _ from h]
theorem Mch.k3 (h : Mch w m W H n b1 c1 rv b2 c2) : w.cell? ⟨m, 3, none⟩ = some rv := by simp [World.cell?, show w.heap[m]? = _ from h]
theorem Mch.k4 (h : Mch w m W H n b1 c1 rv b2 c2) : w.cell? ⟨m, 4, none⟩ = some (.slice (some ⟨b2, 0, none⟩) n c2) := by simp [World.cell?, show w.heap[m]? = _ from h]
theorem Mch.free (h : Mch w m W H n b1 c1 rv b2 c2) (i : Nat) : w.frozen? ⟨m, i, none⟩ = false := by simp [World.frozen?, show w.heap[m]? = _ from h]
theorem Mch.ex {S : Nat → Prop} (h : Mch w m W H n b1 c1 rv b2 c2) (hx : Ex S w w') (hs : ¬ S m) : Mch w' m W H n b1 c1 rv b2 c2 := (hx.block m h.lt hs).trans h
theorem Mch.swap (h : Mch w m W H n b1 c1 rv b2 c2) : Mch ((w.setCell ⟨m, 2, none⟩ (.slice (some ⟨b2, 0, none⟩) n c2)).setCell ⟨m, 4, none⟩ (.slice (some ⟨b1, 0, none⟩) n c1)) m W H n b2 c2 rv b1 c1 := by
  unfold Mch at *
  simp only [World.setCell, Array.getElem?_modify, ↓reduceIte, h, Option.map_some]
  rfl
end
end Go.Proofs.Ytpnfppcmklcinaa
