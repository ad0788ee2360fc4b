/- A flow of two phases in memory; all its cells collide, or are undone: by the program. -/
import Derived.Test.YtmkhbkkhoemkoaaGreatDoorKMixF
import Derived.Test.YtmkhbkkhoemkoaaGreatDoorKGMath
import Derived.Test.YtmkhbkkhoemkoaaGreatDoorKExch2
import Derived.Deep.RegionHeld3
namespace Go.Proofs.YtmkhbkkhoemkoaaGreatDoor
set_option linter.unusedSimpArgs false
set_option linter.unusedVariables false
open Go.RowKit

/-- The flow's block. -/
def Flw (w : World) (m : Nat) (W H : Int) (n a ca b cb : Nat) (lv mv : Value) : Prop :=
  w.heap[m]? = some (.cells #[.int .i64 W, .int .i64 H, .slice (some ⟨a, 0, none⟩) n ca, .slice (some ⟨b, 0, none⟩) n cb, lv, mv] 58 (0, 0))
section
variable {w w' : World} {m n a ca b cb : Nat} {W H : Int} {lv mv : Value}
theorem Flw.lt (h : Flw w m W H n a ca b cb lv mv) : m < w.heap.size := (Array.getElem?_eq_some_iff.1 h).1
theorem Flw.k0 (h : Flw w m W H n a ca b cb lv mv) : w.cell? ⟨m, 0, none⟩ = some (.int .i64 W) := by simp [World.cell?, show w.heap[m]? = _ from h]
theorem Flw.k1 (h : Flw w m W H n a ca b cb lv mv) : w.cell? ⟨m, 1, none⟩ = some (.int .i64 H) := by simp [World.cell?, show w.heap[m]? = _ from h]
theorem Flw.k2 (h : Flw w m W H n a ca b cb lv mv) : w.cell? ⟨m, 2, none⟩ = some (.slice (some ⟨a, 0, none⟩) n ca) := by simp [World.cell?, show w.heap[m]? = _ from h]
theorem Flw.k3 (h : Flw w m W H n a ca b cb lv mv) : w.cell? ⟨m, 3, none⟩ = some (.slice (some ⟨b, 0, none⟩) n cb) := by simp [World.cell?, show w.heap[m]? = _ from h]
theorem Flw.k4 (h : Flw w m W H n a ca b cb lv mv) : w.cell? ⟨m, 4, none⟩ = some lv := by simp [World.cell?, show w.heap[m]? = _ from h]
theorem Flw.k5 (h : Flw w m W H n a ca b cb lv mv) : w.cell? ⟨m, 5, none⟩ = some mv := by simp [World.cell?, show w.heap[m]? = _ from h]
theorem Flw.free (h : Flw w m W H n a ca b cb lv mv) (i : Nat) : w.frozen? ⟨m, i, none⟩ = false := by simp [World.frozen?, show w.heap[m]? = _ from h]
theorem Flw.ex {S : Nat → Prop} (h : Flw w m W H n a ca b cb lv mv) (hx : Ex S w w') (hs : ¬ S m) : Flw w' m W H n a ca b cb lv mv := (hx.block m h.lt hs).trans h
theorem Flw.below {k : Nat} (h : Flw w m W H n a ca b cb lv mv) (hb : Below k w w') (hk : m < k) : Flw w' m W H n a ca b cb lv mv := (hb.block m hk).trans h
theorem Flw.set23 (h : Flw w m W H n a ca b cb lv mv) (a' ca' b' cb' : Nat) : Flw ((w.setCell ⟨m, 2, none⟩ (.slice (some ⟨a', 0, none⟩) n ca')).setCell ⟨m, 3, none⟩ (.slice (some ⟨b', 0, none⟩) n cb')) m W H n a' ca' b' cb' lv mv := by
  unfold Flw at *
  simp only [World.setCell, Array.getElem?_modify, ↓reduceIte, h, Option.map_some]
  rfl
end

/-- Where the round stands: both rows, new before k. -/
def CI (w0 : World) (a b n k : Nat) (D E A B : Nat → Nat → Int) (wr : World) : Prop := ∃ K L : Nat → Nat → Int, Ex (fun q => q = a ∨ q = b) w0 wr ∧ (Row wr a n K ∧ Half n k D A K) ∧ (Row wr b n L ∧ Half n k E B L)
theorem ci_zero {w0 : World} {a b n : Nat} {D E A B : Nat → Nat → Int} (ha : Row w0 a n A) (hb : Row w0 b n B) : CI w0 a b n 0 D E A B w0 := ⟨A, B, Ex.refl _ _, ⟨ha, half_zero _ _ _⟩, ⟨hb, half_zero _ _ _⟩⟩
/-- The first row is one further. -/
def CJ (w0 : World) (a b n k : Nat) (D E A B : Nat → Nat → Int) (wr : World) : Prop := ∃ K L : Nat → Nat → Int, Ex (fun q => q = a ∨ q = b) w0 wr ∧ (Row wr a n K ∧ Half n (k + 1) D A K) ∧ (Row wr b n L ∧ Half n k E B L)
theorem ci_a {w0 wr w7 : World} {a b n k : Nat} {D E A B : Nat → Nat → Int} (h : CI w0 a b n k D E A B wr) (hk : k < n) (ne : a ≠ b) (hx : Below wr.heap.size wr w7) {v0 v1 v2 v3 : Int} (e0 : v0 = D k 0) (e1 : v1 = D k 1) (e2 : v2 = D k 2) (e3 : v3 = D k 3) :
    CJ w0 a b n k D E A B ((((w7.setCell ⟨a, k * 4, none⟩ (.int .i64 v0)).setCell ⟨a, k * 4 + 1, none⟩ (.int .i64 v1)).setCell ⟨a, k * 4 + 2, none⟩ (.int .i64 v2)).setCell ⟨a, k * 4 + 3, none⟩ (.int .i64 v3)) := by
  subst e0 e1 e2 e3
  obtain ⟨K, L, x, ⟨rA, hA⟩, ⟨rB, hB⟩⟩ := h
  have x1 := Ex.of_below (S := fun _ => False) hx
  obtain ⟨c1, c2⟩ := chain1 (rA.ex x1 (fun h => h)) hk (D k 0) (D k 1) (D k 2) (D k 3)
  exact ⟨_, L, (x.trans (x1.mono (fun _ h => h.elim))).trans (c1.mono (fun _ h => .inl h)), ⟨c2, half_step hA hk⟩, ⟨(rB.ex x1 (fun h => h)).ex c1 (Ne.symm ne), hB⟩⟩
theorem ci_b {w0 wr w7 : World} {a b n k : Nat} {D E A B : Nat → Nat → Int} (h : CJ w0 a b n k D E A B wr) (hk : k < n) (ne : a ≠ b) (hx : Below wr.heap.size wr w7) {v0 v1 v2 v3 : Int} (e0 : v0 = E k 0) (e1 : v1 = E k 1) (e2 : v2 = E k 2) (e3 : v3 = E k 3) :
    CI w0 a b n (k + 1) D E A B ((((w7.setCell ⟨b, k * 4, none⟩ (.int .i64 v0)).setCell ⟨b, k * 4 + 1, none⟩ (.int .i64 v1)).setCell ⟨b, k * 4 + 2, none⟩ (.int .i64 v2)).setCell ⟨b, k * 4 + 3, none⟩ (.int .i64 v3)) := by
  subst e0 e1 e2 e3
  obtain ⟨K, L, x, ⟨rA, hA⟩, ⟨rB, hB⟩⟩ := h
  have x1 := Ex.of_below (S := fun _ => False) hx
  obtain ⟨c1, c2⟩ := chain1 (rB.ex x1 (fun h => h)) hk (E k 0) (E k 1) (E k 2) (E k 3)
  exact ⟨K, _, (x.trans (x1.mono (fun _ h => h.elim))).trans (c1.mono (fun _ h => .inr h)), ⟨(rA.ex x1 (fun h => h)).ex c1 ne, hA⟩, ⟨c2, half_step hB hk⟩⟩
theorem ci_x {w0 wr w7 : World} {a b n k : Nat} {D E A B : Nat → Nat → Int} (h : CI w0 a b n k D E A B wr) (hk : k < n) (ne : a ≠ b) (hx : Below wr.heap.size wr w7) {v0 v1 v2 v3 u0 u1 u2 u3 : Int} (e0 : v0 = D k 0) (e1 : v1 = D k 1) (e2 : v2 = D k 2) (e3 : v3 = D k 3) (d0 : u0 = E k 0) (d1 : u1 = E k 1) (d2 : u2 = E k 2) (d3 : u3 = E k 3) :
    CI w0 a b n (k + 1) D E A B ((((((((w7.setCell ⟨a, k * 4, none⟩ (.int .i64 v0)).setCell ⟨a, k * 4 + 1, none⟩ (.int .i64 v1)).setCell ⟨a, k * 4 + 2, none⟩ (.int .i64 v2)).setCell ⟨a, k * 4 + 3, none⟩ (.int .i64 v3)).setCell ⟨b, k * 4, none⟩ (.int .i64 u0)).setCell ⟨b, k * 4 + 1, none⟩ (.int .i64 u1)).setCell ⟨b, k * 4 + 2, none⟩ (.int .i64 u2)).setCell ⟨b, k * 4 + 3, none⟩ (.int .i64 u3)) :=
  ci_b (ci_a h hk ne hx e0 e1 e2 e3) hk ne (Below.refl _ _) d0 d1 d2 d3
theorem Ends.ex {S : Nat → Prop} {w w' : World} (h : Ends w) (hx : Ex S w w') (hs : ¬ S 0) : Ends w' :=
  ⟨(hx.cell (block_lt h.1) hs).trans h.1, (hx.cell (block_lt h.1) hs).trans h.2.1, (hx.cell (block_lt h.1) hs).trans h.2.2.1, (hx.cell (block_lt h.1) hs).trans h.2.2.2⟩
theorem CI.cellsA {w0 wr : World} {a b n k : Nat} {D E A B : Nat → Nat → Int} (h : CI w0 a b n k D E A B wr) (hk : k < n) : (wr.cell? ⟨a, k * 4, none⟩ = some (.int .i64 (A k 0)) ∧ wr.cell? ⟨a, k * 4 + 1, none⟩ = some (.int .i64 (A k 1)) ∧ wr.cell? ⟨a, k * 4 + 2, none⟩ = some (.int .i64 (A k 2)) ∧ wr.cell? ⟨a, k * 4 + 3, none⟩ = some (.int .i64 (A k 3))) ∧ (wr.frozen? ⟨a, k * 4, none⟩ = false ∧ wr.frozen? ⟨a, k * 4 + 1, none⟩ = false ∧ wr.frozen? ⟨a, k * 4 + 2, none⟩ = false ∧ wr.frozen? ⟨a, k * 4 + 3, none⟩ = false) ∧ a < wr.heap.size := by
  obtain ⟨K, L, x, ⟨rA, hA⟩, _⟩ := h
  obtain ⟨a0, a1, a2, a3⟩ := rA.at4 hk
  rw [hA.2 k (Nat.le_refl _) hk 0 (by omega)] at a0
  rw [hA.2 k (Nat.le_refl _) hk 1 (by omega)] at a1
  rw [hA.2 k (Nat.le_refl _) hk 2 (by omega)] at a2
  rw [hA.2 k (Nat.le_refl _) hk 3 (by omega)] at a3
  exact ⟨⟨a0, a1, a2, a3⟩, rA.free4 hk, rA.1⟩
theorem half_b {w0 wr : World} {a b n k j : Nat} {D E A B : Nat → Nat → Int} (h : ∃ K L : Nat → Nat → Int, Ex (fun q => q = a ∨ q = b) w0 wr ∧ (Row wr a n K ∧ Half n j D A K) ∧ (Row wr b n L ∧ Half n k E B L)) (hk : k < n) : (wr.cell? ⟨b, k * 4, none⟩ = some (.int .i64 (B k 0)) ∧ wr.cell? ⟨b, k * 4 + 1, none⟩ = some (.int .i64 (B k 1)) ∧ wr.cell? ⟨b, k * 4 + 2, none⟩ = some (.int .i64 (B k 2)) ∧ wr.cell? ⟨b, k * 4 + 3, none⟩ = some (.int .i64 (B k 3))) ∧ (wr.frozen? ⟨b, k * 4, none⟩ = false ∧ wr.frozen? ⟨b, k * 4 + 1, none⟩ = false ∧ wr.frozen? ⟨b, k * 4 + 2, none⟩ = false ∧ wr.frozen? ⟨b, k * 4 + 3, none⟩ = false) ∧ b < wr.heap.size := by
  obtain ⟨K, L, x, _, ⟨rB, hB⟩⟩ := h
  obtain ⟨b0, b1, b2, b3⟩ := rB.at4 hk
  rw [hB.2 k (Nat.le_refl _) hk 0 (by omega)] at b0
  rw [hB.2 k (Nat.le_refl _) hk 1 (by omega)] at b1
  rw [hB.2 k (Nat.le_refl _) hk 2 (by omega)] at b2
  rw [hB.2 k (Nat.le_refl _) hk 3 (by omega)] at b3
  exact ⟨⟨b0, b1, b2, b3⟩, rB.free4 hk, rB.1⟩
theorem CI.exx {w0 wr : World} {a b n k : Nat} {D E A B : Nat → Nat → Int} (h : CI w0 a b n k D E A B wr) : Ex (fun q => q = a ∨ q = b) w0 wr := by obtain ⟨_, _, x, _⟩ := h; exact x
theorem CJ.exx {w0 wr : World} {a b n k : Nat} {D E A B : Nat → Nat → Int} (h : CJ w0 a b n k D E A B wr) : Ex (fun q => q = a ∨ q = b) w0 wr := by obtain ⟨_, _, x, _⟩ := h; exact x
theorem CI.done {w0 wr : World} {a b n : Nat} {D E A B : Nat → Nat → Int} (h : CI w0 a b n n D E A B wr) : (Row wr a n D ∧ Row wr b n E) ∧ Ex (fun q => q = a ∨ q = b) w0 wr := by
  obtain ⟨K, L, x, ⟨rA, hA⟩, ⟨rB, hB⟩⟩ := h
  exact ⟨⟨rA.eqG (half_all hA), rB.eqG (half_all hB)⟩, x⟩
end Go.Proofs.YtmkhbkkhoemkoaaGreatDoor
