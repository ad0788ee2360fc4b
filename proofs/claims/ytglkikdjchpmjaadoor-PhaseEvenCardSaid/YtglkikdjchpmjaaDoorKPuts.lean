/- Grids that are moved: by the program. -/
import Derived.Test.YtglkikdjchpmjaaDoorKDiff
import Derived.Test.YtglkikdjchpmjaaDoorKGMath
import Derived.Deep.RegionLaw
namespace Go.Proofs.YtglkikdjchpmjaaDoor
set_option linter.unusedSimpArgs false
set_option linter.unusedVariables false
open Go.RowKit

/-- While cells are moved. -/
def Mv (w : World) (W H wide high : Int) (b off n cap : Nat) (G K : Nat → Nat → Int) (wr : World) : Prop :=
  Three wr w.heap.size 24 (.int .i64 W) (.int .i64 H) (.slice (some ⟨b, off, none⟩) n cap) ∧ Three wr (w.heap.size + 1) 24 (.int .i64 0) (.int .i64 0) (.slice none 0 0) ∧ Three wr (w.heap.size + 3) 24 (.int .i64 wide) (.int .i64 high) (.slice (some ⟨w.heap.size + 2, 0, none⟩) n n) ∧ Row wr (w.heap.size + 2) n K ∧ Below w.heap.size w wr
theorem Mv.step {w wr wr' : World} {W H wide high : Int} {b off n cap : Nat} {G K K' : Nat → Nat → Int} (h : Mv w W H wide high b off n cap G K wr) (hx : Ex (fun k => k = w.heap.size + 2) wr wr') (hr : Row wr' (w.heap.size + 2) n K') : Mv w W H wide high b off n cap G K' wr' := by
  obtain ⟨t0, t1, t3, _, hb⟩ := h
  exact ⟨t0.ex hx (by omega), t1.ex hx (by omega), t3.ex hx (by omega), hr, hb.trans (hx.below hb.size (fun k hk => by omega))⟩
theorem mv_start (w : World) (W H wide high : Int) (b off n cap : Nat) (G : Nat → Nat → Int) (hn : n ≤ 100000) :
    Mv w W H wide high b off n cap G (fun _ _ => 0) ((((w.alloc (.cells #[.int .i64 W, .int .i64 H, .slice (some ⟨b, off, none⟩) n cap] 24)).alloc (.cells #[.int .i64 0, .int .i64 0, .slice none 0 0] 24)).alloc (.cells (zeros n) 77)).alloc (.cells #[.int .i64 wide, .int .i64 high, .slice (some ⟨w.heap.size + 1 + 1, 0, none⟩) n n] 24)) := by
  have b0 : Below w.heap.size w (((w.alloc (.cells #[.int .i64 W, .int .i64 H, .slice (some ⟨b, off, none⟩) n cap] 24)).alloc (.cells #[.int .i64 0, .int .i64 0, .slice none 0 0] 24)).alloc (.cells (zeros n) 77)) := by (repeat' (first | (with_reducible exact Below.refl _ _) | (with_reducible refine Below.setCell ?_ (by first | omega | (simp; done) | (simp; omega)) _) | (with_reducible refine Below.alloc ?_ (by first | omega | (simp; done) | (simp; omega)) _) | (with_reducible refine Below.drew ?_) | (with_reducible refine below_drewN ?_ _) | (with_reducible refine Below.trans ?_ (Below.mono (by assumption) (by first | omega | (simp; done) | (simp; omega))))))
  have x : Ex (fun _ => False) ((w.alloc (.cells #[.int .i64 W, .int .i64 H, .slice (some ⟨b, off, none⟩) n cap] 24)).alloc (.cells #[.int .i64 0, .int .i64 0, .slice none 0 0] 24)) ((((w.alloc (.cells #[.int .i64 W, .int .i64 H, .slice (some ⟨b, off, none⟩) n cap] 24)).alloc (.cells #[.int .i64 0, .int .i64 0, .slice none 0 0] 24)).alloc (.cells (zeros n) 77)).alloc (.cells #[.int .i64 wide, .int .i64 high, .slice (some ⟨w.heap.size + 1 + 1, 0, none⟩) n n] 24)) := ((Ex.refl _ _).alloc _).alloc _
  refine ⟨?_, (Three.new1 w _ _ _ _ _).ex x (fun h => h), ?_, ?_, b0.alloc (by simp; omega) _⟩
  · have t : Three (w.alloc (.cells #[.int .i64 W, .int .i64 H, .slice (some ⟨b, off, none⟩) n cap] 24)) w.heap.size 24 (.int .i64 W) (.int .i64 H) (.slice (some ⟨b, off, none⟩) n cap) := World.alloc_heap_new w _
    exact (t.ex ((Ex.refl (fun _ => False) _).alloc _) (fun h => h)).ex x (fun h => h)
  · have := World.alloc_heap_new (((w.alloc (.cells #[.int .i64 W, .int .i64 H, .slice (some ⟨b, off, none⟩) n cap] 24)).alloc (.cells #[.int .i64 0, .int .i64 0, .slice none 0 0] 24)).alloc (.cells (zeros n) 77)) (.cells #[.int .i64 wide, .int .i64 high, .slice (some ⟨w.heap.size + 1 + 1, 0, none⟩) n n] 24)
    simp only [World.size_alloc] at this
    exact this
  · have := row_zeros ((w.alloc (.cells #[.int .i64 W, .int .i64 H, .slice (some ⟨b, off, none⟩) n cap] 24)).alloc (.cells #[.int .i64 0, .int .i64 0, .slice none 0 0] 24)) n
    simp only [World.size_alloc] at this
    exact this.alloc _

/-- The cells below k have come to their places. -/
def Put (σ : Nat → Nat) (D K : Nat → Nat → Int) (k : Nat) : Prop := ∀ j, j < k → ∀ d, d < 4 → K (σ j) d = D j d
theorem put_step {n : Nat} {σ : Nat → Nat} {D K : Nat → Nat → Int} {k : Nat} (hinj : ∀ i j, i < n → j < n → σ i = σ j → i = j) (hk : k < n) (h : Put σ D K k) :
    Put σ D (upd (upd (upd (upd K (σ k) 0 (D k 0)) (σ k) 1 (D k 1)) (σ k) 2 (D k 2)) (σ k) 3 (D k 3)) (k + 1) := by
  intro j hj d hd
  have e : upd (upd (upd (upd K (σ k) 0 (D k 0)) (σ k) 1 (D k 1)) (σ k) 2 (D k 2)) (σ k) 3 (D k 3) (σ j) d = if σ j = σ k then D k d else K (σ j) d := by
    unfold upd
    match d, hd with
    | 0, _ => simp
    | 1, _ => simp
    | 2, _ => simp
    | 3, _ => simp
  rw [e]
  by_cases ej : j = k
  · subst ej; rw [if_pos rfl]
  · rw [if_neg (fun e' => ej (hinj j k (by omega) hk e'))]
    exact h j (by omega) d hd
theorem put_all {n : Nat} {σ τ : Nat → Nat} {D K L : Nat → Nat → Int} (h : Put σ D K n) (ht : ∀ i, i < n → τ i < n ∧ σ (τ i) = i) (hL : ∀ j, j < n → ∀ d, d < 4 → L (σ j) d = D j d) : EqG n K L := by
  intro i hi d hd
  obtain ⟨h1, h2⟩ := ht i hi
  have a := h (τ i) h1 d hd
  have b := hL (τ i) h1 d hd
  rw [h2] at a b
  rw [a, b]

end Go.Proofs.YtglkikdjchpmjaaDoor

/- Put and Take: by the program. -/




namespace Go.Proofs.YtglkikdjchpmjaaDoor
set_option linter.unusedSimpArgs false
set_option linter.unusedVariables false
open Go.RowKit

/-- A point on the grid, and a direction. -/
def Pop (W H px py d : Int) : Prop := 0 ≤ px ∧ px < W ∧ 0 ≤ py ∧ py < H ∧ 0 ≤ d ∧ d ≤ 3
def Cnt (v : Int) : Prop := 0 ≤ v ∧ v ≤ 1000000000

theorem Grd.at {w : World} {b off n : Nat} {G : Nat → Nat → Int} (h : Grd w b off n G) {i d : Nat} (hi : i < n) (hd : d < 4) : w.cell? ⟨b, off + i * 4 + d, none⟩ = some (.int .i64 (G i d)) := by
  have := h.flat (i * 4 + d) (by omega)
  rw [show (i * 4 + d) / 4 = i by omega, show (i * 4 + d) % 4 = d by omega, ← Nat.add_assoc] at this
  exact this

/-- The place of a point. -/
theorem pop_place {W H n : Nat} {px py d : Int} (s : Sides W H n) (h : Pop W H px py d) : ∃ q k : Nat, q < n ∧ k < 4 ∧ d = k ∧ px + (W : Int) * py = q ∧ 0 ≤ px ∧ px ≤ 5000 ∧ 0 ≤ py ∧ py ≤ 5000 := by
  obtain ⟨h0, h1, h2, h3, h4, h5⟩ := h
  obtain ⟨x, rfl⟩ := Int.eq_ofNat_of_zero_le h0
  obtain ⟨y, rfl⟩ := Int.eq_ofNat_of_zero_le h2
  obtain ⟨k, rfl⟩ := Int.eq_ofNat_of_zero_le h4
  have := s.w1
  have := s.h1
  exact ⟨x + W * y, k, by rw [s.n0]; exact xy_lt (by omega) (by omega), by omega, rfl, by simp, by omega, by omega, by omega, by omega⟩

end Go.Proofs.YtglkikdjchpmjaaDoor

/- Shifted, Turned, Mirrored, Reversed: by the program. -/

namespace Go.Proofs.YtglkikdjchpmjaaDoor
set_option linter.unusedSimpArgs false
set_option linter.unusedVariables false
open Go.RowKit

set_option maxHeartbeats 400000 in
theorem around_all (n m : Int) (w : World) (hm : 0 < m) (hm' : m ≤ 4000000000) :
    Calls Tryd.prog 212 #[.int .i64 n, .int .i64 m] w fun e w' => e = .returned (.int .i64 (n % m)) ∧ w = w' := by
  have q0 := Int.emod_nonneg n (show m ≠ 0 by omega)
  have q1 := Int.emod_lt_of_pos n hm
  by_cases hn : 0 ≤ n
  · go_enter Tryd.func212, Tryd.ntmps212
    go_wp2
    go_ret
    exact ⟨rfl, rfl⟩
  · rcases tmod_neg (n := n) (m := m) (by omega) hm with ⟨t0, t1⟩ | ⟨t0, t1⟩
    · have T := Lib.hid t1; clear t1
      have t2 : -4000000000 ≤ n.tmod m := by have := T.out; omega
      have t3 : n.tmod m + m ≤ 4000000000 := by have := T.out; omega
      go_enter Tryd.func212, Tryd.ntmps212
      go_wp2
      go_ret
      exact ⟨ret_i T.out, rfl⟩
    · have T := Lib.hid t1; clear t1
      have T0 := Lib.hid t0
      have t2 : 0 ≤ n.tmod m := by omega
      have t3 : n.tmod m ≤ 0 := by omega
      clear t0
      go_enter Tryd.func212, Tryd.ntmps212
      go_wp2
      go_ret
      exact ⟨ret_i (by rw [T.out, T0.out]), rfl⟩

theorem xy_int {W H n k : Nat} (s : Sides W H n) (hk : k < n) : (k : Int) % (W : Int) = ((k % W : Nat) : Int) ∧ (k : Int) / (W : Int) = ((k / W : Nat) : Int) ∧ k % W < W ∧ k / W < H ∧ 0 ≤ (k : Int) % (W : Int) ∧ 0 ≤ (k : Int) / (W : Int) :=
  ⟨(Int.natCast_emod _ _).symm, (Int.natCast_ediv _ _).symm, (xy_of (s.n0 ▸ hk)).1, (xy_of (s.n0 ▸ hk)).2.1, by rw [← Int.natCast_emod]; exact Int.natCast_nonneg _, by rw [← Int.natCast_ediv]; exact Int.natCast_nonneg _⟩

attribute [local irreducible] wpStill
end Go.Proofs.YtglkikdjchpmjaaDoor
