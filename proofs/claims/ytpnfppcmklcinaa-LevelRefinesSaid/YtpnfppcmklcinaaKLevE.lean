/- Levels, by the program: an empty grid, the four fine cells of a coarse one. -/
import Derived.Test.YtpnfppcmklcinaaKParts
import Derived.Test.YtpnfppcmklcinaaKMach
import Derived.Test.YtpnfppcmklcinaaKRefG4
namespace Go.Proofs.Ytpnfppcmklcinaa
set_option linter.unusedSimpArgs false
set_option linter.unusedVariables false
open Go.RowKit

/-- A grid of one's own that was made. -/
def GaveE (W H : Int) (n : Nat) (K : Nat → Nat → Int) (w : World) (e : Ending) (w' : World) : Prop :=
  ∃ b c, e = .returned (.tuple #[.agg #[.int .i64 W, .int .i64 H, .slice (some ⟨b, 0, none⟩) n c], .int .i64 0]) ∧ Row w' b n K ∧ w.heap.size + 1 ≤ b ∧ Below w.heap.size w w'

theorem zeroG_pos (n : Nat) : OkG n (fun _ _ => 0) := okG_all (fun _ _ _ _ => Int.le_refl _) (by rw [wt_sm, sm_zero]; decide)

set_option maxRecDepth 100000 in
set_option maxHeartbeats 1000000 in
theorem emptyG_ok (W H n : Nat) (w : World) (s : Sides W H n) : Calls Try.prog 109 #[.int .i64 W, .int .i64 H] w (GaveE W H n (fun _ _ => 0) w) := by
  have hp : (n : Int) = (W : Int) * (H : Int) := by rw [s.n0, Int.natCast_mul]
  have hmk := fun wx => run_zeros n (by have := s.n1; omega) wx
  have hsd := (vg_of s (zeroG_pos n)).1
  have HZ := Lib.hid (fun wx => size_ok W H n wx hsd hp)
  clear s hp hsd
  go_enter Try.func109, Try.ntmps109
  go_wp2_with (go_at_call 161; (with_reducible refine (HZ.out _).mono ?_); rintro e w1 ⟨rfl, rfl⟩)
  refine bodyPost_ret (v := .tuple #[.agg #[.int .i64 W, .int .i64 H, .slice (some ⟨w.heap.size + 1, 0, none⟩) n n], .int .i64 0]) (by simp [results, Try.results109, go_sem, ↓IntWalk.iteOmega, *]) rfl ?_
  refine ⟨w.heap.size + 1, n, rfl, ?_, by omega, by (repeat' (first | (with_reducible exact Below.refl _ _) | (with_reducible refine Below.setCell ?_ (by first | omega | (simp; done) | (simp; omega)) _) | (with_reducible refine Below.alloc ?_ (by first | omega | (simp; done) | (simp; omega)) _) | (with_reducible refine Below.drew ?_) | (with_reducible refine below_drewN ?_ _) | (with_reducible refine Below.trans ?_ (Below.mono (by assumption) (by first | omega | (simp; done) | (simp; omega))))))⟩
  have r := row_zeros (w.alloc (.cells #[.int .i64 W, .int .i64 H, .slice (some ⟨w.heap.size + 1, 0, none⟩) n n] 34)) n
  rw [World.size_alloc] at r
  exact r

set_option maxRecDepth 100000 in
set_option maxHeartbeats 1000000 in
theorem emptyG_bad (W H : Int) (w : World) (h : ((W < 1 ∨ 64 < W) ∨ (H < 1 ∨ 64 < H)) ∨ (((1 ≤ W ∧ W ≤ 64) ∧ (1 ≤ H ∧ H ≤ 64)) ∧ 1024 < W * H)) :
    Calls Try.prog 109 #[.int .i64 W, .int .i64 H] w fun e w' => (∃ z : Int, z ≠ 0 ∧ e = .returned (.tuple #[.agg #[.int .i64 0, .int .i64 0, .slice (none) 0 0], .int .i64 z])) ∧ Below w.heap.size w w' := by
  rcases h with h | ⟨⟨⟨h1, h2⟩, h3, h4⟩, h5⟩
  · have HS := Lib.hid h; clear h
    go_enter Try.func109, Try.ntmps109
    go_wp2_with (go_at_call 161; (with_reducible refine (size_range W H _ HS.out).mono ?_); rintro e w1 ⟨rfl, rfl⟩)
    refine bodyPost_ret (v := .tuple #[.agg #[.int .i64 0, .int .i64 0, .slice (none) 0 0], .int .i64 7]) (by simp [results, Try.results109, go_sem, ↓IntWalk.iteOmega, *]) rfl ⟨⟨7, by omega, rfl⟩, ?_⟩
    (repeat' (first | (with_reducible exact Below.refl _ _) | (with_reducible refine Below.setCell ?_ (by first | omega | (simp; done) | (simp; omega)) _) | (with_reducible refine Below.alloc ?_ (by first | omega | (simp; done) | (simp; omega)) _) | (with_reducible refine Below.drew ?_) | (with_reducible refine below_drewN ?_ _) | (with_reducible refine Below.trans ?_ (Below.mono (by assumption) (by first | omega | (simp; done) | (simp; omega))))))
  · go_enter Try.func109, Try.ntmps109
    go_wp2_with (go_at_call 161; (with_reducible refine (size_limit W H _ h1 h2 h3 h4 h5).mono ?_); rintro e w1 ⟨rfl, rfl⟩)
    refine bodyPost_ret (v := .tuple #[.agg #[.int .i64 0, .int .i64 0, .slice (none) 0 0], .int .i64 4]) (by simp [results, Try.results109, go_sem, ↓IntWalk.iteOmega, *]) rfl ⟨⟨4, by omega, rfl⟩, ?_⟩
    (repeat' (first | (with_reducible exact Below.refl _ _) | (with_reducible refine Below.setCell ?_ (by first | omega | (simp; done) | (simp; omega)) _) | (with_reducible refine Below.alloc ?_ (by first | omega | (simp; done) | (simp; omega)) _) | (with_reducible refine Below.drew ?_) | (with_reducible refine below_drewN ?_ _) | (with_reducible refine Below.trans ?_ (Below.mono (by assumption) (by first | omega | (simp; done) | (simp; omega))))))

set_option maxHeartbeats 1000000 in
theorem quarters_any (x y v f : Int) (w : World) (x0 : 0 ≤ x) (x1 : x ≤ 64) (y0 : 0 ≤ y) (y1 : y ≤ 64) (v0 : 0 ≤ v) (v1 : v ≤ 128) (hf : v * 2 * y = f - 2 * x) (f0 : 0 ≤ f) (f1 : f ≤ 100000) :
    Calls Try.prog 110 #[.int .i64 x, .int .i64 y, .int .i64 v] w fun e w' => e = .returned (.agg #[.int .i64 f, .int .i64 (f + 1), .int .i64 (f + v), .int .i64 (f + v + 1)]) ∧ Below w.heap.size w w' := by
  have e1 : 2 * x + (f - 2 * x) = f := by omega
  go_enter Try.func110, Try.ntmps110
  go_wp2
  refine bodyPost_ret (v := .agg #[.int .i64 f, .int .i64 (f + 1), .int .i64 (f + v), .int .i64 (f + v + 1)]) (by simp [results, Try.results110, go_sem, ↓IntWalk.iteOmega, *]) rfl ⟨rfl, ?_⟩
  (repeat' (first | (with_reducible exact Below.refl _ _) | (with_reducible refine Below.setCell ?_ (by first | omega | (simp; done) | (simp; omega)) _) | (with_reducible refine Below.alloc ?_ (by first | omega | (simp; done) | (simp; omega)) _) | (with_reducible refine Below.drew ?_) | (with_reducible refine below_drewN ?_ _) | (with_reducible refine Below.trans ?_ (Below.mono (by assumption) (by first | omega | (simp; done) | (simp; omega))))))
theorem quarters_at (W H i : Nat) (w : World) (hW : W ≤ 64) (hH : H ≤ 64) (hi : i < W * H) :
    Calls Try.prog 110 #[.int .i64 ((i % W : Nat)), .int .i64 ((i / W : Nat)), .int .i64 (2 * (W : Int))] w fun e w' => e = .returned (.agg #[.int .i64 ((q4 W i 0 : Nat)), .int .i64 ((q4 W i 1 : Nat)), .int .i64 ((q4 W i 2 : Nat)), .int .i64 ((q4 W i 3 : Nat))]) ∧ Below w.heap.size w w' := by
  obtain ⟨h1, h2, h3, h4⟩ := xy_of hi
  have hm : W * (i / W) ≤ 64 * 64 := Nat.mul_le_mul hW (by omega)
  have e2 : 2 * W * (2 * (i / W)) = 4 * (W * (i / W)) := by rw [Nat.mul_mul_mul_comm]
  have e2' : 2 * W * (2 * (i / W) + 1) = 4 * (W * (i / W)) + 2 * W := by rw [Nat.mul_add, e2, Nat.mul_one]
  have e0 : q4 W i 0 = 2 * (i % W) + 4 * (W * (i / W)) := by unfold q4; rw [show 0 % 2 = 0 from rfl, show 0 / 2 = 0 from rfl, Nat.add_zero, Nat.add_zero, e2]
  have e1 : q4 W i 1 = 2 * (i % W) + 1 + 4 * (W * (i / W)) := by unfold q4; rw [show 1 % 2 = 1 from rfl, show 1 / 2 = 0 from rfl, show 2 * (i / W) + 0 = 2 * (i / W) from rfl, e2]
  have e3 : q4 W i 2 = 2 * (i % W) + (4 * (W * (i / W)) + 2 * W) := by unfold q4; rw [show 2 % 2 = 0 from rfl, show 2 / 2 = 1 from rfl, Nat.add_zero, e2']
  have e4 : q4 W i 3 = 2 * (i % W) + 1 + (4 * (W * (i / W)) + 2 * W) := by unfold q4; rw [show 3 % 2 = 1 from rfl, show 3 / 2 = 1 from rfl, e2']
  clear e2 e2' hi
  generalize i % W = X at *
  generalize i / W = Y at *
  obtain ⟨P, hP⟩ : ∃ P, P = W * Y := ⟨_, rfl⟩
  rw [← hP] at e0 e1 e3 e4 hm
  have g := quarters_any (X : Nat) (Y : Nat) (2 * (W : Int)) (q4 W i 0 : Nat) w (by omega) (by omega) (by omega) (by omega) (by omega) (by omega) (by
    rw [e0]
    have : (2 * (W : Int)) * 2 * (Y : Int) = 4 * (P : Int) := by
      rw [hP, Int.natCast_mul, show (2 * (W : Int)) * 2 = 4 * (W : Int) by omega, Int.mul_assoc]
    omega) (by omega) (by omega)
  rw [show ((q4 W i 0 : Nat) : Int) + 1 = (q4 W i 1 : Nat) by omega, show ((q4 W i 0 : Nat) : Int) + 2 * (W : Int) = (q4 W i 2 : Nat) by omega, show ((q4 W i 2 : Nat) : Int) + 1 = (q4 W i 3 : Nat) by omega] at g
  exact g

theorem index_quart0 (w : World) (a b c d : Int) : (Instr.index 22 (.agg #[.int .i64 a, .int .i64 b, .int .i64 c, .int .i64 d]) (.int .i64 0)).run Try.prog w = .ok (.int .i64 a) w := by kernel_rfl
theorem index_quart1 (w : World) (a b c d : Int) : (Instr.index 22 (.agg #[.int .i64 a, .int .i64 b, .int .i64 c, .int .i64 d]) (.int .i64 1)).run Try.prog w = .ok (.int .i64 b) w := by kernel_rfl
theorem index_quart2 (w : World) (a b c d : Int) : (Instr.index 22 (.agg #[.int .i64 a, .int .i64 b, .int .i64 c, .int .i64 d]) (.int .i64 2)).run Try.prog w = .ok (.int .i64 c) w := by kernel_rfl
theorem index_quart3 (w : World) (a b c d : Int) : (Instr.index 22 (.agg #[.int .i64 a, .int .i64 b, .int .i64 c, .int .i64 d]) (.int .i64 3)).run Try.prog w = .ok (.int .i64 d) w := by kernel_rfl
attribute [go_sem] index_quart0 index_quart1 index_quart2 index_quart3

/-- A row whose cells are some others, one cell at a time. -/
theorem upd4_at (K : Nat → Nat → Int) (q : Nat) (v0 v1 v2 v3 : Int) (j d : Nat) (hd : d < 4) : upd (upd (upd (upd K q 0 v0) q 1 v1) q 2 v2) q 3 v3 j d = if j = q then (if d = 0 then v0 else if d = 1 then v1 else if d = 2 then v2 else v3) else K j d := by
  unfold upd
  by_cases e : j = q
  · subst e
    have hd' : d = 0 ∨ d = 1 ∨ d = 2 ∨ d = 3 := by omega
    rcases hd' with rfl | rfl | rfl | rfl <;> simp
  · simp [e]
/-- The fine cells that are done: all of those before the coarse cell k, and t of its own. -/
def DoneR (W n k t : Nat) (G K : Nat → Nat → Int) : Prop := ∀ i p, i < n → p < 4 → (i < k ∨ (i = k ∧ p < t)) → ∀ d, d < 4 → K (q4 W i p) d = spl (G i d) p
theorem DoneR.step {W n k t : Nat} {G K : Nat → Nat → Int} (h : DoneR W n k t G K) (hW : 0 < W) (ht : t < 4) : DoneR W n k (t + 1) G (upd (upd (upd (upd K (q4 W k t) 0 (spl (G k 0) t)) (q4 W k t) 1 (spl (G k 1) t)) (q4 W k t) 2 (spl (G k 2) t)) (q4 W k t) 3 (spl (G k 3) t)) := by
  intro i p hi hp hl d hd
  rw [upd4_at _ _ _ _ _ _ _ _ hd]
  by_cases e : q4 W i p = q4 W k t
  · have e1 : i = k := by rw [← crs_q4 (i := i) hW hp, e, crs_q4 hW ht]
    have e2 : p = t := by rw [← prt_q4 (i := i) hW hp, e, prt_q4 hW ht]
    subst e1
    subst e2
    rw [if_pos rfl]
    have hd' : d = 0 ∨ d = 1 ∨ d = 2 ∨ d = 3 := by omega
    rcases hd' with rfl | rfl | rfl | rfl <;> simp
  · rw [if_neg e]
    refine h i p hi hp ?_ d hd
    rcases hl with hl | ⟨hl, hq⟩
    · exact .inl hl
    · refine .inr ⟨hl, ?_⟩
      have : p ≠ t := fun x => e (by rw [hl, x])
      omega
theorem DoneR.next {W n k : Nat} {G K : Nat → Nat → Int} (h : DoneR W n k 4 G K) : DoneR W n (k + 1) 0 G K := by
  intro i p hi hp hl d hd
  refine h i p hi hp ?_ d hd
  omega
theorem DoneR.all {W H n m : Nat} {G K : Nat → Nat → Int} (h : DoneR W n n 0 G K) (hn : n = W * H) (hm : m = n * 4) : EqG m K (refG W G) := by
  intro j hj d hd
  have hmm : m = 2 * W * (2 * H) := by rw [hm, hn, Nat.mul_mul_mul_comm, Nat.mul_comm]
  rw [hmm] at hj
  obtain ⟨h1, _, _⟩ := crs_parts hj
  have := h (crs W j) (prt W j) (by rw [hn]; exact h1) (prt_lt W j) (.inl (by rw [hn]; exact h1)) d hd
  rw [q4_crs hj] at this
  exact this
end Go.Proofs.Ytpnfppcmklcinaa
