/- Reversed, Shifted, Turned, Mirrored: by the reference. -/
import Derived.Test.YtnkehlankidlnaaStreamed
import Derived.Test.YtnkehlankidlnaaMoves
namespace Go.Proofs.Ytnkehlankidlnaa
set_option linter.unusedSimpArgs false
set_option linter.unusedVariables false
open Go.RowKit

/-- While the reference moves cells. -/
def RMv (w : World) (P o co : Nat) (W H wide high : Int) (b off n cap : Nat) (K : Nat → Nat → Int) (wr : World) : Prop :=
  Three wr w.heap.size 40 (.int .i64 W) (.int .i64 H) (.slice (some ⟨b, off, none⟩) n cap) ∧ Three wr (w.heap.size + 1) 40 (.int .i64 0) (.int .i64 0) (.slice none 0 0) ∧ Three wr P 40 (.int .i64 wide) (.int .i64 high) (.slice (some ⟨o, 0, none⟩) n co) ∧ Row wr o n K ∧ w.heap.size + 1 < o ∧ P ≠ o ∧ w.heap.size + 1 < P ∧ Below w.heap.size w wr

theorem RMv.step {w wr wr' : World} {P o co : Nat} {W H wide high : Int} {b off n cap : Nat} {K K' : Nat → Nat → Int} (h : RMv w P o co W H wide high b off n cap K wr) (hx : Ex (fun k => k = o) wr wr') (hr : Row wr' o n K') : RMv w P o co W H wide high b off n cap K' wr' := by
  obtain ⟨t0, t1, t3, _, q0, q1, q2, hb⟩ := h
  exact ⟨t0.ex hx (by omega), t1.ex hx (by omega), t3.ex hx (by omega), hr, q0, q1, q2, hb.trans (hx.below hb.size (fun k hk => by omega))⟩

theorem rmv_start {w wo : World} {o co : Nat} {W H wide high : Int} {b off n cap : Nat} (hb : Below ((w.alloc (.cells #[.int .i64 W, .int .i64 H, .slice (some ⟨b, off, none⟩) n cap] 40)).alloc (.cells #[.int .i64 0, .int .i64 0, .slice none 0 0] 40)).heap.size ((w.alloc (.cells #[.int .i64 W, .int .i64 H, .slice (some ⟨b, off, none⟩) n cap] 40)).alloc (.cells #[.int .i64 0, .int .i64 0, .slice none 0 0] 40)) wo)
    (hr : Row wo o n (fun _ _ => 0)) (ho : w.heap.size + 1 < o) :
    RMv w wo.heap.size o co W H wide high b off n cap (fun _ _ => 0) (wo.alloc (.cells #[.int .i64 wide, .int .i64 high, .slice (some ⟨o, 0, none⟩) n co] 40)) := by
  have x : Ex (fun _ => False) wo (wo.alloc (.cells #[.int .i64 wide, .int .i64 high, .slice (some ⟨o, 0, none⟩) n co] 40)) := (Ex.refl _ _).alloc _
  have t0 : Three ((w.alloc (.cells #[.int .i64 W, .int .i64 H, .slice (some ⟨b, off, none⟩) n cap] 40)).alloc (.cells #[.int .i64 0, .int .i64 0, .slice none 0 0] 40)) w.heap.size 40 (.int .i64 W) (.int .i64 H) (.slice (some ⟨b, off, none⟩) n cap) := (Three.new0 w _ _ _ _).below ((Below.refl _ _).alloc (Nat.le_refl _) _) (by simp)
  have hs := hb.size
  simp at hs
  have hB : Below w.heap.size w wo := (((Below.refl _ w).alloc (Nat.le_refl _) _).alloc (by simp) _).trans (hb.mono (by simp; omega))
  have hlt := hr.1
  exact ⟨(t0.below hb (by simp; omega)).ex x (fun h => h), ((Three.new1 w _ _ _ _ _).below hb (by simp)).ex x (fun h => h), Three.new0 wo _ _ _ _, hr.ex x (fun h => h), ho, by omega, by omega, hB.alloc (by omega) _⟩

set_option maxHeartbeats 400000 in
theorem modulo2_all (n m : Int) (w : World) (hm : 0 < m) (hm' : m ≤ 4000000000) :
    Calls Try.prog 79 #[.int .i64 n, .int .i64 m] w fun e w' => e = .returned (.int .i64 (n % m)) ∧ w = w' := by
  have q0 := Int.emod_nonneg n (show m ≠ 0 by omega)
  have q1 := Int.emod_lt_of_pos n hm
  by_cases hn : 0 ≤ n
  · go_enter Try.func79, Try.ntmps79
    go_wp2
    go_ret
    exact ⟨rfl, rfl⟩
  · rcases tmod_neg (n := n) (m := m) (by omega) hm with ⟨t0, t1⟩ | ⟨t0, t1⟩
    · have T := Lib.hid t1; clear t1
      have t2 : -4000000000 ≤ n.tmod m := by have := T.out; omega
      have t3 : n.tmod m + m ≤ 4000000000 := by have := T.out; omega
      go_enter Try.func79, Try.ntmps79
      go_wp2
      go_ret
      exact ⟨ret_i T.out, rfl⟩
    · have T := Lib.hid t1; clear t1
      have T0 := Lib.hid t0
      have t2 : 0 ≤ n.tmod m := by omega
      have t3 : n.tmod m ≤ 0 := by omega
      clear t0
      go_enter Try.func79, Try.ntmps79
      go_wp2
      go_ret
      exact ⟨ret_i (by rw [T.out, T0.out]), rfl⟩

theorem tmodW {k W : Nat} {X : Int} (h : (k : Int) % (W : Int) = X) : (k : Int).tmod (W : Int) = X := by rw [← h]; exact Int.tmod_eq_emod_of_nonneg (Int.natCast_nonneg _)

theorem sh_facts {W H n k a c q : Nat} (s : Sides W H n) (hk : k < n) (ha : a < W) (hc : c < H) (hq : q = shp W H a c k) : ∃ X Y A A2 B B2 M : Int, (k : Int) % (W : Int) = X ∧ (k : Int) / (W : Int) = Y ∧ X + a = A ∧ A % (W : Int) = A2 ∧ A.tmod W = A2 ∧ Y + c = B ∧ B % (H : Int) = B2 ∧ B.tmod H = B2 ∧ B2 * (W : Int) = M ∧ A2 + M = q ∧
    0 ≤ X ∧ X ≤ 5000 ∧ 0 ≤ Y ∧ Y ≤ 5000 ∧ 0 ≤ A ∧ A ≤ 5000 ∧ 0 ≤ B ∧ B ≤ 5000 ∧ 0 ≤ A2 ∧ A2 ≤ 5000 ∧ 0 ≤ B2 ∧ B2 ≤ 5000 ∧ 0 ≤ M ∧ M ≤ 5000 := by
  obtain ⟨e1, e2, h1, h2, h3, h4⟩ := xy_int s hk
  have hw := s.w1
  have hh := s.h1
  have m0 := Nat.mod_lt (k % W + a) (show 0 < W by omega)
  have m1 := Nat.mod_lt (k / W + c) (show 0 < H by omega)
  have f1 : ((k : Int) % (W : Int) + a) % (W : Int) = (((k % W + a) % W : Nat) : Int) := by rw [e1, ← Int.natCast_add, ← Int.natCast_emod]
  have f2 : ((k : Int) / (W : Int) + c) % (H : Int) = (((k / W + c) % H : Nat) : Int) := by rw [e2, ← Int.natCast_add, ← Int.natCast_emod]
  have f3 : (((k / W + c) % H : Nat) : Int) * (W : Int) = ((W * ((k / W + c) % H) : Nat) : Int) := by rw [Int.natCast_mul, Int.mul_comm]
  have f4 : W * ((k / W + c) % H) ≤ 64 * 64 := Nat.mul_le_mul hw (by omega)
  refine ⟨_, _, _, _, _, _, _, rfl, rfl, rfl, rfl, Int.tmod_eq_emod_of_nonneg (by omega), rfl, rfl, Int.tmod_eq_emod_of_nonneg (by omega), rfl, ?_, by omega, by omega, by omega, by omega, by omega, by omega, by omega, by omega, ?_, ?_, ?_, ?_, ?_, ?_⟩
  · rw [f1, f2, f3, hq, ← Int.natCast_add]
    rfl
  · rw [f1]; omega
  · rw [f1]; omega
  · rw [f2]; omega
  · rw [f2]; omega
  · rw [f2, f3]; exact Int.natCast_nonneg _
  · rw [f2, f3]; omega

theorem tu_facts {W H n k q : Nat} (s : Sides W H n) (hk : k < n) (hq : q = trp W H k) : ∃ X Y H1 A M : Int, (k : Int) % (W : Int) = X ∧ (k : Int) / (W : Int) = Y ∧ (H : Int) - 1 = H1 ∧ H1 - Y = A ∧ (H : Int) * X = M ∧ A + M = q ∧
    0 ≤ X ∧ X ≤ 5000 ∧ 0 ≤ Y ∧ Y ≤ 5000 ∧ 0 ≤ H1 ∧ H1 ≤ 5000 ∧ 0 ≤ A ∧ A ≤ 5000 ∧ 0 ≤ M ∧ M ≤ 5000 := by
  obtain ⟨e1, e2, h1, h2, h3, h4⟩ := xy_int s hk
  have hw := s.w1
  have hh := s.h1
  have f4 : H * (k % W) ≤ 64 * 64 := Nat.mul_le_mul hh (by omega)
  have f3 : (H : Int) * ((k % W : Nat) : Int) = ((H * (k % W) : Nat) : Int) := (Int.natCast_mul _ _).symm
  have f1 : (H : Int) - 1 - (k : Int) / (W : Int) = ((H - 1 - k / W : Nat) : Int) := by rw [e2]; generalize k / W = z at *; omega
  refine ⟨_, _, _, _, _, rfl, rfl, rfl, rfl, rfl, ?_, by omega, by omega, by omega, by omega, by omega, by omega, by omega, by omega, ?_, ?_⟩
  · rw [f1, e1, f3, hq, ← Int.natCast_add]
    rfl
  · rw [e1, f3]; exact Int.natCast_nonneg _
  · rw [e1, f3]; omega

theorem mi_facts {W H n k q : Nat} (s : Sides W H n) (hk : k < n) (hq : q = mip W k) : ∃ X Y H1 A M : Int, (k : Int) % (W : Int) = X ∧ (k : Int) / (W : Int) = Y ∧ (W : Int) - 1 = H1 ∧ H1 - X = A ∧ (W : Int) * Y = M ∧ A + M = q ∧
    0 ≤ X ∧ X ≤ 5000 ∧ 0 ≤ Y ∧ Y ≤ 5000 ∧ 0 ≤ H1 ∧ H1 ≤ 5000 ∧ 0 ≤ A ∧ A ≤ 5000 ∧ 0 ≤ M ∧ M ≤ 5000 := by
  obtain ⟨e1, e2, h1, h2, h3, h4⟩ := xy_int s hk
  have hw := s.w1
  have hh := s.h1
  have f4 : W * (k / W) ≤ 64 * 64 := Nat.mul_le_mul hw (by omega)
  have f3 : (W : Int) * ((k / W : Nat) : Int) = ((W * (k / W) : Nat) : Int) := (Int.natCast_mul _ _).symm
  have f1 : (W : Int) - 1 - (k : Int) % (W : Int) = ((W - 1 - k % W : Nat) : Int) := by rw [e1]; generalize k % W = z at *; omega
  refine ⟨_, _, _, _, _, rfl, rfl, rfl, rfl, rfl, ?_, by omega, by omega, by omega, by omega, by omega, by omega, by omega, by omega, ?_, ?_⟩
  · rw [f1, e2, f3, hq, ← Int.natCast_add]
    rfl
  · rw [e2, f3]; exact Int.natCast_nonneg _
  · rw [e2, f3]; omega

theorem Sides.turn' {W H n : Nat} (s : Sides W H n) : Sides H W n := ⟨s.h0, s.h1, s.w0, s.w1, by rw [s.n0, Nat.mul_comm], s.n1⟩

set_option maxRecDepth 100000 in
set_option maxHeartbeats 8000000 in
theorem rReversed_in (W H n b off cap : Nat) (G : Nat → Nat → Int) (w : World) (s : Sides W H n) (hG : OkG n G) (hlt : b < w.heap.size) (hC : Grd w b off n G) :
    Calls Try.prog 26 #[.agg #[.int .i64 W, .int .i64 H, .slice (some ⟨b, off, none⟩) n cap]] w (Made W H n (reG G) w) := by
  have E := Lib.hid (fun w' (hb : Below w.heap.size w w') => rValid_ok W H (some ⟨b, off, none⟩) n cap G w' (vg_of s hG) ((show CellsIn w _ n G from .inr ⟨b, off, rfl, hlt, hC⟩).below hb))
  have hn1 := s.n1
  have S := Lib.hid s
  have HC := Lib.hid hC
  clear s hG hC
  go_enter Try.func26, Try.ntmps26
  go_wp2_with (go_at_call 59; (with_reducible refine (E.out _ (by (repeat' (first | (with_reducible exact Below.refl _ _) | (with_reducible refine Below.setCell ?_ (by first | omega | (simp; done) | (simp; omega)) _) | (with_reducible refine Below.alloc ?_ (by first | omega | (simp; done) | (simp; omega)) _) | (with_reducible refine Below.drew ?_) | (with_reducible refine below_drewN ?_ _) | (with_reducible refine Below.trans ?_ (Below.mono (by assumption) (by first | omega | (simp; done) | (simp; omega)))))))).mono ?_); rintro e w1 ⟨rfl, hb⟩; obtain ⟨hc, hf, hz⟩ := bcall hb; (try simp at hc hf hz))
  (go_at_call 67; (with_reducible refine (blank_any W H n _ S.out).mono ?_); rintro e wo ⟨o, co, rfl, ho, lo, hb2⟩)
  have H0 := Lib.hid (rmv_start (co := co) (wide := W) (high := H) (show Below ((w.alloc (.cells #[.int .i64 W, .int .i64 H, .slice (some ⟨b, off, none⟩) n cap] 40)).alloc (.cells #[.int .i64 0, .int .i64 0, .slice none 0 0] 40)).heap.size ((w.alloc (.cells #[.int .i64 W, .int .i64 H, .slice (some ⟨b, off, none⟩) n cap] 40)).alloc (.cells #[.int .i64 0, .int .i64 0, .slice none 0 0] 40)) wo from hb.trans (hb2.mono (by simp; omega))) ho (by omega))
  clear hc hf hz hb hb2 ho E
  obtain ⟨P, hP⟩ : ∃ P, P = wo.heap.size := ⟨_, rfl⟩
  obtain ⟨w0, hw0'⟩ : ∃ w0, w0 = wo.alloc (.cells #[.int .i64 W, .int .i64 H, .slice (some ⟨o, 0, none⟩) n co] 40) := ⟨_, rfl⟩
  rw [← hP] at H0
  rw [← hw0'] at H0
  go_wp2
  rw [← hP, ← hw0']
  clear hP hw0'
  go_loopw [5, 6] (fun i d wr => ∃ (k : Nat) (K : Nat → Nat → Int), k ≤ n ∧ i = .int .i64 k ∧ Hid (RMv w P o co W H W H b off n cap K wr ∧ Half n k (reG G) (fun _ _ => 0) K)) (fun i _ _ => n - (intOf i).toNat)
  case atStart => exact ⟨0, _, Nat.zero_le _, rfl, Lib.hid ⟨H0.out, half_zero _ _ _⟩⟩
  case round =>
    obtain ⟨k, K, hk, rfl, HH⟩ := hrel
    obtain ⟨t0, t1, t3, hrow, qo, qP, qs, hbw⟩ := HH.out.1
    have l0 := t0.lt
    have l3 := t3.lt
    have g2 := t0.c2
    have p2 := t3.c2
    by_cases hlk : k < n
    · obtain ⟨e0, e1, e2, e3⟩ := HC.out.get hbw hlt hlk
      obtain ⟨a0, a1, a2, a3⟩ := hrow.at4 hlk
      obtain ⟨f0, f1, f2, f3⟩ := hrow.free4 hlk
      have lr := hrow.1
      have hsz := hbw.size
      have hbl : b < wr.heap.size := by omega
      clear t0 t1 t3 hrow hbw
      go_wp2
      refine wp_loop_rounds 5 ?_
      rw [rounds_succ]
      go_wp2
      go_region_held3 (fun w' => w'.cell? ⟨P, 2, none⟩ = some (.slice (some ⟨o, 0, none⟩) n co) ∧ w'.cell? ⟨w.heap.size, 2, none⟩ = some (.slice (some ⟨b, off, none⟩) n cap) ∧ w'.cell? ⟨b, off + k * 4 + 2, none⟩ = some (.int .i64 (G k 2))) (first | (go_split_ands; (try dsimp only); refine ⟨?_, ?_, ?_⟩ <;> (first | (with_reducible assumption) | (with_reducible exact keep_cell (by assumption) (by first | omega | (simp; done) | (simp; omega)) (by assumption)) | (simp [go_sem]; with_reducible assumption))) | (simp [go_sem, ↓IntWalk.iteOmega, *]; done)) ((go_at_call 68; (with_reducible refine (refOpp0 _).mono ?_); rintro e w1 ⟨rfl, rfl⟩))
      go_wp2
      rw [rounds_succ]
      go_wp2
      go_region_held3 (fun w' => w'.cell? ⟨P, 2, none⟩ = some (.slice (some ⟨o, 0, none⟩) n co) ∧ w'.cell? ⟨w.heap.size, 2, none⟩ = some (.slice (some ⟨b, off, none⟩) n cap) ∧ w'.cell? ⟨b, off + k * 4 + 3, none⟩ = some (.int .i64 (G k 3))) (first | (go_split_ands; (try dsimp only); refine ⟨?_, ?_, ?_⟩ <;> (first | (with_reducible assumption) | (with_reducible exact keep_cell (by assumption) (by first | omega | (simp; done) | (simp; omega)) (by assumption)) | (simp [go_sem]; with_reducible assumption))) | (simp [go_sem, ↓IntWalk.iteOmega, *]; done)) ((go_at_call 68; (with_reducible refine (refOpp1 _).mono ?_); rintro e w1 ⟨rfl, rfl⟩))
      go_wp2
      rw [rounds_succ]
      go_wp2
      go_region_held3 (fun w' => w'.cell? ⟨P, 2, none⟩ = some (.slice (some ⟨o, 0, none⟩) n co) ∧ w'.cell? ⟨w.heap.size, 2, none⟩ = some (.slice (some ⟨b, off, none⟩) n cap) ∧ w'.cell? ⟨b, off + k * 4, none⟩ = some (.int .i64 (G k 0))) (first | (go_split_ands; (try dsimp only); refine ⟨?_, ?_, ?_⟩ <;> (first | (with_reducible assumption) | (with_reducible exact keep_cell (by assumption) (by first | omega | (simp; done) | (simp; omega)) (by assumption)) | (simp [go_sem]; with_reducible assumption))) | (simp [go_sem, ↓IntWalk.iteOmega, *]; done)) ((go_at_call 68; (with_reducible refine (refOpp2 _).mono ?_); rintro e w1 ⟨rfl, rfl⟩))
      go_wp2
      rw [rounds_succ]
      go_wp2
      go_region_held3 (fun w' => w'.cell? ⟨P, 2, none⟩ = some (.slice (some ⟨o, 0, none⟩) n co) ∧ w'.cell? ⟨w.heap.size, 2, none⟩ = some (.slice (some ⟨b, off, none⟩) n cap) ∧ w'.cell? ⟨b, off + k * 4 + 1, none⟩ = some (.int .i64 (G k 1))) (first | (go_split_ands; (try dsimp only); refine ⟨?_, ?_, ?_⟩ <;> (first | (with_reducible assumption) | (with_reducible exact keep_cell (by assumption) (by first | omega | (simp; done) | (simp; omega)) (by assumption)) | (simp [go_sem]; with_reducible assumption))) | (simp [go_sem, ↓IntWalk.iteOmega, *]; done)) ((go_at_call 68; (with_reducible refine (refOpp3 _).mono ?_); rintro e w1 ⟨rfl, rfl⟩))
      go_wp2
      rw [rounds_succ]
      go_wp2
      go_roundw
      case rel =>
        obtain ⟨hm, hh⟩ := HH.out
        obtain ⟨c1, c2⟩ := chain4 hm.2.2.2.1 hlk (G k 2) (G k 3) (G k 0) (G k 1)
        exact ⟨k + 1, _, by omega, by go_num, Lib.hid ⟨hm.step c1 c2, half_step4 hh hlk rfl rfl rfl rfl⟩⟩
      case measure => simp [intOf]; omega
    · obtain rfl : n = k := by omega
      have p0 := t3.c0
      have p1 := t3.c1
      have g0' := t1.free 0
      have g1' := t1.free 1
      have g2' := t1.free 2
      have q0' := t1.c0
      have q1' := t1.c1
      have q2' := t1.c2
      have lr := hrow.1
      have HB := Lib.hid hbw
      have HR := Lib.hid hrow
      clear t0 t1 t3 hrow hbw
      go_wp2
      refine bodyPost_ret (v := .tuple #[.agg #[.int .i64 W, .int .i64 H, .slice (some ⟨o, 0, none⟩) n co], .int .i64 0]) (by simp [results, Try.results26, go_sem, ↓IntWalk.iteOmega, *]) rfl ?_
      exact made_pass (HR.out.eqG (half_all HH.out.2)).cellsIn HB.out (by omega) (by omega)

set_option maxHeartbeats 1000000 in
theorem rReversed_bad (W H : Int) (n cap : Nat) (ao : Option Addr) (G : Nat → Nat → Int) (w : World) (hv : ¬ VG W H n G) (hC : CellsIn w ao n G) :
    Calls Try.prog 26 #[.agg #[.int .i64 W, .int .i64 H, .slice (ao) n cap]] w fun e w' => e = .returned (.tuple #[.agg #[.int .i64 0, .int .i64 0, .slice (none) 0 0], .int .i64 1]) ∧ Below w.heap.size w w' := by
  have HV := Lib.hid hv; clear hv
  have HC := Lib.hid hC; clear hC
  go_enter Try.func26, Try.ntmps26
  go_wp2_with (go_at_call 59; (with_reducible refine (rValid_bad W H ao n cap G _ HV.out (HC.out.below (by (repeat' (first | (with_reducible exact Below.refl _ _) | (with_reducible refine Below.setCell ?_ (by first | omega | (simp; done) | (simp; omega)) _) | (with_reducible refine Below.alloc ?_ (by first | omega | (simp; done) | (simp; omega)) _) | (with_reducible refine Below.drew ?_) | (with_reducible refine below_drewN ?_ _) | (with_reducible refine Below.trans ?_ (Below.mono (by assumption) (by first | omega | (simp; done) | (simp; omega))))))))).mono ?_); rintro e w1 ⟨rfl, hb⟩; obtain ⟨hc, hf, hz⟩ := bcall hb; (try simp at hc hf hz))
  refine bodyPost_ret (v := .tuple #[.agg #[.int .i64 0, .int .i64 0, .slice (none) 0 0], .int .i64 1]) (by simp [results, Try.results26, go_sem, ↓IntWalk.iteOmega, *]) rfl ⟨rfl, ?_⟩
  (repeat' (first | (with_reducible exact Below.refl _ _) | (with_reducible refine Below.setCell ?_ (by first | omega | (simp; done) | (simp; omega)) _) | (with_reducible refine Below.alloc ?_ (by first | omega | (simp; done) | (simp; omega)) _) | (with_reducible refine Below.drew ?_) | (with_reducible refine below_drewN ?_ _) | (with_reducible refine Below.trans ?_ (Below.mono (by assumption) (by first | omega | (simp; done) | (simp; omega))))))

theorem rReversed_ok (W H n cap : Nat) (ao : Option Addr) (G : Nat → Nat → Int) (w : World) (s : Sides W H n) (hG : OkG n G) (hC : CellsIn w ao n G) : Calls Try.prog 26 #[.agg #[.int .i64 W, .int .i64 H, .slice (ao) n cap]] w (Made W H n (reG G) w) := by
  obtain ⟨b, off, rfl, hlt, hC⟩ := cells_of s hC
  exact rReversed_in W H n b off cap G w s hG hlt hC
end Go.Proofs.Ytnkehlankidlnaa
