/- All particles moved one place: by the reference. -/
import Derived.Test.YtnkehlankidlnaaRefG2
namespace Go.Proofs.Ytnkehlankidlnaa
set_option linter.unusedSimpArgs false
set_option linter.unusedVariables false
open Go.RowKit

theorem Three.new2 (w : World) (t : TypeId) (x y z : Value) (o : Obj) : Three ((w.alloc (.cells #[x, y, z] t)).alloc o) w.heap.size t x y z :=
  (Three.new0 w t x y z).below ((Below.refl _ (w.alloc (.cells #[x, y, z] t))).alloc (Nat.le_refl _) o) (by simp)
theorem Three.new3 (w : World) (t : TypeId) (x y z : Value) (o o2 : Obj) : Three (((w.alloc (.cells #[x, y, z] t)).alloc o).alloc o2) w.heap.size t x y z :=
  (Three.new2 w t x y z o).below ((Below.refl _ _).alloc (Nat.le_refl _) o2) (by simp; omega)
theorem half_step4 {n k : Nat} {D G K : Nat → Nat → Int} {v0 v1 v2 v3 : Int} (h : Half n k D G K) (hk : k < n) (e0 : v0 = D k 0) (e1 : v1 = D k 1) (e2 : v2 = D k 2) (e3 : v3 = D k 3) : Half n (k + 1) D G (upd (upd (upd (upd K k 0 v0) k 1 v1) k 2 v2) k 3 v3) := by
  subst e0 e1 e2 e3
  exact half_step h hk
theorem chain4 {w : World} {b n : Nat} {K : Nat → Nat → Int} {q : Nat} (h : Row w b n K) (l : q < n) (v0 v1 v2 v3 : Int) {k0 k1 k2 k3 : Nat} :
    Ex (fun k => k = b) w ((((((((w.drewN k0).setCell ⟨b, q * 4, none⟩ (.int .i64 v0)).drewN k1).setCell ⟨b, q * 4 + 1, none⟩ (.int .i64 v1)).drewN k2).setCell ⟨b, q * 4 + 2, none⟩ (.int .i64 v2)).drewN k3).setCell ⟨b, q * 4 + 3, none⟩ (.int .i64 v3)) ∧
    Row ((((((((w.drewN k0).setCell ⟨b, q * 4, none⟩ (.int .i64 v0)).drewN k1).setCell ⟨b, q * 4 + 1, none⟩ (.int .i64 v1)).drewN k2).setCell ⟨b, q * 4 + 2, none⟩ (.int .i64 v2)).drewN k3).setCell ⟨b, q * 4 + 3, none⟩ (.int .i64 v3)) b n (upd (upd (upd (upd K q 0 v0) q 1 v1) q 2 v2) q 3 v3) := by
  refine ⟨?_, ?_⟩
  · refine Ex.setCell (Ex.drewN (Ex.setCell (Ex.drewN (Ex.setCell (Ex.drewN (Ex.setCell (Ex.drewN (Ex.refl _ w) k0) ?_ _) k1) ?_ _) k2) ?_ _) k3) ?_ _ <;> rfl
  · exact (((((((h.drewN k0).set l (show 0 < 4 by omega) v0 (o := q * 4) rfl).drewN k1).set l (show 1 < 4 by omega) v1 rfl).drewN k2).set l (show 2 < 4 by omega) v2 rfl).drewN k3).set l (show 3 < 4 by omega) v3 rfl

set_option maxRecDepth 100000 in
set_option maxHeartbeats 4000000 in
theorem pulledF (W H n b off cap : Nat) (G : Nat → Nat → Int) (w : World) (s : Sides W H n) (hlt : b < w.heap.size) (hG : Grd w b off n G) :
    Calls Try.prog 103 #[.agg #[.int .i64 W, .int .i64 H, .slice (some ⟨b, off, none⟩) n cap], .bool false] w (Gave W H n (pull W H 1 G) w) := by
  have S := Lib.hid s
  have hn1 := s.n1
  have hw0 := s.w0
  clear s
  have HG := Lib.hid hG; clear hG
  go_enter Try.func103, Try.ntmps103
  go_wp2_with (go_at_call 67; (with_reducible refine (blank_any W H n _ S.out).mono ?_); rintro e wo ⟨o, co, rfl, ho, loo, hb⟩; have Co := Lib.hid ho; clear ho; obtain ⟨hc, hf, hz⟩ := bcall hb; (try simp at hc hf hz loo))
  have hbw : Below w.heap.size w wo := by (repeat' (first | (with_reducible exact Below.refl _ _) | (with_reducible refine Below.setCell ?_ (by first | omega | (simp; done) | (simp; omega)) _) | (with_reducible refine Below.alloc ?_ (by first | omega | (simp; done) | (simp; omega)) _) | (with_reducible refine Below.drew ?_) | (with_reducible refine below_drewN ?_ _) | (with_reducible refine Below.trans ?_ (Below.mono (by assumption) (by first | omega | (simp; done) | (simp; omega))))))
  have tg := (Three.new2 w 40 (.int .i64 W) (.int .i64 H) (.slice (some ⟨b, off, none⟩) n cap) _).below hb (by simp; omega)
  have tr := (Three.new1 w _ 40 (.int .i64 0) (.int .i64 0) (.slice none 0 0)).below hb (by simp)
  have tp := Three.new0 wo 40 (.int .i64 W) (.int .i64 H) (.slice (some ⟨o, 0, none⟩) n co)
  have x0 : Below wo.heap.size wo (wo.alloc (.cells #[.int .i64 W, .int .i64 H, .slice (some ⟨o, 0, none⟩) n co] 40)) := (Below.refl _ wo).alloc (Nat.le_refl _) _
  obtain ⟨P, hP⟩ : ∃ P, P = wo.heap.size := ⟨_, rfl⟩
  obtain ⟨w0, hw0'⟩ : ∃ w0, w0 = wo.alloc (.cells #[.int .i64 W, .int .i64 H, .slice (some ⟨o, 0, none⟩) n co] 40) := ⟨_, rfl⟩
  have hoP : o < P := by rw [hP]; exact Co.out.1
  have hsP : w.heap.size + 1 < P := by omega
  rw [← hP] at tp ⊢
  rw [← hw0'] at tp x0 ⊢
  have TG := Lib.hid (tg.below x0 tg.lt)
  have TR := Lib.hid (tr.below x0 tr.lt)
  have TP := Lib.hid tp
  have HB := Lib.hid (hbw.trans (x0.mono (by omega)))
  have HG := Lib.hid (HG.out.below HB.out hlt)
  have HR := Lib.hid (Co.out.below x0 Co.out.1)
  have hlb : b < w0.heap.size := Nat.lt_of_lt_of_le hlt HB.out.size
  have hbo : ¬ b = o := by omega
  have n1 : w.heap.size ≠ o := by omega
  have n2 : w.heap.size + 1 ≠ o := by omega
  have n3 : P ≠ o := by omega
  clear hc hf hz hb hbw tg tr tp x0 Co hw0' hP hsP
  go_loopw [6, 7, 8] (fun i d f wr => ∃ (k : Nat) (K : Nat → Nat → Int), k ≤ n ∧ i = .int .i64 k ∧ Hid (Ex (fun k => k = o) w0 wr ∧ Row wr o n K ∧ Half n k (pull W H 1 G) (fun _ _ => 0) K)) (fun i _ _ _ => n - (intOf i).toNat)
  case atStart => exact ⟨0, _, Nat.zero_le _, rfl, Lib.hid ⟨Ex.refl _ _, HR.out, half_zero _ _ _⟩⟩
  case round =>
    obtain ⟨k, K, hk, rfl, HH⟩ := hrel
    have tg1 := TG.out.ex HH.out.1 n1
    have tp1 := TP.out.ex HH.out.1 n3
    have hlg := tg1.lt
    have hlP := tp1.lt
    have p2 := tp1.c2
    by_cases hlk : k < n
    · have g0 := tg1.c0
      have g1 := tg1.c1
      have g2 := tg1.c2
      have hlo := HH.out.2.1.1
      obtain ⟨a0, a1, a2, a3⟩ := HH.out.2.1.at4 hlk
      obtain ⟨f0, f1, f2, f3⟩ := HH.out.2.1.free4 hlk
      obtain ⟨q0, hq0⟩ : ∃ q, q = nb W H (-1) k 0 := ⟨_, rfl⟩
      obtain ⟨q1, hq1⟩ : ∃ q, q = nb W H (-1) k 1 := ⟨_, rfl⟩
      obtain ⟨q2, hq2⟩ : ∃ q, q = nb W H (-1) k 2 := ⟨_, rfl⟩
      obtain ⟨q3, hq3⟩ : ∃ q, q = nb W H (-1) k 3 := ⟨_, rfl⟩
      have l0 : q0 < n := by rw [hq0]; exact nb_lt S.out.n0 hlk 0
      have l1 : q1 < n := by rw [hq1]; exact nb_lt S.out.n0 hlk 1
      have l2 : q2 < n := by rw [hq2]; exact nb_lt S.out.n0 hlk 2
      have l3 : q3 < n := by rw [hq3]; exact nb_lt S.out.n0 hlk 3
      have t0 := (HH.out.1.cell hlb hbo).trans (HG.out q0 l0).1
      have t1 := (HH.out.1.cell hlb hbo).trans (HG.out q1 l1).2.1
      have t2 := (HH.out.1.cell hlb hbo).trans (HG.out q2 l2).2.2.1
      have t3 := (HH.out.1.cell hlb hbo).trans (HG.out q3 l3).2.2.2
      have r0 := Lib.hid (fun w' => hq0 ▸ from0 W H n k w' S.out hlk)
      have r1 := Lib.hid (fun w' => hq1 ▸ from1 W H n k w' S.out hlk)
      have r2 := Lib.hid (fun w' => hq2 ▸ from2 W H n k w' S.out hlk)
      have r3 := Lib.hid (fun w' => hq3 ▸ from3 W H n k w' S.out hlk)
      have HQ0 := Lib.hid (show G q0 0 = pull W H 1 G k 0 from by rw [hq0]; rfl)
      have HQ1 := Lib.hid (show G q1 1 = pull W H 1 G k 1 from by rw [hq1]; rfl)
      have HQ2 := Lib.hid (show G q2 2 = pull W H 1 G k 2 from by rw [hq2]; rfl)
      have HQ3 := Lib.hid (show G q3 3 = pull W H 1 G k 3 from by rw [hq3]; rfl)
      clear hq0 hq1 hq2 hq3 tg1 tp1
      go_wp2
      refine wp_loop_rounds 5 ?_
      rw [rounds_succ]
      go_wp2
      go_region_held3 (fun w' => w'.cell? ⟨P, 2, none⟩ = some (.slice (some ⟨o, 0, none⟩) n co) ∧ w'.cell? ⟨w.heap.size, 2, none⟩ = some (.slice (some ⟨b, off, none⟩) n cap) ∧ w'.cell? ⟨w.heap.size, 0, none⟩ = some (.int .i64 W) ∧ w'.cell? ⟨w.heap.size, 1, none⟩ = some (.int .i64 H) ∧ w'.cell? ⟨b, off + q0 * 4, none⟩ = some (.int .i64 (G q0 0))) (first | (go_split_ands; (try dsimp only); refine ⟨?_, ?_, ?_, ?_, ?_⟩ <;> (first | (with_reducible assumption) | (with_reducible exact keep_cell (by assumption) (by first | omega | (simp; done) | (simp; omega)) (by assumption)) | (simp [go_sem]; with_reducible assumption))) | (simp [go_sem, ↓IntWalk.iteOmega, *]; done)) ((go_at_call 116; refine (r0.out _).mono ?_; rintro e w1 ⟨rfl, nn0, rfl⟩))
      clear r0
      go_wp2
      rw [rounds_succ]
      go_wp2
      go_region_held3 (fun w' => w'.cell? ⟨P, 2, none⟩ = some (.slice (some ⟨o, 0, none⟩) n co) ∧ w'.cell? ⟨w.heap.size, 2, none⟩ = some (.slice (some ⟨b, off, none⟩) n cap) ∧ w'.cell? ⟨w.heap.size, 0, none⟩ = some (.int .i64 W) ∧ w'.cell? ⟨w.heap.size, 1, none⟩ = some (.int .i64 H) ∧ w'.cell? ⟨b, off + q1 * 4 + 1, none⟩ = some (.int .i64 (G q1 1))) (first | (go_split_ands; (try dsimp only); refine ⟨?_, ?_, ?_, ?_, ?_⟩ <;> (first | (with_reducible assumption) | (with_reducible exact keep_cell (by assumption) (by first | omega | (simp; done) | (simp; omega)) (by assumption)) | (simp [go_sem]; with_reducible assumption))) | (simp [go_sem, ↓IntWalk.iteOmega, *]; done)) ((go_at_call 116; refine (r1.out _).mono ?_; rintro e w1 ⟨rfl, nn1, rfl⟩))
      clear r1
      go_wp2
      rw [rounds_succ]
      go_wp2
      go_region_held3 (fun w' => w'.cell? ⟨P, 2, none⟩ = some (.slice (some ⟨o, 0, none⟩) n co) ∧ w'.cell? ⟨w.heap.size, 2, none⟩ = some (.slice (some ⟨b, off, none⟩) n cap) ∧ w'.cell? ⟨w.heap.size, 0, none⟩ = some (.int .i64 W) ∧ w'.cell? ⟨w.heap.size, 1, none⟩ = some (.int .i64 H) ∧ w'.cell? ⟨b, off + q2 * 4 + 2, none⟩ = some (.int .i64 (G q2 2))) (first | (go_split_ands; (try dsimp only); refine ⟨?_, ?_, ?_, ?_, ?_⟩ <;> (first | (with_reducible assumption) | (with_reducible exact keep_cell (by assumption) (by first | omega | (simp; done) | (simp; omega)) (by assumption)) | (simp [go_sem]; with_reducible assumption))) | (simp [go_sem, ↓IntWalk.iteOmega, *]; done)) ((go_at_call 116; refine (r2.out _).mono ?_; rintro e w1 ⟨rfl, nn2, rfl⟩))
      clear r2
      go_wp2
      rw [rounds_succ]
      go_wp2
      go_region_held3 (fun w' => w'.cell? ⟨P, 2, none⟩ = some (.slice (some ⟨o, 0, none⟩) n co) ∧ w'.cell? ⟨w.heap.size, 2, none⟩ = some (.slice (some ⟨b, off, none⟩) n cap) ∧ w'.cell? ⟨w.heap.size, 0, none⟩ = some (.int .i64 W) ∧ w'.cell? ⟨w.heap.size, 1, none⟩ = some (.int .i64 H) ∧ w'.cell? ⟨b, off + q3 * 4 + 3, none⟩ = some (.int .i64 (G q3 3))) (first | (go_split_ands; (try dsimp only); refine ⟨?_, ?_, ?_, ?_, ?_⟩ <;> (first | (with_reducible assumption) | (with_reducible exact keep_cell (by assumption) (by first | omega | (simp; done) | (simp; omega)) (by assumption)) | (simp [go_sem]; with_reducible assumption))) | (simp [go_sem, ↓IntWalk.iteOmega, *]; done)) ((go_at_call 116; refine (r3.out _).mono ?_; rintro e w1 ⟨rfl, nn3, rfl⟩))
      clear r3
      go_wp2
      rw [rounds_succ]
      go_wp2
      go_roundw
      case rel =>
        obtain ⟨hx, hr, hh⟩ := HH.out
        obtain ⟨c1, c2⟩ := chain4 hr hlk (G q0 0) (G q1 1) (G q2 2) (G q3 3)
        exact ⟨k + 1, _, by omega, by go_num, Lib.hid ⟨hx.trans c1, c2, half_step4 hh hlk HQ0.out HQ1.out HQ2.out HQ3.out⟩⟩
      case measure => simp [intOf]; omega
    · obtain rfl : n = k := by omega
      have tr1 := TR.out.ex HH.out.1 n2
      have p0 := tp1.c0
      have p1 := tp1.c1
      have g0 := tr1.free 0
      have g1 := tr1.free 1
      have g2 := tr1.free 2
      have q0 := tr1.c0
      have q1 := tr1.c1
      have q2 := tr1.c2
      clear tg1 tp1 tr1
      go_wp2
      refine bodyPost_ret (v := .agg #[.int .i64 W, .int .i64 H, .slice (some ⟨o, 0, none⟩) n co]) (by simp [results, Try.results103, go_sem, ↓IntWalk.iteOmega, *]) rfl ?_
      obtain ⟨hx, hr, hh⟩ := HH.out
      exact gave_pass (hr.eqG (half_all hh)) (HB.out.trans (hx.below HB.out.size (fun k hk => by omega))) (by omega) (by omega)

set_option maxRecDepth 100000 in
set_option maxHeartbeats 4000000 in
theorem pulledT (W H n b off cap : Nat) (G : Nat → Nat → Int) (w : World) (s : Sides W H n) (hlt : b < w.heap.size) (hG : Grd w b off n G) :
    Calls Try.prog 103 #[.agg #[.int .i64 W, .int .i64 H, .slice (some ⟨b, off, none⟩) n cap], .bool true] w (Gave W H n (pull W H (-1) G) w) := by
  have S := Lib.hid s
  have hn1 := s.n1
  have hw0 := s.w0
  clear s
  have HG := Lib.hid hG; clear hG
  go_enter Try.func103, Try.ntmps103
  go_wp2_with (go_at_call 67; (with_reducible refine (blank_any W H n _ S.out).mono ?_); rintro e wo ⟨o, co, rfl, ho, loo, hb⟩; have Co := Lib.hid ho; clear ho; obtain ⟨hc, hf, hz⟩ := bcall hb; (try simp at hc hf hz loo))
  have hbw : Below w.heap.size w wo := by (repeat' (first | (with_reducible exact Below.refl _ _) | (with_reducible refine Below.setCell ?_ (by first | omega | (simp; done) | (simp; omega)) _) | (with_reducible refine Below.alloc ?_ (by first | omega | (simp; done) | (simp; omega)) _) | (with_reducible refine Below.drew ?_) | (with_reducible refine below_drewN ?_ _) | (with_reducible refine Below.trans ?_ (Below.mono (by assumption) (by first | omega | (simp; done) | (simp; omega))))))
  have tg := (Three.new2 w 40 (.int .i64 W) (.int .i64 H) (.slice (some ⟨b, off, none⟩) n cap) _).below hb (by simp; omega)
  have tr := (Three.new1 w _ 40 (.int .i64 0) (.int .i64 0) (.slice none 0 0)).below hb (by simp)
  have tp := Three.new0 wo 40 (.int .i64 W) (.int .i64 H) (.slice (some ⟨o, 0, none⟩) n co)
  have x0 : Below wo.heap.size wo (wo.alloc (.cells #[.int .i64 W, .int .i64 H, .slice (some ⟨o, 0, none⟩) n co] 40)) := (Below.refl _ wo).alloc (Nat.le_refl _) _
  obtain ⟨P, hP⟩ : ∃ P, P = wo.heap.size := ⟨_, rfl⟩
  obtain ⟨w0, hw0'⟩ : ∃ w0, w0 = wo.alloc (.cells #[.int .i64 W, .int .i64 H, .slice (some ⟨o, 0, none⟩) n co] 40) := ⟨_, rfl⟩
  have hoP : o < P := by rw [hP]; exact Co.out.1
  have hsP : w.heap.size + 1 < P := by omega
  rw [← hP] at tp ⊢
  rw [← hw0'] at tp x0 ⊢
  have TG := Lib.hid (tg.below x0 tg.lt)
  have TR := Lib.hid (tr.below x0 tr.lt)
  have TP := Lib.hid tp
  have HB := Lib.hid (hbw.trans (x0.mono (by omega)))
  have HG := Lib.hid (HG.out.below HB.out hlt)
  have HR := Lib.hid (Co.out.below x0 Co.out.1)
  have hlb : b < w0.heap.size := Nat.lt_of_lt_of_le hlt HB.out.size
  have hbo : ¬ b = o := by omega
  have n1 : w.heap.size ≠ o := by omega
  have n2 : w.heap.size + 1 ≠ o := by omega
  have n3 : P ≠ o := by omega
  clear hc hf hz hb hbw tg tr tp x0 Co hw0' hP hsP
  go_loopw [6, 7, 8] (fun i d f wr => ∃ (k : Nat) (K : Nat → Nat → Int), k ≤ n ∧ i = .int .i64 k ∧ Hid (Ex (fun k => k = o) w0 wr ∧ Row wr o n K ∧ Half n k (pull W H (-1) G) (fun _ _ => 0) K)) (fun i _ _ _ => n - (intOf i).toNat)
  case atStart => exact ⟨0, _, Nat.zero_le _, rfl, Lib.hid ⟨Ex.refl _ _, HR.out, half_zero _ _ _⟩⟩
  case round =>
    obtain ⟨k, K, hk, rfl, HH⟩ := hrel
    have tg1 := TG.out.ex HH.out.1 n1
    have tp1 := TP.out.ex HH.out.1 n3
    have hlg := tg1.lt
    have hlP := tp1.lt
    have p2 := tp1.c2
    by_cases hlk : k < n
    · have g0 := tg1.c0
      have g1 := tg1.c1
      have g2 := tg1.c2
      have hlo := HH.out.2.1.1
      obtain ⟨a0, a1, a2, a3⟩ := HH.out.2.1.at4 hlk
      obtain ⟨f0, f1, f2, f3⟩ := HH.out.2.1.free4 hlk
      obtain ⟨q0, hq0⟩ : ∃ q, q = nb W H (-1) k 2 := ⟨_, rfl⟩
      obtain ⟨q1, hq1⟩ : ∃ q, q = nb W H (-1) k 3 := ⟨_, rfl⟩
      obtain ⟨q2, hq2⟩ : ∃ q, q = nb W H (-1) k 0 := ⟨_, rfl⟩
      obtain ⟨q3, hq3⟩ : ∃ q, q = nb W H (-1) k 1 := ⟨_, rfl⟩
      have l0 : q0 < n := by rw [hq0]; exact nb_lt S.out.n0 hlk 2
      have l1 : q1 < n := by rw [hq1]; exact nb_lt S.out.n0 hlk 3
      have l2 : q2 < n := by rw [hq2]; exact nb_lt S.out.n0 hlk 0
      have l3 : q3 < n := by rw [hq3]; exact nb_lt S.out.n0 hlk 1
      have t0 := (HH.out.1.cell hlb hbo).trans (HG.out q0 l0).1
      have t1 := (HH.out.1.cell hlb hbo).trans (HG.out q1 l1).2.1
      have t2 := (HH.out.1.cell hlb hbo).trans (HG.out q2 l2).2.2.1
      have t3 := (HH.out.1.cell hlb hbo).trans (HG.out q3 l3).2.2.2
      have r0 := Lib.hid (fun w' => hq0 ▸ from2 W H n k w' S.out hlk)
      have r1 := Lib.hid (fun w' => hq1 ▸ from3 W H n k w' S.out hlk)
      have r2 := Lib.hid (fun w' => hq2 ▸ from0 W H n k w' S.out hlk)
      have r3 := Lib.hid (fun w' => hq3 ▸ from1 W H n k w' S.out hlk)
      have HQ0 := Lib.hid (show G q0 0 = pull W H (-1) G k 0 from by rw [hq0, (nb_opp W H k).1]; rfl)
      have HQ1 := Lib.hid (show G q1 1 = pull W H (-1) G k 1 from by rw [hq1, (nb_opp W H k).2.1]; rfl)
      have HQ2 := Lib.hid (show G q2 2 = pull W H (-1) G k 2 from by rw [hq2, (nb_opp W H k).2.2.1]; rfl)
      have HQ3 := Lib.hid (show G q3 3 = pull W H (-1) G k 3 from by rw [hq3, (nb_opp W H k).2.2.2]; rfl)
      clear hq0 hq1 hq2 hq3 tg1 tp1
      go_wp2
      refine wp_loop_rounds 5 ?_
      rw [rounds_succ]
      go_wp2_with (go_at_call 68; (with_reducible refine (refOpp0 _).mono ?_); rintro e w1 ⟨rfl, rfl⟩)
      go_region_held3 (fun w' => w'.cell? ⟨P, 2, none⟩ = some (.slice (some ⟨o, 0, none⟩) n co) ∧ w'.cell? ⟨w.heap.size, 2, none⟩ = some (.slice (some ⟨b, off, none⟩) n cap) ∧ w'.cell? ⟨w.heap.size, 0, none⟩ = some (.int .i64 W) ∧ w'.cell? ⟨w.heap.size, 1, none⟩ = some (.int .i64 H) ∧ w'.cell? ⟨b, off + q0 * 4, none⟩ = some (.int .i64 (G q0 0))) (first | (go_split_ands; (try dsimp only); refine ⟨?_, ?_, ?_, ?_, ?_⟩ <;> (first | (with_reducible assumption) | (with_reducible exact keep_cell (by assumption) (by first | omega | (simp; done) | (simp; omega)) (by assumption)) | (simp [go_sem]; with_reducible assumption))) | (simp [go_sem, ↓IntWalk.iteOmega, *]; done)) ((go_at_call 116; refine (r0.out _).mono ?_; rintro e w1 ⟨rfl, nn0, rfl⟩))
      clear r0
      go_wp2
      rw [rounds_succ]
      go_wp2_with (go_at_call 68; (with_reducible refine (refOpp1 _).mono ?_); rintro e w1 ⟨rfl, rfl⟩)
      go_region_held3 (fun w' => w'.cell? ⟨P, 2, none⟩ = some (.slice (some ⟨o, 0, none⟩) n co) ∧ w'.cell? ⟨w.heap.size, 2, none⟩ = some (.slice (some ⟨b, off, none⟩) n cap) ∧ w'.cell? ⟨w.heap.size, 0, none⟩ = some (.int .i64 W) ∧ w'.cell? ⟨w.heap.size, 1, none⟩ = some (.int .i64 H) ∧ w'.cell? ⟨b, off + q1 * 4 + 1, none⟩ = some (.int .i64 (G q1 1))) (first | (go_split_ands; (try dsimp only); refine ⟨?_, ?_, ?_, ?_, ?_⟩ <;> (first | (with_reducible assumption) | (with_reducible exact keep_cell (by assumption) (by first | omega | (simp; done) | (simp; omega)) (by assumption)) | (simp [go_sem]; with_reducible assumption))) | (simp [go_sem, ↓IntWalk.iteOmega, *]; done)) ((go_at_call 116; refine (r1.out _).mono ?_; rintro e w1 ⟨rfl, nn1, rfl⟩))
      clear r1
      go_wp2
      rw [rounds_succ]
      go_wp2_with (go_at_call 68; (with_reducible refine (refOpp2 _).mono ?_); rintro e w1 ⟨rfl, rfl⟩)
      go_region_held3 (fun w' => w'.cell? ⟨P, 2, none⟩ = some (.slice (some ⟨o, 0, none⟩) n co) ∧ w'.cell? ⟨w.heap.size, 2, none⟩ = some (.slice (some ⟨b, off, none⟩) n cap) ∧ w'.cell? ⟨w.heap.size, 0, none⟩ = some (.int .i64 W) ∧ w'.cell? ⟨w.heap.size, 1, none⟩ = some (.int .i64 H) ∧ w'.cell? ⟨b, off + q2 * 4 + 2, none⟩ = some (.int .i64 (G q2 2))) (first | (go_split_ands; (try dsimp only); refine ⟨?_, ?_, ?_, ?_, ?_⟩ <;> (first | (with_reducible assumption) | (with_reducible exact keep_cell (by assumption) (by first | omega | (simp; done) | (simp; omega)) (by assumption)) | (simp [go_sem]; with_reducible assumption))) | (simp [go_sem, ↓IntWalk.iteOmega, *]; done)) ((go_at_call 116; refine (r2.out _).mono ?_; rintro e w1 ⟨rfl, nn2, rfl⟩))
      clear r2
      go_wp2
      rw [rounds_succ]
      go_wp2_with (go_at_call 68; (with_reducible refine (refOpp3 _).mono ?_); rintro e w1 ⟨rfl, rfl⟩)
      go_region_held3 (fun w' => w'.cell? ⟨P, 2, none⟩ = some (.slice (some ⟨o, 0, none⟩) n co) ∧ w'.cell? ⟨w.heap.size, 2, none⟩ = some (.slice (some ⟨b, off, none⟩) n cap) ∧ w'.cell? ⟨w.heap.size, 0, none⟩ = some (.int .i64 W) ∧ w'.cell? ⟨w.heap.size, 1, none⟩ = some (.int .i64 H) ∧ w'.cell? ⟨b, off + q3 * 4 + 3, none⟩ = some (.int .i64 (G q3 3))) (first | (go_split_ands; (try dsimp only); refine ⟨?_, ?_, ?_, ?_, ?_⟩ <;> (first | (with_reducible assumption) | (with_reducible exact keep_cell (by assumption) (by first | omega | (simp; done) | (simp; omega)) (by assumption)) | (simp [go_sem]; with_reducible assumption))) | (simp [go_sem, ↓IntWalk.iteOmega, *]; done)) ((go_at_call 116; refine (r3.out _).mono ?_; rintro e w1 ⟨rfl, nn3, rfl⟩))
      clear r3
      go_wp2
      rw [rounds_succ]
      go_wp2
      go_roundw
      case rel =>
        obtain ⟨hx, hr, hh⟩ := HH.out
        obtain ⟨c1, c2⟩ := chain4 hr hlk (G q0 0) (G q1 1) (G q2 2) (G q3 3)
        exact ⟨k + 1, _, by omega, by go_num, Lib.hid ⟨hx.trans c1, c2, half_step4 hh hlk HQ0.out HQ1.out HQ2.out HQ3.out⟩⟩
      case measure => simp [intOf]; omega
    · obtain rfl : n = k := by omega
      have tr1 := TR.out.ex HH.out.1 n2
      have p0 := tp1.c0
      have p1 := tp1.c1
      have g0 := tr1.free 0
      have g1 := tr1.free 1
      have g2 := tr1.free 2
      have q0 := tr1.c0
      have q1 := tr1.c1
      have q2 := tr1.c2
      clear tg1 tp1 tr1
      go_wp2
      refine bodyPost_ret (v := .agg #[.int .i64 W, .int .i64 H, .slice (some ⟨o, 0, none⟩) n co]) (by simp [results, Try.results103, go_sem, ↓IntWalk.iteOmega, *]) rfl ?_
      obtain ⟨hx, hr, hh⟩ := HH.out
      exact gave_pass (hr.eqG (half_all hh)) (HB.out.trans (hx.below HB.out.size (fun k hk => by omega))) (by omega) (by omega)
end Go.Proofs.Ytnkehlankidlnaa
