/- Collisions of all cells, steps and steps back: by the reference. -/
import Derived.Test.YtloeggbndecbhaaRefG3
import Derived.Deep.CutRange
namespace Go.Proofs.Ytloeggbndecbhaa
set_option linter.unusedSimpArgs false
set_option linter.unusedVariables false
open Go.RowKit

theorem rowLt {w w' : World} {b n : Nat} {G : Nat → Nat → Int} (h : Hid (Row w b n G)) (hb : Below w.heap.size w w') : b < w'.heap.size := Nat.lt_of_lt_of_le h.out.1 hb.size
theorem rowGrd {w w' : World} {b n : Nat} {G : Nat → Nat → Int} (h : Hid (Row w b n G)) (hb : Below w.heap.size w w') : Grd w' b 0 n G := h.out.grd.below hb h.out.1
theorem Three.at {w : World} {B B' : Nat} {t : TypeId} {x y z : Value} (h : Three w B t x y z) (e : B = B') : Three w B' t x y z := e ▸ h
theorem Two.at {w : World} {B B' : Nat} {t : TypeId} {x y : Value} (h : Two w B t x y) (e : B = B') : Two w B' t x y := e ▸ h
theorem blocks3 {w wo : World} {t1 t2 t3 : TypeId} {a b c d e f g h : Value} (hb : Below (((w.alloc (.cells #[a, b, c] t1)).alloc (.cells #[d, e] t2)).alloc (.cells #[f, g, h] t3)).heap.size (((w.alloc (.cells #[a, b, c] t1)).alloc (.cells #[d, e] t2)).alloc (.cells #[f, g, h] t3)) wo) :
    Three wo w.heap.size t1 a b c ∧ Two wo (w.heap.size + 1) t2 d e ∧ Three wo (w.heap.size + 2) t3 f g h := by
  refine ⟨(Three.new3 w t1 a b c _ _).below hb (by simp; omega), Two.at (((Two.new (w.alloc (.cells #[a, b, c] t1)) t2 d e).alloc _).below hb (by simp)) (by simp), Three.at ((Three.new0 ((w.alloc (.cells #[a, b, c] t1)).alloc (.cells #[d, e] t2)) t3 f g h).below hb (by simp)) (by simp)⟩
theorem afterG (G : Nat → Nat → Int) (i : Nat) (k y : Int) (w : World) (h : Ok4 (G i 0) (G i 1) (G i 2) (G i 3)) (hr : OkR k y) :
    Calls Try.prog 72 #[.agg #[.int .i64 (G i 0), .int .i64 (G i 1), .int .i64 (G i 2), .int .i64 (G i 3)], .agg #[.int .i64 k, .int .i64 y]] w fun e w' => e = .returned (.agg #[.int .i64 (colG k y G i 0), .int .i64 (colG k y G i 1), .int .i64 (colG k y G i 2), .int .i64 (colG k y G i 3)]) ∧ Below w.heap.size w w' := by
  rw [colG0, colG1, colG2, colG3]
  exact after_ok _ _ _ _ k y w h hr

set_option maxHeartbeats 1000000 in
theorem flow1 (W H n b off cap : Nat) (G : Nat → Nat → Int) (w : World) (s : Sides W H n) (hlt : b < w.heap.size) (hG : Grd w b off n G) :
    Calls Try.prog 83 #[.agg #[.int .i64 W, .int .i64 H, .slice (some ⟨b, off, none⟩) n cap]] w (Gave W H n (pull W H 1 G) w) := by
  have D := Lib.hid (fun w' (hb : Below w.heap.size w w') => pulledF W H n b off cap G w' s (Nat.lt_of_lt_of_le hlt hb.size) (hG.below hb hlt))
  clear hG s
  go_enter Try.func83, Try.ntmps83
  go_wp2_with (go_at_call 134; (with_reducible refine (D.out _ (by (repeat' (first | (with_reducible exact Below.refl _ _) | (with_reducible refine Below.setCell ?_ (by first | omega | (simp; done) | (simp; omega)) _) | (with_reducible refine Below.alloc ?_ (by first | omega | (simp; done) | (simp; omega)) _) | (with_reducible refine Below.drew ?_) | (with_reducible refine below_drewN ?_ _) | (with_reducible refine Below.trans ?_ (Below.mono (by assumption) (by first | omega | (simp; done) | (simp; omega)))))))).mono ?_); rintro e wo ⟨o, co, rfl, ho, loo, hb⟩; have Co := Lib.hid ho; clear ho; obtain ⟨hc, hf, hz⟩ := bcall hb; (try simp at hc hf hz loo))
  have HB := Lib.hid (show Below w.heap.size w wo from by (repeat' (first | (with_reducible exact Below.refl _ _) | (with_reducible refine Below.setCell ?_ (by first | omega | (simp; done) | (simp; omega)) _) | (with_reducible refine Below.alloc ?_ (by first | omega | (simp; done) | (simp; omega)) _) | (with_reducible refine Below.drew ?_) | (with_reducible refine below_drewN ?_ _) | (with_reducible refine Below.trans ?_ (Below.mono (by assumption) (by first | omega | (simp; done) | (simp; omega)))))))
  refine bodyPost_ret (v := .agg #[.int .i64 W, .int .i64 H, .slice (some ⟨o, 0, none⟩) n co]) (by simp [results, Try.results83, go_sem, ↓IntWalk.iteOmega, *]) rfl ?_
  exact gave_pass Co.out HB.out (by omega) (by omega)

set_option maxHeartbeats 1000000 in
theorem ebb1 (W H n b off cap : Nat) (G : Nat → Nat → Int) (w : World) (s : Sides W H n) (hlt : b < w.heap.size) (hG : Grd w b off n G) :
    Calls Try.prog 85 #[.agg #[.int .i64 W, .int .i64 H, .slice (some ⟨b, off, none⟩) n cap]] w (Gave W H n (pull W H (-1) G) w) := by
  have D := Lib.hid (fun w' (hb : Below w.heap.size w w') => pulledT W H n b off cap G w' s (Nat.lt_of_lt_of_le hlt hb.size) (hG.below hb hlt))
  clear hG s
  go_enter Try.func85, Try.ntmps85
  go_wp2_with (go_at_call 134; (with_reducible refine (D.out _ (by (repeat' (first | (with_reducible exact Below.refl _ _) | (with_reducible refine Below.setCell ?_ (by first | omega | (simp; done) | (simp; omega)) _) | (with_reducible refine Below.alloc ?_ (by first | omega | (simp; done) | (simp; omega)) _) | (with_reducible refine Below.drew ?_) | (with_reducible refine below_drewN ?_ _) | (with_reducible refine Below.trans ?_ (Below.mono (by assumption) (by first | omega | (simp; done) | (simp; omega)))))))).mono ?_); rintro e wo ⟨o, co, rfl, ho, loo, hb⟩; have Co := Lib.hid ho; clear ho; obtain ⟨hc, hf, hz⟩ := bcall hb; (try simp at hc hf hz loo))
  have HB := Lib.hid (show Below w.heap.size w wo from by (repeat' (first | (with_reducible exact Below.refl _ _) | (with_reducible refine Below.setCell ?_ (by first | omega | (simp; done) | (simp; omega)) _) | (with_reducible refine Below.alloc ?_ (by first | omega | (simp; done) | (simp; omega)) _) | (with_reducible refine Below.drew ?_) | (with_reducible refine below_drewN ?_ _) | (with_reducible refine Below.trans ?_ (Below.mono (by assumption) (by first | omega | (simp; done) | (simp; omega)))))))
  refine bodyPost_ret (v := .agg #[.int .i64 W, .int .i64 H, .slice (some ⟨o, 0, none⟩) n co]) (by simp [results, Try.results85, go_sem, ↓IntWalk.iteOmega, *]) rfl ?_
  exact gave_pass Co.out HB.out (by omega) (by omega)

set_option maxRecDepth 100000 in
set_option maxHeartbeats 4000000 in
theorem collided1 (W H n b off cap : Nat) (G : Nat → Nat → Int) (rk ry : Int) (w : World) (s : Sides W H n) (hO : OkG n G) (hr : OkR rk ry) (hlt : b < w.heap.size) (hG : Grd w b off n G) :
    Calls Try.prog 138 #[.agg #[.int .i64 W, .int .i64 H, .slice (some ⟨b, off, none⟩) n cap], .agg #[.int .i64 rk, .int .i64 ry]] w (Gave W H n (colG rk ry G) w) := by
  have hn1 := s.n1
  have hn0 : 1 ≤ n := by
    rw [s.n0]
    exact Nat.mul_le_mul s.w0 s.h0
  have D := Lib.hid (fun w' (hb : Below w.heap.size w w') => rCopy_any W H b off n cap G w' hn0 (by omega) (Nat.lt_of_lt_of_le hlt hb.size) (hG.below hb hlt))
  have HO := Lib.hid hO; clear hO
  have HOK := Lib.hid hr; clear hr
  clear hG s
  go_enter Try.func138, Try.ntmps138
  go_wp2_with (go_at_call 103; (with_reducible refine (D.out _ (by (repeat' (first | (with_reducible exact Below.refl _ _) | (with_reducible refine Below.setCell ?_ (by first | omega | (simp; done) | (simp; omega)) _) | (with_reducible refine Below.alloc ?_ (by first | omega | (simp; done) | (simp; omega)) _) | (with_reducible refine Below.drew ?_) | (with_reducible refine below_drewN ?_ _) | (with_reducible refine Below.trans ?_ (Below.mono (by assumption) (by first | omega | (simp; done) | (simp; omega)))))))).mono ?_); rintro e wo ⟨o, co, rfl, ho, loo, hb⟩; have Co := Lib.hid ho; clear ho; obtain ⟨hc, hf, hz⟩ := bcall hb; (try simp at hc hf hz loo))
  obtain ⟨tg, t2, tr⟩ := blocks3 hb
  have hB : Below w.heap.size w wo := by (repeat' (first | (with_reducible exact Below.refl _ _) | (with_reducible refine Below.setCell ?_ (by first | omega | (simp; done) | (simp; omega)) _) | (with_reducible refine Below.alloc ?_ (by first | omega | (simp; done) | (simp; omega)) _) | (with_reducible refine Below.drew ?_) | (with_reducible refine below_drewN ?_ _) | (with_reducible refine Below.trans ?_ (Below.mono (by assumption) (by first | omega | (simp; done) | (simp; omega))))))
  obtain ⟨w0, hw0'⟩ : ∃ w0, w0 = ((wo.setCell ⟨w.heap.size, 0, none⟩ (.int .i64 W)).setCell ⟨w.heap.size, 1, none⟩ (.int .i64 H)).setCell ⟨w.heap.size, 2, none⟩ (.slice (some ⟨o, 0, none⟩) n co) := ⟨_, rfl⟩
  have x0 : Ex (fun k => k = w.heap.size) wo w0 := by rw [hw0']; exact three_ex
  have TG : Hid (Three w0 w.heap.size 45 (.int .i64 W) (.int .i64 H) (.slice (some ⟨o, 0, none⟩) n co)) := Lib.hid (by rw [hw0']; exact tg.set)
  have TR := Lib.hid (tr.ex x0 (by omega))
  have T2 : Hid (Two w0 (w.heap.size + 1) 25 (.int .i64 rk) (.int .i64 ry)) := Lib.hid ((x0.block _ t2.lt (by omega)).trans t2)
  have HR := Lib.hid (Co.out.ex x0 (by omega))
  have HB := Lib.hid (hB.trans (x0.below hB.size (fun k hk => by omega)))
  rw [← hw0']
  have n0 : w.heap.size ≠ o := by omega
  have n1 : w.heap.size + 1 ≠ o := by omega
  have n2 : w.heap.size + 2 ≠ o := by omega
  clear hc hf hz hb hB tg t2 tr x0 Co hw0' D
  go_loopw [5] (fun i wr => ∃ (k : Nat) (K : Nat → Nat → Int), k ≤ n ∧ i = .int .i64 k ∧ Hid (Ex (fun k => k = o) w0 wr ∧ Row wr o n K ∧ Half n k (colG rk ry G) G K)) (fun i _ => n - (intOf i).toNat)
  case atStart => exact ⟨0, _, Nat.zero_le _, rfl, Lib.hid ⟨Ex.refl _ _, HR.out, half_zero _ _ _⟩⟩
  case round =>
    obtain ⟨k, K, hk, rfl, HH⟩ := hrel
    have tg1 := TG.out.ex HH.out.1 n0
    have hlg := tg1.lt
    have k2 := tg1.c2
    by_cases hlk : k < n
    · have t21 : Two _ (w.heap.size + 1) 25 (.int .i64 rk) (.int .i64 ry) := (HH.out.1.block _ T2.out.lt n1).trans T2.out
      have hl2 := t21.lt
      have d0 := t21.c0
      have d1 := t21.c1
      have hl1 := HH.out.2.1.1
      obtain ⟨a0, a1, a2, a3⟩ := HH.out.2.1.at4 hlk
      obtain ⟨f0, f1, f2, f3⟩ := HH.out.2.1.free4 hlk
      rw [HH.out.2.2.2 k (Nat.le_refl _) hlk 0 (by omega)] at a0
      rw [HH.out.2.2.2 k (Nat.le_refl _) hlk 1 (by omega)] at a1
      rw [HH.out.2.2.2 k (Nat.le_refl _) hlk 2 (by omega)] at a2
      rw [HH.out.2.2.2 k (Nat.le_refl _) hlk 3 (by omega)] at a3
      have HK := Lib.hid (HO.out.1 k hlk)
      clear tg1 t21
      go_wp2
      go_region_with ((go_at_call 72; (with_reducible refine (afterG G k rk ry _ HK.out HOK.out).mono ?_); rintro e w1 ⟨rfl, hb⟩; obtain ⟨hc, hf, hz⟩ := bcall hb; (try simp at hc hf hz)))
      all_goals
        have hx1 : Ex (fun _ => False) wr w1 := by first | exact ((Ex.refl (fun _ => False) wr).drew).trans (Ex.of_below hb) | exact ((Ex.refl (fun _ => False) wr).drewN _).trans (Ex.of_below hb) | exact Ex.of_below hb
        have HX := Lib.hid hx1
        clear hx1 k2 d0 d1 a0 a1 a2 a3 f0 f1 f2 f3 hc hf hb
        rename_i Q9 K9 a9
        refine a9 _ _ ?_
        dsimp +zetaDelta only
        go_wp2
        go_roundw
        case rel =>
          obtain ⟨hx, hr, hh⟩ := HH.out
          obtain ⟨c1, c2⟩ := chain1 (hr.ex HX.out (fun x => x)) hlk (colG rk ry G k 0) (colG rk ry G k 1) (colG rk ry G k 2) (colG rk ry G k 3)
          exact ⟨k + 1, _, by omega, by go_num, Lib.hid ⟨(hx.trans (HX.out.mono (fun _ h => h.elim))).trans c1, c2, half_step hh hlk⟩⟩
        case measure => simp [intOf]; omega
    · obtain rfl : n = k := by omega
      have tr1 := TR.out.ex HH.out.1 n2
      have p0 := tg1.c0
      have p1 := tg1.c1
      have g0 := tr1.free 0
      have g1 := tr1.free 1
      have g2 := tr1.free 2
      have q0 := tr1.c0
      have q1 := tr1.c1
      have q2 := tr1.c2
      clear tg1 tr1
      go_wp2
      refine bodyPost_ret (v := .agg #[.int .i64 W, .int .i64 H, .slice (some ⟨o, 0, none⟩) n co]) (by simp [results, Try.results138, go_sem, ↓IntWalk.iteOmega, *]) rfl ?_
      obtain ⟨hx, hr, hh⟩ := HH.out
      exact gave_pass (hr.eqG (half_all hh)) (HB.out.trans (hx.below HB.out.size (fun k hk => by omega))) (by omega) (by omega)

set_option maxHeartbeats 1000000 in
theorem step1 (W H n b off cap : Nat) (G : Nat → Nat → Int) (rk ry : Int) (w : World) (s : Sides W H n) (hO : OkG n G) (hr : OkR rk ry) (hlt : b < w.heap.size) (hG : Grd w b off n G) :
    Calls Try.prog 93 #[.agg #[.int .i64 W, .int .i64 H, .slice (some ⟨b, off, none⟩) n cap], .agg #[.int .i64 rk, .int .i64 ry]] w (Gave W H n (pull W H 1 (colG rk ry G)) w) := by
  have S := Lib.hid s
  have D := Lib.hid (fun w' (hb : Below w.heap.size w w') => collided1 W H n b off cap G rk ry w' s hO hr (Nat.lt_of_lt_of_le hlt hb.size) (hG.below hb hlt))
  clear hG s hO hr
  go_enter Try.func93, Try.ntmps93
  go_wp2_with (go_at_call 138; (with_reducible refine (D.out _ (by (repeat' (first | (with_reducible exact Below.refl _ _) | (with_reducible refine Below.setCell ?_ (by first | omega | (simp; done) | (simp; omega)) _) | (with_reducible refine Below.alloc ?_ (by first | omega | (simp; done) | (simp; omega)) _) | (with_reducible refine Below.drew ?_) | (with_reducible refine below_drewN ?_ _) | (with_reducible refine Below.trans ?_ (Below.mono (by assumption) (by first | omega | (simp; done) | (simp; omega)))))))).mono ?_); rintro e wo ⟨o, co, rfl, ho, loo, hb⟩; have Co := Lib.hid ho; clear ho; obtain ⟨hc, hf, hz⟩ := bcall hb; (try simp at hc hf hz loo))
  have HB1 := Lib.hid (show Below w.heap.size w wo from by (repeat' (first | (with_reducible exact Below.refl _ _) | (with_reducible refine Below.setCell ?_ (by first | omega | (simp; done) | (simp; omega)) _) | (with_reducible refine Below.alloc ?_ (by first | omega | (simp; done) | (simp; omega)) _) | (with_reducible refine Below.drew ?_) | (with_reducible refine below_drewN ?_ _) | (with_reducible refine Below.trans ?_ (Below.mono (by assumption) (by first | omega | (simp; done) | (simp; omega)))))))
  have hlo : o < wo.heap.size := Co.out.1
  go_wp2_with (go_at_call 83; (with_reducible refine (flow1 W H n o 0 co (colG rk ry G) _ S.out (rowLt Co (by (repeat' (first | (with_reducible exact Below.refl _ _) | (with_reducible refine Below.setCell ?_ (by first | omega | (simp; done) | (simp; omega)) _) | (with_reducible refine Below.alloc ?_ (by first | omega | (simp; done) | (simp; omega)) _) | (with_reducible refine Below.drew ?_) | (with_reducible refine below_drewN ?_ _) | (with_reducible refine Below.trans ?_ (Below.mono (by assumption) (by first | omega | (simp; done) | (simp; omega)))))))) (rowGrd Co (by (repeat' (first | (with_reducible exact Below.refl _ _) | (with_reducible refine Below.setCell ?_ (by first | omega | (simp; done) | (simp; omega)) _) | (with_reducible refine Below.alloc ?_ (by first | omega | (simp; done) | (simp; omega)) _) | (with_reducible refine Below.drew ?_) | (with_reducible refine below_drewN ?_ _) | (with_reducible refine Below.trans ?_ (Below.mono (by assumption) (by first | omega | (simp; done) | (simp; omega))))))))).mono ?_); rintro e wp ⟨p, cp, rfl, hp, lop, hb⟩; have Cp := Lib.hid hp; clear hp; obtain ⟨hc, hf, hz⟩ := bcall hb; (try simp at hc hf hz lop))
  have HB := Lib.hid (show Below w.heap.size w wp from by (repeat' (first | (with_reducible exact Below.refl _ _) | (with_reducible refine Below.setCell ?_ (by first | omega | (simp; done) | (simp; omega)) _) | (with_reducible refine Below.alloc ?_ (by first | omega | (simp; done) | (simp; omega)) _) | (with_reducible refine Below.drew ?_) | (with_reducible refine below_drewN ?_ _) | (with_reducible refine Below.trans ?_ (Below.mono (by assumption) (by first | omega | (simp; done) | (simp; omega)))))))
  refine bodyPost_ret (v := .agg #[.int .i64 W, .int .i64 H, .slice (some ⟨p, 0, none⟩) n cp]) (by simp [results, Try.results93, go_sem, ↓IntWalk.iteOmega, *]) rfl ?_
  exact gave_pass Cp.out HB.out (by omega) (by omega)

set_option maxHeartbeats 2000000 in
theorem back1 (W H n b off cap : Nat) (G : Nat → Nat → Int) (rk ry : Int) (w : World) (s : Sides W H n) (hO : OkG n G) (hr : OkR rk ry) (hlt : b < w.heap.size) (hG : Grd w b off n G) :
    Calls Try.prog 94 #[.agg #[.int .i64 W, .int .i64 H, .slice (some ⟨b, off, none⟩) n cap], .agg #[.int .i64 rk, .int .i64 ry]] w (Gave W H n (colG rk (-ry) (pull W H (-1) G)) w) := by
  have S := Lib.hid s
  have HO2 := Lib.hid (okG_pull (way := -1) s.n0 hO)
  have HR := Lib.hid hr
  have D := Lib.hid (fun w' (hb : Below w.heap.size w w') => ebb1 W H n b off cap G w' s (Nat.lt_of_lt_of_le hlt hb.size) (hG.below hb hlt))
  clear hG s hO hr
  go_enter Try.func94, Try.ntmps94
  go_wp2
  go_region_held3 (fun w' => w'.cell? ⟨w.heap.size, 0, none⟩ = some (.int .i64 W) ∧ w'.cell? ⟨w.heap.size, 1, none⟩ = some (.int .i64 H) ∧ w'.cell? ⟨w.heap.size, 2, none⟩ = some (.slice (some ⟨b, off, none⟩) n cap) ∧ w'.cell? ⟨w.heap.size + 1, 0, none⟩ = some (.int .i64 rk) ∧ w'.cell? ⟨w.heap.size + 1, 1, none⟩ = some (.int .i64 ry)) (first | (go_split_ands; (try dsimp only); refine ⟨?_, ?_, ?_, ?_, ?_⟩ <;> (first | (with_reducible assumption) | (with_reducible exact keep_cell (by assumption) (by first | omega | (simp; done) | (simp; omega)) (by assumption)) | (simp [go_sem]; with_reducible assumption))) | (simp [go_sem, ↓IntWalk.iteOmega, *]; done)) (first | (go_at_call 139; (with_reducible refine (opposite_any rk ry _ HR.out).mono ?_); rintro e w1 ⟨rfl, hb⟩; obtain ⟨hc, hf, hz⟩ := bcall hb; (try simp at hc hf hz)) | (go_at_call 85; (with_reducible refine (D.out _ (by (repeat' (first | (with_reducible exact Below.refl _ _) | (with_reducible refine Below.setCell ?_ (by first | omega | (simp; done) | (simp; omega)) _) | (with_reducible refine Below.alloc ?_ (by first | omega | (simp; done) | (simp; omega)) _) | (with_reducible refine Below.drew ?_) | (with_reducible refine below_drewN ?_ _) | (with_reducible refine Below.trans ?_ (Below.mono (by assumption) (by first | omega | (simp; done) | (simp; omega)))))))).mono ?_); rintro e wo ⟨o, co, rfl, ho, loo, hb⟩; have Co := Lib.hid ho; clear ho; obtain ⟨hc, hf, hz⟩ := bcall hb; (try simp at hc hf hz loo)) | (go_at_call 138; (with_reducible refine (collided1 W H n o 0 co (pull W H (-1) G) rk (-ry) _ S.out HO2.out (okR_neg HR.out) (rowLt Co (by (repeat' (first | (with_reducible exact Below.refl _ _) | (with_reducible refine Below.setCell ?_ (by first | omega | (simp; done) | (simp; omega)) _) | (with_reducible refine Below.alloc ?_ (by first | omega | (simp; done) | (simp; omega)) _) | (with_reducible refine Below.drew ?_) | (with_reducible refine below_drewN ?_ _) | (with_reducible refine Below.trans ?_ (Below.mono (by assumption) (by first | omega | (simp; done) | (simp; omega)))))))) (rowGrd Co (by (repeat' (first | (with_reducible exact Below.refl _ _) | (with_reducible refine Below.setCell ?_ (by first | omega | (simp; done) | (simp; omega)) _) | (with_reducible refine Below.alloc ?_ (by first | omega | (simp; done) | (simp; omega)) _) | (with_reducible refine Below.drew ?_) | (with_reducible refine below_drewN ?_ _) | (with_reducible refine Below.trans ?_ (Below.mono (by assumption) (by first | omega | (simp; done) | (simp; omega))))))))).mono ?_); rintro e wp ⟨p, cp, rfl, hp, lop, hb⟩; have Cp := Lib.hid hp; clear hp; obtain ⟨hc, hf, hz⟩ := bcall hb; (try simp at hc hf hz lop)))
  go_wp2
  have HB := Lib.hid (show Below w.heap.size w wp from by (repeat' (first | (with_reducible exact Below.refl _ _) | (with_reducible refine Below.setCell ?_ (by first | omega | (simp; done) | (simp; omega)) _) | (with_reducible refine Below.alloc ?_ (by first | omega | (simp; done) | (simp; omega)) _) | (with_reducible refine Below.drew ?_) | (with_reducible refine below_drewN ?_ _) | (with_reducible refine Below.trans ?_ (Below.mono (by assumption) (by first | omega | (simp; done) | (simp; omega)))))))
  refine bodyPost_ret (v := .agg #[.int .i64 W, .int .i64 H, .slice (some ⟨p, 0, none⟩) n cp]) (by simp [results, Try.results94, go_sem, ↓IntWalk.iteOmega, *]) rfl ?_
  exact gave_pass Cp.out HB.out (by omega) (by omega)
end Go.Proofs.Ytloeggbndecbhaa
