/- Cells that meet walls or collide, steps among walls: by the reference. -/
import Derived.Test.YtnpmlbhlchoolaaDoorKWMet
import Derived.Test.YtnpmlbhlchoolaaDoorKRefG4
import Derived.Test.YtnpmlbhlchoolaaDoorKClone
import Derived.Deep.RegionLaw
namespace Go.Proofs.YtnpmlbhlchoolaaDoor
set_option linter.unusedSimpArgs false
set_option linter.unusedVariables false
open Go.RowKit

theorem afterM (K : Nat → Int) (G : Nat → Nat → Int) (i : Nat) (k y : Int) (w : World) (h0 : K i = 0) (h : Ok4 (G i 0) (G i 1) (G i 2) (G i 3)) (hr : OkR k y) :
    Calls Tryd.prog 106 #[.agg #[.int .i64 (G i 0), .int .i64 (G i 1), .int .i64 (G i 2), .int .i64 (G i 3)], .agg #[.int .i64 k, .int .i64 y]] w fun e w' => e = .returned (.agg #[.int .i64 (metG K k y G i 0), .int .i64 (metG K k y G i 1), .int .i64 (metG K k y G i 2), .int .i64 (metG K k y G i 3)]) ∧ Below w.heap.size w w' := by
  rw [met_open h0, met_open h0, met_open h0, met_open h0]
  exact afterG G i k y w h hr
theorem rsentM (K : Nat → Int) (G : Nat → Nat → Int) (i q : Nat) (k y : Int) (w : World) (hq : K i = q) (h1 : 1 ≤ q) (h2 : q < 4) :
    Calls Tryd.prog 97 #[.agg #[.int .i64 (G i 0), .int .i64 (G i 1), .int .i64 (G i 2), .int .i64 (G i 3)], .int .i64 q] w fun e w' => e = .returned (.agg #[.int .i64 (metG K k y G i 0), .int .i64 (metG K k y G i 1), .int .i64 (metG K k y G i 2), .int .i64 (metG K k y G i 3)]) ∧ Below w.heap.size w w' := by
  have h0 : K i ≠ 0 := by omega
  have e : (K i).toNat = q := by omega
  rw [met_shut h0, met_shut h0, met_shut h0, met_shut h0, e]
  exact rsent_any q _ _ _ _ w h2
theorem Three.newAt {w : World} {t : TypeId} {x y z : Value} {s : Nat} (hs : w.heap.size = s) : Three (w.alloc (.cells #[x, y, z] t)) s t x y z := hs ▸ Three.new0 w t x y z
theorem Two.newAt {w : World} {t : TypeId} {x y : Value} {s : Nat} (hs : w.heap.size = s) : Two (w.alloc (.cells #[x, y] t)) s t x y := hs ▸ Two.new w t x y
theorem blocks4 {w wo : World} {t1 t2 t3 t4 : TypeId} {a b c d e f g h i j : Value} (hb : Below ((((w.alloc (.cells #[a, b, c] t1)).alloc (.cells #[d, e] t2)).alloc (.cells #[f, g] t3)).alloc (.cells #[h, i, j] t4)).heap.size ((((w.alloc (.cells #[a, b, c] t1)).alloc (.cells #[d, e] t2)).alloc (.cells #[f, g] t3)).alloc (.cells #[h, i, j] t4)) wo) :
    Three wo w.heap.size t1 a b c ∧ Two wo (w.heap.size + 1) t2 d e ∧ Two wo (w.heap.size + 2) t3 f g ∧ Three wo (w.heap.size + 3) t4 h i j := by
  have x1 : Below (w.heap.size + 1) (w.alloc (.cells #[a, b, c] t1)) wo := by
    have y : Below (w.heap.size + 1) (w.alloc (.cells #[a, b, c] t1)) ((((w.alloc (.cells #[a, b, c] t1)).alloc (.cells #[d, e] t2)).alloc (.cells #[f, g] t3)).alloc (.cells #[h, i, j] t4)) := (((Below.refl _ _).alloc (by simp) _).alloc (by simp <;> omega) _).alloc (by simp <;> omega) _
    exact y.trans (hb.mono (by simp <;> omega))
  have x2 : Below (w.heap.size + 2) ((w.alloc (.cells #[a, b, c] t1)).alloc (.cells #[d, e] t2)) wo := by
    have y : Below (w.heap.size + 2) ((w.alloc (.cells #[a, b, c] t1)).alloc (.cells #[d, e] t2)) ((((w.alloc (.cells #[a, b, c] t1)).alloc (.cells #[d, e] t2)).alloc (.cells #[f, g] t3)).alloc (.cells #[h, i, j] t4)) := ((Below.refl _ _).alloc (by simp) _).alloc (by simp <;> omega) _
    exact y.trans (hb.mono (by simp <;> omega))
  have x3 : Below (w.heap.size + 3) (((w.alloc (.cells #[a, b, c] t1)).alloc (.cells #[d, e] t2)).alloc (.cells #[f, g] t3)) wo := by
    have y : Below (w.heap.size + 3) (((w.alloc (.cells #[a, b, c] t1)).alloc (.cells #[d, e] t2)).alloc (.cells #[f, g] t3)) ((((w.alloc (.cells #[a, b, c] t1)).alloc (.cells #[d, e] t2)).alloc (.cells #[f, g] t3)).alloc (.cells #[h, i, j] t4)) := (Below.refl _ _).alloc (by simp) _
    exact y.trans (hb.mono (by simp))
  exact ⟨(Three.newAt rfl).below x1 (by omega), (Two.newAt (by simp)).below x2 (by omega), (Two.newAt (by simp)).below x3 (by omega), (Three.newAt (by simp)).below hb (by simp)⟩

set_option maxRecDepth 100000 in
set_option maxHeartbeats 16000000 in
theorem rmet1 (W H n b off cap bk ok ck : Nat) (ab : Option Addr) (nb cb : Nat) (K : Nat → Int) (G : Nat → Nat → Int) (rk ry : Int) (w : World) (s : Sides W H n) (hO : OkG n G) (hr : OkR rk ry) (hlt : b < w.heap.size) (hG : Grd w b off n G) (hKK : OkK n K) (hbk : bk < w.heap.size) (hN : NumsAt w bk ok n K) :
    Calls Tryd.prog 75 #[.agg #[.int .i64 W, .int .i64 H, .slice (some ⟨b, off, none⟩) n cap], .agg #[.slice (some ⟨bk, ok, none⟩) n ck, .slice (ab) nb cb], .agg #[.int .i64 rk, .int .i64 ry]] w (Gave W H n (metG K rk ry G) w) := by
  have hn1 := s.n1
  have hn0 : 1 ≤ n := by
    rw [s.n0]
    exact Nat.mul_le_mul s.w0 s.h0
  have D := Lib.hid (fun w' (hb : Below w.heap.size w w') => rCopy_any W H b off n cap G w' hn0 (by omega) (Nat.lt_of_lt_of_le hlt hb.size) (hG.below hb hlt))
  have HO := Lib.hid hO; clear hO
  have HOK := Lib.hid hr; clear hr
  have HKK := Lib.hid hKK; clear hKK
  have HN := Lib.hid hN; clear hN
  clear hG s
  go_enter Tryd.func75, Tryd.ntmps75
  go_wp2_with (go_at_call 43; (with_reducible refine (D.out _ (by (repeat' (first | (with_reducible exact Below.refl _ _) | (with_reducible refine Below.setCell ?_ (by first | omega | (simp; done) | (simp; omega)) _) | (with_reducible refine Below.alloc ?_ (by first | omega | (simp; done) | (simp; omega)) _) | (with_reducible refine Below.drew ?_) | (with_reducible refine below_drewN ?_ _) | (with_reducible refine Below.trans ?_ (Below.mono (by assumption) (by first | omega | (simp; done) | (simp; omega)))))))).mono ?_); rintro e wo ⟨o, co, rfl, ho, loo, hb⟩; have Co := Lib.hid ho; clear ho; obtain ⟨hc, hf, hz⟩ := bcall hb; (try simp at hc hf hz loo))
  obtain ⟨tg, tw, t2, tr⟩ := blocks4 hb
  have hB : Below w.heap.size w wo := by (repeat' (first | (with_reducible exact Below.refl _ _) | (with_reducible refine Below.setCell ?_ (by first | omega | (simp; done) | (simp; omega)) _) | (with_reducible refine Below.alloc ?_ (by first | omega | (simp; done) | (simp; omega)) _) | (with_reducible refine Below.drew ?_) | (with_reducible refine below_drewN ?_ _) | (with_reducible refine Below.trans ?_ (Below.mono (by assumption) (by first | omega | (simp; done) | (simp; omega))))))
  obtain ⟨w0, hw0'⟩ : ∃ w0, w0 = ((wo.setCell ⟨w.heap.size, 0, none⟩ (.int .i64 W)).setCell ⟨w.heap.size, 1, none⟩ (.int .i64 H)).setCell ⟨w.heap.size, 2, none⟩ (.slice (some ⟨o, 0, none⟩) n co) := ⟨_, rfl⟩
  have x0 : Ex (fun k => k = w.heap.size) wo w0 := by rw [hw0']; exact three_ex
  have TG : Hid (Three w0 w.heap.size 24 (.int .i64 W) (.int .i64 H) (.slice (some ⟨o, 0, none⟩) n co)) := Lib.hid (by rw [hw0']; exact tg.set)
  have TR := Lib.hid (tr.ex x0 (by omega))
  have T2 : Hid (Two w0 (w.heap.size + 2) 58 (.int .i64 rk) (.int .i64 ry)) := Lib.hid ((x0.block _ t2.lt (by omega)).trans t2)
  have TW : Hid (Two w0 (w.heap.size + 1) 27 (.slice (some ⟨bk, ok, none⟩) n ck) (.slice ab nb cb)) := Lib.hid ((x0.block _ tw.lt (by omega)).trans tw)
  have HR := Lib.hid (Co.out.ex x0 (by omega))
  have HB := Lib.hid (hB.trans (x0.below hB.size (fun k hk => by omega)))
  rw [← hw0']
  have n0 : w.heap.size ≠ o := by omega
  have n1 : w.heap.size + 1 ≠ o := by omega
  have n2 : w.heap.size + 2 ≠ o := by omega
  have n3 : w.heap.size + 3 ≠ o := by omega
  have n4 : bk ≠ o := by omega
  clear hc hf hz hb hB tg tw t2 tr x0 Co hw0' D
  go_loopw [7] (fun i wr => ∃ (k : Nat) (L : Nat → Nat → Int), k ≤ n ∧ i = .int .i64 k ∧ Hid (Ex (fun k => k = o) w0 wr ∧ Row wr o n L ∧ Half n k (metG K rk ry G) G L)) (fun i _ => n - (intOf i).toNat)
  case atStart => exact ⟨0, _, Nat.zero_le _, rfl, Lib.hid ⟨Ex.refl _ _, HR.out, half_zero _ _ _⟩⟩
  case round =>
    obtain ⟨k, L, hk, rfl, HH⟩ := hrel
    have tg1 := TG.out.ex HH.out.1 n0
    have hlg := tg1.lt
    have k2 := tg1.c2
    by_cases hlk : k < n
    · have t21 : Two _ (w.heap.size + 2) 58 (.int .i64 rk) (.int .i64 ry) := (HH.out.1.block _ T2.out.lt n2).trans T2.out
      have tw1 : Two _ (w.heap.size + 1) 27 (.slice (some ⟨bk, ok, none⟩) n ck) (.slice ab nb cb) := (HH.out.1.block _ TW.out.lt n1).trans TW.out
      have hl2 := t21.lt
      have hlw := tw1.lt
      have d0 := t21.c0
      have d1 := t21.c1
      have kw := tw1.c0
      have hl1 := HH.out.2.1.1
      have hBr := HB.out.trans (HH.out.1.below HB.out.size (fun k hk => by omega))
      have kk := (hBr.cell (p := ⟨bk, ok + k, none⟩) hbk).trans (HN.out k hlk)
      have lbk : bk < wr.heap.size := Nat.lt_of_lt_of_le hbk hBr.size
      obtain ⟨a0, a1, a2, a3⟩ := HH.out.2.1.at4 hlk
      obtain ⟨f0, f1, f2, f3⟩ := HH.out.2.1.free4 hlk
      rw [HH.out.2.2.2 k (Nat.le_refl _) hlk 0 (by omega)] at a0
      rw [HH.out.2.2.2 k (Nat.le_refl _) hlk 1 (by omega)] at a1
      rw [HH.out.2.2.2 k (Nat.le_refl _) hlk 2 (by omega)] at a2
      rw [HH.out.2.2.2 k (Nat.le_refl _) hlk 3 (by omega)] at a3
      have HK := Lib.hid (HO.out.1 k hlk)
      have p0 : (0 : Int) ≤ (k : Int) := by omega
      have p1 : (k : Int) < (n : Int) := by omega
      obtain ⟨q, hq⟩ := Int.eq_ofNat_of_zero_le (HKK.out k hlk).1
      have hq3 : q < 4 := by have := (HKK.out k hlk).2; omega
      clear tg1 t21 tw1 hBr
      by_cases hq0 : q = 0
      · subst hq0
        have h0 := Lib.hid (show K k = 0 from hq)
        rw [h0.out] at kk
        clear hq hq3
        go_wp2
        go_region_law ((go_simp; go_at_call 106; (with_reducible refine (afterM K G k rk ry _ h0.out HK.out HOK.out).mono ?_); rintro e w7 ⟨rfl, hb7⟩; have y0 := (hb7.frozen (p := ⟨o, k * 4, none⟩) (by first | omega | (simp; done) | (simp; omega))).trans f0; have y1 := (hb7.frozen (p := ⟨o, k * 4 + 1, none⟩) (by first | omega | (simp; done) | (simp; omega))).trans f1; have y2 := (hb7.frozen (p := ⟨o, k * 4 + 2, none⟩) (by first | omega | (simp; done) | (simp; omega))).trans f2; have y3 := (hb7.frozen (p := ⟨o, k * 4 + 3, none⟩) (by first | omega | (simp; done) | (simp; omega))).trans f3; have v0 := keep_cell hb7 (by first | omega | (simp; done) | (simp; omega)) a0; have v1 := keep_cell hb7 (by first | omega | (simp; done) | (simp; omega)) a1; have v2 := keep_cell hb7 (by first | omega | (simp; done) | (simp; omega)) a2; have v3 := keep_cell hb7 (by first | omega | (simp; done) | (simp; omega)) a3; have u2 := keep_cell hb7 (by first | omega | (simp; done) | (simp; omega)) k2))
        all_goals
          have hX := Lib.hid (show Below wr.heap.size wr w7 from by (repeat' (first | (with_reducible exact Below.refl _ _) | (with_reducible refine Below.setCell ?_ (by first | omega | (simp; done) | (simp; omega)) _) | (with_reducible refine Below.alloc ?_ (by first | omega | (simp; done) | (simp; omega)) _) | (with_reducible refine Below.drew ?_) | (with_reducible refine below_drewN ?_ _) | (with_reducible refine Below.trans ?_ (Below.mono (by assumption) (by first | omega | (simp; done) | (simp; omega)))))))
          clear y0 y1 y2 y3 v0 v1 v2 v3 u2 hb7 a0 a1 a2 a3 f0 f1 f2 f3
          go_wp2
          go_roundw
          case rel =>
            obtain ⟨hx, hr, hh⟩ := HH.out
            have hx1 : Ex (fun _ => False) wr w7 := Ex.of_below hX.out
            obtain ⟨c1, c2⟩ := chain1 (hr.ex hx1 (fun x => x)) hlk (metG K rk ry G k 0) (metG K rk ry G k 1) (metG K rk ry G k 2) (metG K rk ry G k 3)
            exact ⟨k + 1, _, by omega, by go_num, Lib.hid ⟨(hx.trans (hx1.mono (fun _ h => h.elim))).trans c1, c2, half_step hh hlk⟩⟩
          case measure => simp [intOf]; omega
      · have hq1 : 1 ≤ q := by omega
        rw [hq] at kk
        have HQ := Lib.hid hq
        have e0 : ((q : Int) == 0) = false := beq_eq_false_iff_ne.2 (by omega)
        clear hq hq0
        go_wp2
        go_region_law ((go_simp; go_at_call 97; (with_reducible refine (rsentM K G k q rk ry _ HQ.out hq1 hq3).mono ?_); rintro e w7 ⟨rfl, hb7⟩; have y0 := (hb7.frozen (p := ⟨o, k * 4, none⟩) (by first | omega | (simp; done) | (simp; omega))).trans f0; have y1 := (hb7.frozen (p := ⟨o, k * 4 + 1, none⟩) (by first | omega | (simp; done) | (simp; omega))).trans f1; have y2 := (hb7.frozen (p := ⟨o, k * 4 + 2, none⟩) (by first | omega | (simp; done) | (simp; omega))).trans f2; have y3 := (hb7.frozen (p := ⟨o, k * 4 + 3, none⟩) (by first | omega | (simp; done) | (simp; omega))).trans f3; have v0 := keep_cell hb7 (by first | omega | (simp; done) | (simp; omega)) a0; have v1 := keep_cell hb7 (by first | omega | (simp; done) | (simp; omega)) a1; have v2 := keep_cell hb7 (by first | omega | (simp; done) | (simp; omega)) a2; have v3 := keep_cell hb7 (by first | omega | (simp; done) | (simp; omega)) a3; have u2 := keep_cell hb7 (by first | omega | (simp; done) | (simp; omega)) k2))
        all_goals
          have hX := Lib.hid (show Below wr.heap.size wr w7 from by (repeat' (first | (with_reducible exact Below.refl _ _) | (with_reducible refine Below.setCell ?_ (by first | omega | (simp; done) | (simp; omega)) _) | (with_reducible refine Below.alloc ?_ (by first | omega | (simp; done) | (simp; omega)) _) | (with_reducible refine Below.drew ?_) | (with_reducible refine below_drewN ?_ _) | (with_reducible refine Below.trans ?_ (Below.mono (by assumption) (by first | omega | (simp; done) | (simp; omega)))))))
          clear y0 y1 y2 y3 v0 v1 v2 v3 u2 hb7 a0 a1 a2 a3 f0 f1 f2 f3
          go_wp2
          go_roundw
          case rel =>
            obtain ⟨hx, hr, hh⟩ := HH.out
            have hx1 : Ex (fun _ => False) wr w7 := Ex.of_below hX.out
            obtain ⟨c1, c2⟩ := chain1 (hr.ex hx1 (fun x => x)) hlk (metG K rk ry G k 0) (metG K rk ry G k 1) (metG K rk ry G k 2) (metG K rk ry G k 3)
            exact ⟨k + 1, _, by omega, by go_num, Lib.hid ⟨(hx.trans (hx1.mono (fun _ h => h.elim))).trans c1, c2, half_step hh hlk⟩⟩
          case measure => simp [intOf]; omega
    · obtain rfl : n = k := by omega
      have tr1 := TR.out.ex HH.out.1 n3
      have p0 := tg1.c0
      have p1 := tg1.c1
      have g0 := tr1.free 0
      have g1 := tr1.free 1
      have g2 := tr1.free 2
      have q0 := tr1.c0
      have q1 := tr1.c1
      have q2 := tr1.c2
      clear tg1 tr1
      go_wp2
      refine bodyPost_ret (v := .agg #[.int .i64 W, .int .i64 H, .slice (some ⟨o, 0, none⟩) n co]) (by simp [results, Tryd.results75, go_sem, ↓IntWalk.iteOmega, *]) rfl ?_
      obtain ⟨hx, hr, hh⟩ := HH.out
      exact gave_pass (hr.eqG (half_all hh)) (HB.out.trans (hx.below HB.out.size (fun k hk => by omega))) (by omega) (by omega)

set_option maxHeartbeats 4000000 in
theorem rwstep1 (W H n b off cap bk ok ck : Nat) (ab : Option Addr) (nb cb : Nat) (K : Nat → Int) (G : Nat → Nat → Int) (rk ry : Int) (w : World) (s : Sides W H n) (hO : OkG n G) (hr : OkR rk ry) (hlt : b < w.heap.size) (hG : Grd w b off n G) (hKK : OkK n K) (hbk : bk < w.heap.size) (hN : NumsAt w bk ok n K) :
    Calls Tryd.prog 36 #[.agg #[.int .i64 W, .int .i64 H, .slice (some ⟨b, off, none⟩) n cap], .agg #[.slice (some ⟨bk, ok, none⟩) n ck, .slice (ab) nb cb], .agg #[.int .i64 rk, .int .i64 ry]] w (Gave W H n (pull W H 1 (metG K rk ry G)) w) := by
  have S := Lib.hid s
  have D := Lib.hid (fun w' (hb : Below w.heap.size w w') => rmet1 W H n b off cap bk ok ck ab nb cb K G rk ry w' s hO hr (Nat.lt_of_lt_of_le hlt hb.size) (hG.below hb hlt) hKK (Nat.lt_of_lt_of_le hbk hb.size) (hN.below hb hbk))
  clear hG s hO hr hKK hN
  go_enter Tryd.func36, Tryd.ntmps36
  go_wp2_with (go_at_call 75; (with_reducible refine (D.out _ (by (repeat' (first | (with_reducible exact Below.refl _ _) | (with_reducible refine Below.setCell ?_ (by first | omega | (simp; done) | (simp; omega)) _) | (with_reducible refine Below.alloc ?_ (by first | omega | (simp; done) | (simp; omega)) _) | (with_reducible refine Below.drew ?_) | (with_reducible refine below_drewN ?_ _) | (with_reducible refine Below.trans ?_ (Below.mono (by assumption) (by first | omega | (simp; done) | (simp; omega)))))))).mono ?_); rintro e wo ⟨o, co, rfl, ho, loo, hb⟩; have Co := Lib.hid ho; clear ho; obtain ⟨hc, hf, hz⟩ := bcall hb; (try simp at hc hf hz loo))
  have HB1 := Lib.hid (show Below w.heap.size w wo from by (repeat' (first | (with_reducible exact Below.refl _ _) | (with_reducible refine Below.setCell ?_ (by first | omega | (simp; done) | (simp; omega)) _) | (with_reducible refine Below.alloc ?_ (by first | omega | (simp; done) | (simp; omega)) _) | (with_reducible refine Below.drew ?_) | (with_reducible refine below_drewN ?_ _) | (with_reducible refine Below.trans ?_ (Below.mono (by assumption) (by first | omega | (simp; done) | (simp; omega)))))))
  have hlo : o < wo.heap.size := Co.out.1
  go_wp2_with (go_at_call 74; (with_reducible refine (flow1 W H n o 0 co (metG K rk ry G) _ S.out (rowLt Co (by (repeat' (first | (with_reducible exact Below.refl _ _) | (with_reducible refine Below.setCell ?_ (by first | omega | (simp; done) | (simp; omega)) _) | (with_reducible refine Below.alloc ?_ (by first | omega | (simp; done) | (simp; omega)) _) | (with_reducible refine Below.drew ?_) | (with_reducible refine below_drewN ?_ _) | (with_reducible refine Below.trans ?_ (Below.mono (by assumption) (by first | omega | (simp; done) | (simp; omega)))))))) (rowGrd Co (by (repeat' (first | (with_reducible exact Below.refl _ _) | (with_reducible refine Below.setCell ?_ (by first | omega | (simp; done) | (simp; omega)) _) | (with_reducible refine Below.alloc ?_ (by first | omega | (simp; done) | (simp; omega)) _) | (with_reducible refine Below.drew ?_) | (with_reducible refine below_drewN ?_ _) | (with_reducible refine Below.trans ?_ (Below.mono (by assumption) (by first | omega | (simp; done) | (simp; omega))))))))).mono ?_); rintro e wp ⟨p, cp, rfl, hp, lop, hb⟩; have Cp := Lib.hid hp; clear hp; obtain ⟨hc, hf, hz⟩ := bcall hb; (try simp at hc hf hz lop))
  have HB := Lib.hid (show Below w.heap.size w wp from by (repeat' (first | (with_reducible exact Below.refl _ _) | (with_reducible refine Below.setCell ?_ (by first | omega | (simp; done) | (simp; omega)) _) | (with_reducible refine Below.alloc ?_ (by first | omega | (simp; done) | (simp; omega)) _) | (with_reducible refine Below.drew ?_) | (with_reducible refine below_drewN ?_ _) | (with_reducible refine Below.trans ?_ (Below.mono (by assumption) (by first | omega | (simp; done) | (simp; omega)))))))
  refine bodyPost_ret (v := .agg #[.int .i64 W, .int .i64 H, .slice (some ⟨p, 0, none⟩) n cp]) (by simp [results, Tryd.results36, go_sem, ↓IntWalk.iteOmega, *]) rfl ?_
  exact gave_pass Cp.out HB.out (by omega) (by omega)

set_option maxHeartbeats 4000000 in
theorem rwback1 (W H n b off cap bk ok ck : Nat) (ab : Option Addr) (nb cb : Nat) (K : Nat → Int) (G : Nat → Nat → Int) (rk ry : Int) (w : World) (s : Sides W H n) (hO : OkG n G) (hr : OkR rk ry) (hlt : b < w.heap.size) (hG : Grd w b off n G) (hKK : OkK n K) (hbk : bk < w.heap.size) (hN : NumsAt w bk ok n K) :
    Calls Tryd.prog 39 #[.agg #[.int .i64 W, .int .i64 H, .slice (some ⟨b, off, none⟩) n cap], .agg #[.slice (some ⟨bk, ok, none⟩) n ck, .slice (ab) nb cb], .agg #[.int .i64 rk, .int .i64 ry]] w (Gave W H n (metG K rk (-ry) (pull W H (-1) G)) w) := by
  have HR := Lib.hid hr
  have M := Lib.hid (fun w' o co (hb : Below w.heap.size w w') (ho : o < w'.heap.size) (hg : Grd w' o 0 n (pull W H (-1) G)) => rmet1 W H n o 0 co bk ok ck ab nb cb K (pull W H (-1) G) rk (-ry) w' s (okG_pull (way := -1) s.n0 hO) (okR_neg hr) ho hg hKK (Nat.lt_of_lt_of_le hbk hb.size) (hN.below hb hbk))
  have D := Lib.hid (fun w' (hb : Below w.heap.size w w') => ebb1 W H n b off cap G w' s (Nat.lt_of_lt_of_le hlt hb.size) (hG.below hb hlt))
  clear hG s hO hr hKK hN
  go_enter Tryd.func39, Tryd.ntmps39
  go_wp2
  go_region_held3 (fun w' => w'.cell? ⟨w.heap.size, 0, none⟩ = some (.int .i64 W) ∧ w'.cell? ⟨w.heap.size, 1, none⟩ = some (.int .i64 H) ∧ w'.cell? ⟨w.heap.size, 2, none⟩ = some (.slice (some ⟨b, off, none⟩) n cap) ∧ w'.cell? ⟨w.heap.size + 1, 0, none⟩ = some (.slice (some ⟨bk, ok, none⟩) n ck) ∧ w'.cell? ⟨w.heap.size + 1, 1, none⟩ = some (.slice ab nb cb) ∧ w'.cell? ⟨w.heap.size + 2, 0, none⟩ = some (.int .i64 rk) ∧ w'.cell? ⟨w.heap.size + 2, 1, none⟩ = some (.int .i64 ry)) (first | (go_split_ands; (try dsimp only); refine ⟨?_, ?_, ?_, ?_, ?_, ?_, ?_⟩ <;> (first | (with_reducible assumption) | (with_reducible exact keep_cell (by assumption) (by first | omega | (simp; done) | (simp; omega)) (by assumption)) | (with_reducible exact (World.cell?_alloc_past _ _ _ (by show _ < _; omega)).trans (by assumption)) | (with_reducible exact (World.cell?_alloc_past _ _ _ (by show _ < _; omega)).trans ((World.cell?_alloc_past _ _ _ (by show _ < _; omega)).symm.trans (by assumption))) | (simp [go_sem]; with_reducible assumption))) | (simp [go_sem, ↓IntWalk.iteOmega, *]; done)) (first | (go_at_call 77; (with_reducible refine (opposite_any rk ry _ HR.out).mono ?_); rintro e w1 ⟨rfl, hb⟩; obtain ⟨hc, hf, hz⟩ := bcall hb; (try simp at hc hf hz)) | (go_at_call 76; (with_reducible refine (D.out _ (by (repeat' (first | (with_reducible exact Below.refl _ _) | (with_reducible refine Below.setCell ?_ (by first | omega | (simp; done) | (simp; omega)) _) | (with_reducible refine Below.alloc ?_ (by first | omega | (simp; done) | (simp; omega)) _) | (with_reducible refine Below.drew ?_) | (with_reducible refine below_drewN ?_ _) | (with_reducible refine Below.trans ?_ (Below.mono (by assumption) (by first | omega | (simp; done) | (simp; omega)))))))).mono ?_); rintro e wo ⟨o, co, rfl, ho, loo, hb⟩; have Co := Lib.hid ho; clear ho; obtain ⟨hc, hf, hz⟩ := bcall hb; (try simp at hc hf hz loo)) | (go_at_call 75; (with_reducible refine (M.out _ o co (by (repeat' (first | (with_reducible exact Below.refl _ _) | (with_reducible refine Below.setCell ?_ (by first | omega | (simp; done) | (simp; omega)) _) | (with_reducible refine Below.alloc ?_ (by first | omega | (simp; done) | (simp; omega)) _) | (with_reducible refine Below.drew ?_) | (with_reducible refine below_drewN ?_ _) | (with_reducible refine Below.trans ?_ (Below.mono (by assumption) (by first | omega | (simp; done) | (simp; omega))))))) (rowLt Co (by (repeat' (first | (with_reducible exact Below.refl _ _) | (with_reducible refine Below.setCell ?_ (by first | omega | (simp; done) | (simp; omega)) _) | (with_reducible refine Below.alloc ?_ (by first | omega | (simp; done) | (simp; omega)) _) | (with_reducible refine Below.drew ?_) | (with_reducible refine below_drewN ?_ _) | (with_reducible refine Below.trans ?_ (Below.mono (by assumption) (by first | omega | (simp; done) | (simp; omega)))))))) (rowGrd Co (by (repeat' (first | (with_reducible exact Below.refl _ _) | (with_reducible refine Below.setCell ?_ (by first | omega | (simp; done) | (simp; omega)) _) | (with_reducible refine Below.alloc ?_ (by first | omega | (simp; done) | (simp; omega)) _) | (with_reducible refine Below.drew ?_) | (with_reducible refine below_drewN ?_ _) | (with_reducible refine Below.trans ?_ (Below.mono (by assumption) (by first | omega | (simp; done) | (simp; omega))))))))).mono ?_); rintro e wp ⟨p, cp, rfl, hp, lop, hb⟩; have Cp := Lib.hid hp; clear hp; obtain ⟨hc, hf, hz⟩ := bcall hb; (try simp at hc hf hz lop)))
  go_wp2
  have HB := Lib.hid (show Below w.heap.size w wp from by (repeat' (first | (with_reducible exact Below.refl _ _) | (with_reducible refine Below.setCell ?_ (by first | omega | (simp; done) | (simp; omega)) _) | (with_reducible refine Below.alloc ?_ (by first | omega | (simp; done) | (simp; omega)) _) | (with_reducible refine Below.drew ?_) | (with_reducible refine below_drewN ?_ _) | (with_reducible refine Below.trans ?_ (Below.mono (by assumption) (by first | omega | (simp; done) | (simp; omega)))))))
  refine bodyPost_ret (v := .agg #[.int .i64 W, .int .i64 H, .slice (some ⟨p, 0, none⟩) n cp]) (by simp [results, Tryd.results39, go_sem, ↓IntWalk.iteOmega, *]) rfl ?_
  exact gave_pass Cp.out HB.out (by omega) (by omega)
end Go.Proofs.YtnpmlbhlchoolaaDoor
