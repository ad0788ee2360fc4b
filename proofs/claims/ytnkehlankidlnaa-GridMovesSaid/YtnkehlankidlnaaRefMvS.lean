/- Shifted: by the reference. -/
import Derived.Test.YtnkehlankidlnaaRefMv
namespace Go.Proofs.Ytnkehlankidlnaa
set_option linter.unusedSimpArgs false
set_option linter.unusedVariables false
open Go.RowKit

set_option maxRecDepth 100000 in
set_option maxHeartbeats 4000000 in
theorem rShifted_in (W H n b off cap : Nat) (x y : Int) (G : Nat → Nat → Int) (w : World) (s : Sides W H n) (hG : OkG n G) (hlt : b < w.heap.size) (hC : Grd w b off n G) :
    Calls Try.prog 32 #[.agg #[.int .i64 W, .int .i64 H, .slice (some ⟨b, off, none⟩) n cap], .int .i64 x, .int .i64 y] w (Made W H n (shG W H (x % (W : Int)).toNat (y % (H : Int)).toNat G) w) := by
  have E := Lib.hid (fun w' (hb : Below w.heap.size w w') => rValid_ok W H (some ⟨b, off, none⟩) n cap G w' (vg_of s hG) ((show CellsIn w _ n G from .inr ⟨b, off, rfl, hlt, hC⟩).below hb))
  have r0 := Lib.hid (fun w' => modulo2_all x W w' (by have := s.w0; omega) (by have := s.w1; omega))
  have r1 := Lib.hid (fun w' => modulo2_all y H w' (by have := s.h0; omega) (by have := s.h1; omega))
  have x0 := Int.emod_nonneg x (show (W : Int) ≠ 0 by have := s.w0; omega)
  have x1 := Int.emod_lt_of_pos x (show (0 : Int) < W by have := s.w0; omega)
  have y0 := Int.emod_nonneg y (show (H : Int) ≠ 0 by have := s.h0; omega)
  have y1 := Int.emod_lt_of_pos y (show (0 : Int) < H by have := s.h0; omega)
  obtain ⟨a, ha⟩ := Int.eq_ofNat_of_zero_le x0
  obtain ⟨c, hc'⟩ := Int.eq_ofNat_of_zero_le y0
  rw [ha, hc', Int.toNat_natCast, Int.toNat_natCast]
  rw [ha] at r0 x1
  rw [hc'] at r1 y1
  have x1' : a < W := by omega
  have y1' : c < H := by omega
  clear ha hc' x0 y0 x1 y1
  have HS := Lib.hid (show ∀ k, k < n → (shp W H a c) k < n from fun k hk => by have := (shp_parts (x := a) (y := c) (s.n0 ▸ hk : k < W * H)).1; rw [s.n0]; exact this)
  have HJ := Lib.hid (show ∀ i j, i < n → j < n → (shp W H a c) i = (shp W H a c) j → i = j from fun i j hi hj h => by
    obtain ⟨_, _, hW, hH⟩ := xy_of (s.n0 ▸ hi : i < W * H)
    have a1 := shp_back (s.n0 ▸ hi : i < W * H) (bk_zero a hW).1 (bk_zero c hH).1
    have b1 := shp_back (s.n0 ▸ hj : j < W * H) (bk_zero a hW).1 (bk_zero c hH).1
    rw [← a1, ← b1, h])
  have HT := Lib.hid (show ∀ i, i < n → (shp W H (bk W a) (bk H c)) i < n ∧ (shp W H a c) ((shp W H (bk W a) (bk H c)) i) = i from fun i hi => by
    obtain ⟨_, _, hW, hH⟩ := xy_of (s.n0 ▸ hi : i < W * H)
    refine ⟨?_, shp_back (s.n0 ▸ hi : i < W * H) (bk_zero a hW).2 (bk_zero c hH).2⟩
    have := (shp_parts (x := bk W a) (y := bk H c) (s.n0 ▸ hi : i < W * H)).1
    rwa [← s.n0] at this)
  have HL := Lib.hid (show ∀ j, j < n → ∀ d, d < 4 → (shG W H a c G) ((shp W H a c) j) d = G j d from fun j hj d _ => shG_at s.n0 hj d)
  have hn1 := s.n1
  have hw0 := s.w0
  have hw1 := s.w1
  have hh0 := s.h0
  have hh1 := s.h1
  have S := Lib.hid s
  have HC := Lib.hid hC
  clear s hG hC
  go_enter Try.func32, Try.ntmps32
  go_wp2_with (go_at_call 59; (with_reducible refine (E.out _ (by (repeat' (first | (with_reducible exact Below.refl _ _) | (with_reducible refine Below.setCell ?_ (by first | omega | (simp; done) | (simp; omega)) _) | (with_reducible refine Below.alloc ?_ (by first | omega | (simp; done) | (simp; omega)) _) | (with_reducible refine Below.drew ?_) | (with_reducible refine below_drewN ?_ _) | (with_reducible refine Below.trans ?_ (Below.mono (by assumption) (by first | omega | (simp; done) | (simp; omega)))))))).mono ?_); rintro e w1 ⟨rfl, hb⟩; obtain ⟨hc, hf, hz⟩ := bcall hb; (try simp at hc hf hz))
  (go_at_call 67; (with_reducible refine (blank_any W H n _ S.out).mono ?_); rintro e wo ⟨o, co, rfl, ho, lo, hb2⟩)
  have H0 := Lib.hid (rmv_start (co := co) (wide := W) (high := H) (show Below ((w.alloc (.cells #[.int .i64 W, .int .i64 H, .slice (some ⟨b, off, none⟩) n cap] 40)).alloc (.cells #[.int .i64 0, .int .i64 0, .slice none 0 0] 40)).heap.size ((w.alloc (.cells #[.int .i64 W, .int .i64 H, .slice (some ⟨b, off, none⟩) n cap] 40)).alloc (.cells #[.int .i64 0, .int .i64 0, .slice none 0 0] 40)) wo from hb.trans (hb2.mono (by simp; omega))) ho (by omega))
  clear hc hf hz hb hb2 ho E
  obtain ⟨P, hP⟩ : ∃ P, P = wo.heap.size := ⟨_, rfl⟩
  obtain ⟨w0, hw0'⟩ : ∃ w0, w0 = wo.alloc (.cells #[.int .i64 W, .int .i64 H, .slice (some ⟨o, 0, none⟩) n co] 40) := ⟨_, rfl⟩
  have tQ := H0.out.1
  rw [← hw0'] at tQ
  have tQl := tQ.lt
  have tQ0 := tQ.c0
  have tQ1 := tQ.c1
  rw [← hP] at H0
  rw [← hw0'] at H0
  go_wp2
  rw [← hP, ← hw0']
  clear hP hw0' tQ
  refine still_tail 8 (by kernel_rfl) (by kernel_rfl) ?_
  simp only [List.take_succ_cons, List.take_zero, List.drop_succ_cons, List.drop_zero]
  still_step; still_step; still_step
  still_call ((r0.out _).mono fun _ _ h => ⟨h.1, h.2.symm⟩)
  still_step; still_step; still_step
  still_call ((r1.out _).mono fun _ _ h => ⟨h.1, h.2.symm⟩)
  refine wpStill_nil ?_
  go_wp2
  clear tQl tQ0 tQ1
  go_loopw [9] (fun i wr => ∃ (k : Nat) (K : Nat → Nat → Int), k ≤ n ∧ i = .int .i64 k ∧ Hid (RMv w P o co W H W H b off n cap K wr ∧ Put (shp W H a c) G K k)) (fun i _ => n - (intOf i).toNat)
  case atStart => exact ⟨0, _, Nat.zero_le _, rfl, Lib.hid ⟨H0.out.step ((Ex.refl _ w0).drew) (H0.out.2.2.2.1.ex ((Ex.refl (fun _ => False) w0).drew) (fun h => h)), fun j hj => by omega⟩⟩
  case round =>
    obtain ⟨k, K, hk, rfl, HH⟩ := hrel
    obtain ⟨t0, t1, t3, hrow, qo, qP, qs, hbw⟩ := HH.out.1
    have l0 := t0.lt
    have l3 := t3.lt
    have g0 := t0.c0
    have g1 := t0.c1
    have g2 := t0.c2
    have p0 := t3.c0
    have p2 := t3.c2
    by_cases hlk : k < n
    · obtain ⟨e0, e1, e2, e3⟩ := HC.out.get hbw hlt hlk
      have ho := HS.out k hlk
      obtain ⟨a0, a1, a2, a3⟩ := hrow.at4 ho
      obtain ⟨f0, f1, f2, f3⟩ := hrow.free4 ho
      have lr := hrow.1
      have hsz := hbw.size
      have hbl : b < wr.heap.size := by omega
      obtain ⟨q, hq⟩ : ∃ q, q = (shp W H a c) k := ⟨_, rfl⟩
      rw [← hq] at ho a0 a1 a2 a3 f0 f1 f2 f3
      obtain ⟨X, Y, A, A2, B, B2, M, hX, hY, hA, hA2, tA, hB, hB2, tB, hM, hQ, x00, x01, y00, y01, a00, a01, b00, b01, a20, a21, b20, b21, m00, m01⟩ := sh_facts S.out hlk x1' y1' hq
      have tm := tmodW hX
      have s1 : IntKind.i64.wrap (X + (a : Int)) = A := by rw [hA]; exact IntWalk.i64_in _ ⟨by omega, by omega⟩
      have s2 : IntKind.i64.wrap (Y + (c : Int)) = B := by rw [hB]; exact IntWalk.i64_in _ ⟨by omega, by omega⟩
      have s3 : IntKind.i64.wrap (B2 * (W : Int)) = M := by rw [hM]; exact IntWalk.i64_in _ ⟨by omega, by omega⟩
      have s4 : IntKind.i64.wrap (A2 + M) = (q : Int) := by rw [hQ]; exact IntWalk.i64_in _ ⟨by omega, by omega⟩
      have s5 : IntKind.i64.wrap Y = Y := IntWalk.i64_in _ ⟨by omega, by omega⟩
      have i0 : (0 : Int) ≤ (q : Int) := by omega
      have i1 : (q : Int) < (n : Int) := by omega
      clear hA hB hM hQ
      have wI : (0 : Int) < (W : Int) := by omega
      have wz : ¬ W = 0 := by omega
      have hz' : ¬ H = 0 := by omega
      have HQ := Lib.hid hq
      clear t0 t1 t3 hrow hbw hq
      go_wp2
      go_region_held3 (fun w' => w'.cell? ⟨P, 2, none⟩ = some (.slice (some ⟨o, 0, none⟩) n co) ∧ w'.cell? ⟨w.heap.size, 0, none⟩ = some (.int .i64 W) ∧ w'.cell? ⟨w.heap.size, 1, none⟩ = some (.int .i64 H) ∧ w'.cell? ⟨w.heap.size, 2, none⟩ = some (.slice (some ⟨b, off, none⟩) n cap) ∧ w'.cell? ⟨b, off + k * 4, none⟩ = some (.int .i64 (G k 0)) ∧ w'.cell? ⟨b, off + k * 4 + 1, none⟩ = some (.int .i64 (G k 1)) ∧ w'.cell? ⟨b, off + k * 4 + 2, none⟩ = some (.int .i64 (G k 2)) ∧ w'.cell? ⟨b, off + k * 4 + 3, none⟩ = some (.int .i64 (G k 3))) (first | (go_split_ands; (try dsimp only); refine ⟨?_, ?_, ?_, ?_, ?_, ?_, ?_, ?_⟩ <;> (first | (with_reducible assumption) | (with_reducible exact keep_cell (by assumption) (by first | omega | (simp; done) | (simp; omega)) (by assumption)) | (simp [go_sem]; with_reducible assumption))) | (simp [go_sem, ↓IntWalk.iteOmega, *]; done)) (fail)
      clear hX hY hA2 tA hB2 tB tm s1 s2 s3 s4 s5
      go_wp2
      go_roundw
      case rel =>
        obtain ⟨hm, hpt⟩ := HH.out
        obtain ⟨c1, c2⟩ := chain1 (hm.2.2.2.1.ex (((Ex.refl (fun _ => False) wr).drewN 1)) (fun h => h)) ho (G k 0) (G k 1) (G k 2) (G k 3)
        exact ⟨k + 1, _, by omega, by go_num, Lib.hid ⟨hm.step ((((Ex.refl (fun _ => False) wr).drewN 1).mono (fun _ h => h.elim)).trans c1) c2, HQ.out ▸ put_step HJ.out hlk hpt⟩⟩
      case measure => simp [intOf]; omega
    · obtain rfl : n = k := by omega
      have p1 := t3.c1
      have g0' := t1.free 0
      have g1' := t1.free 1
      have g2' := t1.free 2
      have q0' := t1.c0
      have q1' := t1.c1
      have q2' := t1.c2
      have lr := hrow.1
      have HB := Lib.hid hbw
      have HR := Lib.hid hrow
      clear t0 t1 t3 hrow hbw
      go_wp2
      refine bodyPost_ret (v := .tuple #[.agg #[.int .i64 W, .int .i64 H, .slice (some ⟨o, 0, none⟩) n co], .int .i64 0]) (by simp [results, Try.results32, go_sem, ↓IntWalk.iteOmega, *]) rfl ?_
      exact made_pass (HR.out.eqG (put_all HH.out.2 HT.out HL.out)).cellsIn HB.out (by omega) (by omega)

set_option maxHeartbeats 1000000 in
theorem rShifted_bad (W H : Int) (n cap : Nat) (ao : Option Addr) (x y : Int) (G : Nat → Nat → Int) (w : World) (hv : ¬ VG W H n G) (hC : CellsIn w ao n G) :
    Calls Try.prog 32 #[.agg #[.int .i64 W, .int .i64 H, .slice (ao) n cap], .int .i64 x, .int .i64 y] w fun e w' => e = .returned (.tuple #[.agg #[.int .i64 0, .int .i64 0, .slice (none) 0 0], .int .i64 1]) ∧ Below w.heap.size w w' := by
  have HV := Lib.hid hv; clear hv
  have HC := Lib.hid hC; clear hC
  go_enter Try.func32, Try.ntmps32
  go_wp2_with (go_at_call 59; (with_reducible refine (rValid_bad W H ao n cap G _ HV.out (HC.out.below (by (repeat' (first | (with_reducible exact Below.refl _ _) | (with_reducible refine Below.setCell ?_ (by first | omega | (simp; done) | (simp; omega)) _) | (with_reducible refine Below.alloc ?_ (by first | omega | (simp; done) | (simp; omega)) _) | (with_reducible refine Below.drew ?_) | (with_reducible refine below_drewN ?_ _) | (with_reducible refine Below.trans ?_ (Below.mono (by assumption) (by first | omega | (simp; done) | (simp; omega))))))))).mono ?_); rintro e w1 ⟨rfl, hb⟩; obtain ⟨hc, hf, hz⟩ := bcall hb; (try simp at hc hf hz))
  refine bodyPost_ret (v := .tuple #[.agg #[.int .i64 0, .int .i64 0, .slice (none) 0 0], .int .i64 1]) (by simp [results, Try.results32, go_sem, ↓IntWalk.iteOmega, *]) rfl ⟨rfl, ?_⟩
  (repeat' (first | (with_reducible exact Below.refl _ _) | (with_reducible refine Below.setCell ?_ (by first | omega | (simp; done) | (simp; omega)) _) | (with_reducible refine Below.alloc ?_ (by first | omega | (simp; done) | (simp; omega)) _) | (with_reducible refine Below.drew ?_) | (with_reducible refine below_drewN ?_ _) | (with_reducible refine Below.trans ?_ (Below.mono (by assumption) (by first | omega | (simp; done) | (simp; omega))))))

theorem rShifted_ok (W H n cap : Nat) (ao : Option Addr) (x y : Int) (G : Nat → Nat → Int) (w : World) (s : Sides W H n) (hG : OkG n G) (hC : CellsIn w ao n G) : Calls Try.prog 32 #[.agg #[.int .i64 W, .int .i64 H, .slice (ao) n cap], .int .i64 x, .int .i64 y] w (Made W H n (shG W H (x % (W : Int)).toNat (y % (H : Int)).toNat G) w) := by
  obtain ⟨b, off, rfl, hlt, hC⟩ := cells_of s hC
  exact rShifted_in W H n b off cap x y G w s hG hlt hC
end Go.Proofs.Ytnkehlankidlnaa
