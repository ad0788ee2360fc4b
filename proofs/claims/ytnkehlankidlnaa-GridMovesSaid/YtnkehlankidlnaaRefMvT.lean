/- Turned: by the reference. -/
import Derived.Test.YtnkehlankidlnaaRefMv
namespace Go.Proofs.Ytnkehlankidlnaa
set_option linter.unusedSimpArgs false
set_option linter.unusedVariables false
open Go.RowKit

set_option maxRecDepth 100000 in
set_option maxHeartbeats 4000000 in
theorem rTurned_in (W H n b off cap : Nat) (G : Nat → Nat → Int) (w : World) (s : Sides W H n) (hG : OkG n G) (hlt : b < w.heap.size) (hC : Grd w b off n G) :
    Calls Try.prog 34 #[.agg #[.int .i64 W, .int .i64 H, .slice (some ⟨b, off, none⟩) n cap]] w (Made H W n (tuG W H G) w) := by
  have E := Lib.hid (fun w' (hb : Below w.heap.size w w') => rValid_ok W H (some ⟨b, off, none⟩) n cap G w' (vg_of s hG) ((show CellsIn w _ n G from .inr ⟨b, off, rfl, hlt, hC⟩).below hb))
  have HS := Lib.hid (show ∀ k, k < n → (trp W H) k < n from fun k hk => by have := (trp_parts (s.n0 ▸ hk : k < W * H)).1; rw [s.n0, Nat.mul_comm]; exact this)
  have HJ := Lib.hid (show ∀ i j, i < n → j < n → (trp W H) i = (trp W H) j → i = j from fun i j hi hj h => by rw [← tip_back (s.n0 ▸ hi : i < W * H), ← tip_back (s.n0 ▸ hj : j < W * H), h])
  have HT := Lib.hid (show ∀ i, i < n → (tip W H) i < n ∧ (trp W H) ((tip W H) i) = i from fun i hi => by
    have n' : n = H * W := by rw [s.n0, Nat.mul_comm]
    refine ⟨?_, trp_back (n' ▸ hi : i < H * W)⟩
    have := (tip_parts (n' ▸ hi : i < H * W)).1
    rwa [← s.n0] at this)
  have HL := Lib.hid (show ∀ j, j < n → ∀ d, d < 4 → (tuG W H G) ((trp W H) j) d = (fun i d => G i ((d + 3) % 4)) j d from fun j hj d _ => tuG_at s.n0 hj d)
  have hn1 := s.n1
  have hw0 := s.w0
  have hw1 := s.w1
  have hh0 := s.h0
  have hh1 := s.h1
  have S := Lib.hid s
  have HC := Lib.hid hC
  clear s hG hC
  go_enter Try.func34, Try.ntmps34
  go_wp2_with (go_at_call 59; (with_reducible refine (E.out _ (by (repeat' (first | (with_reducible exact Below.refl _ _) | (with_reducible refine Below.setCell ?_ (by first | omega | (simp; done) | (simp; omega)) _) | (with_reducible refine Below.alloc ?_ (by first | omega | (simp; done) | (simp; omega)) _) | (with_reducible refine Below.drew ?_) | (with_reducible refine below_drewN ?_ _) | (with_reducible refine Below.trans ?_ (Below.mono (by assumption) (by first | omega | (simp; done) | (simp; omega)))))))).mono ?_); rintro e w1 ⟨rfl, hb⟩; obtain ⟨hc, hf, hz⟩ := bcall hb; (try simp at hc hf hz))
  (go_at_call 67; (with_reducible refine (blank_any H W n _ S.out.turn').mono ?_); rintro e wo ⟨o, co, rfl, ho, lo, hb2⟩)
  have H0 := Lib.hid (rmv_start (co := co) (wide := H) (high := W) (show Below ((w.alloc (.cells #[.int .i64 W, .int .i64 H, .slice (some ⟨b, off, none⟩) n cap] 40)).alloc (.cells #[.int .i64 0, .int .i64 0, .slice none 0 0] 40)).heap.size ((w.alloc (.cells #[.int .i64 W, .int .i64 H, .slice (some ⟨b, off, none⟩) n cap] 40)).alloc (.cells #[.int .i64 0, .int .i64 0, .slice none 0 0] 40)) wo from hb.trans (hb2.mono (by simp; omega))) ho (by omega))
  clear hc hf hz hb hb2 ho E
  obtain ⟨P, hP⟩ : ∃ P, P = wo.heap.size := ⟨_, rfl⟩
  obtain ⟨w0, hw0'⟩ : ∃ w0, w0 = wo.alloc (.cells #[.int .i64 H, .int .i64 W, .slice (some ⟨o, 0, none⟩) n co] 40) := ⟨_, rfl⟩
  have tQ := H0.out.1
  rw [← hw0'] at tQ
  have tQl := tQ.lt
  have tQ0 := tQ.c0
  have tQ1 := tQ.c1
  rw [← hP] at H0
  rw [← hw0'] at H0
  go_wp2
  rw [← hP, ← hw0']
  clear hP hw0' tQ
  clear tQl tQ0 tQ1
  go_loopw [5, 6, 7] (fun i s6 s7 wr => ∃ (k : Nat) (K : Nat → Nat → Int), k ≤ n ∧ i = .int .i64 k ∧ Hid (RMv w P o co W H H W b off n cap K wr ∧ Put (trp W H) (fun i d => G i ((d + 3) % 4)) K k)) (fun i _ _ _ => n - (intOf i).toNat)
  case atStart => exact ⟨0, _, Nat.zero_le _, rfl, Lib.hid ⟨H0.out, fun j hj => by omega⟩⟩
  case round =>
    obtain ⟨k, K, hk, rfl, HH⟩ := hrel
    obtain ⟨t0, t1, t3, hrow, qo, qP, qs, hbw⟩ := HH.out.1
    have l0 := t0.lt
    have l3 := t3.lt
    have g0 := t0.c0
    have g1 := t0.c1
    have g2 := t0.c2
    have p0 := t3.c0
    have p2 := t3.c2
    by_cases hlk : k < n
    · obtain ⟨e0, e1, e2, e3⟩ := HC.out.get hbw hlt hlk
      have ho := HS.out k hlk
      obtain ⟨a0, a1, a2, a3⟩ := hrow.at4 ho
      obtain ⟨f0, f1, f2, f3⟩ := hrow.free4 ho
      have lr := hrow.1
      have hsz := hbw.size
      have hbl : b < wr.heap.size := by omega
      obtain ⟨q, hq⟩ : ∃ q, q = (trp W H) k := ⟨_, rfl⟩
      rw [← hq] at ho a0 a1 a2 a3 f0 f1 f2 f3
      obtain ⟨X, Y, H1, A, M, hX, hY, hH1, hA, hM, hQ, x00, x01, y00, y01, h00, h01, a00, a01, m00, m01⟩ := tu_facts S.out hlk hq
      have tm := tmodW hX
      have s1 : IntKind.i64.wrap ((H : Int) - 1) = H1 := by rw [hH1]; exact IntWalk.i64_in _ ⟨by omega, by omega⟩
      have s2 : IntKind.i64.wrap (H1 - Y) = A := by rw [hA]; exact IntWalk.i64_in _ ⟨by omega, by omega⟩
      have s3 : IntKind.i64.wrap ((H : Int) * X) = M := by rw [hM]; exact IntWalk.i64_in _ ⟨by omega, by omega⟩
      have s4 : IntKind.i64.wrap (A + M) = (q : Int) := by rw [hQ]; exact IntWalk.i64_in _ ⟨by omega, by omega⟩
      have s5 : IntKind.i64.wrap Y = Y := IntWalk.i64_in _ ⟨by omega, by omega⟩
      have i0 : (0 : Int) ≤ (q : Int) := by omega
      have i1 : (q : Int) < (n : Int) := by omega
      clear hH1 hA hM hQ
      have wI : (0 : Int) < (W : Int) := by omega
      have wz : ¬ W = 0 := by omega
      have hz' : ¬ H = 0 := by omega
      have HQ := Lib.hid hq
      clear t0 t1 t3 hrow hbw hq
      go_wp2
      go_quiet (fail)
      go_wp2
      go_region_held3 (fun w' => w'.cell? ⟨P, 2, none⟩ = some (.slice (some ⟨o, 0, none⟩) n co) ∧ w'.cell? ⟨w.heap.size, 1, none⟩ = some (.int .i64 H) ∧ w'.cell? ⟨w.heap.size, 2, none⟩ = some (.slice (some ⟨b, off, none⟩) n cap) ∧ w'.cell? ⟨b, off + k * 4, none⟩ = some (.int .i64 (G k 0)) ∧ w'.cell? ⟨b, off + k * 4 + 1, none⟩ = some (.int .i64 (G k 1)) ∧ w'.cell? ⟨b, off + k * 4 + 2, none⟩ = some (.int .i64 (G k 2)) ∧ w'.cell? ⟨b, off + k * 4 + 3, none⟩ = some (.int .i64 (G k 3)) ∧ w'.cell? ⟨P, 0, none⟩ = some (.int .i64 H)) (first | (go_split_ands; (try dsimp only); refine ⟨?_, ?_, ?_, ?_, ?_, ?_, ?_, ?_⟩ <;> (first | (with_reducible assumption) | (with_reducible exact keep_cell (by assumption) (by first | omega | (simp; done) | (simp; omega)) (by assumption)) | (simp [go_sem]; with_reducible assumption))) | (simp [go_sem, ↓IntWalk.iteOmega, *]; done)) ((go_at_call 81; (with_reducible refine (quarter_any _ _ _ _ _).mono ?_); rintro e w5 ⟨rfl, hb5⟩; obtain ⟨hc5, hf5, hz5⟩ := bcall hb5; (try simp at hc5 hf5 hz5)))
      clear hX hY tm s1 s2 s3 s4 s5
      go_wp2
      have hx := Lib.hid (show Below wr.heap.size wr w5 from by (repeat' (first | (with_reducible exact Below.refl _ _) | (with_reducible refine Below.setCell ?_ (by first | omega | (simp; done) | (simp; omega)) _) | (with_reducible refine Below.alloc ?_ (by first | omega | (simp; done) | (simp; omega)) _) | (with_reducible refine Below.drew ?_) | (with_reducible refine below_drewN ?_ _) | (with_reducible refine Below.trans ?_ (Below.mono (by assumption) (by first | omega | (simp; done) | (simp; omega)))))))
      clear hc5 hf5 hb5
      go_roundw
      case rel =>
        obtain ⟨hm, hpt⟩ := HH.out
        have x := Ex.of_below (S := fun _ => False) hx.out
        obtain ⟨c1, c2⟩ := chain1 (hm.2.2.2.1.ex x (fun h => h)) ho (G k 3) (G k 0) (G k 1) (G k 2)
        exact ⟨k + 1, _, by omega, by go_num, Lib.hid ⟨hm.step ((x.mono (fun _ h => h.elim)).trans c1) c2, HQ.out ▸ put_step HJ.out hlk hpt⟩⟩
      case measure => simp [intOf]; omega
    · obtain rfl : n = k := by omega
      have p1 := t3.c1
      have g0' := t1.free 0
      have g1' := t1.free 1
      have g2' := t1.free 2
      have q0' := t1.c0
      have q1' := t1.c1
      have q2' := t1.c2
      have lr := hrow.1
      have HB := Lib.hid hbw
      have HR := Lib.hid hrow
      clear t0 t1 t3 hrow hbw
      go_wp2
      refine bodyPost_ret (v := .tuple #[.agg #[.int .i64 H, .int .i64 W, .slice (some ⟨o, 0, none⟩) n co], .int .i64 0]) (by simp [results, Try.results34, go_sem, ↓IntWalk.iteOmega, *]) rfl ?_
      exact made_pass (HR.out.eqG (put_all HH.out.2 HT.out HL.out)).cellsIn HB.out (by omega) (by omega)

set_option maxHeartbeats 1000000 in
theorem rTurned_bad (W H : Int) (n cap : Nat) (ao : Option Addr) (G : Nat → Nat → Int) (w : World) (hv : ¬ VG W H n G) (hC : CellsIn w ao n G) :
    Calls Try.prog 34 #[.agg #[.int .i64 W, .int .i64 H, .slice (ao) n cap]] w fun e w' => e = .returned (.tuple #[.agg #[.int .i64 0, .int .i64 0, .slice (none) 0 0], .int .i64 1]) ∧ Below w.heap.size w w' := by
  have HV := Lib.hid hv; clear hv
  have HC := Lib.hid hC; clear hC
  go_enter Try.func34, Try.ntmps34
  go_wp2_with (go_at_call 59; (with_reducible refine (rValid_bad W H ao n cap G _ HV.out (HC.out.below (by (repeat' (first | (with_reducible exact Below.refl _ _) | (with_reducible refine Below.setCell ?_ (by first | omega | (simp; done) | (simp; omega)) _) | (with_reducible refine Below.alloc ?_ (by first | omega | (simp; done) | (simp; omega)) _) | (with_reducible refine Below.drew ?_) | (with_reducible refine below_drewN ?_ _) | (with_reducible refine Below.trans ?_ (Below.mono (by assumption) (by first | omega | (simp; done) | (simp; omega))))))))).mono ?_); rintro e w1 ⟨rfl, hb⟩; obtain ⟨hc, hf, hz⟩ := bcall hb; (try simp at hc hf hz))
  refine bodyPost_ret (v := .tuple #[.agg #[.int .i64 0, .int .i64 0, .slice (none) 0 0], .int .i64 1]) (by simp [results, Try.results34, go_sem, ↓IntWalk.iteOmega, *]) rfl ⟨rfl, ?_⟩
  (repeat' (first | (with_reducible exact Below.refl _ _) | (with_reducible refine Below.setCell ?_ (by first | omega | (simp; done) | (simp; omega)) _) | (with_reducible refine Below.alloc ?_ (by first | omega | (simp; done) | (simp; omega)) _) | (with_reducible refine Below.drew ?_) | (with_reducible refine below_drewN ?_ _) | (with_reducible refine Below.trans ?_ (Below.mono (by assumption) (by first | omega | (simp; done) | (simp; omega))))))

theorem rTurned_ok (W H n cap : Nat) (ao : Option Addr) (G : Nat → Nat → Int) (w : World) (s : Sides W H n) (hG : OkG n G) (hC : CellsIn w ao n G) : Calls Try.prog 34 #[.agg #[.int .i64 W, .int .i64 H, .slice (ao) n cap]] w (Made H W n (tuG W H G) w) := by
  obtain ⟨b, off, rfl, hlt, hC⟩ := cells_of s hC
  exact rTurned_in W H n b off cap G w s hG hlt hC
end Go.Proofs.Ytnkehlankidlnaa
