/- Shifted, Turned, Mirrored, Reversed: by the program. -/
import Derived.Test.YtnkehlankidlnaaMoved
namespace Go.Proofs.Ytnkehlankidlnaa
set_option linter.unusedSimpArgs false
set_option linter.unusedVariables false
open Go.RowKit

set_option maxHeartbeats 400000 in
theorem around_all (n m : Int) (w : World) (hm : 0 < m) (hm' : m ≤ 4000000000) :
    Calls Try.prog 77 #[.int .i64 n, .int .i64 m] w fun e w' => e = .returned (.int .i64 (n % m)) ∧ w = w' := by
  have q0 := Int.emod_nonneg n (show m ≠ 0 by omega)
  have q1 := Int.emod_lt_of_pos n hm
  by_cases hn : 0 ≤ n
  · go_enter Try.func77, Try.ntmps77
    go_wp2
    go_ret
    exact ⟨rfl, rfl⟩
  · rcases tmod_neg (n := n) (m := m) (by omega) hm with ⟨t0, t1⟩ | ⟨t0, t1⟩
    · have T := Lib.hid t1; clear t1
      have t2 : -4000000000 ≤ n.tmod m := by have := T.out; omega
      have t3 : n.tmod m + m ≤ 4000000000 := by have := T.out; omega
      go_enter Try.func77, Try.ntmps77
      go_wp2
      go_ret
      exact ⟨ret_i T.out, rfl⟩
    · have T := Lib.hid t1; clear t1
      have T0 := Lib.hid t0
      have t2 : 0 ≤ n.tmod m := by omega
      have t3 : n.tmod m ≤ 0 := by omega
      clear t0
      go_enter Try.func77, Try.ntmps77
      go_wp2
      go_ret
      exact ⟨ret_i (by rw [T.out, T0.out]), rfl⟩

/-- What turns a cell by quarters. -/
def Qt (k : Int) (w : World) (e : Ending) (w' : World) : Prop := ∃ q, e = .returned (.func (.func 104) #[] #[.pointer (some ⟨q, 0, none⟩)]) ∧ w'.cell? ⟨q, 0, none⟩ = some (.int .i64 k) ∧ q < w'.heap.size ∧ Below w.heap.size w w'
set_option maxHeartbeats 400000 in
theorem turnedBy_any (k : Int) (w : World) : Calls Try.prog 66 #[.int .i64 k] w (Qt k w) := by
  go_enter Try.func66, Try.ntmps66
  go_wp2
  go_ret
  exact ⟨w.heap.size, rfl, by simp, by simp, by (repeat' (first | (with_reducible exact Below.refl _ _) | (with_reducible refine Below.setCell ?_ (by first | omega | (simp; done) | (simp; omega)) _) | (with_reducible refine Below.alloc ?_ (by first | omega | (simp; done) | (simp; omega)) _) | (with_reducible refine Below.drew ?_) | (with_reducible refine below_drewN ?_ _) | (with_reducible refine Below.trans ?_ (Below.mono (by assumption) (by first | omega | (simp; done) | (simp; omega))))))⟩

theorem xy_int {W H n k : Nat} (s : Sides W H n) (hk : k < n) : (k : Int) % (W : Int) = ((k % W : Nat) : Int) ∧ (k : Int) / (W : Int) = ((k / W : Nat) : Int) ∧ k % W < W ∧ k / W < H ∧ 0 ≤ (k : Int) % (W : Int) ∧ 0 ≤ (k : Int) / (W : Int) :=
  ⟨(Int.natCast_emod _ _).symm, (Int.natCast_ediv _ _).symm, (xy_of (s.n0 ▸ hk)).1, (xy_of (s.n0 ▸ hk)).2.1, by rw [← Int.natCast_emod]; exact Int.natCast_nonneg _, by rw [← Int.natCast_ediv]; exact Int.natCast_nonneg _⟩

theorem reMoved (W H n b off cap q0 : Nat) (G : Nat → Nat → Int) (w : World) (s : Sides W H n) (hO : OkG n G) (hlt : b < w.heap.size) (hG : Grd w b off n G) (lq : q0 < w.heap.size) (kq : w.cell? ⟨q0, 0, none⟩ = some (.int .i64 2)) :
    Calls Try.prog 65 #[.agg #[.int .i64 W, .int .i64 H, .slice (some ⟨b, off, none⟩) n cap], .int .i64 W, .int .i64 H, .func (.func 64) #[] #[], .func (.func 104) #[] #[.pointer (some ⟨q0, 0, none⟩)]] w (Gave W H n (reG G) w) := by
  refine movedR W H W H n b off cap q0 G (reG G) (reG G) (fun i => i) (fun i => i) (fun k => (k : Int) % (W : Int)) (fun k => (k : Int) / (W : Int)) w s hlt hG ?_ ?_ ?_ (fun k hk => hk) (fun i j _ _ h => h) (fun i hi => ⟨hi, rfl⟩) (fun _ _ _ _ => rfl)
  · exact fun k _ w' _ => stays_any _ _ w'
  · exact fun k hk w' hb => quarters2 _ _ _ _ q0 w' (hO.1 k hk) (Nat.lt_of_lt_of_le lq hb.size) ((hb.cell (p := ⟨q0, 0, none⟩) lq).trans kq)
  · intro k hk w' ao
    obtain ⟨e1, e2, h1, h2, h3, h4⟩ := xy_int s hk
    have := s.w1
    have := s.h1
    have := s.n1
    refine index_any W H ao n n _ _ k w' (by omega) (by omega) (by omega) (by omega) (by omega) (by omega) ?_ (by omega)
    rw [e1, e2, ← Int.natCast_mul, ← Int.natCast_add, Nat.mod_add_div]

theorem shMoved (W H n b off cap xb gb yb q0 x y : Nat) (G : Nat → Nat → Int) (w : World) (s : Sides W H n) (hO : OkG n G) (hlt : b < w.heap.size) (hG : Grd w b off n G) (hx : x < W) (hy : y < H)
    (lx : xb < w.heap.size) (lg : gb < w.heap.size) (ly : yb < w.heap.size) (lq : q0 < w.heap.size)
    (kx : w.cell? ⟨xb, 0, none⟩ = some (.int .i64 x)) (ky : w.cell? ⟨yb, 0, none⟩ = some (.int .i64 y)) (k0 : w.cell? ⟨gb, 0, none⟩ = some (.int .i64 W)) (k1 : w.cell? ⟨gb, 1, none⟩ = some (.int .i64 H)) (kq : w.cell? ⟨q0, 0, none⟩ = some (.int .i64 0)) :
    Calls Try.prog 65 #[.agg #[.int .i64 W, .int .i64 H, .slice (some ⟨b, off, none⟩) n cap], .int .i64 W, .int .i64 H, .func (.func 78) #[] #[.pointer (some ⟨xb, 0, none⟩), .pointer (some ⟨gb, 0, none⟩), .pointer (some ⟨yb, 0, none⟩)], .func (.func 104) #[] #[.pointer (some ⟨q0, 0, none⟩)]] w (Gave W H n (shG W H x y G) w) := by
  have hw1 := s.w1
  have hh1 := s.h1
  have hn1 := s.n1
  refine movedS W H W H n b off cap xb gb yb q0 G G (shG W H x y G) (shp W H x y) (shp W H (bk W x) (bk H y)) (fun k => ((k : Int) % (W : Int) + x) % (W : Int)) (fun k => ((k : Int) / (W : Int) + y) % (H : Int)) w s hlt hG ?_ ?_ ?_
    (fun k hk => by have := (shp_parts (x := x) (y := y) (s.n0 ▸ hk : k < W * H)).1; rw [s.n0]; exact this) (fun i j hi hj h => ?_) (fun i hi => ?_) (fun j hj d _ => shG_at s.n0 hj d)
  · intro k hk w' hb
    obtain ⟨e1, e2, h1, h2, h3, h4⟩ := xy_int s hk
    exact shifts_any _ _ x y W H xb gb yb w' (by omega) (by omega) (by omega) (by omega) (by omega) (by omega) (by omega) (by omega) (by omega) (by omega) (by omega) (by omega)
      (Nat.lt_of_lt_of_le lx hb.size) (Nat.lt_of_lt_of_le lg hb.size) (Nat.lt_of_lt_of_le ly hb.size) ((hb.cell (p := ⟨xb, 0, none⟩) lx).trans kx) ((hb.cell (p := ⟨yb, 0, none⟩) ly).trans ky) ((hb.cell (p := ⟨gb, 0, none⟩) lg).trans k0) ((hb.cell (p := ⟨gb, 1, none⟩) lg).trans k1)
  · exact fun k hk w' hb => quarters0 _ _ _ _ q0 w' (hO.1 k hk) (Nat.lt_of_lt_of_le lq hb.size) ((hb.cell (p := ⟨q0, 0, none⟩) lq).trans kq)
  · intro k hk w' ao
    obtain ⟨e1, e2, h1, h2, h3, h4⟩ := xy_int s hk
    have a1 : k % W + x < 5000 := by omega
    have m0 := Nat.mod_lt (k % W + x) (show 0 < W by omega)
    have m1 := Nat.mod_lt (k / W + y) (show 0 < H by omega)
    have f1 : ((k : Int) % (W : Int) + x) % (W : Int) = (((k % W + x) % W : Nat) : Int) := by rw [e1, ← Int.natCast_add, ← Int.natCast_emod]
    have f2 : ((k : Int) / (W : Int) + y) % (H : Int) = (((k / W + y) % H : Nat) : Int) := by rw [e2, ← Int.natCast_add, ← Int.natCast_emod]
    have lt := (shp_parts (x := x) (y := y) (s.n0 ▸ hk : k < W * H)).1
    rw [← s.n0] at lt
    refine index_any W H ao n n _ _ (shp W H x y k) w' (by omega) (by omega) (by rw [f1]; omega) (by rw [f1]; omega) (by rw [f2]; omega) (by rw [f2]; omega) ?_ (by omega)
    rw [f1, f2, ← Int.natCast_mul, ← Int.natCast_add]
    rfl
  · obtain ⟨_, _, hW, hH⟩ := xy_of (s.n0 ▸ hi : i < W * H)
    have a := shp_back (s.n0 ▸ hi : i < W * H) (bk_zero x hW).1 (bk_zero y hH).1
    have b := shp_back (s.n0 ▸ hj : j < W * H) (bk_zero x hW).1 (bk_zero y hH).1
    rw [← a, ← b, h]
  · obtain ⟨_, _, hW, hH⟩ := xy_of (s.n0 ▸ hi : i < W * H)
    refine ⟨?_, shp_back (s.n0 ▸ hi : i < W * H) (bk_zero x hW).2 (bk_zero y hH).2⟩
    have := (shp_parts (x := bk W x) (y := bk H y) (s.n0 ▸ hi : i < W * H)).1
    rwa [← s.n0] at this

theorem tuMoved (W H n b off cap gb q0 : Nat) (G : Nat → Nat → Int) (w : World) (s : Sides W H n) (hO : OkG n G) (hlt : b < w.heap.size) (hG : Grd w b off n G)
    (lg : gb < w.heap.size) (lq : q0 < w.heap.size) (k1 : w.cell? ⟨gb, 1, none⟩ = some (.int .i64 H)) (kq : w.cell? ⟨q0, 0, none⟩ = some (.int .i64 1)) :
    Calls Try.prog 65 #[.agg #[.int .i64 W, .int .i64 H, .slice (some ⟨b, off, none⟩) n cap], .int .i64 H, .int .i64 W, .func (.func 80) #[] #[.pointer (some ⟨gb, 0, none⟩)], .func (.func 104) #[] #[.pointer (some ⟨q0, 0, none⟩)]] w (Gave H W n (tuG W H G) w) := by
  have hw1 := s.w1
  have hh1 := s.h1
  have hn1 := s.n1
  have n' : n = H * W := by rw [s.n0, Nat.mul_comm]
  refine movedT W H H W n b off cap gb q0 G (fun i d => G i ((d + 3) % 4)) (tuG W H G) (trp W H) (tip W H) (fun k => (H : Int) - 1 - (k : Int) / (W : Int)) (fun k => (k : Int) % (W : Int)) w s hlt hG ?_ ?_ ?_
    (fun k hk => by have := (trp_parts (s.n0 ▸ hk : k < W * H)).1; rw [n']; exact this) (fun i j hi hj h => ?_) (fun i hi => ?_) (fun j hj d _ => tuG_at s.n0 hj d)
  · intro k hk w' hb
    obtain ⟨e1, e2, h1, h2, h3, h4⟩ := xy_int s hk
    exact turns_any _ _ W H gb w' (by omega) (by omega) (by omega) (by omega) (by omega) (by omega) (Nat.lt_of_lt_of_le lg hb.size) ((hb.cell (p := ⟨gb, 1, none⟩) lg).trans k1)
  · exact fun k hk w' hb => quarters1 _ _ _ _ q0 w' (hO.1 k hk) (Nat.lt_of_lt_of_le lq hb.size) ((hb.cell (p := ⟨q0, 0, none⟩) lq).trans kq)
  · intro k hk w' ao
    obtain ⟨e1, e2, h1, h2, h3, h4⟩ := xy_int s hk
    have f1 : (H : Int) - 1 - (k : Int) / (W : Int) = ((H - 1 - k / W : Nat) : Int) := by rw [e2]; generalize k / W = z at *; omega
    have lt := (trp_parts (s.n0 ▸ hk : k < W * H)).1
    rw [← n'] at lt
    have z := flip_lt (H := H) (q := k / W) (by omega)
    refine index_any H W ao n n _ _ (trp W H k) w' (by omega) (by omega) (by rw [f1]; exact Int.natCast_nonneg _) (by rw [f1]; have := Nat.le_trans (Nat.le_of_lt z) (show H ≤ 5000 by omega); generalize H - 1 - k / W = z' at *; omega) (by omega) (by omega) ?_ (by omega)
    rw [f1, e1, ← Int.natCast_mul, ← Int.natCast_add]
    rfl
  · rw [← tip_back (s.n0 ▸ hi : i < W * H), ← tip_back (s.n0 ▸ hj : j < W * H), h]
  · refine ⟨?_, trp_back (n' ▸ hi : i < H * W)⟩
    have := (tip_parts (n' ▸ hi : i < H * W)).1
    rwa [← s.n0] at this

theorem miMoved (W H n b off cap gb : Nat) (G : Nat → Nat → Int) (w : World) (s : Sides W H n) (hO : OkG n G) (hlt : b < w.heap.size) (hG : Grd w b off n G)
    (lg : gb < w.heap.size) (k0 : w.cell? ⟨gb, 0, none⟩ = some (.int .i64 W)) :
    Calls Try.prog 65 #[.agg #[.int .i64 W, .int .i64 H, .slice (some ⟨b, off, none⟩) n cap], .int .i64 W, .int .i64 H, .func (.func 82) #[] #[.pointer (some ⟨gb, 0, none⟩)], .func (.func 83) #[] #[]] w (Gave W H n (miG W G) w) := by
  have hw1 := s.w1
  have hh1 := s.h1
  have hn1 := s.n1
  refine movedM W H W H n b off cap gb G (fun i d => G i (mdir d)) (miG W G) (mip W) (mip W) (fun k => (W : Int) - 1 - (k : Int) % (W : Int)) (fun k => (k : Int) / (W : Int)) w s hlt hG ?_ ?_ ?_
    (fun k hk => by have := (mip_parts (s.n0 ▸ hk : k < W * H)).1; rw [s.n0]; exact this) (fun i j hi hj h => ?_) (fun i hi => ?_) (fun j hj d _ => miG_at s.n0 hj d)
  · intro k hk w' hb
    obtain ⟨e1, e2, h1, h2, h3, h4⟩ := xy_int s hk
    exact flips_any _ _ W H gb w' (by omega) (by omega) (by omega) (by omega) (by omega) (by omega) (Nat.lt_of_lt_of_le lg hb.size) ((hb.cell (p := ⟨gb, 0, none⟩) lg).trans k0)
  · exact fun k hk w' hb => mirrored_ok _ _ _ _ w' (hO.1 k hk)
  · intro k hk w' ao
    obtain ⟨e1, e2, h1, h2, h3, h4⟩ := xy_int s hk
    have f1 : (W : Int) - 1 - (k : Int) % (W : Int) = ((W - 1 - k % W : Nat) : Int) := by rw [e1]; generalize k % W = z at *; omega
    have lt := (mip_parts (s.n0 ▸ hk : k < W * H)).1
    rw [← s.n0] at lt
    have z := flip_lt (H := W) (q := k % W) (by omega)
    refine index_any W H ao n n _ _ (mip W k) w' (by omega) (by omega) (by rw [f1]; exact Int.natCast_nonneg _) (by rw [f1]; have := Nat.le_trans (Nat.le_of_lt z) (show W ≤ 5000 by omega); generalize W - 1 - k % W = z' at *; omega) (by omega) (by omega) ?_ (by omega)
    rw [f1, e2, ← Int.natCast_mul, ← Int.natCast_add]
    rfl
  · rw [← mip_back (s.n0 ▸ hi : i < W * H), ← mip_back (s.n0 ▸ hj : j < W * H), h]
  · refine ⟨?_, mip_back (s.n0 ▸ hi : i < W * H)⟩
    have := (mip_parts (s.n0 ▸ hi : i < W * H)).1
    rwa [← s.n0] at this


set_option maxHeartbeats 2000000 in
theorem gReversed_in (W H n b off cap : Nat) (G : Nat → Nat → Int) (w : World) (s : Sides W H n) (hG : OkG n G) (hlt : b < w.heap.size) (hC : Grd w b off n G) :
    Calls Try.prog 25 #[.agg #[.int .i64 W, .int .i64 H, .slice (some ⟨b, off, none⟩) n cap]] w (Made W H n (reG G) w) := by
  have HV := Lib.hid (fun w' (hb : Below w.heap.size w w') => gValid_ok W H (some ⟨b, off, none⟩) n cap G w' (vg_of s hG) ((show CellsIn w _ n G from .inr ⟨b, off, rfl, hlt, hC⟩).below hb))
  have S := Lib.hid s
  have HO := Lib.hid hG
  have HC := Lib.hid hC
  clear s hG hC
  go_enter Try.func25, Try.ntmps25
  go_wp2_with (go_at_call 63; (with_reducible refine (HV.out _ (by (repeat' (first | (with_reducible exact Below.refl _ _) | (with_reducible refine Below.setCell ?_ (by first | omega | (simp; done) | (simp; omega)) _) | (with_reducible refine Below.alloc ?_ (by first | omega | (simp; done) | (simp; omega)) _) | (with_reducible refine Below.drew ?_) | (with_reducible refine below_drewN ?_ _) | (with_reducible refine Below.trans ?_ (Below.mono (by assumption) (by first | omega | (simp; done) | (simp; omega)))))))).mono ?_); rintro e w1 ⟨rfl, hb⟩; obtain ⟨hc, hf, hz⟩ := bcall hb; (try simp at hc hf hz))
  go_region_held3 (fun w' => w'.cell? ⟨w.heap.size, 0, none⟩ = some (.int .i64 W) ∧ w'.cell? ⟨w.heap.size, 1, none⟩ = some (.int .i64 H) ∧ w'.cell? ⟨w.heap.size, 2, none⟩ = some (.slice (some ⟨b, off, none⟩) n cap)) (first | (go_split_ands; (try dsimp only); refine ⟨?_, ?_, ?_⟩ <;> (first | (with_reducible assumption) | (with_reducible exact keep_cell (by assumption) (by first | omega | (simp; done) | (simp; omega)) (by assumption)) | (simp [go_sem]; with_reducible assumption))) | (simp [go_sem, ↓IntWalk.iteOmega, *]; done)) (first | (go_at_call 66; (with_reducible refine (turnedBy_any 2 _).mono ?_); rintro e wq ⟨q, rfl, kq, lq, hbq⟩; obtain ⟨hcq, hfq, hzq⟩ := bcall hbq; (try simp at hcq hfq hzq)) | (go_at_call 65; (with_reducible refine (reMoved W H n b off cap q G wq S.out HO.out (Nat.lt_of_lt_of_le hlt (Below.size (show Below w.heap.size w wq from by (repeat' (first | (with_reducible exact Below.refl _ _) | (with_reducible refine Below.setCell ?_ (by first | omega | (simp; done) | (simp; omega)) _) | (with_reducible refine Below.alloc ?_ (by first | omega | (simp; done) | (simp; omega)) _) | (with_reducible refine Below.drew ?_) | (with_reducible refine below_drewN ?_ _) | (with_reducible refine Below.trans ?_ (Below.mono (by assumption) (by first | omega | (simp; done) | (simp; omega))))))))) (HC.out.below (by (repeat' (first | (with_reducible exact Below.refl _ _) | (with_reducible refine Below.setCell ?_ (by first | omega | (simp; done) | (simp; omega)) _) | (with_reducible refine Below.alloc ?_ (by first | omega | (simp; done) | (simp; omega)) _) | (with_reducible refine Below.drew ?_) | (with_reducible refine below_drewN ?_ _) | (with_reducible refine Below.trans ?_ (Below.mono (by assumption) (by first | omega | (simp; done) | (simp; omega))))))) hlt) lq kq).mono ?_); rintro e wo ⟨o, co, rfl, ho, lo, hb⟩; have Co := Lib.hid ho; clear ho; obtain ⟨hc, hf, hz⟩ := bcall hb; (try simp at hc hf hz lo)))
  go_wp2
  have HB := Lib.hid (show Below w.heap.size w wo from by (repeat' (first | (with_reducible exact Below.refl _ _) | (with_reducible refine Below.setCell ?_ (by first | omega | (simp; done) | (simp; omega)) _) | (with_reducible refine Below.alloc ?_ (by first | omega | (simp; done) | (simp; omega)) _) | (with_reducible refine Below.drew ?_) | (with_reducible refine below_drewN ?_ _) | (with_reducible refine Below.trans ?_ (Below.mono (by assumption) (by first | omega | (simp; done) | (simp; omega)))))))
  refine bodyPost_ret (v := .tuple #[.agg #[.int .i64 W, .int .i64 H, .slice (some ⟨o, 0, none⟩) n co], .int .i64 0]) (by simp [results, Try.results25, go_sem, ↓IntWalk.iteOmega, *]) rfl ?_
  exact made_pass Co.out.cellsIn HB.out (by omega) (by omega)

set_option maxHeartbeats 2000000 in
theorem gTurned_in (W H n b off cap : Nat) (G : Nat → Nat → Int) (w : World) (s : Sides W H n) (hG : OkG n G) (hlt : b < w.heap.size) (hC : Grd w b off n G) :
    Calls Try.prog 33 #[.agg #[.int .i64 W, .int .i64 H, .slice (some ⟨b, off, none⟩) n cap]] w (Made H W n (tuG W H G) w) := by
  have HV := Lib.hid (fun w' (hb : Below w.heap.size w w') => gValid_ok W H (some ⟨b, off, none⟩) n cap G w' (vg_of s hG) ((show CellsIn w _ n G from .inr ⟨b, off, rfl, hlt, hC⟩).below hb))
  have S := Lib.hid s
  have HO := Lib.hid hG
  have HC := Lib.hid hC
  clear s hG hC
  go_enter Try.func33, Try.ntmps33
  go_wp2_with (go_at_call 63; (with_reducible refine (HV.out _ (by (repeat' (first | (with_reducible exact Below.refl _ _) | (with_reducible refine Below.setCell ?_ (by first | omega | (simp; done) | (simp; omega)) _) | (with_reducible refine Below.alloc ?_ (by first | omega | (simp; done) | (simp; omega)) _) | (with_reducible refine Below.drew ?_) | (with_reducible refine below_drewN ?_ _) | (with_reducible refine Below.trans ?_ (Below.mono (by assumption) (by first | omega | (simp; done) | (simp; omega)))))))).mono ?_); rintro e w1 ⟨rfl, hb⟩; obtain ⟨hc, hf, hz⟩ := bcall hb; (try simp at hc hf hz))
  go_region_held3 (fun w' => w'.cell? ⟨w.heap.size, 0, none⟩ = some (.int .i64 W) ∧ w'.cell? ⟨w.heap.size, 1, none⟩ = some (.int .i64 H) ∧ w'.cell? ⟨w.heap.size, 2, none⟩ = some (.slice (some ⟨b, off, none⟩) n cap)) (first | (go_split_ands; (try dsimp only); refine ⟨?_, ?_, ?_⟩ <;> (first | (with_reducible assumption) | (with_reducible exact keep_cell (by assumption) (by first | omega | (simp; done) | (simp; omega)) (by assumption)) | (simp [go_sem]; with_reducible assumption))) | (simp [go_sem, ↓IntWalk.iteOmega, *]; done)) (first | (go_at_call 66; (with_reducible refine (turnedBy_any 1 _).mono ?_); rintro e wq ⟨q, rfl, kq, lq, hbq⟩; obtain ⟨hcq, hfq, hzq⟩ := bcall hbq; (try simp at hcq hfq hzq)) | (go_at_call 65; (with_reducible refine (tuMoved W H n b off cap w.heap.size q G wq S.out HO.out (Nat.lt_of_lt_of_le hlt (Below.size (show Below w.heap.size w wq from by (repeat' (first | (with_reducible exact Below.refl _ _) | (with_reducible refine Below.setCell ?_ (by first | omega | (simp; done) | (simp; omega)) _) | (with_reducible refine Below.alloc ?_ (by first | omega | (simp; done) | (simp; omega)) _) | (with_reducible refine Below.drew ?_) | (with_reducible refine below_drewN ?_ _) | (with_reducible refine Below.trans ?_ (Below.mono (by assumption) (by first | omega | (simp; done) | (simp; omega))))))))) (HC.out.below (by (repeat' (first | (with_reducible exact Below.refl _ _) | (with_reducible refine Below.setCell ?_ (by first | omega | (simp; done) | (simp; omega)) _) | (with_reducible refine Below.alloc ?_ (by first | omega | (simp; done) | (simp; omega)) _) | (with_reducible refine Below.drew ?_) | (with_reducible refine below_drewN ?_ _) | (with_reducible refine Below.trans ?_ (Below.mono (by assumption) (by first | omega | (simp; done) | (simp; omega))))))) hlt) (by omega) lq (by have hh : wq.cell? ⟨w.heap.size, 0, none⟩ = some (.int .i64 W) ∧ wq.cell? ⟨w.heap.size, 1, none⟩ = some (.int .i64 H) ∧ wq.cell? ⟨w.heap.size, 2, none⟩ = some (.slice (some ⟨b, off, none⟩) n cap) := (by assumption); exact hh.2.1) kq).mono ?_); rintro e wo ⟨o, co, rfl, ho, lo, hb⟩; have Co := Lib.hid ho; clear ho; obtain ⟨hc, hf, hz⟩ := bcall hb; (try simp at hc hf hz lo)))
  go_wp2
  have HB := Lib.hid (show Below w.heap.size w wo from by (repeat' (first | (with_reducible exact Below.refl _ _) | (with_reducible refine Below.setCell ?_ (by first | omega | (simp; done) | (simp; omega)) _) | (with_reducible refine Below.alloc ?_ (by first | omega | (simp; done) | (simp; omega)) _) | (with_reducible refine Below.drew ?_) | (with_reducible refine below_drewN ?_ _) | (with_reducible refine Below.trans ?_ (Below.mono (by assumption) (by first | omega | (simp; done) | (simp; omega)))))))
  refine bodyPost_ret (v := .tuple #[.agg #[.int .i64 H, .int .i64 W, .slice (some ⟨o, 0, none⟩) n co], .int .i64 0]) (by simp [results, Try.results33, go_sem, ↓IntWalk.iteOmega, *]) rfl ?_
  exact made_pass Co.out.cellsIn HB.out (by omega) (by omega)

set_option maxHeartbeats 2000000 in
theorem gMirrored_in (W H n b off cap : Nat) (G : Nat → Nat → Int) (w : World) (s : Sides W H n) (hG : OkG n G) (hlt : b < w.heap.size) (hC : Grd w b off n G) :
    Calls Try.prog 35 #[.agg #[.int .i64 W, .int .i64 H, .slice (some ⟨b, off, none⟩) n cap]] w (Made W H n (miG W G) w) := by
  have HV := Lib.hid (fun w' (hb : Below w.heap.size w w') => gValid_ok W H (some ⟨b, off, none⟩) n cap G w' (vg_of s hG) ((show CellsIn w _ n G from .inr ⟨b, off, rfl, hlt, hC⟩).below hb))
  have S := Lib.hid s
  have HO := Lib.hid hG
  have HC := Lib.hid hC
  clear s hG hC
  go_enter Try.func35, Try.ntmps35
  go_wp2_with (go_at_call 63; (with_reducible refine (HV.out _ (by (repeat' (first | (with_reducible exact Below.refl _ _) | (with_reducible refine Below.setCell ?_ (by first | omega | (simp; done) | (simp; omega)) _) | (with_reducible refine Below.alloc ?_ (by first | omega | (simp; done) | (simp; omega)) _) | (with_reducible refine Below.drew ?_) | (with_reducible refine below_drewN ?_ _) | (with_reducible refine Below.trans ?_ (Below.mono (by assumption) (by first | omega | (simp; done) | (simp; omega)))))))).mono ?_); rintro e w1 ⟨rfl, hb⟩; obtain ⟨hc, hf, hz⟩ := bcall hb; (try simp at hc hf hz))
  have kb0 : w1.cell? ⟨w.heap.size, 0, none⟩ = some (.int .i64 W) := by simp [hc, go_sem]
  have hbw : Below w.heap.size w w1 := by (repeat' (first | (with_reducible exact Below.refl _ _) | (with_reducible refine Below.setCell ?_ (by first | omega | (simp; done) | (simp; omega)) _) | (with_reducible refine Below.alloc ?_ (by first | omega | (simp; done) | (simp; omega)) _) | (with_reducible refine Below.drew ?_) | (with_reducible refine below_drewN ?_ _) | (with_reducible refine Below.trans ?_ (Below.mono (by assumption) (by first | omega | (simp; done) | (simp; omega))))))
  go_at_call 65
  refine (miMoved W H n b off cap w.heap.size G w1 S.out HO.out (by omega) (HC.out.below hbw hlt) (by omega) kb0).mono ?_
  rintro e wo ⟨o, co, rfl, ho, lo, hb2⟩
  have Co := Lib.hid ho; clear ho
  have HB := Lib.hid (show Below w.heap.size w wo from hbw.trans (hb2.mono (by omega)))
  clear hbw kb0
  obtain ⟨hc2, hf2, hz2⟩ := bcall hb2
  go_wp2
  refine bodyPost_ret (v := .tuple #[.agg #[.int .i64 W, .int .i64 H, .slice (some ⟨o, 0, none⟩) n co], .int .i64 0]) (by simp [results, Try.results35, go_sem, ↓IntWalk.iteOmega, *]) rfl ?_
  exact made_pass Co.out.cellsIn HB.out (by omega) (by omega)

attribute [local irreducible] wpStill
set_option maxHeartbeats 4000000 in
theorem gShifted_in (W H n b off cap : Nat) (x y : Int) (G : Nat → Nat → Int) (w : World) (s : Sides W H n) (hG : OkG n G) (hlt : b < w.heap.size) (hC : Grd w b off n G) :
    Calls Try.prog 31 #[.agg #[.int .i64 W, .int .i64 H, .slice (some ⟨b, off, none⟩) n cap], .int .i64 x, .int .i64 y] w (Made W H n (shG W H (x % (W : Int)).toNat (y % (H : Int)).toNat G) w) := by
  have HV := Lib.hid (fun w' (hb : Below w.heap.size w w') => gValid_ok W H (some ⟨b, off, none⟩) n cap G w' (vg_of s hG) ((show CellsIn w _ n G from .inr ⟨b, off, rfl, hlt, hC⟩).below hb))
  have r0 := Lib.hid (fun w' => around_all x W w' (by have := s.w0; omega) (by have := s.w1; omega))
  have r1 := Lib.hid (fun w' => around_all y H w' (by have := s.h0; omega) (by have := s.h1; omega))
  have x0 := Int.emod_nonneg x (show (W : Int) ≠ 0 by have := s.w0; omega)
  have x1 := Int.emod_lt_of_pos x (show (0 : Int) < W by have := s.w0; omega)
  have y0 := Int.emod_nonneg y (show (H : Int) ≠ 0 by have := s.h0; omega)
  have y1 := Int.emod_lt_of_pos y (show (0 : Int) < H by have := s.h0; omega)
  obtain ⟨a, ha⟩ := Int.eq_ofNat_of_zero_le x0
  obtain ⟨c, hc'⟩ := Int.eq_ofNat_of_zero_le y0
  rw [ha, hc', Int.toNat_natCast, Int.toNat_natCast]
  rw [ha] at r0 x1
  rw [hc'] at r1 y1
  clear ha hc' x0 y0
  have S := Lib.hid s
  have HO := Lib.hid hG
  have HC := Lib.hid hC
  clear s hG hC
  go_enter Try.func31, Try.ntmps31
  go_wp2_with (go_at_call 63; (with_reducible refine (HV.out _ (by (repeat' (first | (with_reducible exact Below.refl _ _) | (with_reducible refine Below.setCell ?_ (by first | omega | (simp; done) | (simp; omega)) _) | (with_reducible refine Below.alloc ?_ (by first | omega | (simp; done) | (simp; omega)) _) | (with_reducible refine Below.drew ?_) | (with_reducible refine below_drewN ?_ _) | (with_reducible refine Below.trans ?_ (Below.mono (by assumption) (by first | omega | (simp; done) | (simp; omega)))))))).mono ?_); rintro e w1 ⟨rfl, hb⟩; obtain ⟨hc, hf, hz⟩ := bcall hb; (try simp at hc hf hz))
  refine still_tail 8 (by kernel_rfl) (by kernel_rfl) ?_
  simp only [List.take_succ_cons, List.take_zero, List.drop_succ_cons, List.drop_zero]
  still_step; still_step; still_step
  still_call ((r0.out _).mono fun _ _ h => ⟨h.1, h.2.symm⟩)
  still_step; still_step; still_step
  still_call ((r1.out _).mono fun _ _ h => ⟨h.1, h.2.symm⟩)
  refine wpStill_nil ?_
  go_wp2
  go_region_held3 (fun w' => w'.cell? ⟨w.heap.size, 0, none⟩ = some (.int .i64 W) ∧ w'.cell? ⟨w.heap.size, 1, none⟩ = some (.int .i64 H) ∧ w'.cell? ⟨w.heap.size, 2, none⟩ = some (.slice (some ⟨b, off, none⟩) n cap) ∧ w'.cell? ⟨w.heap.size + 1, 0, none⟩ = some (.int .i64 a) ∧ w'.cell? ⟨w.heap.size + 1 + 1, 0, none⟩ = some (.int .i64 c)) (first | (go_split_ands; (try dsimp only); refine ⟨?_, ?_, ?_, ?_, ?_⟩ <;> (first | (with_reducible assumption) | (with_reducible exact keep_cell (by assumption) (by first | omega | (simp; done) | (simp; omega)) (by assumption)) | (simp [go_sem]; with_reducible assumption))) | (simp [go_sem, ↓IntWalk.iteOmega, *]; done)) (first | (go_at_call 66; (with_reducible refine (turnedBy_any 0 _).mono ?_); rintro e wq ⟨q, rfl, kq, lq, hbq⟩; obtain ⟨hcq, hfq, hzq⟩ := bcall hbq; (try simp at hcq hfq hzq)) | (go_at_call 65; have hh : wq.cell? ⟨w.heap.size, 0, none⟩ = some (.int .i64 W) ∧ wq.cell? ⟨w.heap.size, 1, none⟩ = some (.int .i64 H) ∧ wq.cell? ⟨w.heap.size, 2, none⟩ = some (.slice (some ⟨b, off, none⟩) n cap) ∧ wq.cell? ⟨w.heap.size + 1, 0, none⟩ = some (.int .i64 a) ∧ wq.cell? ⟨w.heap.size + 1 + 1, 0, none⟩ = some (.int .i64 c) := (by assumption); (with_reducible refine (shMoved W H n b off cap (w.heap.size + 1) w.heap.size (w.heap.size + 1 + 1) q a c G wq S.out HO.out (Nat.lt_of_lt_of_le hlt (Below.size (show Below w.heap.size w wq from by (repeat' (first | (with_reducible exact Below.refl _ _) | (with_reducible refine Below.setCell ?_ (by first | omega | (simp; done) | (simp; omega)) _) | (with_reducible refine Below.alloc ?_ (by first | omega | (simp; done) | (simp; omega)) _) | (with_reducible refine Below.drew ?_) | (with_reducible refine below_drewN ?_ _) | (with_reducible refine Below.trans ?_ (Below.mono (by assumption) (by first | omega | (simp; done) | (simp; omega))))))))) (HC.out.below (by (repeat' (first | (with_reducible exact Below.refl _ _) | (with_reducible refine Below.setCell ?_ (by first | omega | (simp; done) | (simp; omega)) _) | (with_reducible refine Below.alloc ?_ (by first | omega | (simp; done) | (simp; omega)) _) | (with_reducible refine Below.drew ?_) | (with_reducible refine below_drewN ?_ _) | (with_reducible refine Below.trans ?_ (Below.mono (by assumption) (by first | omega | (simp; done) | (simp; omega))))))) hlt) (by omega) (by omega) (by omega) (by omega) (by omega) lq hh.2.2.2.1 hh.2.2.2.2 hh.1 hh.2.1 kq).mono ?_); clear hh; rintro e wo ⟨o, co, rfl, ho, lo, hb⟩; have Co := Lib.hid ho; clear ho; obtain ⟨hc, hf, hz⟩ := bcall hb; (try simp at hc hf hz lo)))
  go_wp2
  have HB := Lib.hid (show Below w.heap.size w wo from by (repeat' (first | (with_reducible exact Below.refl _ _) | (with_reducible refine Below.setCell ?_ (by first | omega | (simp; done) | (simp; omega)) _) | (with_reducible refine Below.alloc ?_ (by first | omega | (simp; done) | (simp; omega)) _) | (with_reducible refine Below.drew ?_) | (with_reducible refine below_drewN ?_ _) | (with_reducible refine Below.trans ?_ (Below.mono (by assumption) (by first | omega | (simp; done) | (simp; omega)))))))
  refine bodyPost_ret (v := .tuple #[.agg #[.int .i64 W, .int .i64 H, .slice (some ⟨o, 0, none⟩) n co], .int .i64 0]) (by simp [results, Try.results31, go_sem, ↓IntWalk.iteOmega, *]) rfl ?_
  exact made_pass Co.out.cellsIn HB.out (by omega) (by omega)

set_option maxHeartbeats 1000000 in
theorem gReversed_bad (W H : Int) (n cap : Nat) (ao : Option Addr) (G : Nat → Nat → Int) (w : World) (hv : ¬ VG W H n G) (hC : CellsIn w ao n G) :
    Calls Try.prog 25 #[.agg #[.int .i64 W, .int .i64 H, .slice (ao) n cap]] w fun e w' => e = .returned (.tuple #[.agg #[.int .i64 0, .int .i64 0, .slice (none) 0 0], .int .i64 1]) ∧ Below w.heap.size w w' := by
  have HV := Lib.hid hv; clear hv
  have HC := Lib.hid hC; clear hC
  go_enter Try.func25, Try.ntmps25
  go_wp2_with (go_at_call 63; (with_reducible refine (gValid_bad W H ao n cap G _ HV.out (HC.out.below (by (repeat' (first | (with_reducible exact Below.refl _ _) | (with_reducible refine Below.setCell ?_ (by first | omega | (simp; done) | (simp; omega)) _) | (with_reducible refine Below.alloc ?_ (by first | omega | (simp; done) | (simp; omega)) _) | (with_reducible refine Below.drew ?_) | (with_reducible refine below_drewN ?_ _) | (with_reducible refine Below.trans ?_ (Below.mono (by assumption) (by first | omega | (simp; done) | (simp; omega))))))))).mono ?_); rintro e w1 ⟨rfl, hb⟩; obtain ⟨hc, hf, hz⟩ := bcall hb; (try simp at hc hf hz))
  refine bodyPost_ret (v := .tuple #[.agg #[.int .i64 0, .int .i64 0, .slice (none) 0 0], .int .i64 1]) (by simp [results, Try.results25, go_sem, ↓IntWalk.iteOmega, *]) rfl ⟨rfl, ?_⟩
  (repeat' (first | (with_reducible exact Below.refl _ _) | (with_reducible refine Below.setCell ?_ (by first | omega | (simp; done) | (simp; omega)) _) | (with_reducible refine Below.alloc ?_ (by first | omega | (simp; done) | (simp; omega)) _) | (with_reducible refine Below.drew ?_) | (with_reducible refine below_drewN ?_ _) | (with_reducible refine Below.trans ?_ (Below.mono (by assumption) (by first | omega | (simp; done) | (simp; omega))))))

set_option maxHeartbeats 1000000 in
theorem gTurned_bad (W H : Int) (n cap : Nat) (ao : Option Addr) (G : Nat → Nat → Int) (w : World) (hv : ¬ VG W H n G) (hC : CellsIn w ao n G) :
    Calls Try.prog 33 #[.agg #[.int .i64 W, .int .i64 H, .slice (ao) n cap]] w fun e w' => e = .returned (.tuple #[.agg #[.int .i64 0, .int .i64 0, .slice (none) 0 0], .int .i64 1]) ∧ Below w.heap.size w w' := by
  have HV := Lib.hid hv; clear hv
  have HC := Lib.hid hC; clear hC
  go_enter Try.func33, Try.ntmps33
  go_wp2_with (go_at_call 63; (with_reducible refine (gValid_bad W H ao n cap G _ HV.out (HC.out.below (by (repeat' (first | (with_reducible exact Below.refl _ _) | (with_reducible refine Below.setCell ?_ (by first | omega | (simp; done) | (simp; omega)) _) | (with_reducible refine Below.alloc ?_ (by first | omega | (simp; done) | (simp; omega)) _) | (with_reducible refine Below.drew ?_) | (with_reducible refine below_drewN ?_ _) | (with_reducible refine Below.trans ?_ (Below.mono (by assumption) (by first | omega | (simp; done) | (simp; omega))))))))).mono ?_); rintro e w1 ⟨rfl, hb⟩; obtain ⟨hc, hf, hz⟩ := bcall hb; (try simp at hc hf hz))
  refine bodyPost_ret (v := .tuple #[.agg #[.int .i64 0, .int .i64 0, .slice (none) 0 0], .int .i64 1]) (by simp [results, Try.results33, go_sem, ↓IntWalk.iteOmega, *]) rfl ⟨rfl, ?_⟩
  (repeat' (first | (with_reducible exact Below.refl _ _) | (with_reducible refine Below.setCell ?_ (by first | omega | (simp; done) | (simp; omega)) _) | (with_reducible refine Below.alloc ?_ (by first | omega | (simp; done) | (simp; omega)) _) | (with_reducible refine Below.drew ?_) | (with_reducible refine below_drewN ?_ _) | (with_reducible refine Below.trans ?_ (Below.mono (by assumption) (by first | omega | (simp; done) | (simp; omega))))))

set_option maxHeartbeats 1000000 in
theorem gMirrored_bad (W H : Int) (n cap : Nat) (ao : Option Addr) (G : Nat → Nat → Int) (w : World) (hv : ¬ VG W H n G) (hC : CellsIn w ao n G) :
    Calls Try.prog 35 #[.agg #[.int .i64 W, .int .i64 H, .slice (ao) n cap]] w fun e w' => e = .returned (.tuple #[.agg #[.int .i64 0, .int .i64 0, .slice (none) 0 0], .int .i64 1]) ∧ Below w.heap.size w w' := by
  have HV := Lib.hid hv; clear hv
  have HC := Lib.hid hC; clear hC
  go_enter Try.func35, Try.ntmps35
  go_wp2_with (go_at_call 63; (with_reducible refine (gValid_bad W H ao n cap G _ HV.out (HC.out.below (by (repeat' (first | (with_reducible exact Below.refl _ _) | (with_reducible refine Below.setCell ?_ (by first | omega | (simp; done) | (simp; omega)) _) | (with_reducible refine Below.alloc ?_ (by first | omega | (simp; done) | (simp; omega)) _) | (with_reducible refine Below.drew ?_) | (with_reducible refine below_drewN ?_ _) | (with_reducible refine Below.trans ?_ (Below.mono (by assumption) (by first | omega | (simp; done) | (simp; omega))))))))).mono ?_); rintro e w1 ⟨rfl, hb⟩; obtain ⟨hc, hf, hz⟩ := bcall hb; (try simp at hc hf hz))
  refine bodyPost_ret (v := .tuple #[.agg #[.int .i64 0, .int .i64 0, .slice (none) 0 0], .int .i64 1]) (by simp [results, Try.results35, go_sem, ↓IntWalk.iteOmega, *]) rfl ⟨rfl, ?_⟩
  (repeat' (first | (with_reducible exact Below.refl _ _) | (with_reducible refine Below.setCell ?_ (by first | omega | (simp; done) | (simp; omega)) _) | (with_reducible refine Below.alloc ?_ (by first | omega | (simp; done) | (simp; omega)) _) | (with_reducible refine Below.drew ?_) | (with_reducible refine below_drewN ?_ _) | (with_reducible refine Below.trans ?_ (Below.mono (by assumption) (by first | omega | (simp; done) | (simp; omega))))))

set_option maxHeartbeats 1000000 in
theorem gShifted_bad (W H : Int) (n cap : Nat) (ao : Option Addr) (x y : Int) (G : Nat → Nat → Int) (w : World) (hv : ¬ VG W H n G) (hC : CellsIn w ao n G) :
    Calls Try.prog 31 #[.agg #[.int .i64 W, .int .i64 H, .slice (ao) n cap], .int .i64 x, .int .i64 y] w fun e w' => e = .returned (.tuple #[.agg #[.int .i64 0, .int .i64 0, .slice (none) 0 0], .int .i64 1]) ∧ Below w.heap.size w w' := by
  have HV := Lib.hid hv; clear hv
  have HC := Lib.hid hC; clear hC
  go_enter Try.func31, Try.ntmps31
  go_wp2_with (go_at_call 63; (with_reducible refine (gValid_bad W H ao n cap G _ HV.out (HC.out.below (by (repeat' (first | (with_reducible exact Below.refl _ _) | (with_reducible refine Below.setCell ?_ (by first | omega | (simp; done) | (simp; omega)) _) | (with_reducible refine Below.alloc ?_ (by first | omega | (simp; done) | (simp; omega)) _) | (with_reducible refine Below.drew ?_) | (with_reducible refine below_drewN ?_ _) | (with_reducible refine Below.trans ?_ (Below.mono (by assumption) (by first | omega | (simp; done) | (simp; omega))))))))).mono ?_); rintro e w1 ⟨rfl, hb⟩; obtain ⟨hc, hf, hz⟩ := bcall hb; (try simp at hc hf hz))
  refine bodyPost_ret (v := .tuple #[.agg #[.int .i64 0, .int .i64 0, .slice (none) 0 0], .int .i64 1]) (by simp [results, Try.results31, go_sem, ↓IntWalk.iteOmega, *]) rfl ⟨rfl, ?_⟩
  (repeat' (first | (with_reducible exact Below.refl _ _) | (with_reducible refine Below.setCell ?_ (by first | omega | (simp; done) | (simp; omega)) _) | (with_reducible refine Below.alloc ?_ (by first | omega | (simp; done) | (simp; omega)) _) | (with_reducible refine Below.drew ?_) | (with_reducible refine below_drewN ?_ _) | (with_reducible refine Below.trans ?_ (Below.mono (by assumption) (by first | omega | (simp; done) | (simp; omega))))))

theorem gReversed_ok (W H n cap : Nat) (ao : Option Addr) (G : Nat → Nat → Int) (w : World) (s : Sides W H n) (hG : OkG n G) (hC : CellsIn w ao n G) : Calls Try.prog 25 #[.agg #[.int .i64 W, .int .i64 H, .slice (ao) n cap]] w (Made W H n (reG G) w) := by
  obtain ⟨b, off, rfl, hlt, hC⟩ := cells_of s hC
  exact gReversed_in W H n b off cap G w s hG hlt hC
theorem gTurned_ok (W H n cap : Nat) (ao : Option Addr) (G : Nat → Nat → Int) (w : World) (s : Sides W H n) (hG : OkG n G) (hC : CellsIn w ao n G) : Calls Try.prog 33 #[.agg #[.int .i64 W, .int .i64 H, .slice (ao) n cap]] w (Made H W n (tuG W H G) w) := by
  obtain ⟨b, off, rfl, hlt, hC⟩ := cells_of s hC
  exact gTurned_in W H n b off cap G w s hG hlt hC
theorem gMirrored_ok (W H n cap : Nat) (ao : Option Addr) (G : Nat → Nat → Int) (w : World) (s : Sides W H n) (hG : OkG n G) (hC : CellsIn w ao n G) : Calls Try.prog 35 #[.agg #[.int .i64 W, .int .i64 H, .slice (ao) n cap]] w (Made W H n (miG W G) w) := by
  obtain ⟨b, off, rfl, hlt, hC⟩ := cells_of s hC
  exact gMirrored_in W H n b off cap G w s hG hlt hC
theorem gShifted_ok (W H n cap : Nat) (ao : Option Addr) (x y : Int) (G : Nat → Nat → Int) (w : World) (s : Sides W H n) (hG : OkG n G) (hC : CellsIn w ao n G) : Calls Try.prog 31 #[.agg #[.int .i64 W, .int .i64 H, .slice (ao) n cap], .int .i64 x, .int .i64 y] w (Made W H n (shG W H (x % (W : Int)).toNat (y % (H : Int)).toNat G) w) := by
  obtain ⟨b, off, rfl, hlt, hC⟩ := cells_of s hC
  exact gShifted_in W H n b off cap x y G w s hG hlt hC
end Go.Proofs.Ytnkehlankidlnaa
