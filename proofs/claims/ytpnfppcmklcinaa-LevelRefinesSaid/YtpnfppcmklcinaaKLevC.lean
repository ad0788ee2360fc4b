/- Coarsen, by the program; both refused. -/
import Derived.Test.YtpnfppcmklcinaaKLevR
import Derived.Test.YtpnfppcmklcinaaKRef
import Derived.Deep.RegionLaw
namespace Go.Proofs.Ytpnfppcmklcinaa
set_option linter.unusedSimpArgs false
set_option linter.unusedVariables false
open Go.RowKit

set_option maxRecDepth 100000 in
set_option maxHeartbeats 1000000 in
theorem refine_bad (W H : Int) (n cap : Nat) (ao : Option Addr) (G : Nat → Nat → Int) (w : World) (hv : ¬ VG W H n G) (hC : CellsIn w ao n G) :
    Calls Try.prog 44 #[.agg #[.int .i64 W, .int .i64 H, .slice (ao) n cap]] w fun e w' => e = .returned (.tuple #[.agg #[.int .i64 0, .int .i64 0, .slice (none) 0 0], .int .i64 1]) ∧ Below w.heap.size w w' := by
  have GV := Lib.hid (fun w' (hb : Below w.heap.size w w') => gValid_bad W H ao n cap G w' hv (hC.below hb))
  clear hv hC
  go_enter Try.func44, Try.ntmps44
  go_wp2_with (go_at_call 108; (with_reducible refine (GV.out _ (by (repeat' (first | (with_reducible exact Below.refl _ _) | (with_reducible refine Below.setCell ?_ (by first | omega | (simp; done) | (simp; omega)) _) | (with_reducible refine Below.alloc ?_ (by first | omega | (simp; done) | (simp; omega)) _) | (with_reducible refine Below.drew ?_) | (with_reducible refine below_drewN ?_ _) | (with_reducible refine Below.trans ?_ (Below.mono (by assumption) (by first | omega | (simp; done) | (simp; omega)))))))).mono ?_); rintro e w1 ⟨rfl, hb⟩; obtain ⟨hc, hf, hz⟩ := bcall hb; (try simp at hc hf hz))
  refine bodyPost_ret (v := .tuple #[.agg #[.int .i64 0, .int .i64 0, .slice (none) 0 0], .int .i64 1]) (by simp [results, Try.results44, go_sem, ↓IntWalk.iteOmega, *]) rfl ⟨rfl, ?_⟩
  (repeat' (first | (with_reducible exact Below.refl _ _) | (with_reducible refine Below.setCell ?_ (by first | omega | (simp; done) | (simp; omega)) _) | (with_reducible refine Below.alloc ?_ (by first | omega | (simp; done) | (simp; omega)) _) | (with_reducible refine Below.drew ?_) | (with_reducible refine below_drewN ?_ _) | (with_reducible refine Below.trans ?_ (Below.mono (by assumption) (by first | omega | (simp; done) | (simp; omega))))))
set_option maxRecDepth 100000 in
set_option maxHeartbeats 1000000 in
theorem refine_limit (W H n cap : Nat) (ao : Option Addr) (G : Nat → Nat → Int) (w : World) (s : Sides W H n) (hG : OkG n G) (hC : CellsIn w ao n G) (h : ¬ Sides (2 * W) (2 * H) (n * 4)) :
    Calls Try.prog 44 #[.agg #[.int .i64 W, .int .i64 H, .slice (ao) n cap]] w fun e w' => e = .returned (.tuple #[.agg #[.int .i64 0, .int .i64 0, .slice (none) 0 0], .int .i64 4]) ∧ Below w.heap.size w w' := by
  have GV := Lib.hid (fun w' (hb : Below w.heap.size w w') => gValid_ok W H ao n cap G w' (vg_of s hG) (hC.below hb))
  have hp : (2 * (W : Int)) * (2 * (H : Int)) = 4 * (n : Int) := by rw [s.n0, Int.natCast_mul, show (2 * (W : Int)) * (2 * (H : Int)) = (2 * 2) * ((W : Int) * (H : Int)) from by simp only [Int.mul_assoc, Int.mul_left_comm]]; rfl
  have hb : ((2 * (W : Int) < 1 ∨ 64 < 2 * (W : Int)) ∨ (2 * (H : Int) < 1 ∨ 64 < 2 * (H : Int))) ∨ (((1 ≤ 2 * (W : Int) ∧ 2 * (W : Int) ≤ 64) ∧ (1 ≤ 2 * (H : Int) ∧ 2 * (H : Int) ≤ 64)) ∧ 1024 < (2 * (W : Int)) * (2 * (H : Int))) := by
    have h1 := s.w0
    have h2 := s.h0
    rw [hp]
    by_cases g1 : 64 < 2 * W
    · exact .inl (.inl (.inr (by omega)))
    · by_cases g2 : 64 < 2 * H
      · exact .inl (.inr (.inr (by omega)))
      · refine .inr ⟨⟨⟨by omega, by omega⟩, ⟨by omega, by omega⟩⟩, ?_⟩
        rcases Nat.lt_or_ge 1024 (n * 4) with g3 | g3
        · omega
        · exact absurd ⟨by omega, by omega, by omega, by omega, by rw [s.n0, Nat.mul_mul_mul_comm, Nat.mul_comm], g3⟩ h
  have EB := Lib.hid (fun w' => emptyG_bad (2 * (W : Int)) (2 * (H : Int)) w' hb)
  have b1 := s.w1
  have b2 := s.h1
  clear s hG hC h hb hp
  go_enter Try.func44, Try.ntmps44
  go_wp2_with (first | (go_at_call 108; (with_reducible refine (GV.out _ (by (repeat' (first | (with_reducible exact Below.refl _ _) | (with_reducible refine Below.setCell ?_ (by first | omega | (simp; done) | (simp; omega)) _) | (with_reducible refine Below.alloc ?_ (by first | omega | (simp; done) | (simp; omega)) _) | (with_reducible refine Below.drew ?_) | (with_reducible refine below_drewN ?_ _) | (with_reducible refine Below.trans ?_ (Below.mono (by assumption) (by first | omega | (simp; done) | (simp; omega)))))))).mono ?_); rintro e w1 ⟨rfl, hb⟩; obtain ⟨hc, hf, hz⟩ := bcall hb; (try simp at hc hf hz)) | (go_at_call 109; (with_reducible refine (EB.out _).mono ?_); rintro e w2 ⟨⟨z, hz0, rfl⟩, hb⟩; have z0 : (z == 0) = false := beq_eq_false_iff_ne.2 hz0; have z1 : (z != 0) = true := (by simp [bne, z0]); obtain ⟨hc, hf, hz⟩ := bcall hb; (try simp at hc hf hz)))
  refine bodyPost_ret (v := .tuple #[.agg #[.int .i64 0, .int .i64 0, .slice (none) 0 0], .int .i64 4]) (by simp [results, Try.results44, go_sem, ↓IntWalk.iteOmega, *]) rfl ⟨rfl, ?_⟩
  (repeat' (first | (with_reducible exact Below.refl _ _) | (with_reducible refine Below.setCell ?_ (by first | omega | (simp; done) | (simp; omega)) _) | (with_reducible refine Below.alloc ?_ (by first | omega | (simp; done) | (simp; omega)) _) | (with_reducible refine Below.drew ?_) | (with_reducible refine below_drewN ?_ _) | (with_reducible refine Below.trans ?_ (Below.mono (by assumption) (by first | omega | (simp; done) | (simp; omega))))))
set_option maxRecDepth 100000 in
set_option maxHeartbeats 1000000 in
theorem coarsen_bad (W H : Int) (n cap : Nat) (ao : Option Addr) (G : Nat → Nat → Int) (w : World) (hv : ¬ VG W H n G) (hC : CellsIn w ao n G) :
    Calls Try.prog 47 #[.agg #[.int .i64 W, .int .i64 H, .slice (ao) n cap]] w fun e w' => e = .returned (.tuple #[.agg #[.int .i64 0, .int .i64 0, .slice (none) 0 0], .int .i64 1]) ∧ Below w.heap.size w w' := by
  have GV := Lib.hid (fun w' (hb : Below w.heap.size w w') => gValid_bad W H ao n cap G w' hv (hC.below hb))
  clear hv hC
  go_enter Try.func47, Try.ntmps47
  go_wp2_with (go_at_call 108; (with_reducible refine (GV.out _ (by (repeat' (first | (with_reducible exact Below.refl _ _) | (with_reducible refine Below.setCell ?_ (by first | omega | (simp; done) | (simp; omega)) _) | (with_reducible refine Below.alloc ?_ (by first | omega | (simp; done) | (simp; omega)) _) | (with_reducible refine Below.drew ?_) | (with_reducible refine below_drewN ?_ _) | (with_reducible refine Below.trans ?_ (Below.mono (by assumption) (by first | omega | (simp; done) | (simp; omega)))))))).mono ?_); rintro e w1 ⟨rfl, hb⟩; obtain ⟨hc, hf, hz⟩ := bcall hb; (try simp at hc hf hz))
  refine bodyPost_ret (v := .tuple #[.agg #[.int .i64 0, .int .i64 0, .slice (none) 0 0], .int .i64 1]) (by simp [results, Try.results47, go_sem, ↓IntWalk.iteOmega, *]) rfl ⟨rfl, ?_⟩
  (repeat' (first | (with_reducible exact Below.refl _ _) | (with_reducible refine Below.setCell ?_ (by first | omega | (simp; done) | (simp; omega)) _) | (with_reducible refine Below.alloc ?_ (by first | omega | (simp; done) | (simp; omega)) _) | (with_reducible refine Below.drew ?_) | (with_reducible refine below_drewN ?_ _) | (with_reducible refine Below.trans ?_ (Below.mono (by assumption) (by first | omega | (simp; done) | (simp; omega))))))
set_option maxRecDepth 100000 in
set_option maxHeartbeats 2000000 in
theorem coarsen_size (W H n cap : Nat) (ao : Option Addr) (G : Nat → Nat → Int) (w : World) (s : Sides W H n) (hG : OkG n G) (hC : CellsIn w ao n G) (h : W % 2 ≠ 0 ∨ H % 2 ≠ 0) :
    Calls Try.prog 47 #[.agg #[.int .i64 W, .int .i64 H, .slice (ao) n cap]] w fun e w' => e = .returned (.tuple #[.agg #[.int .i64 0, .int .i64 0, .slice (none) 0 0], .int .i64 9]) ∧ Below w.heap.size w w' := by
  have GV := Lib.hid (fun w' (hb : Below w.heap.size w w') => gValid_ok W H ao n cap G w' (vg_of s hG) (hC.below hb))
  have t1 : (W : Int).tmod 2 = ((W % 2 : Nat) : Int) := by rw [Int.tmod_eq_emod_of_nonneg (by omega)]; rfl
  have t2 : (H : Int).tmod 2 = ((H % 2 : Nat) : Int) := by rw [Int.tmod_eq_emod_of_nonneg (by omega)]; rfl
  have b1 := s.w1
  have b2 := s.h1
  clear s hG hC
  have u1 : W % 2 < 2 := Nat.mod_lt _ (by omega)
  have u2 : H % 2 < 2 := Nat.mod_lt _ (by omega)
  by_cases g : W % 2 = 0
  · have g2 : H % 2 = 1 := by omega
    rw [g] at t1
    rw [g2] at t2
    clear h g g2 u1 u2
    go_enter Try.func47, Try.ntmps47
    go_wp2_with (go_at_call 108; (with_reducible refine (GV.out _ (by (repeat' (first | (with_reducible exact Below.refl _ _) | (with_reducible refine Below.setCell ?_ (by first | omega | (simp; done) | (simp; omega)) _) | (with_reducible refine Below.alloc ?_ (by first | omega | (simp; done) | (simp; omega)) _) | (with_reducible refine Below.drew ?_) | (with_reducible refine below_drewN ?_ _) | (with_reducible refine Below.trans ?_ (Below.mono (by assumption) (by first | omega | (simp; done) | (simp; omega)))))))).mono ?_); rintro e w1 ⟨rfl, hb⟩; obtain ⟨hc, hf, hz⟩ := bcall hb; (try simp at hc hf hz))
    refine bodyPost_ret (v := .tuple #[.agg #[.int .i64 0, .int .i64 0, .slice (none) 0 0], .int .i64 9]) (by simp [results, Try.results47, go_sem, ↓IntWalk.iteOmega, *]) rfl ⟨rfl, ?_⟩
    (repeat' (first | (with_reducible exact Below.refl _ _) | (with_reducible refine Below.setCell ?_ (by first | omega | (simp; done) | (simp; omega)) _) | (with_reducible refine Below.alloc ?_ (by first | omega | (simp; done) | (simp; omega)) _) | (with_reducible refine Below.drew ?_) | (with_reducible refine below_drewN ?_ _) | (with_reducible refine Below.trans ?_ (Below.mono (by assumption) (by first | omega | (simp; done) | (simp; omega))))))
  · have g1 : W % 2 = 1 := by omega
    rw [g1] at t1
    clear h g g1 u1 u2 t2
    go_enter Try.func47, Try.ntmps47
    go_wp2_with (go_at_call 108; (with_reducible refine (GV.out _ (by (repeat' (first | (with_reducible exact Below.refl _ _) | (with_reducible refine Below.setCell ?_ (by first | omega | (simp; done) | (simp; omega)) _) | (with_reducible refine Below.alloc ?_ (by first | omega | (simp; done) | (simp; omega)) _) | (with_reducible refine Below.drew ?_) | (with_reducible refine below_drewN ?_ _) | (with_reducible refine Below.trans ?_ (Below.mono (by assumption) (by first | omega | (simp; done) | (simp; omega)))))))).mono ?_); rintro e w1 ⟨rfl, hb⟩; obtain ⟨hc, hf, hz⟩ := bcall hb; (try simp at hc hf hz))
    refine bodyPost_ret (v := .tuple #[.agg #[.int .i64 0, .int .i64 0, .slice (none) 0 0], .int .i64 9]) (by simp [results, Try.results47, go_sem, ↓IntWalk.iteOmega, *]) rfl ⟨rfl, ?_⟩
    (repeat' (first | (with_reducible exact Below.refl _ _) | (with_reducible refine Below.setCell ?_ (by first | omega | (simp; done) | (simp; omega)) _) | (with_reducible refine Below.alloc ?_ (by first | omega | (simp; done) | (simp; omega)) _) | (with_reducible refine Below.drew ?_) | (with_reducible refine below_drewN ?_ _) | (with_reducible refine Below.trans ?_ (Below.mono (by assumption) (by first | omega | (simp; done) | (simp; omega))))))

/-- What the first t of a coarse cell's fine cells have together. -/
def csum (W : Nat) (G : Nat → Nat → Int) (i : Nat) : Nat → Nat → Int
  | 0, _ => 0
  | t + 1, d => csum W G i t d + G (q4 W i t) d
theorem csum_4 (W : Nat) (G : Nat → Nat → Int) (i d : Nat) : csum W G i 4 d = coaG W G i d := by
  simp only [csum, coaG]
  omega
theorem csum_bd {W H n m : Nat} {G : Nat → Nat → Int} (hn : n = W * H) (hm : m = n * 4) (h : OkG m G) {i : Nat} (hi : i < n) {t : Nat} (ht : t ≤ 4) {d : Nat} (hd : d < 4) : 0 ≤ csum W G i t d ∧ csum W G i t d ≤ coaG W G i d := by
  have hmm : m = 2 * W * (2 * H) := by rw [hm, hn, Nat.mul_mul_mul_comm, Nat.mul_comm]
  rw [hn] at hi
  have q0 := okG_pos h (show q4 W i 0 < m by rw [hmm]; exact q4_lt hi (by omega)) hd
  have q1 := okG_pos h (show q4 W i 1 < m by rw [hmm]; exact q4_lt hi (by omega)) hd
  have q2 := okG_pos h (show q4 W i 2 < m by rw [hmm]; exact q4_lt hi (by omega)) hd
  have q3 := okG_pos h (show q4 W i 3 < m by rw [hmm]; exact q4_lt hi (by omega)) hd
  have e : t = 0 ∨ t = 1 ∨ t = 2 ∨ t = 3 ∨ t = 4 := by omega
  rcases e with rfl | rfl | rfl | rfl | rfl <;> simp only [csum, coaG] <;> omega
theorem csum_ok {W H n m : Nat} {G : Nat → Nat → Int} (hn : n = W * H) (hm : m = n * 4) (h : OkG m G) {i : Nat} (hi : i < n) {t : Nat} (ht : t ≤ 4) : Ok4 (csum W G i t 0) (csum W G i t 1) (csum W G i t 2) (csum W G i t 3) := by
  obtain ⟨_, _, _, _, g⟩ := (okG_coa hn hm h).1 i hi
  have a := csum_bd hn hm h hi ht (show 0 < 4 by omega)
  have b := csum_bd hn hm h hi ht (show 1 < 4 by omega)
  have c := csum_bd hn hm h hi ht (show 2 < 4 by omega)
  have d := csum_bd hn hm h hi ht (show 3 < 4 by omega)
  unfold Ok4
  omega
/-- The coarse row when k cells are done, and t parts of the next one. -/
def KC (W : Nat) (G : Nat → Nat → Int) (k t : Nat) : Nat → Nat → Int := fun i d => if i < k then coaG W G i d else if i = k then csum W G k t d else 0
theorem KC_at (W : Nat) (G : Nat → Nat → Int) (k t d : Nat) : KC W G k t k d = csum W G k t d := by
  unfold KC
  rw [if_neg (by omega), if_pos rfl]
theorem KC_step (W n : Nat) (G : Nat → Nat → Int) (k t : Nat) : EqG n (upd (upd (upd (upd (KC W G k t) k 0 (csum W G k t 0 + G (q4 W k t) 0)) k 1 (csum W G k t 1 + G (q4 W k t) 1)) k 2 (csum W G k t 2 + G (q4 W k t) 2)) k 3 (csum W G k t 3 + G (q4 W k t) 3)) (KC W G k (t + 1)) := by
  intro i _ d hd
  rw [upd4_at _ _ _ _ _ _ _ _ hd]
  unfold KC
  by_cases e : i = k
  · subst e
    rw [if_pos rfl, if_neg (Nat.lt_irrefl _), if_pos rfl]
    have hd' : d = 0 ∨ d = 1 ∨ d = 2 ∨ d = 3 := by omega
    rcases hd' with rfl | rfl | rfl | rfl <;> simp [csum]
  · rw [if_neg e, if_neg e, if_neg e]
theorem KC_next (W n : Nat) (G : Nat → Nat → Int) (k : Nat) : EqG n (KC W G k 4) (KC W G (k + 1) 0) := by
  intro i _ d _
  unfold KC
  by_cases e : i < k
  · rw [if_pos e, if_pos (by omega)]
  · rw [if_neg e]
    by_cases e2 : i = k
    · rw [if_pos e2, if_pos (by omega), csum_4, e2]
    · rw [if_neg e2, if_neg (by omega)]
      by_cases e3 : i = k + 1
      · rw [if_pos e3]; rfl
      · rw [if_neg e3]
theorem KC_all (W n : Nat) (G : Nat → Nat → Int) : EqG n (KC W G n 0) (coaG W G) := by
  intro i hi d _
  unfold KC
  rw [if_pos hi]
theorem KC_zero (W n : Nat) (G : Nat → Nat → Int) : EqG n (fun _ _ => 0) (KC W G 0 0) := by
  intro i _ d _
  unfold KC
  rw [if_neg (by omega)]
  by_cases e : i = 0
  · rw [if_pos e]; rfl
  · rw [if_neg e]

/-- The world in the inner loop: the coarse row in the block o. -/
def LC (W n o : Nat) (G : Nat → Nat → Int) (w7 : World) (B0 k t : Nat) (wr : World) : Prop := Ex (fun z => z = o ∨ B0 ≤ z) w7 wr ∧ Row wr o n (KC W G k t)
theorem LC.step {W n o : Nat} {G : Nat → Nat → Int} {w7 : World} {B0 k t : Nat} {wr X : World} (h : LC W n o G w7 B0 k t wr) (hX : Below wr.heap.size wr X) (hk : k < n) {Q : Nat} (hQ : Q = q4 W k t) :
    LC W n o G w7 B0 k (t + 1) ((((X.setCell ⟨o, k * 4, none⟩ (.int .i64 (csum W G k t 0 + G Q 0))).setCell ⟨o, k * 4 + 1, none⟩ (.int .i64 (csum W G k t 1 + G Q 1))).setCell ⟨o, k * 4 + 2, none⟩ (.int .i64 (csum W G k t 2 + G Q 2))).setCell ⟨o, k * 4 + 3, none⟩ (.int .i64 (csum W G k t 3 + G Q 3))) := by
  subst hQ
  obtain ⟨h1, h2⟩ := h
  have hR : Row X o n (KC W G k t) := h2.below hX h2.1
  obtain ⟨g1, g2⟩ := lev_set hR hk (csum W G k t 0 + G (q4 W k t) 0) (csum W G k t 1 + G (q4 W k t) 1) (csum W G k t 2 + G (q4 W k t) 2) (csum W G k t 3 + G (q4 W k t) 3)
  exact ⟨(h1.trans (Ex.of_below hX)).trans (g1.mono (fun z hz => .inl hz)), g2.eqG (KC_step W n G k t)⟩

attribute [local irreducible] wpStill
set_option maxRecDepth 100000 in
set_option maxHeartbeats 16000000 in
theorem coarsen_in (W H b off n m cap : Nat) (G : Nat → Nat → Int) (w : World) (s : Sides W H n) (hm : m = n * 4) (h2 : Sides (2 * W) (2 * H) m) (hG : OkG m G) (hlt : b < w.heap.size) (hC : Grd w b off m G) :
    Calls Try.prog 47 #[.agg #[.int .i64 (2 * (W : Int)), .int .i64 (2 * (H : Int)), .slice (some ⟨b, off, none⟩) m cap]] w (Made W H n (coaG W G) w) := by
  have GV := Lib.hid (fun w' (hb : Below w.heap.size w w') => show Calls Try.prog 108 #[.agg #[.int .i64 (2 * (W : Int)), .int .i64 (2 * (H : Int)), .slice (some ⟨b, off, none⟩) m cap]] w' fun e w'' => e = .returned (.bool true) ∧ Below w'.heap.size w' w'' from gValid_ok (2 * W : Nat) (2 * H : Nat) (some ⟨b, off, none⟩) m cap G w' (vg_of h2 hG) (getI hC hb hlt))
  have EM := Lib.hid (fun w' => emptyG_ok W H n w' s)
  obtain ⟨b1, b2, b3⟩ := h2.twice
  have hw0 := s.w0
  have hh0 := s.h0
  have hn1 := s.n1
  have t1 : (2 * (W : Int)).tmod 2 = 0 := by rw [Int.tmod_eq_emod_of_nonneg (by omega)]; omega
  have t2 : (2 * (H : Int)).tmod 2 = 0 := by rw [Int.tmod_eq_emod_of_nonneg (by omega)]; omega
  have t3 : (2 * (W : Int)).tdiv 2 = (W : Int) := by rw [Int.tdiv_eq_ediv_of_nonneg (by omega)]; omega
  have t4 : (2 * (H : Int)).tdiv 2 = (H : Int) := by rw [Int.tdiv_eq_ediv_of_nonneg (by omega)]; omega
  have HN := Lib.hid s.n0
  have HG := Lib.hid hC
  have HO := Lib.hid hG
  have HM := Lib.hid hm
  have H2 := Lib.hid h2
  clear hC hG s h2 hm
  go_enter Try.func47, Try.ntmps47
  go_wp2_with (first | (go_at_call 108; (with_reducible refine (GV.out _ (by (repeat' (first | (with_reducible exact Below.refl _ _) | (with_reducible refine Below.setCell ?_ (by first | omega | (simp; done) | (simp; omega)) _) | (with_reducible refine Below.alloc ?_ (by first | omega | (simp; done) | (simp; omega)) _) | (with_reducible refine Below.drew ?_) | (with_reducible refine below_drewN ?_ _) | (with_reducible refine Below.trans ?_ (Below.mono (by assumption) (by first | omega | (simp; done) | (simp; omega)))))))).mono ?_); rintro e w1 ⟨rfl, hb⟩; obtain ⟨hc, hf, hz⟩ := bcall hb; (try simp at hc hf hz)) | (go_at_call 109; (with_reducible refine (EM.out _).mono ?_); rintro e w2 ⟨o, co, rfl, ho, lo, hb⟩; obtain ⟨hc, hf, hz⟩ := bcall hb; (try simp at hc hf hz lo)))
  obtain ⟨wl, hwl⟩ : ∃ wl, wl = w2.alloc (.cells #[.int .i64 W, .int .i64 H, .slice (some ⟨o, 0, none⟩) n co] 34) := ⟨_, rfl⟩
  have l2 : wl.heap.size = w2.heap.size + 1 := by rw [hwl]; simp
  have lo2 := ho.1
  have k0 : wl.cell? ⟨w.heap.size, 0, none⟩ = some (.int .i64 (2 * (W : Int))) := by rw [hwl]; simp [go_sem, ↓IntWalk.iteOmega, *]
  have k2 : wl.cell? ⟨w.heap.size, 2, none⟩ = some (.slice (some ⟨b, off, none⟩) m cap) := by rw [hwl]; simp [go_sem, ↓IntWalk.iteOmega, *]
  have T1 : Three w1 (w.heap.size + 1) 34 (.int .i64 0) (.int .i64 0) (.slice none 0 0) := by
    have := Three.new1 w (.cells #[.int .i64 (2 * (W : Int)), .int .i64 (2 * (H : Int)), .slice (some ⟨b, off, none⟩) m cap] 34) 34 (.int .i64 0) (.int .i64 0) (.slice none 0 0)
    exact this.below (by assumption) (by simp)
  have T2 := Lib.hid (show Three wl (w.heap.size + 1) 34 (.int .i64 0) (.int .i64 0) (.slice none 0 0) from by rw [hwl]; exact (T1.below hb (by omega)).below ((Below.refl w2.heap.size w2).alloc (Nat.le_refl _) _) (by omega))
  have TF := Lib.hid (show Three wl w2.heap.size 34 (.int .i64 W) (.int .i64 H) (.slice (some ⟨o, 0, none⟩) n co) from by rw [hwl]; exact Three.new0 _ _ _ _ _)
  have RO := Lib.hid (show Row wl o n (fun _ _ => 0) from by rw [hwl]; exact ho.below ((Below.refl w2.heap.size w2).alloc (Nat.le_refl _) _) lo2)
  have BB := Lib.hid (show Below w.heap.size w wl from by rw [hwl]; (repeat' (first | (with_reducible exact Below.refl _ _) | (with_reducible refine Below.setCell ?_ (by first | omega | (simp; done) | (simp; omega)) _) | (with_reducible refine Below.alloc ?_ (by first | omega | (simp; done) | (simp; omega)) _) | (with_reducible refine Below.drew ?_) | (with_reducible refine below_drewN ?_ _) | (with_reducible refine Below.trans ?_ (Below.mono (by assumption) (by first | omega | (simp; done) | (simp; omega)))))))
  rw [← hwl]
  obtain ⟨F, hF⟩ : ∃ F, F = w2.heap.size := ⟨_, rfl⟩
  rw [← hF] at TF l2 lo2
  rw [← hF]
  have lw1 : w.heap.size + 2 ≤ o := by omega
  clear ho hc hf hz hb T1 hwl hF lo t1 t2 t3 t4
  go_loopw [37, 6, 51, 8] (fun i _ _ _ wr => ∃ k : Nat, k ≤ n ∧ i = .int .i64 k ∧ Hid (LC W n o G wl wl.heap.size k 0 wr)) (fun i _ _ _ _ => n - (intOf i).toNat)
  case atStart => exact ⟨0, Nat.zero_le _, rfl, Lib.hid ⟨Ex.refl _ _, RO.out.eqG (KC_zero W n G)⟩⟩
  case round =>
    obtain ⟨k, hk, rfl, HH⟩ := hrel
    obtain ⟨wo, hwo⟩ : ∃ wo, wo = wr := ⟨_, rfl⟩
    subst hwo
    obtain ⟨hX, hR⟩ := HH.out
    have lX := hX.size
    have BO := Lib.hid (BB.out.trans (hX.below BB.out.size (fun z hz => by have := BB.out.size; omega)))
    have kO : wo.cell? ⟨w.heap.size, 0, none⟩ = some (.int .i64 (2 * (W : Int))) := (hX.cell (by omega) (by omega)).trans k0
    have tF := TF.out.ex hX (by omega)
    have TO := Lib.hid tF
    have F0 := tF.c0
    have HX := Lib.hid hX
    have HR := Lib.hid hR
    clear hX hR tF
    by_cases hlk : k < n
    · have lB := BO.out.size
      have p0 : (0 : Int) ≤ (k : Int) := by omega
      have p1 : (k : Int) < (n : Int) := by omega
      have hkW : k < W * H := by have := HN.out; omega
      have QC := Lib.hid (fun w' => quarters_at W H k w' (by omega) (by omega) hkW)
      have q0l := q4_lt hkW (show 0 < 4 by omega)
      have q1l := q4_lt hkW (show 1 < 4 by omega)
      have q2l := q4_lt hkW (show 2 < 4 by omega)
      have q3l := q4_lt hkW (show 3 < 4 by omega)
      rw [← H2.out.n0] at q0l q1l q2l q3l
      have tm : (k : Int).tmod (W : Int) = ((k % W : Nat) : Int) := by rw [Int.tmod_eq_emod_of_nonneg (by omega)]; rfl
      have td : (k : Int).tdiv (W : Int) = ((k / W : Nat) : Int) := by rw [Int.tdiv_eq_ediv_of_nonneg (by omega)]; rfl
      have wz : ¬ W = 0 := by omega
      have x1 : k % W < 64 := Nat.lt_of_lt_of_le (Nat.mod_lt _ (by omega)) (by omega)
      have y1 : k / W < 2000 := Nat.lt_of_le_of_lt (Nat.div_le_self _ _) (by omega)
      obtain ⟨X, hXX⟩ : ∃ X, X = k % W := ⟨_, rfl⟩
      obtain ⟨Y, hYY⟩ : ∃ Y, Y = k / W := ⟨_, rfl⟩
      obtain ⟨Q0, hQ0⟩ : ∃ Q, Q = q4 W k 0 := ⟨_, rfl⟩
      obtain ⟨Q1, hQ1⟩ : ∃ Q, Q = q4 W k 1 := ⟨_, rfl⟩
      obtain ⟨Q2, hQ2⟩ : ∃ Q, Q = q4 W k 2 := ⟨_, rfl⟩
      obtain ⟨Q3, hQ3⟩ : ∃ Q, Q = q4 W k 3 := ⟨_, rfl⟩
      rw [← hXX] at tm x1 QC
      rw [← hYY] at td y1 QC
      rw [← hQ0, ← hQ1, ← hQ2, ← hQ3] at QC
      rw [← hQ0] at q0l
      rw [← hQ1] at q1l
      rw [← hQ2] at q2l
      rw [← hQ3] at q3l
      have HQ0 := Lib.hid hQ0
      have HQ1 := Lib.hid hQ1
      have HQ2 := Lib.hid hQ2
      have HQ3 := Lib.hid hQ3
      have yw : IntKind.i64.wrap (Y : Int) = (Y : Int) := IntWalk.i64_in _ ⟨by omega, by omega⟩
      clear hXX hYY hQ0 hQ1 hQ2 hQ3 hkW
      go_wp2
      go_region_held3 (fun w' => w'.cell? ⟨F, 0, none⟩ = some (.int .i64 W) ∧ w'.cell? ⟨w.heap.size, 0, none⟩ = some (.int .i64 (2 * (W : Int)))) (first | (go_split_ands; (try dsimp only); refine ⟨?_, ?_⟩ <;> (first | (with_reducible assumption) | (with_reducible exact keep_cell (by assumption) (by first | omega | (simp; done) | (simp; omega)) (by assumption)) | (with_reducible exact (World.cell?_alloc_past _ _ _ (by show _ < _; omega)).trans (by assumption)) | (with_reducible exact (World.cell?_alloc_past _ _ _ (by show _ < _; omega)).trans ((World.cell?_alloc_past _ _ _ (by show _ < _; omega)).symm.trans (by assumption))) | (simp [go_sem]; with_reducible assumption))) | (simp [go_sem, ↓IntWalk.iteOmega, *]; done)) ((go_at_call 110; (with_reducible refine (QC.out _).mono ?_); rintro e w7 ⟨rfl, hb7⟩; obtain ⟨hc7, hf7, hz7⟩ := bcall hb7; (try simp at hc7 hf7 hz7)))
      have B7 := Lib.hid (show Below wo.heap.size wo w7 from by (repeat' (first | (with_reducible exact Below.refl _ _) | (with_reducible refine Below.setCell ?_ (by first | omega | (simp; done) | (simp; omega)) _) | (with_reducible refine Below.alloc ?_ (by first | omega | (simp; done) | (simp; omega)) _) | (with_reducible refine Below.drew ?_) | (with_reducible refine below_drewN ?_ _) | (with_reducible refine Below.trans ?_ (Below.mono (by assumption) (by first | omega | (simp; done) | (simp; omega)))))))
      have lo7 := HR.out.1
      have lF := TO.out.lt
      have s7 : wo.heap.size ≤ w7.heap.size := hb7.size
      have L0 := Lib.hid (show LC W n o G w7 w7.heap.size k 0 w7 from ⟨Ex.refl _ _, HR.out.below B7.out lo7⟩)
      have T7 := Lib.hid (TO.out.below B7.out lF)
      have h70 : w7.cell? ⟨w.heap.size, 2, none⟩ = some (.slice (some ⟨b, off, none⟩) m cap) := (B7.out.cell (p := ⟨w.heap.size, 2, none⟩) (by show w.heap.size < wo.heap.size; omega)).trans ((HX.out.cell (by omega) (by omega)).trans k2)
      clear hc7 hf7 hz7 hb7 tm td x1 y1 yw wz F0 kO QC
      go_wp2
      go_loopw [51, 8] (fun i _ wr => ∃ t : Nat, t ≤ 4 ∧ i = .int .i64 t ∧ Hid (LC W n o G w7 w7.heap.size k t wr)) (fun i _ _ => 4 - (intOf i).toNat)
      case atStart => exact ⟨0, by omega, rfl, L0⟩
      case round =>
        obtain ⟨t, ht, rfl, L⟩ := hrel
        obtain ⟨xL, rK⟩ := L.out
        have HXL := Lib.hid xL
        have sL := xL.size
        have F2 := (T7.out.ex xL (by omega)).c2
        have g2 := (xL.cell (k := w.heap.size) (o := 2) (by omega) (by omega)).trans h70
        have BW := Lib.hid (BO.out.trans ((B7.out.mono BO.out.size).trans (xL.below (by have := BO.out.size; omega) (fun z hz => by omega))))
        have lw2 : w.heap.size < wr.heap.size := by omega
        have lF2 : F < wr.heap.size := by omega
        have lor := rK.1
        have HRK := Lib.hid rK
        clear xL rK
        have ht' : t = 0 ∨ t = 1 ∨ t = 2 ∨ t = 3 ∨ t = 4 := by omega
        rcases ht' with rfl | rfl | rfl | rfl | rfl
        · obtain ⟨a0, a1, a2, a3⟩ := HRK.out.at4 hlk
          obtain ⟨f0, f1, f2, f3⟩ := HRK.out.free4 hlk
          rw [KC_at] at a0 a1 a2 a3
          obtain ⟨e0, e1, e2, e3⟩ := HG.out.get BW.out hlt q0l
          have p2 : (0 : Int) ≤ (Q0 : Int) := by omega
          have p3 : (Q0 : Int) < (m : Int) := by omega
          have lb2 : b < wr.heap.size := by omega
          have KA := Lib.hid (csum_ok HN.out HM.out HO.out hlk (show 0 ≤ 4 by omega))
          have KB := Lib.hid (HO.out.1 Q0 q0l)
          have ST := Lib.hid (fun X (hX : Below wr.heap.size wr X) => L.out.step hX hlk HQ0.out)
          have KS := Lib.hid (show Ok4 (csum W G k 0 0 + G Q0 0) (csum W G k 0 1 + G Q0 1) (csum W G k 0 2 + G Q0 2) (csum W G k 0 3 + G Q0 3) from by rw [HQ0.out]; exact csum_ok HN.out HM.out HO.out hlk (show 0 + 1 ≤ 4 by omega))
          obtain ⟨S0, hS0⟩ : ∃ S, S = csum W G k 0 0 := ⟨_, rfl⟩
          obtain ⟨S1, hS1⟩ : ∃ S, S = csum W G k 0 1 := ⟨_, rfl⟩
          obtain ⟨S2, hS2⟩ : ∃ S, S = csum W G k 0 2 := ⟨_, rfl⟩
          obtain ⟨S3, hS3⟩ : ∃ S, S = csum W G k 0 3 := ⟨_, rfl⟩
          rw [← hS0] at a0
          rw [← hS1] at a1
          rw [← hS2] at a2
          rw [← hS3] at a3
          rw [← hS0, ← hS1, ← hS2, ← hS3] at KA KS ST
          clear hS0 hS1 hS2 hS3
          go_wp2
          refine wp_region_noPanic ?_
          refine wp_region_held_drew (S := (fun w' => w'.cell? ⟨F, 2, none⟩ = some (.slice (some ⟨o, 0, none⟩) n co) ∧ w'.cell? ⟨w.heap.size, 2, none⟩ = some (.slice (some ⟨b, off, none⟩) m cap) ∧ w'.cell? ⟨b, off + Q0 * 4, none⟩ = some (.int .i64 (G Q0 0)) ∧ w'.cell? ⟨b, off + Q0 * 4 + 1, none⟩ = some (.int .i64 (G Q0 1)) ∧ w'.cell? ⟨b, off + Q0 * 4 + 2, none⟩ = some (.int .i64 (G Q0 2)) ∧ w'.cell? ⟨b, off + Q0 * 4 + 3, none⟩ = some (.int .i64 (G Q0 3)))) (by kernel_rfl) ?_ (fun hHeld => ?_)
          · ((try dsimp only); (first | (go_split_ands; (try dsimp only); refine ⟨?_, ?_, ?_, ?_, ?_, ?_⟩ <;> (first | (with_reducible assumption) | (with_reducible exact keep_cell (by assumption) (by first | omega | (simp; done) | (simp; omega)) (by assumption)) | (with_reducible exact (World.cell?_alloc_past _ _ _ (by show _ < _; omega)).trans (by assumption)) | (with_reducible exact (World.cell?_alloc_past _ _ _ (by show _ < _; omega)).trans ((World.cell?_alloc_past _ _ _ (by show _ < _; omega)).symm.trans (by assumption))) | (simp [go_sem]; with_reducible assumption))) | (simp [go_sem, ↓IntWalk.iteOmega, *]; done)))
          refine wpAnyH_take (i := 0) (v := ?_) rfl (by kernel_rfl) (by kernel_rfl) (by kernel_rfl) (fun _ _ _ h => h) (Or.inl ⟨by rfl, ?_⟩) (by assumption) ?_
          rotate_left
          · (intro w hSw; (try dsimp only at hSw); go_simp; (try with_reducible rfl))
          (try simp only [Act.put, List.setIfInBounds_toArray, List.set_cons_zero, List.set_cons_succ])
          refine wpAnyH_take (i := 1) (v := ?_) rfl (by kernel_rfl) (by kernel_rfl) (by kernel_rfl) (fun _ _ _ h => h) (Or.inl ⟨by rfl, ?_⟩) (by assumption) ?_
          rotate_left
          · (intro w hSw; (try dsimp only at hSw); go_simp; (try with_reducible rfl))
          (try simp only [Act.put, List.setIfInBounds_toArray, List.set_cons_zero, List.set_cons_succ])
          refine wpAnyH_take (i := 2) (v := ?_) rfl (by kernel_rfl) (by kernel_rfl) (by kernel_rfl) (fun _ _ _ h => h) (Or.inl ⟨by rfl, ?_⟩) (by assumption) ?_
          rotate_left
          · (intro w hSw; (try dsimp only at hSw); go_simp; (try with_reducible rfl))
          (try simp only [Act.put, List.setIfInBounds_toArray, List.set_cons_zero, List.set_cons_succ])
          refine wpAnyH_take (i := 3) (v := ?_) rfl (by kernel_rfl) (by kernel_rfl) (by kernel_rfl) (fun _ _ _ h => h) (Or.inl ⟨by rfl, ?_⟩) (by assumption) ?_
          rotate_left
          · (intro w hSw; (try dsimp only at hSw); go_simp; (try with_reducible rfl))
          (try simp only [Act.put, List.setIfInBounds_toArray, List.set_cons_zero, List.set_cons_succ])
          refine wpAnyH_take (i := 4) (v := ?_) rfl (by kernel_rfl) (by kernel_rfl) (by kernel_rfl) (fun _ _ _ h => h) (Or.inl ⟨by rfl, ?_⟩) (by assumption) ?_
          rotate_left
          · (intro w hSw; (try dsimp only at hSw); go_simp; (try with_reducible rfl))
          (try simp only [Act.put, List.setIfInBounds_toArray, List.set_cons_zero, List.set_cons_succ])
          refine wpAnyH_take (i := 5) (v := ?_) rfl (by kernel_rfl) (by kernel_rfl) (by kernel_rfl) (fun _ _ _ h => h) (Or.inl ⟨by rfl, ?_⟩) (by assumption) ?_
          rotate_left
          · (intro w hSw; (try dsimp only at hSw); go_simp; (try with_reducible rfl))
          (try simp only [Act.put, List.setIfInBounds_toArray, List.set_cons_zero, List.set_cons_succ])
          refine wpAnyH_take (i := 6) (v := ?_) rfl (by kernel_rfl) (by kernel_rfl) (by kernel_rfl) (fun _ _ _ h => h) (Or.inl ⟨by rfl, ?_⟩) (by assumption) ?_
          rotate_left
          · (intro w hSw; (try dsimp only at hSw); go_simp; (try with_reducible rfl))
          (try simp only [Act.put, List.setIfInBounds_toArray, List.set_cons_zero, List.set_cons_succ])
          refine wpAnyH_take (i := 8) (v := ?_) rfl (by kernel_rfl) (by kernel_rfl) (by kernel_rfl) (fun _ _ _ h => h) (Or.inl ⟨by rfl, ?_⟩) (by assumption) ?_
          rotate_left
          · (intro w hSw; (try dsimp only at hSw); go_simp; (try with_reducible rfl))
          (try simp only [Act.put, List.setIfInBounds_toArray, List.set_cons_zero, List.set_cons_succ])
          refine wpAnyH_take (i := 9) (v := ?_) rfl (by kernel_rfl) (by kernel_rfl) (by kernel_rfl) (fun _ _ _ h => h) (Or.inl ⟨by rfl, ?_⟩) (by assumption) ?_
          rotate_left
          · (intro w hSw; (try dsimp only at hSw); go_simp; (try with_reducible rfl))
          (try simp only [Act.put, List.setIfInBounds_toArray, List.set_cons_zero, List.set_cons_succ])
          refine wpAnyH_take (i := 10) (v := ?_) rfl (by kernel_rfl) (by kernel_rfl) (by kernel_rfl) (fun _ _ _ h => h) (Or.inl ⟨by rfl, ?_⟩) (by assumption) ?_
          rotate_left
          · (intro w hSw; (try dsimp only at hSw); go_simp; (try with_reducible rfl))
          (try simp only [Act.put, List.setIfInBounds_toArray, List.set_cons_zero, List.set_cons_succ])
          refine wpAnyH_take (i := 11) (v := ?_) rfl (by kernel_rfl) (by kernel_rfl) (by kernel_rfl) (fun _ _ _ h => h) (Or.inl ⟨by rfl, ?_⟩) (by assumption) ?_
          rotate_left
          · (intro w hSw; (try dsimp only at hSw); go_simp; (try with_reducible rfl))
          (try simp only [Act.put, List.setIfInBounds_toArray, List.set_cons_zero, List.set_cons_succ])
          refine wpAnyH_take (i := 12) (v := ?_) rfl (by kernel_rfl) (by kernel_rfl) (by kernel_rfl) (fun _ _ _ h => h) (Or.inl ⟨by rfl, ?_⟩) (by assumption) ?_
          rotate_left
          · (intro w hSw; (try dsimp only at hSw); go_simp; (try with_reducible rfl))
          (try simp only [Act.put, List.setIfInBounds_toArray, List.set_cons_zero, List.set_cons_succ])
          refine wpAnyH_ready (rs := [7]) (by kernel_rfl) (by simp) ?_
          refine AllReadyH.cons rfl (fun K hK => ?_) AllReadyH.nil
          go_simp
          refine hK.out _ _ ?_ (fun hHeld => ?_)
          · ((try dsimp only); (first | (go_split_ands; (try dsimp only); refine ⟨?_, ?_, ?_, ?_, ?_, ?_⟩ <;> (first | (with_reducible assumption) | (with_reducible exact keep_cell (by assumption) (by first | omega | (simp; done) | (simp; omega)) (by assumption)) | (with_reducible exact (World.cell?_alloc_past _ _ _ (by show _ < _; omega)).trans (by assumption)) | (with_reducible exact (World.cell?_alloc_past _ _ _ (by show _ < _; omega)).trans ((World.cell?_alloc_past _ _ _ (by show _ < _; omega)).symm.trans (by assumption))) | (simp [go_sem]; with_reducible assumption))) | (simp [go_sem, ↓IntWalk.iteOmega, *]; done)))
          clear hK K
          (try simp only [Act.put, List.setIfInBounds_toArray, List.set_cons_zero, List.set_cons_succ])
          refine wpAnyH_ready (rs := [13]) (by kernel_rfl) (by simp) ?_
          refine AllReadyH.cons rfl (fun K hK => ?_) AllReadyH.nil
          (go_simp; go_at_call 12; (with_reducible refine (added_ok _ _ _ _ _ _ _ _ _ KA.out KB.out KS.out).mono ?_); rintro e w8 ⟨rfl, hb8⟩; have y0 := (hb8.frozen (p := ⟨o, k * 4, none⟩) (by first | omega | (simp; done) | (simp; omega))).trans f0; have y1 := (hb8.frozen (p := ⟨o, k * 4 + 1, none⟩) (by first | omega | (simp; done) | (simp; omega))).trans f1; have y2 := (hb8.frozen (p := ⟨o, k * 4 + 2, none⟩) (by first | omega | (simp; done) | (simp; omega))).trans f2; have y3 := (hb8.frozen (p := ⟨o, k * 4 + 3, none⟩) (by first | omega | (simp; done) | (simp; omega))).trans f3; have v0 := keep_cell hb8 (by first | omega | (simp; done) | (simp; omega)) a0; have v1 := keep_cell hb8 (by first | omega | (simp; done) | (simp; omega)) a1; have v2 := keep_cell hb8 (by first | omega | (simp; done) | (simp; omega)) a2; have v3 := keep_cell hb8 (by first | omega | (simp; done) | (simp; omega)) a3; have u2 := keep_cell hb8 (by first | omega | (simp; done) | (simp; omega)) F2)
          refine hK.out _ _ ?_ (fun hHeld => ?_)
          · ((try dsimp only); (first | (go_split_ands; (try dsimp only); refine ⟨?_, ?_, ?_, ?_, ?_, ?_⟩ <;> (first | (with_reducible assumption) | (with_reducible exact keep_cell (by assumption) (by first | omega | (simp; done) | (simp; omega)) (by assumption)) | (with_reducible exact (World.cell?_alloc_past _ _ _ (by show _ < _; omega)).trans (by assumption)) | (with_reducible exact (World.cell?_alloc_past _ _ _ (by show _ < _; omega)).trans ((World.cell?_alloc_past _ _ _ (by show _ < _; omega)).symm.trans (by assumption))) | (simp [go_sem]; with_reducible assumption))) | (simp [go_sem, ↓IntWalk.iteOmega, *]; done)))
          clear hK K
          (try simp only [Act.put, List.setIfInBounds_toArray, List.set_cons_zero, List.set_cons_succ])
          refine wpAnyH_take (i := 14) (v := ?_) rfl (by kernel_rfl) (by kernel_rfl) (by kernel_rfl) (fun _ _ _ h => h) (Or.inl ⟨by rfl, ?_⟩) (by assumption) ?_
          rotate_left
          · (intro w hSw; (try dsimp only at hSw); go_simp; (try with_reducible rfl))
          (try simp only [Act.put, List.setIfInBounds_toArray, List.set_cons_zero, List.set_cons_succ])
          refine wpAnyH_take (i := 15) (v := ?_) rfl (by kernel_rfl) (by kernel_rfl) (by kernel_rfl) (fun _ _ _ h => h) (Or.inl ⟨by rfl, ?_⟩) (by assumption) ?_
          rotate_left
          · (intro w hSw; (try dsimp only at hSw); go_simp; (try with_reducible rfl))
          (try simp only [Act.put, List.setIfInBounds_toArray, List.set_cons_zero, List.set_cons_succ])
          refine wpAnyH_take (i := 16) (v := ?_) rfl (by kernel_rfl) (by kernel_rfl) (by kernel_rfl) (fun _ _ _ h => h) (Or.inl ⟨by rfl, ?_⟩) (by assumption) ?_
          rotate_left
          · (intro w hSw; (try dsimp only at hSw); go_simp; (try with_reducible rfl))
          (try simp only [Act.put, List.setIfInBounds_toArray, List.set_cons_zero, List.set_cons_succ])
          refine wpAnyH_take (i := 17) (v := ?_) rfl (by kernel_rfl) (by kernel_rfl) (by kernel_rfl) (fun _ _ _ h => h) (Or.inl ⟨by rfl, ?_⟩) (by assumption) ?_
          rotate_left
          · (intro w hSw; (try dsimp only at hSw); go_simp; (try with_reducible rfl))
          (try simp only [Act.put, List.setIfInBounds_toArray, List.set_cons_zero, List.set_cons_succ])
          refine wpAnyH_ready (rs := [18]) (by kernel_rfl) (by simp) ?_
          refine AllReadyH.cons rfl (fun K hK => ?_) AllReadyH.nil
          go_simp
          refine hK.out _ _ ?_ (fun hHeld => ?_)
          · ((try dsimp only); (first | (go_split_ands; (try dsimp only); refine ⟨?_, ?_, ?_, ?_, ?_, ?_⟩ <;> (first | (with_reducible assumption) | (with_reducible exact keep_cell (by assumption) (by first | omega | (simp; done) | (simp; omega)) (by assumption)) | (with_reducible exact (World.cell?_alloc_past _ _ _ (by show _ < _; omega)).trans (by assumption)) | (with_reducible exact (World.cell?_alloc_past _ _ _ (by show _ < _; omega)).trans ((World.cell?_alloc_past _ _ _ (by show _ < _; omega)).symm.trans (by assumption))) | (simp [go_sem]; with_reducible assumption))) | (simp [go_sem, ↓IntWalk.iteOmega, *]; done)))
          clear hK K
          (try simp only [Act.put, List.setIfInBounds_toArray, List.set_cons_zero, List.set_cons_succ])
          refine wpAnyH_done (by kernel_rfl) ?_ _
          refine NoPanic.normal ?_
          have hXX := Lib.hid (show Below wr.heap.size wr w8 from by (repeat' (first | (with_reducible exact Below.refl _ _) | (with_reducible refine Below.setCell ?_ (by first | omega | (simp; done) | (simp; omega)) _) | (with_reducible refine Below.alloc ?_ (by first | omega | (simp; done) | (simp; omega)) _) | (with_reducible refine Below.drew ?_) | (with_reducible refine below_drewN ?_ _) | (with_reducible refine Below.trans ?_ (Below.mono (by assumption) (by first | omega | (simp; done) | (simp; omega)))))))
          clear y0 y1 y2 y3 v0 v1 v2 v3 u2 hb8 a0 a1 a2 a3 f0 f1 f2 f3 e0 e1 e2 e3
          go_wp2
          go_roundw
          case rel => exact ⟨1, by omega, by go_num, Lib.hid (ST.out _ hXX.out)⟩
          case measure => simp [intOf]
        · obtain ⟨a0, a1, a2, a3⟩ := HRK.out.at4 hlk
          obtain ⟨f0, f1, f2, f3⟩ := HRK.out.free4 hlk
          rw [KC_at] at a0 a1 a2 a3
          obtain ⟨e0, e1, e2, e3⟩ := HG.out.get BW.out hlt q1l
          have p2 : (0 : Int) ≤ (Q1 : Int) := by omega
          have p3 : (Q1 : Int) < (m : Int) := by omega
          have lb2 : b < wr.heap.size := by omega
          have KA := Lib.hid (csum_ok HN.out HM.out HO.out hlk (show 1 ≤ 4 by omega))
          have KB := Lib.hid (HO.out.1 Q1 q1l)
          have ST := Lib.hid (fun X (hX : Below wr.heap.size wr X) => L.out.step hX hlk HQ1.out)
          have KS := Lib.hid (show Ok4 (csum W G k 1 0 + G Q1 0) (csum W G k 1 1 + G Q1 1) (csum W G k 1 2 + G Q1 2) (csum W G k 1 3 + G Q1 3) from by rw [HQ1.out]; exact csum_ok HN.out HM.out HO.out hlk (show 1 + 1 ≤ 4 by omega))
          obtain ⟨S0, hS0⟩ : ∃ S, S = csum W G k 1 0 := ⟨_, rfl⟩
          obtain ⟨S1, hS1⟩ : ∃ S, S = csum W G k 1 1 := ⟨_, rfl⟩
          obtain ⟨S2, hS2⟩ : ∃ S, S = csum W G k 1 2 := ⟨_, rfl⟩
          obtain ⟨S3, hS3⟩ : ∃ S, S = csum W G k 1 3 := ⟨_, rfl⟩
          rw [← hS0] at a0
          rw [← hS1] at a1
          rw [← hS2] at a2
          rw [← hS3] at a3
          rw [← hS0, ← hS1, ← hS2, ← hS3] at KA KS ST
          clear hS0 hS1 hS2 hS3
          go_wp2
          refine wp_region_noPanic ?_
          refine wp_region_held_drew (S := (fun w' => w'.cell? ⟨F, 2, none⟩ = some (.slice (some ⟨o, 0, none⟩) n co) ∧ w'.cell? ⟨w.heap.size, 2, none⟩ = some (.slice (some ⟨b, off, none⟩) m cap) ∧ w'.cell? ⟨b, off + Q1 * 4, none⟩ = some (.int .i64 (G Q1 0)) ∧ w'.cell? ⟨b, off + Q1 * 4 + 1, none⟩ = some (.int .i64 (G Q1 1)) ∧ w'.cell? ⟨b, off + Q1 * 4 + 2, none⟩ = some (.int .i64 (G Q1 2)) ∧ w'.cell? ⟨b, off + Q1 * 4 + 3, none⟩ = some (.int .i64 (G Q1 3)))) (by kernel_rfl) ?_ (fun hHeld => ?_)
          · ((try dsimp only); (first | (go_split_ands; (try dsimp only); refine ⟨?_, ?_, ?_, ?_, ?_, ?_⟩ <;> (first | (with_reducible assumption) | (with_reducible exact keep_cell (by assumption) (by first | omega | (simp; done) | (simp; omega)) (by assumption)) | (with_reducible exact (World.cell?_alloc_past _ _ _ (by show _ < _; omega)).trans (by assumption)) | (with_reducible exact (World.cell?_alloc_past _ _ _ (by show _ < _; omega)).trans ((World.cell?_alloc_past _ _ _ (by show _ < _; omega)).symm.trans (by assumption))) | (simp [go_sem]; with_reducible assumption))) | (simp [go_sem, ↓IntWalk.iteOmega, *]; done)))
          refine wpAnyH_take (i := 0) (v := ?_) rfl (by kernel_rfl) (by kernel_rfl) (by kernel_rfl) (fun _ _ _ h => h) (Or.inl ⟨by rfl, ?_⟩) (by assumption) ?_
          rotate_left
          · (intro w hSw; (try dsimp only at hSw); go_simp; (try with_reducible rfl))
          (try simp only [Act.put, List.setIfInBounds_toArray, List.set_cons_zero, List.set_cons_succ])
          refine wpAnyH_take (i := 1) (v := ?_) rfl (by kernel_rfl) (by kernel_rfl) (by kernel_rfl) (fun _ _ _ h => h) (Or.inl ⟨by rfl, ?_⟩) (by assumption) ?_
          rotate_left
          · (intro w hSw; (try dsimp only at hSw); go_simp; (try with_reducible rfl))
          (try simp only [Act.put, List.setIfInBounds_toArray, List.set_cons_zero, List.set_cons_succ])
          refine wpAnyH_take (i := 2) (v := ?_) rfl (by kernel_rfl) (by kernel_rfl) (by kernel_rfl) (fun _ _ _ h => h) (Or.inl ⟨by rfl, ?_⟩) (by assumption) ?_
          rotate_left
          · (intro w hSw; (try dsimp only at hSw); go_simp; (try with_reducible rfl))
          (try simp only [Act.put, List.setIfInBounds_toArray, List.set_cons_zero, List.set_cons_succ])
          refine wpAnyH_take (i := 3) (v := ?_) rfl (by kernel_rfl) (by kernel_rfl) (by kernel_rfl) (fun _ _ _ h => h) (Or.inl ⟨by rfl, ?_⟩) (by assumption) ?_
          rotate_left
          · (intro w hSw; (try dsimp only at hSw); go_simp; (try with_reducible rfl))
          (try simp only [Act.put, List.setIfInBounds_toArray, List.set_cons_zero, List.set_cons_succ])
          refine wpAnyH_take (i := 4) (v := ?_) rfl (by kernel_rfl) (by kernel_rfl) (by kernel_rfl) (fun _ _ _ h => h) (Or.inl ⟨by rfl, ?_⟩) (by assumption) ?_
          rotate_left
          · (intro w hSw; (try dsimp only at hSw); go_simp; (try with_reducible rfl))
          (try simp only [Act.put, List.setIfInBounds_toArray, List.set_cons_zero, List.set_cons_succ])
          refine wpAnyH_take (i := 5) (v := ?_) rfl (by kernel_rfl) (by kernel_rfl) (by kernel_rfl) (fun _ _ _ h => h) (Or.inl ⟨by rfl, ?_⟩) (by assumption) ?_
          rotate_left
          · (intro w hSw; (try dsimp only at hSw); go_simp; (try with_reducible rfl))
          (try simp only [Act.put, List.setIfInBounds_toArray, List.set_cons_zero, List.set_cons_succ])
          refine wpAnyH_take (i := 6) (v := ?_) rfl (by kernel_rfl) (by kernel_rfl) (by kernel_rfl) (fun _ _ _ h => h) (Or.inl ⟨by rfl, ?_⟩) (by assumption) ?_
          rotate_left
          · (intro w hSw; (try dsimp only at hSw); go_simp; (try with_reducible rfl))
          (try simp only [Act.put, List.setIfInBounds_toArray, List.set_cons_zero, List.set_cons_succ])
          refine wpAnyH_take (i := 8) (v := ?_) rfl (by kernel_rfl) (by kernel_rfl) (by kernel_rfl) (fun _ _ _ h => h) (Or.inl ⟨by rfl, ?_⟩) (by assumption) ?_
          rotate_left
          · (intro w hSw; (try dsimp only at hSw); go_simp; (try with_reducible rfl))
          (try simp only [Act.put, List.setIfInBounds_toArray, List.set_cons_zero, List.set_cons_succ])
          refine wpAnyH_take (i := 9) (v := ?_) rfl (by kernel_rfl) (by kernel_rfl) (by kernel_rfl) (fun _ _ _ h => h) (Or.inl ⟨by rfl, ?_⟩) (by assumption) ?_
          rotate_left
          · (intro w hSw; (try dsimp only at hSw); go_simp; (try with_reducible rfl))
          (try simp only [Act.put, List.setIfInBounds_toArray, List.set_cons_zero, List.set_cons_succ])
          refine wpAnyH_take (i := 10) (v := ?_) rfl (by kernel_rfl) (by kernel_rfl) (by kernel_rfl) (fun _ _ _ h => h) (Or.inl ⟨by rfl, ?_⟩) (by assumption) ?_
          rotate_left
          · (intro w hSw; (try dsimp only at hSw); go_simp; (try with_reducible rfl))
          (try simp only [Act.put, List.setIfInBounds_toArray, List.set_cons_zero, List.set_cons_succ])
          refine wpAnyH_take (i := 11) (v := ?_) rfl (by kernel_rfl) (by kernel_rfl) (by kernel_rfl) (fun _ _ _ h => h) (Or.inl ⟨by rfl, ?_⟩) (by assumption) ?_
          rotate_left
          · (intro w hSw; (try dsimp only at hSw); go_simp; (try with_reducible rfl))
          (try simp only [Act.put, List.setIfInBounds_toArray, List.set_cons_zero, List.set_cons_succ])
          refine wpAnyH_take (i := 12) (v := ?_) rfl (by kernel_rfl) (by kernel_rfl) (by kernel_rfl) (fun _ _ _ h => h) (Or.inl ⟨by rfl, ?_⟩) (by assumption) ?_
          rotate_left
          · (intro w hSw; (try dsimp only at hSw); go_simp; (try with_reducible rfl))
          (try simp only [Act.put, List.setIfInBounds_toArray, List.set_cons_zero, List.set_cons_succ])
          refine wpAnyH_ready (rs := [7]) (by kernel_rfl) (by simp) ?_
          refine AllReadyH.cons rfl (fun K hK => ?_) AllReadyH.nil
          go_simp
          refine hK.out _ _ ?_ (fun hHeld => ?_)
          · ((try dsimp only); (first | (go_split_ands; (try dsimp only); refine ⟨?_, ?_, ?_, ?_, ?_, ?_⟩ <;> (first | (with_reducible assumption) | (with_reducible exact keep_cell (by assumption) (by first | omega | (simp; done) | (simp; omega)) (by assumption)) | (with_reducible exact (World.cell?_alloc_past _ _ _ (by show _ < _; omega)).trans (by assumption)) | (with_reducible exact (World.cell?_alloc_past _ _ _ (by show _ < _; omega)).trans ((World.cell?_alloc_past _ _ _ (by show _ < _; omega)).symm.trans (by assumption))) | (simp [go_sem]; with_reducible assumption))) | (simp [go_sem, ↓IntWalk.iteOmega, *]; done)))
          clear hK K
          (try simp only [Act.put, List.setIfInBounds_toArray, List.set_cons_zero, List.set_cons_succ])
          refine wpAnyH_ready (rs := [13]) (by kernel_rfl) (by simp) ?_
          refine AllReadyH.cons rfl (fun K hK => ?_) AllReadyH.nil
          (go_simp; go_at_call 12; (with_reducible refine (added_ok _ _ _ _ _ _ _ _ _ KA.out KB.out KS.out).mono ?_); rintro e w8 ⟨rfl, hb8⟩; have y0 := (hb8.frozen (p := ⟨o, k * 4, none⟩) (by first | omega | (simp; done) | (simp; omega))).trans f0; have y1 := (hb8.frozen (p := ⟨o, k * 4 + 1, none⟩) (by first | omega | (simp; done) | (simp; omega))).trans f1; have y2 := (hb8.frozen (p := ⟨o, k * 4 + 2, none⟩) (by first | omega | (simp; done) | (simp; omega))).trans f2; have y3 := (hb8.frozen (p := ⟨o, k * 4 + 3, none⟩) (by first | omega | (simp; done) | (simp; omega))).trans f3; have v0 := keep_cell hb8 (by first | omega | (simp; done) | (simp; omega)) a0; have v1 := keep_cell hb8 (by first | omega | (simp; done) | (simp; omega)) a1; have v2 := keep_cell hb8 (by first | omega | (simp; done) | (simp; omega)) a2; have v3 := keep_cell hb8 (by first | omega | (simp; done) | (simp; omega)) a3; have u2 := keep_cell hb8 (by first | omega | (simp; done) | (simp; omega)) F2)
          refine hK.out _ _ ?_ (fun hHeld => ?_)
          · ((try dsimp only); (first | (go_split_ands; (try dsimp only); refine ⟨?_, ?_, ?_, ?_, ?_, ?_⟩ <;> (first | (with_reducible assumption) | (with_reducible exact keep_cell (by assumption) (by first | omega | (simp; done) | (simp; omega)) (by assumption)) | (with_reducible exact (World.cell?_alloc_past _ _ _ (by show _ < _; omega)).trans (by assumption)) | (with_reducible exact (World.cell?_alloc_past _ _ _ (by show _ < _; omega)).trans ((World.cell?_alloc_past _ _ _ (by show _ < _; omega)).symm.trans (by assumption))) | (simp [go_sem]; with_reducible assumption))) | (simp [go_sem, ↓IntWalk.iteOmega, *]; done)))
          clear hK K
          (try simp only [Act.put, List.setIfInBounds_toArray, List.set_cons_zero, List.set_cons_succ])
          refine wpAnyH_take (i := 14) (v := ?_) rfl (by kernel_rfl) (by kernel_rfl) (by kernel_rfl) (fun _ _ _ h => h) (Or.inl ⟨by rfl, ?_⟩) (by assumption) ?_
          rotate_left
          · (intro w hSw; (try dsimp only at hSw); go_simp; (try with_reducible rfl))
          (try simp only [Act.put, List.setIfInBounds_toArray, List.set_cons_zero, List.set_cons_succ])
          refine wpAnyH_take (i := 15) (v := ?_) rfl (by kernel_rfl) (by kernel_rfl) (by kernel_rfl) (fun _ _ _ h => h) (Or.inl ⟨by rfl, ?_⟩) (by assumption) ?_
          rotate_left
          · (intro w hSw; (try dsimp only at hSw); go_simp; (try with_reducible rfl))
          (try simp only [Act.put, List.setIfInBounds_toArray, List.set_cons_zero, List.set_cons_succ])
          refine wpAnyH_take (i := 16) (v := ?_) rfl (by kernel_rfl) (by kernel_rfl) (by kernel_rfl) (fun _ _ _ h => h) (Or.inl ⟨by rfl, ?_⟩) (by assumption) ?_
          rotate_left
          · (intro w hSw; (try dsimp only at hSw); go_simp; (try with_reducible rfl))
          (try simp only [Act.put, List.setIfInBounds_toArray, List.set_cons_zero, List.set_cons_succ])
          refine wpAnyH_take (i := 17) (v := ?_) rfl (by kernel_rfl) (by kernel_rfl) (by kernel_rfl) (fun _ _ _ h => h) (Or.inl ⟨by rfl, ?_⟩) (by assumption) ?_
          rotate_left
          · (intro w hSw; (try dsimp only at hSw); go_simp; (try with_reducible rfl))
          (try simp only [Act.put, List.setIfInBounds_toArray, List.set_cons_zero, List.set_cons_succ])
          refine wpAnyH_ready (rs := [18]) (by kernel_rfl) (by simp) ?_
          refine AllReadyH.cons rfl (fun K hK => ?_) AllReadyH.nil
          go_simp
          refine hK.out _ _ ?_ (fun hHeld => ?_)
          · ((try dsimp only); (first | (go_split_ands; (try dsimp only); refine ⟨?_, ?_, ?_, ?_, ?_, ?_⟩ <;> (first | (with_reducible assumption) | (with_reducible exact keep_cell (by assumption) (by first | omega | (simp; done) | (simp; omega)) (by assumption)) | (with_reducible exact (World.cell?_alloc_past _ _ _ (by show _ < _; omega)).trans (by assumption)) | (with_reducible exact (World.cell?_alloc_past _ _ _ (by show _ < _; omega)).trans ((World.cell?_alloc_past _ _ _ (by show _ < _; omega)).symm.trans (by assumption))) | (simp [go_sem]; with_reducible assumption))) | (simp [go_sem, ↓IntWalk.iteOmega, *]; done)))
          clear hK K
          (try simp only [Act.put, List.setIfInBounds_toArray, List.set_cons_zero, List.set_cons_succ])
          refine wpAnyH_done (by kernel_rfl) ?_ _
          refine NoPanic.normal ?_
          have hXX := Lib.hid (show Below wr.heap.size wr w8 from by (repeat' (first | (with_reducible exact Below.refl _ _) | (with_reducible refine Below.setCell ?_ (by first | omega | (simp; done) | (simp; omega)) _) | (with_reducible refine Below.alloc ?_ (by first | omega | (simp; done) | (simp; omega)) _) | (with_reducible refine Below.drew ?_) | (with_reducible refine below_drewN ?_ _) | (with_reducible refine Below.trans ?_ (Below.mono (by assumption) (by first | omega | (simp; done) | (simp; omega)))))))
          clear y0 y1 y2 y3 v0 v1 v2 v3 u2 hb8 a0 a1 a2 a3 f0 f1 f2 f3 e0 e1 e2 e3
          go_wp2
          go_roundw
          case rel => exact ⟨2, by omega, by go_num, Lib.hid (ST.out _ hXX.out)⟩
          case measure => simp [intOf]
        · obtain ⟨a0, a1, a2, a3⟩ := HRK.out.at4 hlk
          obtain ⟨f0, f1, f2, f3⟩ := HRK.out.free4 hlk
          rw [KC_at] at a0 a1 a2 a3
          obtain ⟨e0, e1, e2, e3⟩ := HG.out.get BW.out hlt q2l
          have p2 : (0 : Int) ≤ (Q2 : Int) := by omega
          have p3 : (Q2 : Int) < (m : Int) := by omega
          have lb2 : b < wr.heap.size := by omega
          have KA := Lib.hid (csum_ok HN.out HM.out HO.out hlk (show 2 ≤ 4 by omega))
          have KB := Lib.hid (HO.out.1 Q2 q2l)
          have ST := Lib.hid (fun X (hX : Below wr.heap.size wr X) => L.out.step hX hlk HQ2.out)
          have KS := Lib.hid (show Ok4 (csum W G k 2 0 + G Q2 0) (csum W G k 2 1 + G Q2 1) (csum W G k 2 2 + G Q2 2) (csum W G k 2 3 + G Q2 3) from by rw [HQ2.out]; exact csum_ok HN.out HM.out HO.out hlk (show 2 + 1 ≤ 4 by omega))
          obtain ⟨S0, hS0⟩ : ∃ S, S = csum W G k 2 0 := ⟨_, rfl⟩
          obtain ⟨S1, hS1⟩ : ∃ S, S = csum W G k 2 1 := ⟨_, rfl⟩
          obtain ⟨S2, hS2⟩ : ∃ S, S = csum W G k 2 2 := ⟨_, rfl⟩
          obtain ⟨S3, hS3⟩ : ∃ S, S = csum W G k 2 3 := ⟨_, rfl⟩
          rw [← hS0] at a0
          rw [← hS1] at a1
          rw [← hS2] at a2
          rw [← hS3] at a3
          rw [← hS0, ← hS1, ← hS2, ← hS3] at KA KS ST
          clear hS0 hS1 hS2 hS3
          go_wp2
          refine wp_region_noPanic ?_
          refine wp_region_held_drew (S := (fun w' => w'.cell? ⟨F, 2, none⟩ = some (.slice (some ⟨o, 0, none⟩) n co) ∧ w'.cell? ⟨w.heap.size, 2, none⟩ = some (.slice (some ⟨b, off, none⟩) m cap) ∧ w'.cell? ⟨b, off + Q2 * 4, none⟩ = some (.int .i64 (G Q2 0)) ∧ w'.cell? ⟨b, off + Q2 * 4 + 1, none⟩ = some (.int .i64 (G Q2 1)) ∧ w'.cell? ⟨b, off + Q2 * 4 + 2, none⟩ = some (.int .i64 (G Q2 2)) ∧ w'.cell? ⟨b, off + Q2 * 4 + 3, none⟩ = some (.int .i64 (G Q2 3)))) (by kernel_rfl) ?_ (fun hHeld => ?_)
          · ((try dsimp only); (first | (go_split_ands; (try dsimp only); refine ⟨?_, ?_, ?_, ?_, ?_, ?_⟩ <;> (first | (with_reducible assumption) | (with_reducible exact keep_cell (by assumption) (by first | omega | (simp; done) | (simp; omega)) (by assumption)) | (with_reducible exact (World.cell?_alloc_past _ _ _ (by show _ < _; omega)).trans (by assumption)) | (with_reducible exact (World.cell?_alloc_past _ _ _ (by show _ < _; omega)).trans ((World.cell?_alloc_past _ _ _ (by show _ < _; omega)).symm.trans (by assumption))) | (simp [go_sem]; with_reducible assumption))) | (simp [go_sem, ↓IntWalk.iteOmega, *]; done)))
          refine wpAnyH_take (i := 0) (v := ?_) rfl (by kernel_rfl) (by kernel_rfl) (by kernel_rfl) (fun _ _ _ h => h) (Or.inl ⟨by rfl, ?_⟩) (by assumption) ?_
          rotate_left
          · (intro w hSw; (try dsimp only at hSw); go_simp; (try with_reducible rfl))
          (try simp only [Act.put, List.setIfInBounds_toArray, List.set_cons_zero, List.set_cons_succ])
          refine wpAnyH_take (i := 1) (v := ?_) rfl (by kernel_rfl) (by kernel_rfl) (by kernel_rfl) (fun _ _ _ h => h) (Or.inl ⟨by rfl, ?_⟩) (by assumption) ?_
          rotate_left
          · (intro w hSw; (try dsimp only at hSw); go_simp; (try with_reducible rfl))
          (try simp only [Act.put, List.setIfInBounds_toArray, List.set_cons_zero, List.set_cons_succ])
          refine wpAnyH_take (i := 2) (v := ?_) rfl (by kernel_rfl) (by kernel_rfl) (by kernel_rfl) (fun _ _ _ h => h) (Or.inl ⟨by rfl, ?_⟩) (by assumption) ?_
          rotate_left
          · (intro w hSw; (try dsimp only at hSw); go_simp; (try with_reducible rfl))
          (try simp only [Act.put, List.setIfInBounds_toArray, List.set_cons_zero, List.set_cons_succ])
          refine wpAnyH_take (i := 3) (v := ?_) rfl (by kernel_rfl) (by kernel_rfl) (by kernel_rfl) (fun _ _ _ h => h) (Or.inl ⟨by rfl, ?_⟩) (by assumption) ?_
          rotate_left
          · (intro w hSw; (try dsimp only at hSw); go_simp; (try with_reducible rfl))
          (try simp only [Act.put, List.setIfInBounds_toArray, List.set_cons_zero, List.set_cons_succ])
          refine wpAnyH_take (i := 4) (v := ?_) rfl (by kernel_rfl) (by kernel_rfl) (by kernel_rfl) (fun _ _ _ h => h) (Or.inl ⟨by rfl, ?_⟩) (by assumption) ?_
          rotate_left
          · (intro w hSw; (try dsimp only at hSw); go_simp; (try with_reducible rfl))
          (try simp only [Act.put, List.setIfInBounds_toArray, List.set_cons_zero, List.set_cons_succ])
          refine wpAnyH_take (i := 5) (v := ?_) rfl (by kernel_rfl) (by kernel_rfl) (by kernel_rfl) (fun _ _ _ h => h) (Or.inl ⟨by rfl, ?_⟩) (by assumption) ?_
          rotate_left
          · (intro w hSw; (try dsimp only at hSw); go_simp; (try with_reducible rfl))
          (try simp only [Act.put, List.setIfInBounds_toArray, List.set_cons_zero, List.set_cons_succ])
          refine wpAnyH_take (i := 6) (v := ?_) rfl (by kernel_rfl) (by kernel_rfl) (by kernel_rfl) (fun _ _ _ h => h) (Or.inl ⟨by rfl, ?_⟩) (by assumption) ?_
          rotate_left
          · (intro w hSw; (try dsimp only at hSw); go_simp; (try with_reducible rfl))
          (try simp only [Act.put, List.setIfInBounds_toArray, List.set_cons_zero, List.set_cons_succ])
          refine wpAnyH_take (i := 8) (v := ?_) rfl (by kernel_rfl) (by kernel_rfl) (by kernel_rfl) (fun _ _ _ h => h) (Or.inl ⟨by rfl, ?_⟩) (by assumption) ?_
          rotate_left
          · (intro w hSw; (try dsimp only at hSw); go_simp; (try with_reducible rfl))
          (try simp only [Act.put, List.setIfInBounds_toArray, List.set_cons_zero, List.set_cons_succ])
          refine wpAnyH_take (i := 9) (v := ?_) rfl (by kernel_rfl) (by kernel_rfl) (by kernel_rfl) (fun _ _ _ h => h) (Or.inl ⟨by rfl, ?_⟩) (by assumption) ?_
          rotate_left
          · (intro w hSw; (try dsimp only at hSw); go_simp; (try with_reducible rfl))
          (try simp only [Act.put, List.setIfInBounds_toArray, List.set_cons_zero, List.set_cons_succ])
          refine wpAnyH_take (i := 10) (v := ?_) rfl (by kernel_rfl) (by kernel_rfl) (by kernel_rfl) (fun _ _ _ h => h) (Or.inl ⟨by rfl, ?_⟩) (by assumption) ?_
          rotate_left
          · (intro w hSw; (try dsimp only at hSw); go_simp; (try with_reducible rfl))
          (try simp only [Act.put, List.setIfInBounds_toArray, List.set_cons_zero, List.set_cons_succ])
          refine wpAnyH_take (i := 11) (v := ?_) rfl (by kernel_rfl) (by kernel_rfl) (by kernel_rfl) (fun _ _ _ h => h) (Or.inl ⟨by rfl, ?_⟩) (by assumption) ?_
          rotate_left
          · (intro w hSw; (try dsimp only at hSw); go_simp; (try with_reducible rfl))
          (try simp only [Act.put, List.setIfInBounds_toArray, List.set_cons_zero, List.set_cons_succ])
          refine wpAnyH_take (i := 12) (v := ?_) rfl (by kernel_rfl) (by kernel_rfl) (by kernel_rfl) (fun _ _ _ h => h) (Or.inl ⟨by rfl, ?_⟩) (by assumption) ?_
          rotate_left
          · (intro w hSw; (try dsimp only at hSw); go_simp; (try with_reducible rfl))
          (try simp only [Act.put, List.setIfInBounds_toArray, List.set_cons_zero, List.set_cons_succ])
          refine wpAnyH_ready (rs := [7]) (by kernel_rfl) (by simp) ?_
          refine AllReadyH.cons rfl (fun K hK => ?_) AllReadyH.nil
          go_simp
          refine hK.out _ _ ?_ (fun hHeld => ?_)
          · ((try dsimp only); (first | (go_split_ands; (try dsimp only); refine ⟨?_, ?_, ?_, ?_, ?_, ?_⟩ <;> (first | (with_reducible assumption) | (with_reducible exact keep_cell (by assumption) (by first | omega | (simp; done) | (simp; omega)) (by assumption)) | (with_reducible exact (World.cell?_alloc_past _ _ _ (by show _ < _; omega)).trans (by assumption)) | (with_reducible exact (World.cell?_alloc_past _ _ _ (by show _ < _; omega)).trans ((World.cell?_alloc_past _ _ _ (by show _ < _; omega)).symm.trans (by assumption))) | (simp [go_sem]; with_reducible assumption))) | (simp [go_sem, ↓IntWalk.iteOmega, *]; done)))
          clear hK K
          (try simp only [Act.put, List.setIfInBounds_toArray, List.set_cons_zero, List.set_cons_succ])
          refine wpAnyH_ready (rs := [13]) (by kernel_rfl) (by simp) ?_
          refine AllReadyH.cons rfl (fun K hK => ?_) AllReadyH.nil
          (go_simp; go_at_call 12; (with_reducible refine (added_ok _ _ _ _ _ _ _ _ _ KA.out KB.out KS.out).mono ?_); rintro e w8 ⟨rfl, hb8⟩; have y0 := (hb8.frozen (p := ⟨o, k * 4, none⟩) (by first | omega | (simp; done) | (simp; omega))).trans f0; have y1 := (hb8.frozen (p := ⟨o, k * 4 + 1, none⟩) (by first | omega | (simp; done) | (simp; omega))).trans f1; have y2 := (hb8.frozen (p := ⟨o, k * 4 + 2, none⟩) (by first | omega | (simp; done) | (simp; omega))).trans f2; have y3 := (hb8.frozen (p := ⟨o, k * 4 + 3, none⟩) (by first | omega | (simp; done) | (simp; omega))).trans f3; have v0 := keep_cell hb8 (by first | omega | (simp; done) | (simp; omega)) a0; have v1 := keep_cell hb8 (by first | omega | (simp; done) | (simp; omega)) a1; have v2 := keep_cell hb8 (by first | omega | (simp; done) | (simp; omega)) a2; have v3 := keep_cell hb8 (by first | omega | (simp; done) | (simp; omega)) a3; have u2 := keep_cell hb8 (by first | omega | (simp; done) | (simp; omega)) F2)
          refine hK.out _ _ ?_ (fun hHeld => ?_)
          · ((try dsimp only); (first | (go_split_ands; (try dsimp only); refine ⟨?_, ?_, ?_, ?_, ?_, ?_⟩ <;> (first | (with_reducible assumption) | (with_reducible exact keep_cell (by assumption) (by first | omega | (simp; done) | (simp; omega)) (by assumption)) | (with_reducible exact (World.cell?_alloc_past _ _ _ (by show _ < _; omega)).trans (by assumption)) | (with_reducible exact (World.cell?_alloc_past _ _ _ (by show _ < _; omega)).trans ((World.cell?_alloc_past _ _ _ (by show _ < _; omega)).symm.trans (by assumption))) | (simp [go_sem]; with_reducible assumption))) | (simp [go_sem, ↓IntWalk.iteOmega, *]; done)))
          clear hK K
          (try simp only [Act.put, List.setIfInBounds_toArray, List.set_cons_zero, List.set_cons_succ])
          refine wpAnyH_take (i := 14) (v := ?_) rfl (by kernel_rfl) (by kernel_rfl) (by kernel_rfl) (fun _ _ _ h => h) (Or.inl ⟨by rfl, ?_⟩) (by assumption) ?_
          rotate_left
          · (intro w hSw; (try dsimp only at hSw); go_simp; (try with_reducible rfl))
          (try simp only [Act.put, List.setIfInBounds_toArray, List.set_cons_zero, List.set_cons_succ])
          refine wpAnyH_take (i := 15) (v := ?_) rfl (by kernel_rfl) (by kernel_rfl) (by kernel_rfl) (fun _ _ _ h => h) (Or.inl ⟨by rfl, ?_⟩) (by assumption) ?_
          rotate_left
          · (intro w hSw; (try dsimp only at hSw); go_simp; (try with_reducible rfl))
          (try simp only [Act.put, List.setIfInBounds_toArray, List.set_cons_zero, List.set_cons_succ])
          refine wpAnyH_take (i := 16) (v := ?_) rfl (by kernel_rfl) (by kernel_rfl) (by kernel_rfl) (fun _ _ _ h => h) (Or.inl ⟨by rfl, ?_⟩) (by assumption) ?_
          rotate_left
          · (intro w hSw; (try dsimp only at hSw); go_simp; (try with_reducible rfl))
          (try simp only [Act.put, List.setIfInBounds_toArray, List.set_cons_zero, List.set_cons_succ])
          refine wpAnyH_take (i := 17) (v := ?_) rfl (by kernel_rfl) (by kernel_rfl) (by kernel_rfl) (fun _ _ _ h => h) (Or.inl ⟨by rfl, ?_⟩) (by assumption) ?_
          rotate_left
          · (intro w hSw; (try dsimp only at hSw); go_simp; (try with_reducible rfl))
          (try simp only [Act.put, List.setIfInBounds_toArray, List.set_cons_zero, List.set_cons_succ])
          refine wpAnyH_ready (rs := [18]) (by kernel_rfl) (by simp) ?_
          refine AllReadyH.cons rfl (fun K hK => ?_) AllReadyH.nil
          go_simp
          refine hK.out _ _ ?_ (fun hHeld => ?_)
          · ((try dsimp only); (first | (go_split_ands; (try dsimp only); refine ⟨?_, ?_, ?_, ?_, ?_, ?_⟩ <;> (first | (with_reducible assumption) | (with_reducible exact keep_cell (by assumption) (by first | omega | (simp; done) | (simp; omega)) (by assumption)) | (with_reducible exact (World.cell?_alloc_past _ _ _ (by show _ < _; omega)).trans (by assumption)) | (with_reducible exact (World.cell?_alloc_past _ _ _ (by show _ < _; omega)).trans ((World.cell?_alloc_past _ _ _ (by show _ < _; omega)).symm.trans (by assumption))) | (simp [go_sem]; with_reducible assumption))) | (simp [go_sem, ↓IntWalk.iteOmega, *]; done)))
          clear hK K
          (try simp only [Act.put, List.setIfInBounds_toArray, List.set_cons_zero, List.set_cons_succ])
          refine wpAnyH_done (by kernel_rfl) ?_ _
          refine NoPanic.normal ?_
          have hXX := Lib.hid (show Below wr.heap.size wr w8 from by (repeat' (first | (with_reducible exact Below.refl _ _) | (with_reducible refine Below.setCell ?_ (by first | omega | (simp; done) | (simp; omega)) _) | (with_reducible refine Below.alloc ?_ (by first | omega | (simp; done) | (simp; omega)) _) | (with_reducible refine Below.drew ?_) | (with_reducible refine below_drewN ?_ _) | (with_reducible refine Below.trans ?_ (Below.mono (by assumption) (by first | omega | (simp; done) | (simp; omega)))))))
          clear y0 y1 y2 y3 v0 v1 v2 v3 u2 hb8 a0 a1 a2 a3 f0 f1 f2 f3 e0 e1 e2 e3
          go_wp2
          go_roundw
          case rel => exact ⟨3, by omega, by go_num, Lib.hid (ST.out _ hXX.out)⟩
          case measure => simp [intOf]
        · obtain ⟨a0, a1, a2, a3⟩ := HRK.out.at4 hlk
          obtain ⟨f0, f1, f2, f3⟩ := HRK.out.free4 hlk
          rw [KC_at] at a0 a1 a2 a3
          obtain ⟨e0, e1, e2, e3⟩ := HG.out.get BW.out hlt q3l
          have p2 : (0 : Int) ≤ (Q3 : Int) := by omega
          have p3 : (Q3 : Int) < (m : Int) := by omega
          have lb2 : b < wr.heap.size := by omega
          have KA := Lib.hid (csum_ok HN.out HM.out HO.out hlk (show 3 ≤ 4 by omega))
          have KB := Lib.hid (HO.out.1 Q3 q3l)
          have ST := Lib.hid (fun X (hX : Below wr.heap.size wr X) => L.out.step hX hlk HQ3.out)
          have KS := Lib.hid (show Ok4 (csum W G k 3 0 + G Q3 0) (csum W G k 3 1 + G Q3 1) (csum W G k 3 2 + G Q3 2) (csum W G k 3 3 + G Q3 3) from by rw [HQ3.out]; exact csum_ok HN.out HM.out HO.out hlk (show 3 + 1 ≤ 4 by omega))
          obtain ⟨S0, hS0⟩ : ∃ S, S = csum W G k 3 0 := ⟨_, rfl⟩
          obtain ⟨S1, hS1⟩ : ∃ S, S = csum W G k 3 1 := ⟨_, rfl⟩
          obtain ⟨S2, hS2⟩ : ∃ S, S = csum W G k 3 2 := ⟨_, rfl⟩
          obtain ⟨S3, hS3⟩ : ∃ S, S = csum W G k 3 3 := ⟨_, rfl⟩
          rw [← hS0] at a0
          rw [← hS1] at a1
          rw [← hS2] at a2
          rw [← hS3] at a3
          rw [← hS0, ← hS1, ← hS2, ← hS3] at KA KS ST
          clear hS0 hS1 hS2 hS3
          go_wp2
          refine wp_region_noPanic ?_
          refine wp_region_held_drew (S := (fun w' => w'.cell? ⟨F, 2, none⟩ = some (.slice (some ⟨o, 0, none⟩) n co) ∧ w'.cell? ⟨w.heap.size, 2, none⟩ = some (.slice (some ⟨b, off, none⟩) m cap) ∧ w'.cell? ⟨b, off + Q3 * 4, none⟩ = some (.int .i64 (G Q3 0)) ∧ w'.cell? ⟨b, off + Q3 * 4 + 1, none⟩ = some (.int .i64 (G Q3 1)) ∧ w'.cell? ⟨b, off + Q3 * 4 + 2, none⟩ = some (.int .i64 (G Q3 2)) ∧ w'.cell? ⟨b, off + Q3 * 4 + 3, none⟩ = some (.int .i64 (G Q3 3)))) (by kernel_rfl) ?_ (fun hHeld => ?_)
          · ((try dsimp only); (first | (go_split_ands; (try dsimp only); refine ⟨?_, ?_, ?_, ?_, ?_, ?_⟩ <;> (first | (with_reducible assumption) | (with_reducible exact keep_cell (by assumption) (by first | omega | (simp; done) | (simp; omega)) (by assumption)) | (with_reducible exact (World.cell?_alloc_past _ _ _ (by show _ < _; omega)).trans (by assumption)) | (with_reducible exact (World.cell?_alloc_past _ _ _ (by show _ < _; omega)).trans ((World.cell?_alloc_past _ _ _ (by show _ < _; omega)).symm.trans (by assumption))) | (simp [go_sem]; with_reducible assumption))) | (simp [go_sem, ↓IntWalk.iteOmega, *]; done)))
          refine wpAnyH_take (i := 0) (v := ?_) rfl (by kernel_rfl) (by kernel_rfl) (by kernel_rfl) (fun _ _ _ h => h) (Or.inl ⟨by rfl, ?_⟩) (by assumption) ?_
          rotate_left
          · (intro w hSw; (try dsimp only at hSw); go_simp; (try with_reducible rfl))
          (try simp only [Act.put, List.setIfInBounds_toArray, List.set_cons_zero, List.set_cons_succ])
          refine wpAnyH_take (i := 1) (v := ?_) rfl (by kernel_rfl) (by kernel_rfl) (by kernel_rfl) (fun _ _ _ h => h) (Or.inl ⟨by rfl, ?_⟩) (by assumption) ?_
          rotate_left
          · (intro w hSw; (try dsimp only at hSw); go_simp; (try with_reducible rfl))
          (try simp only [Act.put, List.setIfInBounds_toArray, List.set_cons_zero, List.set_cons_succ])
          refine wpAnyH_take (i := 2) (v := ?_) rfl (by kernel_rfl) (by kernel_rfl) (by kernel_rfl) (fun _ _ _ h => h) (Or.inl ⟨by rfl, ?_⟩) (by assumption) ?_
          rotate_left
          · (intro w hSw; (try dsimp only at hSw); go_simp; (try with_reducible rfl))
          (try simp only [Act.put, List.setIfInBounds_toArray, List.set_cons_zero, List.set_cons_succ])
          refine wpAnyH_take (i := 3) (v := ?_) rfl (by kernel_rfl) (by kernel_rfl) (by kernel_rfl) (fun _ _ _ h => h) (Or.inl ⟨by rfl, ?_⟩) (by assumption) ?_
          rotate_left
          · (intro w hSw; (try dsimp only at hSw); go_simp; (try with_reducible rfl))
          (try simp only [Act.put, List.setIfInBounds_toArray, List.set_cons_zero, List.set_cons_succ])
          refine wpAnyH_take (i := 4) (v := ?_) rfl (by kernel_rfl) (by kernel_rfl) (by kernel_rfl) (fun _ _ _ h => h) (Or.inl ⟨by rfl, ?_⟩) (by assumption) ?_
          rotate_left
          · (intro w hSw; (try dsimp only at hSw); go_simp; (try with_reducible rfl))
          (try simp only [Act.put, List.setIfInBounds_toArray, List.set_cons_zero, List.set_cons_succ])
          refine wpAnyH_take (i := 5) (v := ?_) rfl (by kernel_rfl) (by kernel_rfl) (by kernel_rfl) (fun _ _ _ h => h) (Or.inl ⟨by rfl, ?_⟩) (by assumption) ?_
          rotate_left
          · (intro w hSw; (try dsimp only at hSw); go_simp; (try with_reducible rfl))
          (try simp only [Act.put, List.setIfInBounds_toArray, List.set_cons_zero, List.set_cons_succ])
          refine wpAnyH_take (i := 6) (v := ?_) rfl (by kernel_rfl) (by kernel_rfl) (by kernel_rfl) (fun _ _ _ h => h) (Or.inl ⟨by rfl, ?_⟩) (by assumption) ?_
          rotate_left
          · (intro w hSw; (try dsimp only at hSw); go_simp; (try with_reducible rfl))
          (try simp only [Act.put, List.setIfInBounds_toArray, List.set_cons_zero, List.set_cons_succ])
          refine wpAnyH_take (i := 8) (v := ?_) rfl (by kernel_rfl) (by kernel_rfl) (by kernel_rfl) (fun _ _ _ h => h) (Or.inl ⟨by rfl, ?_⟩) (by assumption) ?_
          rotate_left
          · (intro w hSw; (try dsimp only at hSw); go_simp; (try with_reducible rfl))
          (try simp only [Act.put, List.setIfInBounds_toArray, List.set_cons_zero, List.set_cons_succ])
          refine wpAnyH_take (i := 9) (v := ?_) rfl (by kernel_rfl) (by kernel_rfl) (by kernel_rfl) (fun _ _ _ h => h) (Or.inl ⟨by rfl, ?_⟩) (by assumption) ?_
          rotate_left
          · (intro w hSw; (try dsimp only at hSw); go_simp; (try with_reducible rfl))
          (try simp only [Act.put, List.setIfInBounds_toArray, List.set_cons_zero, List.set_cons_succ])
          refine wpAnyH_take (i := 10) (v := ?_) rfl (by kernel_rfl) (by kernel_rfl) (by kernel_rfl) (fun _ _ _ h => h) (Or.inl ⟨by rfl, ?_⟩) (by assumption) ?_
          rotate_left
          · (intro w hSw; (try dsimp only at hSw); go_simp; (try with_reducible rfl))
          (try simp only [Act.put, List.setIfInBounds_toArray, List.set_cons_zero, List.set_cons_succ])
          refine wpAnyH_take (i := 11) (v := ?_) rfl (by kernel_rfl) (by kernel_rfl) (by kernel_rfl) (fun _ _ _ h => h) (Or.inl ⟨by rfl, ?_⟩) (by assumption) ?_
          rotate_left
          · (intro w hSw; (try dsimp only at hSw); go_simp; (try with_reducible rfl))
          (try simp only [Act.put, List.setIfInBounds_toArray, List.set_cons_zero, List.set_cons_succ])
          refine wpAnyH_take (i := 12) (v := ?_) rfl (by kernel_rfl) (by kernel_rfl) (by kernel_rfl) (fun _ _ _ h => h) (Or.inl ⟨by rfl, ?_⟩) (by assumption) ?_
          rotate_left
          · (intro w hSw; (try dsimp only at hSw); go_simp; (try with_reducible rfl))
          (try simp only [Act.put, List.setIfInBounds_toArray, List.set_cons_zero, List.set_cons_succ])
          refine wpAnyH_ready (rs := [7]) (by kernel_rfl) (by simp) ?_
          refine AllReadyH.cons rfl (fun K hK => ?_) AllReadyH.nil
          go_simp
          refine hK.out _ _ ?_ (fun hHeld => ?_)
          · ((try dsimp only); (first | (go_split_ands; (try dsimp only); refine ⟨?_, ?_, ?_, ?_, ?_, ?_⟩ <;> (first | (with_reducible assumption) | (with_reducible exact keep_cell (by assumption) (by first | omega | (simp; done) | (simp; omega)) (by assumption)) | (with_reducible exact (World.cell?_alloc_past _ _ _ (by show _ < _; omega)).trans (by assumption)) | (with_reducible exact (World.cell?_alloc_past _ _ _ (by show _ < _; omega)).trans ((World.cell?_alloc_past _ _ _ (by show _ < _; omega)).symm.trans (by assumption))) | (simp [go_sem]; with_reducible assumption))) | (simp [go_sem, ↓IntWalk.iteOmega, *]; done)))
          clear hK K
          (try simp only [Act.put, List.setIfInBounds_toArray, List.set_cons_zero, List.set_cons_succ])
          refine wpAnyH_ready (rs := [13]) (by kernel_rfl) (by simp) ?_
          refine AllReadyH.cons rfl (fun K hK => ?_) AllReadyH.nil
          (go_simp; go_at_call 12; (with_reducible refine (added_ok _ _ _ _ _ _ _ _ _ KA.out KB.out KS.out).mono ?_); rintro e w8 ⟨rfl, hb8⟩; have y0 := (hb8.frozen (p := ⟨o, k * 4, none⟩) (by first | omega | (simp; done) | (simp; omega))).trans f0; have y1 := (hb8.frozen (p := ⟨o, k * 4 + 1, none⟩) (by first | omega | (simp; done) | (simp; omega))).trans f1; have y2 := (hb8.frozen (p := ⟨o, k * 4 + 2, none⟩) (by first | omega | (simp; done) | (simp; omega))).trans f2; have y3 := (hb8.frozen (p := ⟨o, k * 4 + 3, none⟩) (by first | omega | (simp; done) | (simp; omega))).trans f3; have v0 := keep_cell hb8 (by first | omega | (simp; done) | (simp; omega)) a0; have v1 := keep_cell hb8 (by first | omega | (simp; done) | (simp; omega)) a1; have v2 := keep_cell hb8 (by first | omega | (simp; done) | (simp; omega)) a2; have v3 := keep_cell hb8 (by first | omega | (simp; done) | (simp; omega)) a3; have u2 := keep_cell hb8 (by first | omega | (simp; done) | (simp; omega)) F2)
          refine hK.out _ _ ?_ (fun hHeld => ?_)
          · ((try dsimp only); (first | (go_split_ands; (try dsimp only); refine ⟨?_, ?_, ?_, ?_, ?_, ?_⟩ <;> (first | (with_reducible assumption) | (with_reducible exact keep_cell (by assumption) (by first | omega | (simp; done) | (simp; omega)) (by assumption)) | (with_reducible exact (World.cell?_alloc_past _ _ _ (by show _ < _; omega)).trans (by assumption)) | (with_reducible exact (World.cell?_alloc_past _ _ _ (by show _ < _; omega)).trans ((World.cell?_alloc_past _ _ _ (by show _ < _; omega)).symm.trans (by assumption))) | (simp [go_sem]; with_reducible assumption))) | (simp [go_sem, ↓IntWalk.iteOmega, *]; done)))
          clear hK K
          (try simp only [Act.put, List.setIfInBounds_toArray, List.set_cons_zero, List.set_cons_succ])
          refine wpAnyH_take (i := 14) (v := ?_) rfl (by kernel_rfl) (by kernel_rfl) (by kernel_rfl) (fun _ _ _ h => h) (Or.inl ⟨by rfl, ?_⟩) (by assumption) ?_
          rotate_left
          · (intro w hSw; (try dsimp only at hSw); go_simp; (try with_reducible rfl))
          (try simp only [Act.put, List.setIfInBounds_toArray, List.set_cons_zero, List.set_cons_succ])
          refine wpAnyH_take (i := 15) (v := ?_) rfl (by kernel_rfl) (by kernel_rfl) (by kernel_rfl) (fun _ _ _ h => h) (Or.inl ⟨by rfl, ?_⟩) (by assumption) ?_
          rotate_left
          · (intro w hSw; (try dsimp only at hSw); go_simp; (try with_reducible rfl))
          (try simp only [Act.put, List.setIfInBounds_toArray, List.set_cons_zero, List.set_cons_succ])
          refine wpAnyH_take (i := 16) (v := ?_) rfl (by kernel_rfl) (by kernel_rfl) (by kernel_rfl) (fun _ _ _ h => h) (Or.inl ⟨by rfl, ?_⟩) (by assumption) ?_
          rotate_left
          · (intro w hSw; (try dsimp only at hSw); go_simp; (try with_reducible rfl))
          (try simp only [Act.put, List.setIfInBounds_toArray, List.set_cons_zero, List.set_cons_succ])
          refine wpAnyH_take (i := 17) (v := ?_) rfl (by kernel_rfl) (by kernel_rfl) (by kernel_rfl) (fun _ _ _ h => h) (Or.inl ⟨by rfl, ?_⟩) (by assumption) ?_
          rotate_left
          · (intro w hSw; (try dsimp only at hSw); go_simp; (try with_reducible rfl))
          (try simp only [Act.put, List.setIfInBounds_toArray, List.set_cons_zero, List.set_cons_succ])
          refine wpAnyH_ready (rs := [18]) (by kernel_rfl) (by simp) ?_
          refine AllReadyH.cons rfl (fun K hK => ?_) AllReadyH.nil
          go_simp
          refine hK.out _ _ ?_ (fun hHeld => ?_)
          · ((try dsimp only); (first | (go_split_ands; (try dsimp only); refine ⟨?_, ?_, ?_, ?_, ?_, ?_⟩ <;> (first | (with_reducible assumption) | (with_reducible exact keep_cell (by assumption) (by first | omega | (simp; done) | (simp; omega)) (by assumption)) | (with_reducible exact (World.cell?_alloc_past _ _ _ (by show _ < _; omega)).trans (by assumption)) | (with_reducible exact (World.cell?_alloc_past _ _ _ (by show _ < _; omega)).trans ((World.cell?_alloc_past _ _ _ (by show _ < _; omega)).symm.trans (by assumption))) | (simp [go_sem]; with_reducible assumption))) | (simp [go_sem, ↓IntWalk.iteOmega, *]; done)))
          clear hK K
          (try simp only [Act.put, List.setIfInBounds_toArray, List.set_cons_zero, List.set_cons_succ])
          refine wpAnyH_done (by kernel_rfl) ?_ _
          refine NoPanic.normal ?_
          have hXX := Lib.hid (show Below wr.heap.size wr w8 from by (repeat' (first | (with_reducible exact Below.refl _ _) | (with_reducible refine Below.setCell ?_ (by first | omega | (simp; done) | (simp; omega)) _) | (with_reducible refine Below.alloc ?_ (by first | omega | (simp; done) | (simp; omega)) _) | (with_reducible refine Below.drew ?_) | (with_reducible refine below_drewN ?_ _) | (with_reducible refine Below.trans ?_ (Below.mono (by assumption) (by first | omega | (simp; done) | (simp; omega)))))))
          clear y0 y1 y2 y3 v0 v1 v2 v3 u2 hb8 a0 a1 a2 a3 f0 f1 f2 f3 e0 e1 e2 e3
          go_wp2
          go_roundw
          case rel => exact ⟨4, by omega, by go_num, Lib.hid (ST.out _ hXX.out)⟩
          case measure => simp [intOf]
        · go_wp2
          go_roundw
          case rel => exact ⟨k + 1, by omega, by go_num, Lib.hid ⟨(HX.out.trans (Ex.of_below B7.out)).trans (HXL.out.mono (fun z hz => by omega)), HRK.out.eqG (KC_next W n G k)⟩⟩
          case measure => simp [intOf]; omega
    · obtain rfl : k = n := by omega
      obtain ⟨c0, c1, c2⟩ := And.intro TO.out.c0 (And.intro TO.out.c1 TO.out.c2)
      have t2 := T2.out.ex HX.out (by omega)
      obtain ⟨r0, r1, r2⟩ := And.intro t2.c0 (And.intro t2.c1 t2.c2)
      have u0 := t2.free 0
      have u1 := t2.free 1
      have u2 := t2.free 2
      clear t2
      go_wp2
      refine bodyPost_ret (v := .tuple #[.agg #[.int .i64 W, .int .i64 H, .slice (some ⟨o, 0, none⟩) k co], .int .i64 0]) (by simp [results, Try.results47, go_sem, ↓IntWalk.iteOmega, *]) rfl ?_
      exact made_pass (HR.out.eqG (KC_all W k G)).cellsIn BO.out (by omega) (by omega)
end Go.Proofs.Ytpnfppcmklcinaa
