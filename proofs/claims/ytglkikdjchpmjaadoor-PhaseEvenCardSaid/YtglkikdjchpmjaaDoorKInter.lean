/- The interface of two phases: by the program. -/
import Derived.Test.YtglkikdjchpmjaaDoorKMixF
import Derived.Test.YtglkikdjchpmjaaDoorKEvenM
import Derived.Test.YtglkikdjchpmjaaDoorKColl
import Derived.Test.YtglkikdjchpmjaaDoorKZer
import Derived.Test.YtglkikdjchpmjaaDoorKCloneC
import Derived.Deep.RegionHeld3
import Derived.BigQuiet
namespace Go.Proofs.YtglkikdjchpmjaaDoor
set_option linter.unusedSimpArgs false
set_option linter.unusedVariables false
open Go.RowKit

/-- The kind of a cell: of A (1), of B (2), of none (0). -/
def cmG (G : Nat → Nat → Int) (i : Nat) : Int := G i 0 + G i 1 + G i 2 + G i 3
def kdG (A B : Nat → Nat → Int) (i : Nat) : Int := if cmG B i < cmG A i then 1 else if cmG A i < cmG B i then 2 else 0
theorem kdG_rng (A B : Nat → Nat → Int) (i : Nat) : 0 ≤ kdG A B i ∧ kdG A B i ≤ 2 := by
  unfold kdG
  split
  · omega
  · split <;> omega

set_option maxRecDepth 100000 in
set_option maxHeartbeats 4000000 in
theorem kindAt_in (W H : Int) (n c m d b ob b2 o2 i : Nat) (A B : Nat → Nat → Int) (w : World) (hi : i < n) (hi2 : i < m) (hn : n ≤ 1024) (hA : OkG n A) (hB : OkG m B) (lb : b < w.heap.size) (hC : Grd w b ob n A) (lb2 : b2 < w.heap.size) (hD : Grd w b2 o2 m B) :
    Calls Tryd.prog 91 #[.agg #[.int .i64 W, .int .i64 H, .slice (some ⟨b, ob, none⟩) n c, .slice (some ⟨b2, o2, none⟩) m d], .int .i64 i] w fun e w' => e = .returned (.int .i64 (kdG A B i)) ∧ Below w.heap.size w w' := by
  have O1 := Lib.hid (hA.1 i hi)
  have O2 := Lib.hid (hB.1 i hi2)
  have HC := Lib.hid hC
  have HD := Lib.hid hD
  have p0 : (0 : Int) ≤ (i : Int) := by omega
  have p1 : (i : Int) < (n : Int) := by omega
  have p2 : (i : Int) < (m : Int) := by omega
  have hk : kdG A B i = if (B i 0 + B i 1 + B i 2 + B i 3) < (A i 0 + A i 1 + A i 2 + A i 3) then 1 else if (A i 0 + A i 1 + A i 2 + A i 3) < (B i 0 + B i 1 + B i 2 + B i 3) then 2 else 0 := rfl
  obtain ⟨x0, hx0⟩ : ∃ x, x = A i 0 := ⟨_, rfl⟩
  obtain ⟨x1, hx1⟩ : ∃ x, x = A i 1 := ⟨_, rfl⟩
  obtain ⟨x2, hx2⟩ : ∃ x, x = A i 2 := ⟨_, rfl⟩
  obtain ⟨x3, hx3⟩ : ∃ x, x = A i 3 := ⟨_, rfl⟩
  obtain ⟨y0, hy0⟩ : ∃ x, x = B i 0 := ⟨_, rfl⟩
  obtain ⟨y1, hy1⟩ : ∃ x, x = B i 1 := ⟨_, rfl⟩
  obtain ⟨y2, hy2⟩ : ∃ x, x = B i 2 := ⟨_, rfl⟩
  obtain ⟨y3, hy3⟩ : ∃ x, x = B i 3 := ⟨_, rfl⟩
  obtain ⟨a0, a1, a2, a3⟩ := hC.get (Below.refl _ _) lb hi
  obtain ⟨c0, c1, c2, c3⟩ := hD.get (Below.refl _ _) lb2 hi2
  rw [← hx0, ← hx1, ← hx2, ← hx3] at O1 hk
  rw [← hy0, ← hy1, ← hy2, ← hy3] at O2 hk
  rw [← hx0] at a0
  rw [← hx1] at a1
  rw [← hx2] at a2
  rw [← hx3] at a3
  rw [← hy0] at c0
  rw [← hy1] at c1
  rw [← hy2] at c2
  rw [← hy3] at c3
  have M1 := Lib.hid (fun wx => mass_ok x0 x1 x2 x3 wx O1.out)
  have M2 := Lib.hid (fun wx => mass_ok y0 y1 y2 y3 wx O2.out)
  obtain ⟨sx, hsx⟩ : ∃ s, s = x0 + x1 + x2 + x3 := ⟨_, rfl⟩
  obtain ⟨sy, hsy⟩ : ∃ s, s = y0 + y1 + y2 + y3 := ⟨_, rfl⟩
  rw [← hsx] at M1 hk
  rw [← hsy] at M2 hk
  rw [hk]
  clear hk hx0 hx1 hx2 hx3 hy0 hy1 hy2 hy3 hsx hsy hA hB hC hD
  rcases Int.lt_trichotomy sx sy with h | h | h
  · rw [if_neg (by omega), if_pos h]
    go_enter Tryd.func91, Tryd.ntmps91
    go_wp2_with (first | (go_at_call 116; (with_reducible refine (M1.out _).mono ?_); rintro e w1 ⟨rfl, hb⟩; obtain ⟨hc, hf, hz⟩ := bcall hb; (try simp at hc hf hz)) | (go_at_call 116; (with_reducible refine (M2.out _).mono ?_); rintro e w1 ⟨rfl, hb⟩; obtain ⟨hc, hf, hz⟩ := bcall hb; (try simp at hc hf hz)))
    go_ret
    refine ⟨rfl, ?_⟩
    (repeat' (first | (with_reducible exact Below.refl _ _) | (with_reducible refine Below.setCell ?_ (by first | omega | (simp; done) | (simp; omega)) _) | (with_reducible refine Below.alloc ?_ (by first | omega | (simp; done) | (simp; omega)) _) | (with_reducible refine Below.drew ?_) | (with_reducible refine below_drewN ?_ _) | (with_reducible refine Below.trans ?_ (Below.mono (by assumption) (by first | omega | (simp; done) | (simp; omega))))))
  · subst h
    rw [if_neg (by omega), if_neg (by omega)]
    go_enter Tryd.func91, Tryd.ntmps91
    go_wp2_with (first | (go_at_call 116; (with_reducible refine (M1.out _).mono ?_); rintro e w1 ⟨rfl, hb⟩; obtain ⟨hc, hf, hz⟩ := bcall hb; (try simp at hc hf hz)) | (go_at_call 116; (with_reducible refine (M2.out _).mono ?_); rintro e w1 ⟨rfl, hb⟩; obtain ⟨hc, hf, hz⟩ := bcall hb; (try simp at hc hf hz)))
    go_ret
    refine ⟨rfl, ?_⟩
    (repeat' (first | (with_reducible exact Below.refl _ _) | (with_reducible refine Below.setCell ?_ (by first | omega | (simp; done) | (simp; omega)) _) | (with_reducible refine Below.alloc ?_ (by first | omega | (simp; done) | (simp; omega)) _) | (with_reducible refine Below.drew ?_) | (with_reducible refine below_drewN ?_ _) | (with_reducible refine Below.trans ?_ (Below.mono (by assumption) (by first | omega | (simp; done) | (simp; omega))))))
  · rw [if_pos h]
    go_enter Tryd.func91, Tryd.ntmps91
    go_wp2_with (first | (go_at_call 116; (with_reducible refine (M1.out _).mono ?_); rintro e w1 ⟨rfl, hb⟩; obtain ⟨hc, hf, hz⟩ := bcall hb; (try simp at hc hf hz)) | (go_at_call 116; (with_reducible refine (M2.out _).mono ?_); rintro e w1 ⟨rfl, hb⟩; obtain ⟨hc, hf, hz⟩ := bcall hb; (try simp at hc hf hz)))
    go_ret
    refine ⟨rfl, ?_⟩
    (repeat' (first | (with_reducible exact Below.refl _ _) | (with_reducible refine Below.setCell ?_ (by first | omega | (simp; done) | (simp; omega)) _) | (with_reducible refine Below.alloc ?_ (by first | omega | (simp; done) | (simp; omega)) _) | (with_reducible refine Below.drew ?_) | (with_reducible refine below_drewN ?_ _) | (with_reducible refine Below.trans ?_ (Below.mono (by assumption) (by first | omega | (simp; done) | (simp; omega))))))

set_option maxRecDepth 100000 in
set_option maxHeartbeats 4000000 in
theorem nbs1_in (W H : Nat) (x y : Int) (B : Nat) (w : World) (hW : 1 ≤ W) (hW1 : W ≤ 64) (hH : 1 ≤ H) (hH1 : H ≤ 64) (x0 : 0 ≤ x) (x1 : x ≤ 1000) (y0 : 0 ≤ y) (y1 : y ≤ 1000) (lB : B < w.heap.size)
    (c0 : w.cell? ⟨B, 0, none⟩ = some (.int .i64 W)) (c1 : w.cell? ⟨B, 1, none⟩ = some (.int .i64 H)) :
    Calls Tryd.prog 156 #[.int .i64 x, .int .i64 y, .pointer (some ⟨B, 0, none⟩)] w fun e w' => e = .returned (.int .i64 (x % (W : Int) + (W : Int) * (y % (H : Int)))) ∧ Below w.heap.size w w' := by
  have e0 : ((W : Int) == 0) = false := beq_eq_false_iff_ne.2 (by omega)
  have e1 : ((H : Int) == 0) = false := beq_eq_false_iff_ne.2 (by omega)
  have m0 := Int.emod_nonneg y (show (H : Int) ≠ 0 by omega)
  have m1 := Int.emod_lt_of_pos y (show (0 : Int) < H by omega)
  have k0 := Int.emod_nonneg x (show (W : Int) ≠ 0 by omega)
  have k1 := Int.emod_lt_of_pos x (show (0 : Int) < W by omega)
  have t0 : Int.tmod x W = x % W := Int.tmod_eq_emod_of_nonneg x0
  have t1 : Int.tmod y H = y % H := Int.tmod_eq_emod_of_nonneg y0
  have q0 : 0 ≤ (W : Int) * (y % H) := Int.mul_nonneg (by omega) m0
  have q1 : (W : Int) * (y % H) ≤ 64 * 64 := Int.mul_le_mul (by omega) (by omega) m0 (by omega)
  have s0 : IntKind.i64.wrap ((W : Int) * (y % H)) = W * (y % H) := IntWalk.i64_in _ ⟨by omega, by omega⟩
  have s1 : IntKind.i64.wrap (x % W + W * (y % H)) = x % W + W * (y % H) := IntWalk.i64_in _ ⟨by omega, by omega⟩
  have s2 : IntKind.i64.wrap (x % W) = x % W := IntWalk.i64_in _ ⟨by omega, by omega⟩
  have s3 : IntKind.i64.wrap (y % H) = y % H := IntWalk.i64_in _ ⟨by omega, by omega⟩
  clear m0 m1 k0 k1 q0 q1
  go_enter Tryd.func156, Tryd.ntmps156
  go_wp2
  go_quiet (fail)
  go_wp2
  go_ret
  refine ⟨rfl, ?_⟩
  (repeat' (first | (with_reducible exact Below.refl _ _) | (with_reducible refine Below.setCell ?_ (by first | omega | (simp; done) | (simp; omega)) _) | (with_reducible refine Below.alloc ?_ (by first | omega | (simp; done) | (simp; omega)) _) | (with_reducible refine Below.drew ?_) | (with_reducible refine below_drewN ?_ _) | (with_reducible refine Below.trans ?_ (Below.mono (by assumption) (by first | omega | (simp; done) | (simp; omega))))))

set_option maxRecDepth 100000 in
set_option maxHeartbeats 8000000 in
theorem nbs_in (W H n : Nat) (ao : Option Addr) (na c : Nat) (bo : Option Addr) (m d i : Nat) (w : World) (s : Sides W H n) (hi : i < n) :
    Calls Tryd.prog 90 #[.agg #[.int .i64 W, .int .i64 H, .slice (ao) na c, .slice (bo) m d], .int .i64 i] w fun e w' => ∃ u v : Int, e = .returned (.agg #[.int .i64 ((nb W H 1 i 0 : Nat)), .int .i64 ((nb W H 1 i 1 : Nat)), .int .i64 u, .int .i64 v]) ∧ Below w.heap.size w w' := by
  have hn := s.n0
  have hw0 := s.w0
  have hw1 := s.w1
  have hh0 := s.h0
  have hh1 := s.h1
  obtain ⟨x, hx⟩ : ∃ x, x = i % W := ⟨_, rfl⟩
  obtain ⟨y, hy⟩ : ∃ y, y = i / W := ⟨_, rfl⟩
  have hxl : x < W := by rw [hx]; exact Nat.mod_lt _ (by omega)
  have hyl : y < H := by
    rw [hy]
    rw [hn] at hi
    exact Nat.div_lt_of_lt_mul hi
  have tm : (i : Int).tmod (W : Int) = (x : Int) := by rw [Int.tmod_eq_emod_of_nonneg (by omega), hx]; rfl
  have td : (i : Int).tdiv (W : Int) = (y : Int) := by rw [Int.tdiv_eq_ediv_of_nonneg (by omega), hy]; rfl
  have e0 : ((W : Int) == 0) = false := beq_eq_false_iff_ne.2 (by omega)
  have e1 : (((nb W H 1 i 0 : Nat)) : Int) = ((x : Int) + 1) % (W : Int) + (W : Int) * ((y : Int) % (H : Int)) := by
    have a := Int.emod_nonneg ((x : Int) + 1) (show (W : Int) ≠ 0 by omega)
    have b := Int.mul_nonneg (show (0 : Int) ≤ W by omega) (Int.emod_nonneg (y : Int) (show (H : Int) ≠ 0 by omega))
    unfold nb
    rw [← hx, ← hy, show (x : Int) + 1 * dx 0 = x + 1 from by simp [dx], show (y : Int) + 1 * dy 0 = y from by simp [dy]]
    omega
  have e2 : (((nb W H 1 i 1 : Nat)) : Int) = (x : Int) % (W : Int) + (W : Int) * (((y : Int) + 1) % (H : Int)) := by
    have a := Int.emod_nonneg (x : Int) (show (W : Int) ≠ 0 by omega)
    have b := Int.mul_nonneg (show (0 : Int) ≤ W by omega) (Int.emod_nonneg ((y : Int) + 1) (show (H : Int) ≠ 0 by omega))
    unfold nb
    rw [← hx, ← hy, show (x : Int) + 1 * dx 1 = x from by simp [dx], show (y : Int) + 1 * dy 1 = y + 1 from by simp [dy]]
    omega
  rw [e1, e2]
  have NB := Lib.hid (fun (u v : Int) (wx : World) (hb : Below (w.heap.size + 1) (w.alloc (.cells #[.int .i64 W, .int .i64 H, .slice ao na c, .slice bo m d] 50)) wx) (u0 : 0 ≤ u) (u1 : u ≤ 1000) (v0 : 0 ≤ v) (v1 : v ≤ 1000) =>
    nbs1_in W H u v w.heap.size wx hw0 hw1 hh0 hh1 u0 u1 v0 v1 (by have := hb.size; simp at this; omega)
      ((hb.cell (p := ⟨w.heap.size, 0, none⟩) (by simp)).trans (World.cell?_alloc_at _ _ _ _ rfl)) ((hb.cell (p := ⟨w.heap.size, 1, none⟩) (by simp)).trans (World.cell?_alloc_at _ _ _ _ rfl)))
  have s1 : IntKind.i64.wrap ((x : Int) + 1) = x + 1 := IntWalk.i64_in _ ⟨by omega, by omega⟩
  have s2 : IntKind.i64.wrap ((y : Int) + 1) = y + 1 := IntWalk.i64_in _ ⟨by omega, by omega⟩
  have s3 : IntKind.i64.wrap ((x : Int) + W) = x + W := IntWalk.i64_in _ ⟨by omega, by omega⟩
  have s4 : IntKind.i64.wrap ((x : Int) + W - 1) = x + W - 1 := IntWalk.i64_in _ ⟨by omega, by omega⟩
  have s5 : IntKind.i64.wrap ((y : Int) + H) = y + H := IntWalk.i64_in _ ⟨by omega, by omega⟩
  have s6 : IntKind.i64.wrap ((y : Int) + H - 1) = y + H - 1 := IntWalk.i64_in _ ⟨by omega, by omega⟩
  clear hx hy e1 e2 s hn
  go_enter Tryd.func90, Tryd.ntmps90
  go_wp2
  go_quiet (fail)
  go_wp2
  go_region_held3 (fun w' => w'.cell? ⟨w.heap.size, 0, none⟩ = some (.int .i64 W) ∧ w'.cell? ⟨w.heap.size, 1, none⟩ = some (.int .i64 H)) (first | (go_split_ands; (try dsimp only); refine ⟨?_, ?_⟩ <;> (first | (with_reducible assumption) | (with_reducible exact keep_cell (by assumption) (by first | omega | (simp; done) | (simp; omega)) (by assumption)) | (with_reducible exact (World.cell?_alloc_past _ _ _ (by show _ < _; omega)).trans (by assumption)) | (with_reducible exact (World.cell?_alloc_past _ _ _ (by show _ < _; omega)).trans ((World.cell?_alloc_past _ _ _ (by show _ < _; omega)).symm.trans (by assumption))) | (simp [go_sem]; with_reducible assumption))) | (simp [go_sem, ↓IntWalk.iteOmega, *]; done)) ((go_at_call 156; (with_reducible refine (NB.out _ _ _ (by (repeat' (first | (with_reducible exact Below.refl _ _) | (with_reducible refine Below.setCell ?_ (by first | omega | (simp; done) | (simp; omega)) _) | (with_reducible refine Below.alloc ?_ (by first | omega | (simp; done) | (simp; omega)) _) | (with_reducible refine Below.drew ?_) | (with_reducible refine below_drewN ?_ _) | (with_reducible refine Below.trans ?_ (Below.mono (by assumption) (by first | omega | (simp; done) | (simp; omega))))))) (by omega) (by omega) (by omega) (by omega)).mono ?_); rintro e w1 ⟨rfl, hb⟩; obtain ⟨hc, hf, hz⟩ := bcall hb; (try simp at hc hf hz)))
  all_goals
    go_wp2
    refine bodyPost_ret (v := .agg #[.int .i64 (((x : Int) + 1) % (W : Int) + (W : Int) * ((y : Int) % (H : Int))), .int .i64 ((x : Int) % (W : Int) + (W : Int) * (((y : Int) + 1) % (H : Int))), .int .i64 (((x : Int) + W - 1) % (W : Int) + (W : Int) * ((y : Int) % (H : Int))), .int .i64 ((x : Int) % (W : Int) + (W : Int) * (((y : Int) + H - 1) % (H : Int)))]) (by simp [results, Tryd.results90, go_sem, ↓IntWalk.iteOmega, *]) rfl ?_
    refine ⟨_, _, rfl, ?_⟩
    (repeat' (first | (with_reducible exact Below.refl _ _) | (with_reducible refine Below.setCell ?_ (by first | omega | (simp; done) | (simp; omega)) _) | (with_reducible refine Below.alloc ?_ (by first | omega | (simp; done) | (simp; omega)) _) | (with_reducible refine Below.drew ?_) | (with_reducible refine below_drewN ?_ _) | (with_reducible refine Below.trans ?_ (Below.mono (by assumption) (by first | omega | (simp; done) | (simp; omega))))))
end Go.Proofs.YtglkikdjchpmjaaDoor
