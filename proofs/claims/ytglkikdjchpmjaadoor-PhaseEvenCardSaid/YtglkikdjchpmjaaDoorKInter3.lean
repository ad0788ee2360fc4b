/- The interface of two phases: Interface, by the program. -/
import Derived.Test.YtglkikdjchpmjaaDoorKInter2
import Derived.BigQuiet
namespace Go.Proofs.YtglkikdjchpmjaaDoor
set_option linter.unusedSimpArgs false
set_option linter.unusedVariables false
open Go.RowKit

theorem prK_zero {a b : Int} (h : a = 0 ∨ b = 0 ∨ a = b) : prK a b = 0 := by
  unfold prK
  rw [if_neg]
  omega
theorem index20 (a b : Value) (w : World) : (Instr.index 32 (.agg #[a, b]) (.int .i64 0)).run Tryd.prog w = .ok a w := by kernel_rfl
theorem index21 (a b : Value) (w : World) : (Instr.index 32 (.agg #[a, b]) (.int .i64 1)).run Tryd.prog w = .ok b w := by kernel_rfl
theorem prK_one {a b : Int} (h : a ≠ 0) (h2 : b ≠ 0) (h3 : a ≠ b) : prK a b = 1 := by
  unfold prK
  rw [if_pos ⟨h, h2, h3⟩]

set_option maxRecDepth 100000 in
set_option maxHeartbeats 16000000 in
theorem inter_in (W H n c d b ob b2 o2 : Nat) (A B : Nat → Nat → Int) (w : World) (s : Sides W H n) (hv : VM W H n A n B) (lb : b < w.heap.size) (hC : Grd w b ob n A) (lb2 : b2 < w.heap.size) (hD : Grd w b2 o2 n B) :
    Calls Tryd.prog 29 #[.agg #[.int .i64 W, .int .i64 H, .slice (some ⟨b, ob, none⟩) n c, .slice (some ⟨b2, o2, none⟩) n d]] w fun e w' => e = .returned (.tuple #[.int .i64 (sm n (prI W H (kdG A B))), .int .i64 0]) ∧ Below w.heap.size w w' := by
  have hn1 := s.n1
  have h1 : 1 ≤ n := by rw [s.n0]; exact Nat.mul_le_mul s.w0 s.h0
  have VV := Lib.hid (fun wx (hb : Below w.heap.size w wx) => mValid_ok W H (some ⟨b, ob, none⟩) n c A (some ⟨b2, o2, none⟩) n d B wx hv (.inr ⟨b, ob, rfl, Nat.lt_of_lt_of_le lb hb.size, hC.below hb lb⟩) (.inr ⟨b2, o2, rfl, Nat.lt_of_lt_of_le lb2 hb.size, hD.below hb lb2⟩))
  have KD := Lib.hid (fun wx (hb : Below w.heap.size w wx) => kinds_in W H n c d b ob b2 o2 A B wx h1 hn1 hv.1.1.2.2 hv.1.2.2.2 (Nat.lt_of_lt_of_le lb hb.size) (hC.below hb lb) (Nat.lt_of_lt_of_le lb2 hb.size) (hD.below hb lb2))
  have NB := Lib.hid (fun i (hi : i < n) wx => nbs_in W H n (some ⟨b, ob, none⟩) n c (some ⟨b2, o2, none⟩) n d i wx s hi)
  obtain ⟨KK, hKK⟩ : ∃ KK, KK = kdG A B := ⟨_, rfl⟩
  have hrng : ∀ i, 0 ≤ KK i ∧ KK i ≤ 2 := fun i => by rw [hKK]; exact kdG_rng A B i
  rw [← hKK] at KD ⊢
  have HS := Lib.hid s
  have HR := Lib.hid hrng
  clear hv hC hD hKK s hrng h1
  go_enter Tryd.func29, Tryd.ntmps29
  go_wp2_with (go_at_call 88; (with_reducible refine (VV.out _ (by (repeat' (first | (with_reducible exact Below.refl _ _) | (with_reducible refine Below.setCell ?_ (by first | omega | (simp; done) | (simp; omega)) _) | (with_reducible refine Below.alloc ?_ (by first | omega | (simp; done) | (simp; omega)) _) | (with_reducible refine Below.drew ?_) | (with_reducible refine below_drewN ?_ _) | (with_reducible refine Below.trans ?_ (Below.mono (by assumption) (by first | omega | (simp; done) | (simp; omega)))))))).mono ?_); rintro e w1 ⟨rfl, hb⟩; obtain ⟨hc, hf, hz⟩ := bcall hb; (try simp at hc hf hz))
  have hbv := Lib.hid (show Below w.heap.size w w1 from by (repeat' (first | (with_reducible exact Below.refl _ _) | (with_reducible refine Below.setCell ?_ (by first | omega | (simp; done) | (simp; omega)) _) | (with_reducible refine Below.alloc ?_ (by first | omega | (simp; done) | (simp; omega)) _) | (with_reducible refine Below.drew ?_) | (with_reducible refine below_drewN ?_ _) | (with_reducible refine Below.trans ?_ (Below.mono (by assumption) (by first | omega | (simp; done) | (simp; omega)))))))
  obtain ⟨m0, m1, m2, m3⟩ := mix_cells w 50 (.int .i64 W) (.int .i64 H) (.slice (some ⟨b, ob, none⟩) n c) (.slice (some ⟨b2, o2, none⟩) n d)
  have x0 : w1.cell? ⟨w.heap.size, 0, none⟩ = some (.int .i64 W) := keep_cell hb (by simp) m0
  have x1 : w1.cell? ⟨w.heap.size, 1, none⟩ = some (.int .i64 H) := keep_cell hb (by simp) m1
  have x2 : w1.cell? ⟨w.heap.size, 2, none⟩ = some (.slice (some ⟨b, ob, none⟩) n c) := keep_cell hb (by simp) m2
  have x3 : w1.cell? ⟨w.heap.size, 3, none⟩ = some (.slice (some ⟨b2, o2, none⟩) n d) := keep_cell hb (by simp) m3
  have lw1 : w.heap.size < w1.heap.size := by have := hb.size; simp at this; omega
  clear hc hf hz hb m0 m1 m2 m3
  go_at_call 89
  refine (KD.out w1 hbv.out).mono ?_
  rintro e w2 ⟨g, rfl, hg, hb2⟩
  have HG := Lib.hid hg.out.1
  have lg := hg.out.2
  have X0 := Lib.hid (keep_cell hb2 lw1 x0)
  have X1 := Lib.hid (keep_cell hb2 lw1 x1)
  have X2 := Lib.hid (keep_cell hb2 lw1 x2)
  have X3 := Lib.hid (keep_cell hb2 lw1 x3)
  have HB2 := Lib.hid (hbv.out.trans (hb2.mono hbv.out.size))
  have lw2 : w.heap.size < w2.heap.size := Nat.lt_of_lt_of_le lw1 hb2.size
  clear hg hb2 x0 x1 x2 x3 KD VV hbv lw1
  go_wp2_with fail
  go_loopw [18, 5] (fun i p wr => ∃ k : Nat, k ≤ n ∧ i = .int .i64 k ∧ p = .int .i64 (sm k (prI W H KK)) ∧ Hid (Below w2.heap.size w2 wr)) (fun i _ _ => n - (intOf i).toNat)
  case atStart => exact ⟨0, Nat.zero_le _, rfl, rfl, Lib.hid (Below.refl _ _)⟩
  case round =>
    obtain ⟨k, hk, rfl, rfl, HH⟩ := hrel
    by_cases hlk : k < n
    · have hBr := HH.out
      have e0 := keep_cell hBr lw2 X0.out
      have e1 := keep_cell hBr lw2 X1.out
      have e2 := keep_cell hBr lw2 X2.out
      have e3 := keep_cell hBr lw2 X3.out
      have lwr : w.heap.size < wr.heap.size := Nat.lt_of_lt_of_le lw2 hBr.size
      have lgr : g < wr.heap.size := Nat.lt_of_lt_of_le lg hBr.size
      have v0 := (hBr.cell (p := ⟨g, 0 + k, none⟩) lg).trans (HG.out k hlk)
      rw [Nat.zero_add] at v0
      have p0 : (0 : Int) ≤ (k : Int) := by omega
      have p1 : (k : Int) < (n : Int) := by omega
      have NBk := Lib.hid (fun wx => NB.out k hlk wx)
      obtain ⟨t, ht⟩ : ∃ t, t = nb W H 1 k 0 := ⟨_, rfl⟩
      obtain ⟨u, hu⟩ : ∃ u, u = nb W H 1 k 1 := ⟨_, rfl⟩
      have htn : t < n := by rw [ht]; exact nb_lt HS.out.n0 hlk 0
      have hun : u < n := by rw [hu]; exact nb_lt HS.out.n0 hlk 1
      rw [← ht, ← hu] at NBk
      have v1 := (hBr.cell (p := ⟨g, 0 + t, none⟩) lg).trans (HG.out t htn)
      have v2 := (hBr.cell (p := ⟨g, 0 + u, none⟩) lg).trans (HG.out u hun)
      rw [Nat.zero_add] at v1 v2
      have hpr : prI W H KK k = prK (KK k) (KK t) + prK (KK k) (KK u) := by unfold prI; rw [ht, hu]
      have hbp := pairs_rng W H KK k
      have r0 := HR.out k
      have r1 := HR.out t
      have r2 := HR.out u
      have q0 : (0 : Int) ≤ (t : Int) := by omega
      have q1 : (t : Int) < (n : Int) := by omega
      have q2 : (0 : Int) ≤ (u : Int) := by omega
      have q3 : (u : Int) < (n : Int) := by omega
      obtain ⟨P, hP⟩ : ∃ P, P = sm k (prI W H KK) := ⟨_, rfl⟩
      have hsm : sm (k + 1) (prI W H KK) = P + (prK (KK k) (KK t) + prK (KK k) (KK u)) := by rw [hP, ← hpr]; rfl
      have HSM := Lib.hid hsm
      rw [← hP] at hbp ⊢
      obtain ⟨a, ha⟩ : ∃ a, a = KK k := ⟨_, rfl⟩
      obtain ⟨f, hf'⟩ : ∃ f, f = KK t := ⟨_, rfl⟩
      obtain ⟨h, hh'⟩ : ∃ h, h = KK u := ⟨_, rfl⟩
      rw [← ha] at HSM r0 v0
      rw [← hf'] at HSM r1 v1
      rw [← hh'] at HSM r2 v2
      have HBR := Lib.hid hBr
      clear ht hu hpr hP hsm ha hf' hh' hBr
      go_wp2_with fail
      go_at_call 90
      refine (NBk.out wr).mono ?_
      rintro e w4 ⟨y2, y3, rfl, hb4⟩
      have HB4 := Lib.hid hb4
      have lw4 := hb4.size
      have z1 := keep_cell hb4 lgr v1
      have z2 := keep_cell hb4 lgr v2
      clear e0 e1 e2 e3 v0 v1 v2 hb4
      go_wp2
      obtain ⟨n0, n1, _, _⟩ := mix_cells w4 76 (.int .i64 t) (.int .i64 u) (.int .i64 y2) (.int .i64 y3)
      have hX : Below w4.heap.size w4 (w4.alloc (.cells #[.int .i64 t, .int .i64 u, .int .i64 y2, .int .i64 y3] 76)) := (Below.refl _ _).alloc (Nat.le_refl _) _
      have z3 := keep_cell hX (by omega) z1
      have z4 := keep_cell hX (by omega) z2
      obtain ⟨X, hXe⟩ : ∃ X, X = w4.alloc (.cells #[.int .i64 t, .int .i64 u, .int .i64 y2, .int .i64 y3] 76) := ⟨_, rfl⟩
      have lX : w4.heap.size < X.heap.size := by rw [hXe]; simp
      rw [← hXe] at n0 n1 hX z3 z4 ⊢
      have HX := Lib.hid (HB4.out.trans (hX.mono HB4.out.size))
      clear hXe z1 z2 hX
      go_quiet (fail)
      have HXN := Lib.hid (below_drewN HX.out nq)
      obtain ⟨Y, hY⟩ : ∃ Y, Y = X.drewN nq := ⟨_, rfl⟩
      rw [← hY] at HXN ⊢
      clear n0 n1 z3 z4 hY lX
      have b1 := prK_rng a f
      have IX0 := fun wx => index20 (.int .i64 f) (.int .i64 h) wx
      have IX1 := fun wx => index21 (.int .i64 f) (.int .i64 h) wx
      obtain ⟨p1, hp1⟩ : ∃ p1, p1 = prK a f := ⟨_, rfl⟩
      rw [← hp1] at b1
      go_wp2
      go_loopw [37, 5] (fun i p wr' => ∃ j : Nat, j ≤ 2 ∧ i = .int .i64 j ∧ p = .int .i64 (P + (if j = 0 then 0 else if j = 1 then prK a f else prK a f + prK a h)) ∧ wr' = Y) (fun i _ _ => 2 - (intOf i).toNat)
      case atStart => exact ⟨0, by omega, rfl, by simp, rfl⟩
      case round =>
        obtain ⟨j, hj, rfl, rfl, rfl⟩ := hrel
        rcases (show j = 0 ∨ j = 1 ∨ j = 2 by omega) with rfl | rfl | rfl
        · rcases (show a = 0 ∨ (a ≠ 0 ∧ f = 0) ∨ (a ≠ 0 ∧ f ≠ 0 ∧ a = f) ∨ (a ≠ 0 ∧ f ≠ 0 ∧ a ≠ f) by omega) with hc | ⟨hc, hd⟩ | ⟨hc, hd, he⟩ | ⟨hc, hd, he⟩
          · have e1 := prK_zero (a := a) (b := f) (.inl hc)
            have REL : P + (if (1 : Nat) = 0 then (0 : Int) else if (1 : Nat) = 1 then prK a f else prK a f + prK a h) = P := by simp [e1]
            have REL := Lib.hid REL
            subst hc
            simp only [↓reduceIte, Int.add_zero, show ((0 : Nat) : Int) = 0 from rfl]
            clear e1 hp1
            go_wp2
            go_roundw
            case rel =>
              refine ⟨1, by omega, by go_num, congrArg (Value.int IntKind.i64) ?_, trivial⟩
              rw [REL.out]
            case measure => simp [intOf]
          · have e1 := prK_zero (a := a) (b := f) (.inr (.inl hd))
            have g1 : (a == 0) = false := beq_eq_false_iff_ne.2 hc
            have g2 : (a != 0) = true := by simp [bne, g1]
            have REL : P + (if (1 : Nat) = 0 then (0 : Int) else if (1 : Nat) = 1 then prK a f else prK a f + prK a h) = P := by simp [e1]
            have REL := Lib.hid REL
            subst hd
            simp only [↓reduceIte, Int.add_zero, show ((0 : Nat) : Int) = 0 from rfl]
            clear e1 hp1 hc
            go_wp2
            go_roundw
            case rel =>
              refine ⟨1, by omega, by go_num, congrArg (Value.int IntKind.i64) ?_, trivial⟩
              rw [REL.out]
            case measure => simp [intOf]
          · have e1 := prK_zero (a := a) (b := f) (.inr (.inr he))
            have g1 : (a == 0) = false := beq_eq_false_iff_ne.2 hc
            have g2 : (a != 0) = true := by simp [bne, g1]
            have REL : P + (if (1 : Nat) = 0 then (0 : Int) else if (1 : Nat) = 1 then prK a f else prK a f + prK a h) = P := by simp [e1]
            have REL := Lib.hid REL
            subst he
            simp only [↓reduceIte, Int.add_zero, show ((0 : Nat) : Int) = 0 from rfl]
            clear e1 hp1 hc hd
            go_wp2
            go_roundw
            case rel =>
              refine ⟨1, by omega, by go_num, congrArg (Value.int IntKind.i64) ?_, trivial⟩
              rw [REL.out]
            case measure => simp [intOf]
          · have e1 := prK_one hc hd he
            have g1 : (a == 0) = false := beq_eq_false_iff_ne.2 hc
            have g2 : (a != 0) = true := by simp [bne, g1]
            have g3 : (f == 0) = false := beq_eq_false_iff_ne.2 hd
            have g4 : (f != 0) = true := by simp [bne, g3]
            have g5 : (a == f) = false := beq_eq_false_iff_ne.2 he
            have g6 : (a != f) = true := by simp [bne, g5]
            have s1 : IntKind.i64.wrap (P + 1) = P + 1 := IntWalk.i64_in _ ⟨by omega, by omega⟩
            have REL : P + (if (1 : Nat) = 0 then (0 : Int) else if (1 : Nat) = 1 then prK a f else prK a f + prK a h) = P + 1 := by simp [e1]
            have REL := Lib.hid REL
            simp only [↓reduceIte, Int.add_zero, show ((0 : Nat) : Int) = 0 from rfl]
            clear e1 hp1 hc hd he
            go_wp2
            go_roundw
            case rel =>
              refine ⟨1, by omega, by go_num, congrArg (Value.int IntKind.i64) ?_, trivial⟩
              rw [REL.out]
            case measure => simp [intOf]
        · rcases (show a = 0 ∨ (a ≠ 0 ∧ h = 0) ∨ (a ≠ 0 ∧ h ≠ 0 ∧ a = h) ∨ (a ≠ 0 ∧ h ≠ 0 ∧ a ≠ h) by omega) with hc | ⟨hc, hd⟩ | ⟨hc, hd, he⟩ | ⟨hc, hd, he⟩
          · have e1 := prK_zero (a := a) (b := h) (.inl hc)
            have REL : P + (if (2 : Nat) = 0 then (0 : Int) else if (2 : Nat) = 1 then p1 else p1 + prK a h) = P + p1 := by simp [e1]
            have REL := Lib.hid REL
            subst hc
            simp only [↓reduceIte, show ¬ ((1 : Nat) = 0) from by omega, show ((1 : Nat) : Int) = 1 from rfl, ← hp1]
            clear e1 hp1
            go_wp2
            go_roundw
            case rel =>
              refine ⟨2, by omega, by go_num, congrArg (Value.int IntKind.i64) ?_, trivial⟩
              rw [REL.out]
            case measure => simp [intOf]
          · have e1 := prK_zero (a := a) (b := h) (.inr (.inl hd))
            have g1 : (a == 0) = false := beq_eq_false_iff_ne.2 hc
            have g2 : (a != 0) = true := by simp [bne, g1]
            have REL : P + (if (2 : Nat) = 0 then (0 : Int) else if (2 : Nat) = 1 then p1 else p1 + prK a h) = P + p1 := by simp [e1]
            have REL := Lib.hid REL
            subst hd
            simp only [↓reduceIte, show ¬ ((1 : Nat) = 0) from by omega, show ((1 : Nat) : Int) = 1 from rfl, ← hp1]
            clear e1 hp1 hc
            go_wp2
            go_roundw
            case rel =>
              refine ⟨2, by omega, by go_num, congrArg (Value.int IntKind.i64) ?_, trivial⟩
              rw [REL.out]
            case measure => simp [intOf]
          · have e1 := prK_zero (a := a) (b := h) (.inr (.inr he))
            have g1 : (a == 0) = false := beq_eq_false_iff_ne.2 hc
            have g2 : (a != 0) = true := by simp [bne, g1]
            have REL : P + (if (2 : Nat) = 0 then (0 : Int) else if (2 : Nat) = 1 then p1 else p1 + prK a h) = P + p1 := by simp [e1]
            have REL := Lib.hid REL
            subst he
            simp only [↓reduceIte, show ¬ ((1 : Nat) = 0) from by omega, show ((1 : Nat) : Int) = 1 from rfl, ← hp1]
            clear e1 hp1 hc hd
            go_wp2
            go_roundw
            case rel =>
              refine ⟨2, by omega, by go_num, congrArg (Value.int IntKind.i64) ?_, trivial⟩
              rw [REL.out]
            case measure => simp [intOf]
          · have e1 := prK_one hc hd he
            have g1 : (a == 0) = false := beq_eq_false_iff_ne.2 hc
            have g2 : (a != 0) = true := by simp [bne, g1]
            have g3 : (h == 0) = false := beq_eq_false_iff_ne.2 hd
            have g4 : (h != 0) = true := by simp [bne, g3]
            have g5 : (a == h) = false := beq_eq_false_iff_ne.2 he
            have g6 : (a != h) = true := by simp [bne, g5]
            have s1 : IntKind.i64.wrap (P + p1 + 1) = P + p1 + 1 := IntWalk.i64_in _ ⟨by omega, by omega⟩
            have REL : P + (if (2 : Nat) = 0 then (0 : Int) else if (2 : Nat) = 1 then p1 else p1 + prK a h) = P + p1 + 1 := by simp [e1]; omega
            have REL := Lib.hid REL
            simp only [↓reduceIte, show ¬ ((1 : Nat) = 0) from by omega, show ((1 : Nat) : Int) = 1 from rfl, ← hp1]
            clear e1 hp1 hc hd he
            go_wp2
            go_roundw
            case rel =>
              refine ⟨2, by omega, by go_num, congrArg (Value.int IntKind.i64) ?_, trivial⟩
              rw [REL.out]
            case measure => simp [intOf]
        · have REL := Lib.hid (show P + (if (2 : Nat) = 0 then (0 : Int) else if (2 : Nat) = 1 then prK a f else prK a f + prK a h) = sm (k + 1) (prI W H KK) from by rw [HSM.out]; simp)
          have HXO := HXN.out
          have q9 : ¬ ((2 : Int) < 2) := by omega
          clear hp1
          go_wp2
          go_roundw
          case rel => exact ⟨k + 1, by omega, by go_num, congrArg (Value.int IntKind.i64) REL.out, Lib.hid (HBR.out.trans (HXO.mono HBR.out.size))⟩
          case measure => simp [intOf]; omega
    · obtain rfl : n = k := by omega
      go_wp2
      go_ret2
      exact ⟨rfl, HB2.out.trans (HH.out.mono HB2.out.size)⟩
end Go.Proofs.YtglkikdjchpmjaaDoor
