/- The law CellOrders: the walk. -/
import Derived.Test.YtnkehlankidlnaaOrder
import Derived.Test.YtnkehlankidlnaaAwake
import Derived.Test.YtnkehlankidlnaaRules
namespace Go.Proofs.Ytnkehlankidlnaa
set_option linter.unusedSimpArgs false
set_option linter.unusedVariables false
open Go.RowKit

/-- A block of four cells. -/
def Four (W : World) (B : Nat) (t : TypeId) (x y z u : Value) : Prop := W.heap[B]? = some (.cells #[x, y, z, u] t (0, 0))
theorem Four.lt {W : World} {B : Nat} {t : TypeId} {x y z u : Value} (h : Four W B t x y z u) : B < W.heap.size := (Array.getElem?_eq_some_iff.1 h).1
theorem Four.c0 {W : World} {B : Nat} {t : TypeId} {x y z u : Value} (h : Four W B t x y z u) : W.cell? ⟨B, 0, none⟩ = some x := by simp [World.cell?, show W.heap[B]? = _ from h]
theorem Four.c1 {W : World} {B : Nat} {t : TypeId} {x y z u : Value} (h : Four W B t x y z u) : W.cell? ⟨B, 1, none⟩ = some y := by simp [World.cell?, show W.heap[B]? = _ from h]
theorem Four.c2 {W : World} {B : Nat} {t : TypeId} {x y z u : Value} (h : Four W B t x y z u) : W.cell? ⟨B, 2, none⟩ = some z := by simp [World.cell?, show W.heap[B]? = _ from h]
theorem Four.c3 {W : World} {B : Nat} {t : TypeId} {x y z u : Value} (h : Four W B t x y z u) : W.cell? ⟨B, 3, none⟩ = some u := by simp [World.cell?, show W.heap[B]? = _ from h]
theorem Four.free {W : World} {B : Nat} {t : TypeId} {x y z u : Value} (h : Four W B t x y z u) (i : Nat) : W.frozen? ⟨B, i, none⟩ = false := by simp [World.frozen?, show W.heap[B]? = _ from h]
theorem Four.below {n : Nat} {W W' : World} {B : Nat} {t : TypeId} {x y z u : Value} (h : Four W B t x y z u) (hb : Below n W W') (hB : B < n) : Four W' B t x y z u := (hb.block B hB).trans h
theorem Four.set {w : World} {B : Nat} {t : TypeId} {x y z u v0 v1 v2 v3 : Value} (h : Four w B t x y z u) : Four ((((w.setCell ⟨B, 0, none⟩ v0).setCell ⟨B, 1, none⟩ v1).setCell ⟨B, 2, none⟩ v2).setCell ⟨B, 3, none⟩ v3) B t v0 v1 v2 v3 := by
  unfold Four at *
  simp only [World.setCell, Array.getElem?_modify, ↓reduceIte, h, Option.map_some]
  rfl
theorem Four.other {w : World} {B D : Nat} {t : TypeId} {x y z u v0 v1 v2 v3 : Value} (h : Four w B t x y z u) (hne : D ≠ B) : Four ((((w.setCell ⟨D, 0, none⟩ v0).setCell ⟨D, 1, none⟩ v1).setCell ⟨D, 2, none⟩ v2).setCell ⟨D, 3, none⟩ v3) B t x y z u := by
  unfold Four at *
  simp only [World.setCell, Array.getElem?_modify, if_neg hne, h]
theorem Two.other4 {w : World} {B D : Nat} {t : TypeId} {x y v0 v1 v2 v3 : Value} (h : Two w B t x y) (hne : D ≠ B) : Two ((((w.setCell ⟨D, 0, none⟩ v0).setCell ⟨D, 1, none⟩ v1).setCell ⟨D, 2, none⟩ v2).setCell ⟨D, 3, none⟩ v3) B t x y := by
  unfold Two at *
  simp only [World.setCell, Array.getElem?_modify, if_neg hne, h]

/-- While a cell is brought back. -/
def LO (w : World) (D : Nat) (a b c d k y x0 x1 x2 x3 : Int) (wr : World) : Prop :=
  Four wr w.heap.size 23 (.int .i64 a) (.int .i64 b) (.int .i64 c) (.int .i64 d) ∧ Two wr (w.heap.size + 1) 25 (.int .i64 k) (.int .i64 y) ∧ Four wr D 23 (.int .i64 x0) (.int .i64 x1) (.int .i64 x2) (.int .i64 x3) ∧ w.heap.size + 1 < D ∧ Below w.heap.size w wr
theorem LO.step {w : World} {D : Nat} {a b c d k y x0 x1 x2 x3 z0 z1 z2 z3 : Int} {wr w5 : World} {o : Obj} (h : LO w D a b c d k y x0 x1 x2 x3 wr) (hb : Below wr.heap.size wr w5) :
    LO w D a b c d k y z0 z1 z2 z3 (((((w5.alloc o).setCell ⟨D, 0, none⟩ (.int .i64 z0)).setCell ⟨D, 1, none⟩ (.int .i64 z1)).setCell ⟨D, 2, none⟩ (.int .i64 z2)).setCell ⟨D, 3, none⟩ (.int .i64 z3)) := by
  obtain ⟨h0, h1, h2, h3, h4⟩ := h
  have b1 : Below wr.heap.size wr (w5.alloc o) := hb.alloc hb.size o
  refine ⟨(h0.below b1 h0.lt).other (by omega), (h1.below b1 h1.lt).other4 (by omega), (h2.below b1 h2.lt).set, h3, ?_⟩
  have b2 : Below w.heap.size w (w5.alloc o) := h4.trans (b1.mono h4.size)
  exact (((b2.setCell (show w.heap.size ≤ D by omega) _).setCell (show w.heap.size ≤ D by omega) _).setCell (show w.heap.size ≤ D by omega) _).setCell (show w.heap.size ≤ D by omega) _

theorem lo_start {w w4 : World} {a b c d k y : Int} (hb : Below ((w.alloc (.cells #[.int .i64 a, .int .i64 b, .int .i64 c, .int .i64 d] 23)).alloc (.cells #[.int .i64 k, .int .i64 y] 25)).heap.size ((w.alloc (.cells #[.int .i64 a, .int .i64 b, .int .i64 c, .int .i64 d] 23)).alloc (.cells #[.int .i64 k, .int .i64 y] 25)) w4) :
    LO w w4.heap.size a b c d k y a b c d (w4.alloc (.cells #[.int .i64 a, .int .i64 b, .int .i64 c, .int .i64 d] 23)) := by
  have hs := hb.size
  simp at hs
  have f : Four (w.alloc (.cells #[.int .i64 a, .int .i64 b, .int .i64 c, .int .i64 d] 23)) w.heap.size 23 (.int .i64 a) (.int .i64 b) (.int .i64 c) (.int .i64 d) := World.alloc_heap_new w _
  have f2 := (f.below ((Below.refl _ _).alloc (Nat.le_refl _) _) f.lt).below hb (by simp; omega)
  have r : Two ((w.alloc (.cells #[.int .i64 a, .int .i64 b, .int .i64 c, .int .i64 d] 23)).alloc (.cells #[.int .i64 k, .int .i64 y] 25)) (w.heap.size + 1) 25 (.int .i64 k) (.int .i64 y) := by
    have := Two.new (w.alloc (.cells #[.int .i64 a, .int .i64 b, .int .i64 c, .int .i64 d] 23)) 25 (.int .i64 k) (.int .i64 y)
    simpa using this
  have r2 := r.below hb (by simp)
  have bB : Below w.heap.size w w4 := (((Below.refl _ w).alloc (Nat.le_refl _) _).alloc (by simp) _).trans (hb.mono (by simp; omega))
  have x : Below w4.heap.size w4 (w4.alloc (.cells #[.int .i64 a, .int .i64 b, .int .i64 c, .int .i64 d] 23)) := (Below.refl _ _).alloc (Nat.le_refl _) _
  exact ⟨f2.below x f2.lt, r2.below x r2.lt, World.alloc_heap_new w4 _, by omega, bB.alloc (by omega) _⟩

/-- The pairs more after i collisions. -/
def tI (a b c d k y : Int) (i : Nat) : Int := itH k y (min a c) (min a c + min b d) i - min a c
theorem tI_zero (a b c d k y : Int) : tI a b c d k y 0 = 0 := by simp [tI, itH]
theorem ok_tI {a b c d k y : Int} (h : Ok4 a b c d) (i : Nat) : Ok4 (a + tI a b c d k y i) (b - tI a b c d k y i) (c + tI a b c d k y i) (d - tI a b c d k y i) := by
  obtain ⟨p0, p1, p2, p3, p4⟩ := h
  have := itH_bd (k := k) (y := y) (show 0 ≤ min a c by omega) (show min a c ≤ min a c + min b d by omega) i
  unfold tI Ok4
  omega
theorem collide_tI {a b c d k y : Int} (h : Ok4 a b c d) (hr : OkR k y) (i : Nat) (w : World) :
    Calls Try.prog 13 #[.agg #[.int .i64 (a + tI a b c d k y i), .int .i64 (b - tI a b c d k y i), .int .i64 (c + tI a b c d k y i), .int .i64 (d - tI a b c d k y i)], .agg #[.int .i64 k, .int .i64 y]] w fun e w' => e = .returned (.tuple #[.agg #[.int .i64 (a + tI a b c d k y (i + 1)), .int .i64 (b - tI a b c d k y (i + 1)), .int .i64 (c + tI a b c d k y (i + 1)), .int .i64 (d - tI a b c d k y (i + 1))], .int .i64 0]) ∧ Below w.heap.size w w' := by
  have q := collide_ok _ _ _ _ k y w (ok_tI (k := k) (y := y) h i) hr
  have e := more_it (a := a) (b := b) (c := c) (d := d) k y i (t := tI a b c d k y i) rfl
  have e1 : a + tI a b c d k y i + more (a + tI a b c d k y i) (b - tI a b c d k y i) (c + tI a b c d k y i) (d - tI a b c d k y i) k y = a + tI a b c d k y (i + 1) := by unfold tI at *; omega
  have e2 : b - tI a b c d k y i - more (a + tI a b c d k y i) (b - tI a b c d k y i) (c + tI a b c d k y i) (d - tI a b c d k y i) k y = b - tI a b c d k y (i + 1) := by unfold tI at *; omega
  have e3 : c + tI a b c d k y i + more (a + tI a b c d k y i) (b - tI a b c d k y i) (c + tI a b c d k y i) (d - tI a b c d k y i) k y = c + tI a b c d k y (i + 1) := by unfold tI at *; omega
  have e4 : d - tI a b c d k y i - more (a + tI a b c d k y i) (b - tI a b c d k y i) (c + tI a b c d k y i) (d - tI a b c d k y i) k y = d - tI a b c d k y (i + 1) := by unfold tI at *; omega
  rw [e1, e2, e3, e4] at q
  exact q
theorem tI_back {a b c d k y : Int} (h : Ok4 a b c d) (hr : OkR k y) (i : Nat) (hi : 1 ≤ i) (hn : (i : Int) ≤ ordr k y (min a c) (min a c + min b d)) : tI a b c d k y i = 0 ↔ (i : Int) = ordr k y (min a c) (min a c + min b d) := by
  obtain ⟨p0, p1, p2, p3, p4⟩ := h
  rw [← ordr_spec hr (show 0 ≤ min a c by omega) (show min a c ≤ min a c + min b d by omega) i hi hn]
  unfold tI
  omega

set_option maxRecDepth 100000 in
set_option maxHeartbeats 8000000 in
theorem cellOrders_loop (a b c d k y : Int) (w : World) (h : Ok4 a b c d) (hr : OkR k y) (hN : ordr k y (min a c) (min a c + min b d) ≤ 300) :
    Calls Try.prog 3 #[.agg #[.int .i64 a, .int .i64 b, .int .i64 c, .int .i64 d], .agg #[.int .i64 k, .int .i64 y]] w fun e w' => e = .returned (.bool true) ∧ Below w.heap.size w w' := by
  have H := Lib.hid h
  have R := Lib.hid hr
  have OD := Lib.hid (fun w' => order_ok a b c d k y w' h hr)
  have RO := Lib.hid (fun w' => refOrder_ok a b c d k y w' h hr)
  have TB := Lib.hid (fun i => tI_back (a := a) (b := b) (c := c) (d := d) h hr i)
  have hN1 := (ordr_bd (k := k) (y := y) (show 0 ≤ min a c by obtain ⟨p0, p1, p2, p3, p4⟩ := h; omega) (show min a c ≤ min a c + min b d by obtain ⟨p0, p1, p2, p3, p4⟩ := h; omega)).1
  obtain ⟨N, hNe⟩ : ∃ N, ordr k y (min a c) (min a c + min b d) = N := ⟨_, rfl⟩
  rw [hNe] at OD RO TB hN hN1
  clear hNe h hr
  go_enter Try.func3, Try.ntmps3
  go_wp2_with (first | (go_at_call 10; (with_reducible refine (OD.out _).mono ?_); rintro e w3 ⟨rfl, hb3⟩; obtain ⟨hc3, hf3, hz3⟩ := bcall hb3; (try simp at hc3 hf3 hz3)) | (go_at_call 11; (with_reducible refine (RO.out _).mono ?_); rintro e w4 ⟨rfl, hb4⟩; obtain ⟨hc4, hf4, hz4⟩ := bcall hb4; (try simp at hc4 hf4 hz4)))
  have H0 := Lib.hid (lo_start (a := a) (b := b) (c := c) (d := d) (k := k) (y := y) (hb3.trans (hb4.mono (by simp; omega))))
  obtain ⟨D, hD⟩ : ∃ D, D = w4.heap.size := ⟨_, rfl⟩
  obtain ⟨w0, hw0⟩ : ∃ w0, w0 = w4.alloc (.cells #[.int .i64 a, .int .i64 b, .int .i64 c, .int .i64 d] 23) := ⟨_, rfl⟩
  rw [← hD, ← hw0] at H0
  rw [← hD, ← hw0]
  clear hc3 hf3 hz3 hc4 hf4 hz4 hb3 hb4 hD hw0 OD RO
  go_loopw [10] (fun i wr => ∃ j i0 : Nat, Hid (j = i0 + 1) ∧ (j : Int) ≤ N + 1 ∧ 1 ≤ j ∧ i = .int .i64 j ∧ Hid (LO w D a b c d k y (a + tI a b c d k y i0) (b - tI a b c d k y i0) (c + tI a b c d k y i0) (d - tI a b c d k y i0) wr)) (fun i _ => (N + 1 - intOf i).toNat)
  case atStart => exact ⟨1, 0, Lib.hid rfl, by omega, by omega, rfl, Lib.hid (by rw [tI_zero, Int.add_zero, Int.sub_zero, Int.add_zero, Int.sub_zero]; exact H0.out)⟩
  case round =>
    obtain ⟨j, i0, hj, hj1, hj2, rfl, HL⟩ := hrel
    obtain ⟨f4, r2, fD, lD, hB⟩ := HL.out
    have l1 := r2.lt
    have lDr := fD.lt
    have a0 := f4.c0
    have a1 := f4.c1
    have a2 := f4.c2
    have a3 := f4.c3
    have k0 := r2.c0
    have k1 := r2.c1
    have x0 := fD.c0
    have x1 := fD.c1
    have x2 := fD.c2
    have x3 := fD.c3
    have g0 := fD.free 0
    have g1 := fD.free 1
    have g2 := fD.free 2
    have g3 := fD.free 3
    have HB := Lib.hid hB
    clear f4 r2 fD hB
    by_cases hle : (j : Int) ≤ N
    · have CT := Lib.hid (fun w' => collide_tI (k := k) (y := y) H.out R.out i0 w')
      have tb := TB.out j hj2 hle
      have e1 : tI a b c d k y j = tI a b c d k y (i0 + 1) := by rw [hj.out]
      rw [e1] at tb
      clear e1
      by_cases he : (j : Int) = N
      · have hz := tb.2 he
        have HZ := Lib.hid hz
        rw [hz, Int.add_zero, Int.sub_zero, Int.add_zero, Int.sub_zero] at CT
        have jb : ((j : Int) == N) = true := by simp [he]
        clear tb hz he
        go_wp2_with (go_at_call 13; (with_reducible refine (CT.out _).mono ?_); rintro e w5 ⟨rfl, hb5⟩; obtain ⟨hc5, hf5, hz5⟩ := bcall hb5; (try simp at hc5 hf5 hz5))
        have HS := Lib.hid (HL.out.step (o := .cells #[.int .i64 a, .int .i64 b, .int .i64 c, .int .i64 d] 23) (z0 := a) (z1 := b) (z2 := c) (z3 := d) hb5)
        clear hc5 hf5 hb5
        go_roundw
        case rel => exact ⟨j + 1, i0 + 1, Lib.hid (by rw [hj.out]), by omega, by omega, by go_num, Lib.hid (by rw [HZ.out, Int.add_zero, Int.sub_zero, Int.add_zero, Int.sub_zero]; exact HS.out)⟩
        case measure => simp [intOf]; omega
      · have hz : tI a b c d k y (i0 + 1) ≠ 0 := fun h => he (tb.1 h)
        obtain ⟨z0, hz0⟩ : ∃ z0, a + tI a b c d k y (i0 + 1) = z0 := ⟨_, rfl⟩
        obtain ⟨z1, hz1⟩ : ∃ z1, b - tI a b c d k y (i0 + 1) = z1 := ⟨_, rfl⟩
        obtain ⟨z2, hz2⟩ : ∃ z2, c + tI a b c d k y (i0 + 1) = z2 := ⟨_, rfl⟩
        obtain ⟨z3, hz3⟩ : ∃ z3, d - tI a b c d k y (i0 + 1) = z3 := ⟨_, rfl⟩
        have e0 : ((z0 : Int) == a) = false := by simp; omega
        rw [hz0, hz1, hz2, hz3] at CT
        have HZ0 := Lib.hid hz0; have HZ1 := Lib.hid hz1; have HZ2 := Lib.hid hz2; have HZ3 := Lib.hid hz3
        have jb : ((j : Int) == N) = false := by simp [he]
        clear tb hz he hz0 hz1 hz2 hz3
        go_wp2_with (go_at_call 13; (with_reducible refine (CT.out _).mono ?_); rintro e w5 ⟨rfl, hb5⟩; obtain ⟨hc5, hf5, hz5⟩ := bcall hb5; (try simp at hc5 hf5 hz5))
        have HS := Lib.hid (HL.out.step (o := .cells #[.int .i64 z0, .int .i64 z1, .int .i64 z2, .int .i64 z3] 23) (z0 := z0) (z1 := z1) (z2 := z2) (z3 := z3) hb5)
        clear hc5 hf5 hb5
        go_roundw
        case rel => exact ⟨j + 1, i0 + 1, Lib.hid (by rw [hj.out]), by omega, by omega, by go_num, Lib.hid (by rw [HZ0.out, HZ1.out, HZ2.out, HZ3.out]; exact HS.out)⟩
        case measure => simp [intOf]; omega
    · clear x0 x1 x2 x3 g0 g1 g2 g3 k0 k1 a0 a1 a2 a3
      go_wp2_with (go_at_call 12; (with_reducible refine (awake_any _).mono ?_); rintro e w1 ⟨rfl, hb⟩; obtain ⟨hc, hf, hz⟩ := bcall hb; (try simp at hc hf hz))
      go_ret
      have hB := HB.out
      refine ⟨rfl, ?_⟩
      (repeat' (first | (with_reducible exact Below.refl _ _) | (with_reducible refine Below.setCell ?_ (by first | omega | (simp; done) | (simp; omega)) _) | (with_reducible refine Below.alloc ?_ (by first | omega | (simp; done) | (simp; omega)) _) | (with_reducible refine Below.drew ?_) | (with_reducible refine below_drewN ?_ _) | (with_reducible refine Below.trans ?_ (Below.mono (by assumption) (by first | omega | (simp; done) | (simp; omega))))))

set_option maxHeartbeats 1000000 in
theorem cellOrders_big (a b c d k y : Int) (w : World) (h : Ok4 a b c d) (hr : OkR k y) (hN : ¬ ordr k y (min a c) (min a c + min b d) ≤ 300) :
    Calls Try.prog 3 #[.agg #[.int .i64 a, .int .i64 b, .int .i64 c, .int .i64 d], .agg #[.int .i64 k, .int .i64 y]] w fun e w' => e = .returned (.bool true) ∧ Below w.heap.size w w' := by
  have OD := Lib.hid (fun w' => order_ok a b c d k y w' h hr)
  have RO := Lib.hid (fun w' => refOrder_ok a b c d k y w' h hr)
  have hN2 := (ordr_bd (k := k) (y := y) (show 0 ≤ min a c by obtain ⟨p0, p1, p2, p3, p4⟩ := h; omega) (show min a c ≤ min a c + min b d by obtain ⟨p0, p1, p2, p3, p4⟩ := h; omega)).2
  have hN3 : min a c + min b d ≤ 1000000000 := by obtain ⟨p0, p1, p2, p3, p4⟩ := h; omega
  obtain ⟨N, hNe⟩ : ∃ N, ordr k y (min a c) (min a c + min b d) = N := ⟨_, rfl⟩
  rw [hNe] at OD RO hN hN2
  have hN4 : N ≤ 2000000000 := by omega
  clear hNe h hr hN2 hN3
  go_enter Try.func3, Try.ntmps3
  go_wp2_with (first | (go_at_call 10; (with_reducible refine (OD.out _).mono ?_); rintro e w1 ⟨rfl, hb⟩; obtain ⟨hc, hf, hz⟩ := bcall hb; (try simp at hc hf hz)) | (go_at_call 11; (with_reducible refine (RO.out _).mono ?_); rintro e w1 ⟨rfl, hb⟩; obtain ⟨hc, hf, hz⟩ := bcall hb; (try simp at hc hf hz)) | (go_at_call 12; (with_reducible refine (awake_any _).mono ?_); rintro e w1 ⟨rfl, hb⟩; obtain ⟨hc, hf, hz⟩ := bcall hb; (try simp at hc hf hz)))
  go_ret
  refine ⟨rfl, ?_⟩
  (repeat' (first | (with_reducible exact Below.refl _ _) | (with_reducible refine Below.setCell ?_ (by first | omega | (simp; done) | (simp; omega)) _) | (with_reducible refine Below.alloc ?_ (by first | omega | (simp; done) | (simp; omega)) _) | (with_reducible refine Below.drew ?_) | (with_reducible refine below_drewN ?_ _) | (with_reducible refine Below.trans ?_ (Below.mono (by assumption) (by first | omega | (simp; done) | (simp; omega))))))

set_option maxHeartbeats 1000000 in
theorem cellOrders_bad (a b c d k y : Int) (w : World) (h : ¬ (Ok4 a b c d ∧ OkR k y)) :
    Calls Try.prog 3 #[.agg #[.int .i64 a, .int .i64 b, .int .i64 c, .int .i64 d], .agg #[.int .i64 k, .int .i64 y]] w fun e w' => e = .returned (.bool true) ∧ Below w.heap.size w w' := by
  have OD := Lib.hid (fun w' => order_bad a b c d k y w' h)
  have RO := Lib.hid (fun w' => refOrder_bad a b c d k y w' h)
  clear h
  go_enter Try.func3, Try.ntmps3
  go_wp2_with (first | (go_at_call 10; (with_reducible refine (OD.out _).mono ?_); rintro e w1 ⟨rfl, hb⟩; obtain ⟨hc, hf, hz⟩ := bcall hb; (try simp at hc hf hz)) | (go_at_call 11; (with_reducible refine (RO.out _).mono ?_); rintro e w1 ⟨rfl, hb⟩; obtain ⟨hc, hf, hz⟩ := bcall hb; (try simp at hc hf hz)) | (go_at_call 12; (with_reducible refine (awake_any _).mono ?_); rintro e w1 ⟨rfl, hb⟩; obtain ⟨hc, hf, hz⟩ := bcall hb; (try simp at hc hf hz)))
  go_ret
  refine ⟨rfl, ?_⟩
  (repeat' (first | (with_reducible exact Below.refl _ _) | (with_reducible refine Below.setCell ?_ (by first | omega | (simp; done) | (simp; omega)) _) | (with_reducible refine Below.alloc ?_ (by first | omega | (simp; done) | (simp; omega)) _) | (with_reducible refine Below.drew ?_) | (with_reducible refine below_drewN ?_ _) | (with_reducible refine Below.trans ?_ (Below.mono (by assumption) (by first | omega | (simp; done) | (simp; omega))))))

theorem cellOrders_any (a b c d k y : Int) (w : World) : Calls Try.prog 3 #[.agg #[.int .i64 a, .int .i64 b, .int .i64 c, .int .i64 d], .agg #[.int .i64 k, .int .i64 y]] w fun e w' => e = .returned (.bool true) ∧ Below w.heap.size w w' := by
  by_cases h : Ok4 a b c d ∧ OkR k y
  · by_cases hN : ordr k y (min a c) (min a c + min b d) ≤ 300
    · exact cellOrders_loop a b c d k y w h.1 h.2 hN
    · exact cellOrders_big a b c d k y w h.1 h.2 hN
  · exact cellOrders_bad a b c d k y w h
end Go.Proofs.Ytnkehlankidlnaa
