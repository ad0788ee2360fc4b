/- The circulation of a block's loop: by the program of the fields. -/
import Derived.Test.YtmdeooflgkjbbaaDoorKFTell
import Derived.Deep.RegionHeld3
namespace Go.Proofs.YtmdeooflgkjbbaaDoor
set_option linter.unusedSimpArgs false
set_option linter.unusedVariables false
open Go.RowKit Go.Shelf
attribute [local go_sem] Oper.semAt_some

/-- A block of the fields in memory. -/
def Sev (w : World) (B : Nat) (a b c d e f g : Value) : Prop := w.heap[B]? = some (.cells #[a, b, c, d, e, f, g] 86 (0, 0))
theorem Sev.lt {w : World} {B : Nat} {a b c d e f g : Value} (h : Sev w B a b c d e f g) : B < w.heap.size := (Array.getElem?_eq_some_iff.1 h).1
theorem Sev.at {w : World} {B : Nat} {a b c d e f g : Value} (h : Sev w B a b c d e f g) (k : Nat) (v : Value) (hk : (#[a, b, c, d, e, f, g] : Array Value)[k]? = some v) : w.cell? ⟨B, k, none⟩ = some v := by
  simp only [World.cell?, show w.heap[B]? = _ from h]
  exact hk
theorem Sev.below {n : Nat} {w w' : World} {B : Nat} {a b c d e f g : Value} (h : Sev w B a b c d e f g) (hb : Below n w w') (hB : B < n) : Sev w' B a b c d e f g := (hb.block B hB).trans h
theorem Sev.new (w : World) (a b c d e f g : Value) : Sev (w.alloc (.cells #[a, b, c, d, e, f, g] 86)) w.heap.size a b c d e f g := World.alloc_heap_new w _
theorem Sev.alloc {w : World} {B : Nat} {a b c d e f g : Value} (h : Sev w B a b c d e f g) (o : Obj) : Sev (w.alloc o) B a b c d e f g := (Below.heap_alloc _ _ _ h.lt).trans h
theorem Sev.drew {w : World} {B : Nat} {a b c d e f g : Value} (h : Sev w B a b c d e f g) : Sev w.drew B a b c d e f g := h
theorem sev_two (w : World) (a b c d e f g a' b' c' d' e' f' g' : Value) :
    Sev ((w.alloc (.cells #[a, b, c, d, e, f, g] 86)).alloc (.cells #[a', b', c', d', e', f', g'] 86)).drew w.heap.size a b c d e f g ∧
    Sev ((w.alloc (.cells #[a, b, c, d, e, f, g] 86)).alloc (.cells #[a', b', c', d', e', f', g'] 86)).drew (w.heap.size + 1) a' b' c' d' e' f' g' := by
  refine ⟨((Sev.new w a b c d e f g).alloc _).drew, ?_⟩
  have := Sev.new (w.alloc (.cells #[a, b, c, d, e, f, g] 86)) a' b' c' d' e' f' g'
  rw [World.size_alloc] at this
  exact this.drew

set_option maxRecDepth 100000 in
set_option maxHeartbeats 16000000 in
theorem circ_in (W H : Int) (ao : Option Addr) (N cap : Nat) (ax ay bx yb : Int) (s0 s1 s2 s3 : Int) (w : World) (b0 : -2000000000000 ≤ s0 ∧ s0 ≤ 2000000000000) (b1 : -2000000000000 ≤ s1 ∧ s1 ≤ 2000000000000) (b2 : -2000000000000 ≤ s2 ∧ s2 ≤ 2000000000000) (b3 : -2000000000000 ≤ s3 ∧ s3 ≤ 2000000000000)
    (C0 : ∀ wx, Below w.heap.size w wx → Calls Tryd.prog 66 #[.agg #[.int .i64 W, .int .i64 H, .slice ao N cap, .int .i64 ax, .int .i64 ay, .int .i64 bx, .int .i64 ay], .func (.func 70) #[] #[]] wx fun e w' => e = .returned (.int .i64 s0) ∧ Below wx.heap.size wx w')
    (C1 : ∀ wx, Below w.heap.size w wx → Calls Tryd.prog 66 #[.agg #[.int .i64 W, .int .i64 H, .slice ao N cap, .int .i64 bx, .int .i64 ay, .int .i64 bx, .int .i64 yb], .func (.func 71) #[] #[]] wx fun e w' => e = .returned (.int .i64 s1) ∧ Below wx.heap.size wx w')
    (C2 : ∀ wx, Below w.heap.size w wx → Calls Tryd.prog 66 #[.agg #[.int .i64 W, .int .i64 H, .slice ao N cap, .int .i64 ax, .int .i64 yb, .int .i64 bx, .int .i64 yb], .func (.func 70) #[] #[]] wx fun e w' => e = .returned (.int .i64 s2) ∧ Below wx.heap.size wx w')
    (C3 : ∀ wx, Below w.heap.size w wx → Calls Tryd.prog 66 #[.agg #[.int .i64 W, .int .i64 H, .slice ao N cap, .int .i64 ax, .int .i64 ay, .int .i64 ax, .int .i64 yb], .func (.func 71) #[] #[]] wx fun e w' => e = .returned (.int .i64 s3) ∧ Below wx.heap.size wx w') :
    Calls Tryd.prog 128 #[.agg #[.int .i64 W, .int .i64 H, .slice ao N cap, .int .i64 ax, .int .i64 ay, .int .i64 bx, .int .i64 yb]] w fun e w' => e = .returned (.int .i64 (s0 + s1 - s2 - s3)) ∧ Below w.heap.size w w' := by
  have C0 := Lib.hid C0
  have C1 := Lib.hid C1
  have C2 := Lib.hid C2
  have C3 := Lib.hid C3
  have t1 : IntKind.i64.wrap (s0 + s1) = s0 + s1 := IntWalk.i64_in _ ⟨by omega, by omega⟩
  have t2 : IntKind.i64.wrap (s0 + s1 - s2) = s0 + s1 - s2 := IntWalk.i64_in _ ⟨by omega, by omega⟩
  have t3 : IntKind.i64.wrap (s0 + s1 - s2 - s3) = s0 + s1 - s2 - s3 := IntWalk.i64_in _ ⟨by omega, by omega⟩
  clear b0 b1 b2 b3
  go_enter Tryd.func128, Tryd.ntmps128
  go_upto_region 3 with fail
  have v0 := ((Sev.new w (.int .i64 W) (.int .i64 H) (.slice ao N cap) (.int .i64 ax) (.int .i64 ay) (.int .i64 bx) (.int .i64 yb)).alloc (.cells #[.int .i64 bx, .int .i64 ay] 26)).alloc (.cells #[.int .i64 ax, .int .i64 yb] 26)
  have v1 := (Two.new (w.alloc (.cells #[.int .i64 W, .int .i64 H, .slice ao N cap, .int .i64 ax, .int .i64 ay, .int .i64 bx, .int .i64 yb] 86)) 26 (.int .i64 bx) (.int .i64 ay)).alloc (.cells #[.int .i64 ax, .int .i64 yb] 26)
  have v2 := Two.new ((w.alloc (.cells #[.int .i64 W, .int .i64 H, .slice ao N cap, .int .i64 ax, .int .i64 ay, .int .i64 bx, .int .i64 yb] 86)).alloc (.cells #[.int .i64 bx, .int .i64 ay] 26)) 26 (.int .i64 ax) (.int .i64 yb)
  simp only [World.size_alloc] at v1 v2
  have hb0 : Below w.heap.size w (((w.alloc (.cells #[.int .i64 W, .int .i64 H, .slice ao N cap, .int .i64 ax, .int .i64 ay, .int .i64 bx, .int .i64 yb] 86)).alloc (.cells #[.int .i64 bx, .int .i64 ay] 26)).alloc (.cells #[.int .i64 ax, .int .i64 yb] 26)) := by (repeat' (first | (with_reducible exact Below.refl _ _) | (with_reducible refine Below.setCell ?_ (by first | omega | (simp; done) | (simp; omega)) _) | (with_reducible refine Below.alloc ?_ (by first | omega | (simp; done) | (simp; omega)) _) | (with_reducible refine Below.drew ?_) | (with_reducible refine below_drewN ?_ _) | (with_reducible refine Below.trans ?_ (Below.mono (by assumption) (by first | omega | (simp; done) | (simp; omega))))))
  obtain ⟨w0, hw0⟩ : ∃ w0, w0 = ((w.alloc (.cells #[.int .i64 W, .int .i64 H, .slice ao N cap, .int .i64 ax, .int .i64 ay, .int .i64 bx, .int .i64 yb] 86)).alloc (.cells #[.int .i64 bx, .int .i64 ay] 26)).alloc (.cells #[.int .i64 ax, .int .i64 yb] 26) := ⟨_, rfl⟩
  rw [← hw0] at v0 v1 v2 hb0 ⊢
  clear hw0
  go_cut [5, 6] from 9 (fun s5 s6 wx => ∃ P Q : Nat, s5 = .pointer (some ⟨P, 0, none⟩) ∧ s6 = .pointer (some ⟨Q, 0, none⟩) ∧ Hid (Sev wx P (.int .i64 W) (.int .i64 H) (.slice ao N cap) (.int .i64 ax) (.int .i64 ay) (.int .i64 bx) (.int .i64 ay) ∧ Sev wx Q (.int .i64 W) (.int .i64 H) (.slice ao N cap) (.int .i64 bx) (.int .i64 ay) (.int .i64 bx) (.int .i64 yb) ∧ Below w0.heap.size w0 wx))
  case first =>
    have m0 := v0.at 0 _ rfl
    have m1 := v0.at 1 _ rfl
    have m2 := v0.at 2 _ rfl
    have m3 := v0.at 3 _ rfl
    have m4 := v0.at 4 _ rfl
    have m5 := v0.at 5 _ rfl
    have m6 := v0.at 6 _ rfl
    have k0 := v1.c0
    have k1 := v1.c1
    have lv0 := v0.lt
    have lv1 := v1.lt
    go_region_held3 (fun w' => w'.cell? ⟨w.heap.size, 0, none⟩ = some (.int .i64 W) ∧ w'.cell? ⟨w.heap.size, 1, none⟩ = some (.int .i64 H) ∧ w'.cell? ⟨w.heap.size, 2, none⟩ = some (.slice ao N cap) ∧ w'.cell? ⟨w.heap.size, 3, none⟩ = some (.int .i64 ax) ∧ w'.cell? ⟨w.heap.size, 4, none⟩ = some (.int .i64 ay) ∧ w'.cell? ⟨w.heap.size, 5, none⟩ = some (.int .i64 bx) ∧ w'.cell? ⟨w.heap.size, 6, none⟩ = some (.int .i64 yb) ∧ w'.cell? ⟨w.heap.size + 1, 0, none⟩ = some (.int .i64 bx) ∧ w'.cell? ⟨w.heap.size + 1, 1, none⟩ = some (.int .i64 ay)) (first | (go_split_ands; (try dsimp only); refine ⟨?_, ?_, ?_, ?_, ?_, ?_, ?_, ?_, ?_⟩ <;> (first | (with_reducible assumption) | (with_reducible exact keep_cell (by assumption) (by first | omega | (simp; done) | (simp; omega)) (by assumption)) | (with_reducible exact (World.cell?_alloc_past _ _ _ (by show _ < _; omega)).trans (by assumption)) | (with_reducible exact (World.cell?_alloc_past _ _ _ (by show _ < _; omega)).trans ((World.cell?_alloc_past _ _ _ (by show _ < _; omega)).symm.trans (by assumption))) | (simp [go_sem]; with_reducible assumption))) | (simp [go_sem, ↓IntWalk.iteOmega, *]; done)) (fail)
    all_goals
      go_wp2_with fail
      go_meet
      first
      | exact ⟨_, _, rfl, rfl, Lib.hid ⟨(sev_two w0 _ _ _ _ _ _ _ _ _ _ _ _ _ _).1, (sev_two w0 _ _ _ _ _ _ _ _ _ _ _ _ _ _).2, by (repeat' (first | (with_reducible exact Below.refl _ _) | (with_reducible refine Below.setCell ?_ (by first | omega | (simp; done) | (simp; omega)) _) | (with_reducible refine Below.alloc ?_ (by first | omega | (simp; done) | (simp; omega)) _) | (with_reducible refine Below.drew ?_) | (with_reducible refine below_drewN ?_ _) | (with_reducible refine Below.trans ?_ (Below.mono (by assumption) (by first | omega | (simp; done) | (simp; omega))))))⟩⟩
      | exact ⟨_, _, rfl, rfl, Lib.hid ⟨(sev_two w0 _ _ _ _ _ _ _ _ _ _ _ _ _ _).2, (sev_two w0 _ _ _ _ _ _ _ _ _ _ _ _ _ _).1, by (repeat' (first | (with_reducible exact Below.refl _ _) | (with_reducible refine Below.setCell ?_ (by first | omega | (simp; done) | (simp; omega)) _) | (with_reducible refine Below.alloc ?_ (by first | omega | (simp; done) | (simp; omega)) _) | (with_reducible refine Below.drew ?_) | (with_reducible refine below_drewN ?_ _) | (with_reducible refine Below.trans ?_ (Below.mono (by assumption) (by first | omega | (simp; done) | (simp; omega))))))⟩⟩
  case rest =>
  obtain ⟨P, Q, rfl, rfl, HC⟩ := hcut
  obtain ⟨p0, p1, hc1⟩ := HC.out
  have v0 := v0.below hc1 v0.lt
  have v2 := v2.below hc1 v2.lt
  have hb1 := hb0.trans (hc1.mono hb0.size)
  obtain ⟨w1, hw1⟩ : ∃ w1, w1 = wc := ⟨_, rfl⟩
  rw [← hw1] at v0 v2 p0 p1 hb1 ⊢
  clear HC hc1 v1 hb0 hw1
  go_upto_region 4 with fail
  go_cut [7, 8] from 9 (fun s7 s8 wx => ∃ P' Q' : Nat, s7 = .pointer (some ⟨P', 0, none⟩) ∧ s8 = .pointer (some ⟨Q', 0, none⟩) ∧ Hid (Sev wx P' (.int .i64 W) (.int .i64 H) (.slice ao N cap) (.int .i64 ax) (.int .i64 yb) (.int .i64 bx) (.int .i64 yb) ∧ Sev wx Q' (.int .i64 W) (.int .i64 H) (.slice ao N cap) (.int .i64 ax) (.int .i64 ay) (.int .i64 ax) (.int .i64 yb) ∧ Below w1.heap.size w1 wx))
  case first =>
    have m0 := v0.at 0 _ rfl
    have m1 := v0.at 1 _ rfl
    have m2 := v0.at 2 _ rfl
    have m3 := v0.at 3 _ rfl
    have m4 := v0.at 4 _ rfl
    have m5 := v0.at 5 _ rfl
    have m6 := v0.at 6 _ rfl
    have k0 := v2.c0
    have k1 := v2.c1
    have lv0 := v0.lt
    have lv1 := v2.lt
    go_region_held3 (fun w' => w'.cell? ⟨w.heap.size, 0, none⟩ = some (.int .i64 W) ∧ w'.cell? ⟨w.heap.size, 1, none⟩ = some (.int .i64 H) ∧ w'.cell? ⟨w.heap.size, 2, none⟩ = some (.slice ao N cap) ∧ w'.cell? ⟨w.heap.size, 3, none⟩ = some (.int .i64 ax) ∧ w'.cell? ⟨w.heap.size, 4, none⟩ = some (.int .i64 ay) ∧ w'.cell? ⟨w.heap.size, 5, none⟩ = some (.int .i64 bx) ∧ w'.cell? ⟨w.heap.size, 6, none⟩ = some (.int .i64 yb) ∧ w'.cell? ⟨w.heap.size + 1 + 1, 0, none⟩ = some (.int .i64 ax) ∧ w'.cell? ⟨w.heap.size + 1 + 1, 1, none⟩ = some (.int .i64 yb)) (first | (go_split_ands; (try dsimp only); refine ⟨?_, ?_, ?_, ?_, ?_, ?_, ?_, ?_, ?_⟩ <;> (first | (with_reducible assumption) | (with_reducible exact keep_cell (by assumption) (by first | omega | (simp; done) | (simp; omega)) (by assumption)) | (with_reducible exact (World.cell?_alloc_past _ _ _ (by show _ < _; omega)).trans (by assumption)) | (with_reducible exact (World.cell?_alloc_past _ _ _ (by show _ < _; omega)).trans ((World.cell?_alloc_past _ _ _ (by show _ < _; omega)).symm.trans (by assumption))) | (simp [go_sem]; with_reducible assumption))) | (simp [go_sem, ↓IntWalk.iteOmega, *]; done)) (fail)
    all_goals
      go_wp2_with fail
      go_meet
      first
      | exact ⟨_, _, rfl, rfl, Lib.hid ⟨(sev_two w1 _ _ _ _ _ _ _ _ _ _ _ _ _ _).1, (sev_two w1 _ _ _ _ _ _ _ _ _ _ _ _ _ _).2, by (repeat' (first | (with_reducible exact Below.refl _ _) | (with_reducible refine Below.setCell ?_ (by first | omega | (simp; done) | (simp; omega)) _) | (with_reducible refine Below.alloc ?_ (by first | omega | (simp; done) | (simp; omega)) _) | (with_reducible refine Below.drew ?_) | (with_reducible refine below_drewN ?_ _) | (with_reducible refine Below.trans ?_ (Below.mono (by assumption) (by first | omega | (simp; done) | (simp; omega))))))⟩⟩
      | exact ⟨_, _, rfl, rfl, Lib.hid ⟨(sev_two w1 _ _ _ _ _ _ _ _ _ _ _ _ _ _).2, (sev_two w1 _ _ _ _ _ _ _ _ _ _ _ _ _ _).1, by (repeat' (first | (with_reducible exact Below.refl _ _) | (with_reducible refine Below.setCell ?_ (by first | omega | (simp; done) | (simp; omega)) _) | (with_reducible refine Below.alloc ?_ (by first | omega | (simp; done) | (simp; omega)) _) | (with_reducible refine Below.drew ?_) | (with_reducible refine below_drewN ?_ _) | (with_reducible refine Below.trans ?_ (Below.mono (by assumption) (by first | omega | (simp; done) | (simp; omega))))))⟩⟩
  case rest =>
  obtain ⟨P', Q', rfl, rfl, HC⟩ := hcut
  obtain ⟨p2, p3, hc1⟩ := HC.out
  have p0 := p0.below hc1 p0.lt
  have p1 := p1.below hc1 p1.lt
  have hb2 := hb1.trans (hc1.mono hb1.size)
  obtain ⟨w2, hw2⟩ : ∃ w2, w2 = wc := ⟨_, rfl⟩
  rw [← hw2] at p0 p1 p2 p3 hb2 ⊢
  clear HC hc1 v0 v2 hb1 hw2
  go_upto_region 5 with fail
  have a0 := p0.at 0 _ rfl
  have a1 := p0.at 1 _ rfl
  have a2 := p0.at 2 _ rfl
  have a3 := p0.at 3 _ rfl
  have a4 := p0.at 4 _ rfl
  have a5 := p0.at 5 _ rfl
  have a6 := p0.at 6 _ rfl
  have b0 := p1.at 0 _ rfl
  have b1 := p1.at 1 _ rfl
  have b2 := p1.at 2 _ rfl
  have b3 := p1.at 3 _ rfl
  have b4 := p1.at 4 _ rfl
  have b5 := p1.at 5 _ rfl
  have b6 := p1.at 6 _ rfl
  have c0 := p2.at 0 _ rfl
  have c1 := p2.at 1 _ rfl
  have c2 := p2.at 2 _ rfl
  have c3 := p2.at 3 _ rfl
  have c4 := p2.at 4 _ rfl
  have c5 := p2.at 5 _ rfl
  have c6 := p2.at 6 _ rfl
  have d0 := p3.at 0 _ rfl
  have d1 := p3.at 1 _ rfl
  have d2 := p3.at 2 _ rfl
  have d3 := p3.at 3 _ rfl
  have d4 := p3.at 4 _ rfl
  have d5 := p3.at 5 _ rfl
  have d6 := p3.at 6 _ rfl
  have hsz := hb2.size
  have la := p0.lt
  have lb := p1.lt
  have lc := p2.lt
  have ld := p3.lt
  clear p0 p1 p2 p3
  go_region_held3 (fun w' => w'.cell? ⟨P, 0, none⟩ = some (.int .i64 W) ∧ w'.cell? ⟨P, 1, none⟩ = some (.int .i64 H) ∧ w'.cell? ⟨P, 2, none⟩ = some (.slice ao N cap) ∧ w'.cell? ⟨P, 3, none⟩ = some (.int .i64 ax) ∧ w'.cell? ⟨P, 4, none⟩ = some (.int .i64 ay) ∧ w'.cell? ⟨P, 5, none⟩ = some (.int .i64 bx) ∧ w'.cell? ⟨P, 6, none⟩ = some (.int .i64 ay) ∧ w'.cell? ⟨Q, 0, none⟩ = some (.int .i64 W) ∧ w'.cell? ⟨Q, 1, none⟩ = some (.int .i64 H) ∧ w'.cell? ⟨Q, 2, none⟩ = some (.slice ao N cap) ∧ w'.cell? ⟨Q, 3, none⟩ = some (.int .i64 bx) ∧ w'.cell? ⟨Q, 4, none⟩ = some (.int .i64 ay) ∧ w'.cell? ⟨Q, 5, none⟩ = some (.int .i64 bx) ∧ w'.cell? ⟨Q, 6, none⟩ = some (.int .i64 yb) ∧ w'.cell? ⟨P', 0, none⟩ = some (.int .i64 W) ∧ w'.cell? ⟨P', 1, none⟩ = some (.int .i64 H) ∧ w'.cell? ⟨P', 2, none⟩ = some (.slice ao N cap) ∧ w'.cell? ⟨P', 3, none⟩ = some (.int .i64 ax) ∧ w'.cell? ⟨P', 4, none⟩ = some (.int .i64 yb) ∧ w'.cell? ⟨P', 5, none⟩ = some (.int .i64 bx) ∧ w'.cell? ⟨P', 6, none⟩ = some (.int .i64 yb) ∧ w'.cell? ⟨Q', 0, none⟩ = some (.int .i64 W) ∧ w'.cell? ⟨Q', 1, none⟩ = some (.int .i64 H) ∧ w'.cell? ⟨Q', 2, none⟩ = some (.slice ao N cap) ∧ w'.cell? ⟨Q', 3, none⟩ = some (.int .i64 ax) ∧ w'.cell? ⟨Q', 4, none⟩ = some (.int .i64 ay) ∧ w'.cell? ⟨Q', 5, none⟩ = some (.int .i64 ax) ∧ w'.cell? ⟨Q', 6, none⟩ = some (.int .i64 yb)) (first | (go_split_ands; (try dsimp only); refine ⟨?_, ?_, ?_, ?_, ?_, ?_, ?_, ?_, ?_, ?_, ?_, ?_, ?_, ?_, ?_, ?_, ?_, ?_, ?_, ?_, ?_, ?_, ?_, ?_, ?_, ?_, ?_, ?_⟩ <;> (first | (with_reducible assumption) | (with_reducible exact keep_cell (by assumption) (by first | omega | (simp; done) | (simp; omega)) (by assumption)) | (with_reducible exact (World.cell?_alloc_past _ _ _ (by show _ < _; omega)).trans (by assumption)) | (with_reducible exact (World.cell?_alloc_past _ _ _ (by show _ < _; omega)).trans ((World.cell?_alloc_past _ _ _ (by show _ < _; omega)).symm.trans (by assumption))) | (simp [go_sem]; with_reducible assumption))) | (simp [go_sem, ↓IntWalk.iteOmega, *]; done)) (first | (go_at_call 66; (with_reducible refine (C0.out _ (by (repeat' (first | (with_reducible exact Below.refl _ _) | (with_reducible refine Below.setCell ?_ (by first | omega | (simp; done) | (simp; omega)) _) | (with_reducible refine Below.alloc ?_ (by first | omega | (simp; done) | (simp; omega)) _) | (with_reducible refine Below.drew ?_) | (with_reducible refine below_drewN ?_ _) | (with_reducible refine Below.trans ?_ (Below.mono (by assumption) (by first | omega | (simp; done) | (simp; omega)))))))).mono ?_); rintro e w1 ⟨rfl, hb⟩; obtain ⟨hc, hf, hz⟩ := bcall hb; (try simp at hc hf hz)) | (go_at_call 66; (with_reducible refine (C1.out _ (by (repeat' (first | (with_reducible exact Below.refl _ _) | (with_reducible refine Below.setCell ?_ (by first | omega | (simp; done) | (simp; omega)) _) | (with_reducible refine Below.alloc ?_ (by first | omega | (simp; done) | (simp; omega)) _) | (with_reducible refine Below.drew ?_) | (with_reducible refine below_drewN ?_ _) | (with_reducible refine Below.trans ?_ (Below.mono (by assumption) (by first | omega | (simp; done) | (simp; omega)))))))).mono ?_); rintro e w1 ⟨rfl, hb⟩; obtain ⟨hc, hf, hz⟩ := bcall hb; (try simp at hc hf hz)) | (go_at_call 66; (with_reducible refine (C2.out _ (by (repeat' (first | (with_reducible exact Below.refl _ _) | (with_reducible refine Below.setCell ?_ (by first | omega | (simp; done) | (simp; omega)) _) | (with_reducible refine Below.alloc ?_ (by first | omega | (simp; done) | (simp; omega)) _) | (with_reducible refine Below.drew ?_) | (with_reducible refine below_drewN ?_ _) | (with_reducible refine Below.trans ?_ (Below.mono (by assumption) (by first | omega | (simp; done) | (simp; omega)))))))).mono ?_); rintro e w1 ⟨rfl, hb⟩; obtain ⟨hc, hf, hz⟩ := bcall hb; (try simp at hc hf hz)) | (go_at_call 66; (with_reducible refine (C3.out _ (by (repeat' (first | (with_reducible exact Below.refl _ _) | (with_reducible refine Below.setCell ?_ (by first | omega | (simp; done) | (simp; omega)) _) | (with_reducible refine Below.alloc ?_ (by first | omega | (simp; done) | (simp; omega)) _) | (with_reducible refine Below.drew ?_) | (with_reducible refine below_drewN ?_ _) | (with_reducible refine Below.trans ?_ (Below.mono (by assumption) (by first | omega | (simp; done) | (simp; omega)))))))).mono ?_); rintro e w1 ⟨rfl, hb⟩; obtain ⟨hc, hf, hz⟩ := bcall hb; (try simp at hc hf hz)))
  all_goals
    go_wp2
    go_ret
    refine ⟨rfl, ?_⟩
    (repeat' (first | (with_reducible exact Below.refl _ _) | (with_reducible refine Below.setCell ?_ (by first | omega | (simp; done) | (simp; omega)) _) | (with_reducible refine Below.alloc ?_ (by first | omega | (simp; done) | (simp; omega)) _) | (with_reducible refine Below.drew ?_) | (with_reducible refine below_drewN ?_ _) | (with_reducible refine Below.trans ?_ (Below.mono (by assumption) (by first | omega | (simp; done) | (simp; omega))))))
end Go.Proofs.YtmdeooflgkjbbaaDoor

/- Circulations, joined: by the program of the fields, and the mathematics. -/

namespace Go.Proofs.YtmdeooflgkjbbaaDoor
set_option linter.unusedSimpArgs false
set_option linter.unusedVariables false
open Go.RowKit Go.Shelf

theorem sumT_append (tv : Nat → Int) (L M : List Nat) : sumT tv (L ++ M) = sumT tv L + sumT tv M := by
  induction L with
  | nil => simp [sumT]
  | cons a L ih => simp only [List.cons_append, sumT, ih]; omega
theorem rowN_split (W x0 y i j : Nat) : rowN W x0 y (i + j) = rowN W x0 y i ++ rowN W (x0 + i) y j := by
  induction j with
  | zero => simp [rowN]
  | succ j ih =>
    rw [show i + (j + 1) = i + j + 1 by omega]
    simp only [rowN]
    rw [ih, List.append_assoc, Nat.add_assoc x0 i j]
theorem recN_split (W x0 nx y0 i j : Nat) : recN W x0 nx y0 (i + j) = recN W x0 nx y0 i ++ recN W x0 nx (y0 + i) j := by
  induction j with
  | zero => simp [recN]
  | succ j ih =>
    rw [show i + (j + 1) = i + j + 1 by omega]
    simp only [recN]
    rw [ih, List.append_assoc, Nat.add_assoc]
/-- The sum over a block from one corner to the other. -/
def blS (tv : Nat → Int) (W ax ay bx yb : Nat) : Int := sumT tv (recN W ax (bx + 1 - ax) ay (yb + 1 - ay))
/-- The circulation of a block's loop. -/
def cirS (G : Nat → Nat → Int) (W ax ay bx yb : Nat) : Int := blS (eaC G) W ax ay bx ay + blS (noC G) W bx ay bx yb - blS (eaC G) W ax yb bx yb - blS (noC G) W ax ay ax yb
/-- A block of two that share a row; that share a column. -/
theorem blS_rows (tv : Nat → Int) (W ax ay bx yb m : Nat) (h1 : ay ≤ m) (h2 : m ≤ yb) : blS tv W ax ay bx m + blS tv W ax m bx yb = blS tv W ax ay bx yb + blS tv W ax m bx m := by
  unfold blS
  rw [show yb + 1 - ay = (m + 1 - ay) + (yb - m) by omega, recN_split, sumT_append, show ay + (m + 1 - ay) = m + 1 by omega, show yb + 1 - m = 1 + (yb - m) by omega, recN_split W ax (bx + 1 - ax) m 1, sumT_append, show m + 1 - m = 1 by omega]
  omega
theorem recN_one (W x0 nx y : Nat) : recN W x0 nx y 1 = rowN W x0 y nx := by simp [recN]
theorem blS_cols (tv : Nat → Int) (W ax y bx m : Nat) (h1 : ax ≤ m) (h2 : m ≤ bx) : blS tv W ax y m y + blS tv W m y bx y = blS tv W ax y bx y + blS tv W m y m y := by
  unfold blS
  rw [show y + 1 - y = 1 by omega, recN_one, recN_one, recN_one, recN_one, show bx + 1 - ax = (m + 1 - ax) + (bx - m) by omega, rowN_split, sumT_append, show ax + (m + 1 - ax) = m + 1 by omega, show bx + 1 - m = 1 + (bx - m) by omega, rowN_split W m y 1, sumT_append, show m + 1 - m = 1 by omega]
  omega
theorem blS_one (tv : Nat → Int) (W x y : Nat) : blS tv W x y x y = tv (x + W * y) := by
  unfold blS
  rw [show x + 1 - x = 1 by omega, show y + 1 - y = 1 by omega, recN_one]
  simp [rowN, sumT]
/-- P8.3. -/
theorem cir_rows (G : Nat → Nat → Int) (W ax ay bx yb m : Nat) (h1 : ay ≤ m) (h2 : m ≤ yb) : cirS G W ax ay bx yb = cirS G W ax ay bx m + cirS G W ax m bx yb - noC G (bx + W * m) + noC G (ax + W * m) := by
  unfold cirS
  have e1 := blS_rows (noC G) W bx ay bx yb m h1 h2
  have e2 := blS_rows (noC G) W ax ay ax yb m h1 h2
  rw [blS_one] at e1 e2
  omega
theorem cir_cols (G : Nat → Nat → Int) (W ax ay bx yb m : Nat) (h1 : ax ≤ m) (h2 : m ≤ bx) : cirS G W ax ay bx yb = cirS G W ax ay m yb + cirS G W m ay bx yb - eaC G (m + W * ay) + eaC G (m + W * yb) := by
  unfold cirS
  have e1 := blS_cols (eaC G) W ax ay bx m h1 h2
  have e2 := blS_cols (eaC G) W ax yb bx m h1 h2
  rw [blS_one] at e1 e2
  omega
theorem sumT_bdL {tv : Nat → Int} (L : List Nat) (h : ∀ q ∈ L, -1000000000 ≤ tv q ∧ tv q ≤ 1000000000) : -(1000000000 * (L.length : Int)) ≤ sumT tv L ∧ sumT tv L ≤ 1000000000 * (L.length : Int) := by
  induction L with
  | nil => simp [sumT]
  | cons a L ih =>
    have h1 := h a (by simp)
    have h2 := ih (fun q hq => h q (by simp [hq]))
    simp only [sumT, List.length_cons]
    push_cast
    omega
theorem blS_bd {N : Nat} {tv : Nat → Int} (h : ∀ q, q < N → -1000000000 ≤ tv q ∧ tv q ≤ 1000000000) {W H ax ay bx yb : Nat} (hN : N = W * H) (hN1 : N ≤ 1024) (hW : W ≤ 64) (hH : H ≤ 64) (h1 : ax ≤ bx) (h2 : bx < W) (h3 : ay ≤ yb) (h4 : yb < H) : -2000000000000 ≤ blS tv W ax ay bx yb ∧ blS tv W ax ay bx yb ≤ 2000000000000 := by
  have hb := sumT_bdL (tv := tv) (recN W ax (bx + 1 - ax) ay (yb + 1 - ay)) (fun q hq => h q (by rw [hN]; exact recN_lt hq (by omega) (by omega)))
  have hl := recN_len W ax (bx + 1 - ax) ay (yb + 1 - ay)
  have hm : (yb + 1 - ay) * (bx + 1 - ax) ≤ H * W := Nat.mul_le_mul (by omega) (by omega)
  rw [Nat.mul_comm H W, ← hN] at hm
  unfold blS
  omega

section
variable (W H n cap b off : Nat) (G : Nat → Nat → Int) (ax ay bx yb : Nat) (w : World) (s : Sides W H n) (hO : OkG n G) (lb : b < w.heap.size) (hG : Grd w b off n G) (h1 : ax ≤ bx) (h2 : bx < W) (h3 : ay ≤ yb) (h4 : yb < H)
include s hO lb hG h1 h2 h3 h4
omit hO in
theorem fsum_bl (fn : Nat) (tv : Nat → Int) (hT : ∀ wx, Below w.heap.size w wx → Tells wx fn #[] n G tv) (hbd : ∀ q, q < n → -1000000000 ≤ tv q ∧ tv q ≤ 1000000000) : ∀ wx, Below w.heap.size w wx →
    Calls Tryd.prog 66 #[.agg #[.int .i64 W, .int .i64 H, .slice (some ⟨b, off, none⟩) n cap, .int .i64 ((ax : Int)), .int .i64 ((ay : Int)), .int .i64 ((bx : Int)), .int .i64 ((yb : Int))], .func (.func fn) #[] #[]] wx fun e w' => e = .returned (.int .i64 (blS tv W ax ay bx yb)) ∧ Below wx.heap.size wx w' := fun wx hb =>
  callsIn_wide.1 (fsum_in W H ax (bx + 1 - ax) ay (yb + 1 - ay) b off n cap G bx yb fn #[] tv wx s.w1 s.h1 (by omega) (by omega) s.n0 s.n1 (by omega) (by omega) (Nat.lt_of_lt_of_le lb hb.size) (hG.below hb lb) (hT wx hb) hbd)
set_option maxRecDepth 100000 in
set_option maxHeartbeats 4000000 in
theorem fCirc_ok : Calls Tryd.prog 58 #[.agg #[.int .i64 W, .int .i64 H, .slice (some ⟨b, off, none⟩) n cap], .agg #[.int .i64 ((ax : Int)), .int .i64 ((ay : Int))], .agg #[.int .i64 ((bx : Int)), .int .i64 ((yb : Int))]] w fun e w' => e = .returned (.tuple #[.int .i64 (cirS G W ax ay bx yb), .int .i64 0]) ∧ Below w.heap.size w w' := by
  obtain ⟨d1, d2, d3⟩ := tells_bd hO
  have c0 := fsum_bl W H n cap b off G ax ay bx ay w s lb hG h1 h2 (Nat.le_refl _) (by omega) 70 (eaC G) (fun wx _ => tells_east wx n G hO) d2
  have c1 := fsum_bl W H n cap b off G bx ay bx yb w s lb hG (Nat.le_refl _) h2 h3 h4 71 (noC G) (fun wx _ => tells_north wx n G hO) d3
  have c2 := fsum_bl W H n cap b off G ax yb bx yb w s lb hG h1 h2 (Nat.le_refl _) h4 70 (eaC G) (fun wx _ => tells_east wx n G hO) d2
  have c3 := fsum_bl W H n cap b off G ax ay ax yb w s lb hG (Nat.le_refl _) (by omega) h3 h4 71 (noC G) (fun wx _ => tells_north wx n G hO) d3
  have CI := Lib.hid (fun wx (hb : Below w.heap.size w wx) => circ_in W H (some ⟨b, off, none⟩) n cap ax ay bx yb _ _ _ _ wx
    (blS_bd d2 s.n0 s.n1 s.w1 s.h1 h1 h2 (Nat.le_refl _) (by omega)) (blS_bd d3 s.n0 s.n1 s.w1 s.h1 (Nat.le_refl _) h2 h3 h4) (blS_bd d2 s.n0 s.n1 s.w1 s.h1 h1 h2 (Nat.le_refl _) h4) (blS_bd d3 s.n0 s.n1 s.w1 s.h1 (Nat.le_refl _) (by omega) h3 h4)
    (fun wy hy => c0 wy (hb.trans (hy.mono hb.size))) (fun wy hy => c1 wy (hb.trans (hy.mono hb.size))) (fun wy hy => c2 wy (hb.trans (hy.mono hb.size))) (fun wy hy => c3 wy (hb.trans (hy.mono hb.size))))
  have HV := Lib.hid (vg_of s hO)
  have HC := Lib.hid (show CellsIn w (some ⟨b, off, none⟩) n G from Or.inr ⟨b, off, rfl, lb, hG⟩)
  have HB := Lib.hid (show BlkOk W H ax ay bx yb from ⟨⟨⟨⟨by omega, by omega⟩, by omega, by omega⟩, ⟨by omega, by omega⟩, by omega, by omega⟩, by omega, by omega⟩)
  obtain ⟨z, hz⟩ : ∃ z, z = cirS G W ax ay bx yb := ⟨_, rfl⟩
  rw [← hz]
  have CI2 := Lib.hid (fun wx (hb : Below w.heap.size w wx) => (show Calls Tryd.prog 128 #[.agg #[.int .i64 W, .int .i64 H, .slice (some ⟨b, off, none⟩) n cap, .int .i64 ((ax : Int)), .int .i64 ((ay : Int)), .int .i64 ((bx : Int)), .int .i64 ((yb : Int))]] wx fun e w' => e = .returned (.int .i64 z) ∧ Below wx.heap.size wx w' from by rw [hz]; exact CI.out wx hb))
  clear CI hz c0 c1 c2 c3 d1 d2 d3 h1 h2 h3 h4
  go_enter Tryd.func58, Tryd.ntmps58
  go_wp2_with (first | (go_at_call 61; (with_reducible refine (newBlock_ok W H (some ⟨b, off, none⟩) n cap G ax ay bx yb _ HV.out (HC.out.below (by (repeat' (first | (with_reducible exact Below.refl _ _) | (with_reducible refine Below.setCell ?_ (by first | omega | (simp; done) | (simp; omega)) _) | (with_reducible refine Below.alloc ?_ (by first | omega | (simp; done) | (simp; omega)) _) | (with_reducible refine Below.drew ?_) | (with_reducible refine below_drewN ?_ _) | (with_reducible refine Below.trans ?_ (Below.mono (by assumption) (by first | omega | (simp; done) | (simp; omega)))))))) HB.out).mono ?_); rintro e w1 ⟨rfl, hb⟩; obtain ⟨hc, hf, hz⟩ := bcall hb; (try simp at hc hf hz)) | (go_at_call 128; (with_reducible refine (CI2.out _ (by (repeat' (first | (with_reducible exact Below.refl _ _) | (with_reducible refine Below.setCell ?_ (by first | omega | (simp; done) | (simp; omega)) _) | (with_reducible refine Below.alloc ?_ (by first | omega | (simp; done) | (simp; omega)) _) | (with_reducible refine Below.drew ?_) | (with_reducible refine below_drewN ?_ _) | (with_reducible refine Below.trans ?_ (Below.mono (by assumption) (by first | omega | (simp; done) | (simp; omega)))))))).mono ?_); rintro e w1 ⟨rfl, hb⟩; obtain ⟨hc, hf, hz⟩ := bcall hb; (try simp at hc hf hz)))
  go_ret2
  refine ⟨rfl, ?_⟩
  (repeat' (first | (with_reducible exact Below.refl _ _) | (with_reducible refine Below.setCell ?_ (by first | omega | (simp; done) | (simp; omega)) _) | (with_reducible refine Below.alloc ?_ (by first | omega | (simp; done) | (simp; omega)) _) | (with_reducible refine Below.drew ?_) | (with_reducible refine below_drewN ?_ _) | (with_reducible refine Below.trans ?_ (Below.mono (by assumption) (by first | omega | (simp; done) | (simp; omega))))))
end
section
variable (W H : Int) (ao : Option Addr) (n cap : Nat) (G : Nat → Nat → Int) (ax ay bx yb : Int) (w : World) (hG : CellsIn w ao n G)
include hG
set_option maxHeartbeats 4000000 in
theorem fCirc_bad (hv : ¬ VG W H n G) : Calls Tryd.prog 58 #[.agg #[.int .i64 W, .int .i64 H, .slice (ao) n cap], .agg #[.int .i64 ax, .int .i64 ay], .agg #[.int .i64 bx, .int .i64 yb]] w fun e w' => e = .returned (.tuple #[.int .i64 0, .int .i64 1]) ∧ Below w.heap.size w w' := by
  have HV := Lib.hid hv
  have HC := Lib.hid hG
  clear hv hG
  go_enter Tryd.func58, Tryd.ntmps58
  go_wp2_with (go_at_call 61; (with_reducible refine (newBlock_bad W H ao n cap G ax ay bx yb _ HV.out (HC.out.below (by (repeat' (first | (with_reducible exact Below.refl _ _) | (with_reducible refine Below.setCell ?_ (by first | omega | (simp; done) | (simp; omega)) _) | (with_reducible refine Below.alloc ?_ (by first | omega | (simp; done) | (simp; omega)) _) | (with_reducible refine Below.drew ?_) | (with_reducible refine below_drewN ?_ _) | (with_reducible refine Below.trans ?_ (Below.mono (by assumption) (by first | omega | (simp; done) | (simp; omega))))))))).mono ?_); rintro e w1 ⟨rfl, hb⟩; obtain ⟨hc, hf, hz⟩ := bcall hb; (try simp at hc hf hz))
  go_ret2
  refine ⟨rfl, ?_⟩
  (repeat' (first | (with_reducible exact Below.refl _ _) | (with_reducible refine Below.setCell ?_ (by first | omega | (simp; done) | (simp; omega)) _) | (with_reducible refine Below.alloc ?_ (by first | omega | (simp; done) | (simp; omega)) _) | (with_reducible refine Below.drew ?_) | (with_reducible refine below_drewN ?_ _) | (with_reducible refine Below.trans ?_ (Below.mono (by assumption) (by first | omega | (simp; done) | (simp; omega))))))
set_option maxHeartbeats 4000000 in
theorem fCirc_rng (hv : VG W H n G) (h : ¬ BlkOk W H ax ay bx yb) : Calls Tryd.prog 58 #[.agg #[.int .i64 W, .int .i64 H, .slice (ao) n cap], .agg #[.int .i64 ax, .int .i64 ay], .agg #[.int .i64 bx, .int .i64 yb]] w fun e w' => e = .returned (.tuple #[.int .i64 0, .int .i64 7]) ∧ Below w.heap.size w w' := by
  have HV := Lib.hid hv
  have HC := Lib.hid hG
  have HB := Lib.hid h
  clear hv hG h
  go_enter Tryd.func58, Tryd.ntmps58
  go_wp2_with (go_at_call 61; (with_reducible refine (newBlock_rng W H ao n cap G ax ay bx yb _ HV.out (HC.out.below (by (repeat' (first | (with_reducible exact Below.refl _ _) | (with_reducible refine Below.setCell ?_ (by first | omega | (simp; done) | (simp; omega)) _) | (with_reducible refine Below.alloc ?_ (by first | omega | (simp; done) | (simp; omega)) _) | (with_reducible refine Below.drew ?_) | (with_reducible refine below_drewN ?_ _) | (with_reducible refine Below.trans ?_ (Below.mono (by assumption) (by first | omega | (simp; done) | (simp; omega)))))))) HB.out).mono ?_); rintro e w1 ⟨rfl, hb⟩; obtain ⟨hc, hf, hz⟩ := bcall hb; (try simp at hc hf hz))
  go_ret2
  refine ⟨rfl, ?_⟩
  (repeat' (first | (with_reducible exact Below.refl _ _) | (with_reducible refine Below.setCell ?_ (by first | omega | (simp; done) | (simp; omega)) _) | (with_reducible refine Below.alloc ?_ (by first | omega | (simp; done) | (simp; omega)) _) | (with_reducible refine Below.drew ?_) | (with_reducible refine below_drewN ?_ _) | (with_reducible refine Below.trans ?_ (Below.mono (by assumption) (by first | omega | (simp; done) | (simp; omega))))))
end
end Go.Proofs.YtmdeooflgkjbbaaDoor

/- What flows adds up: the mathematics of lines when a grid streams. -/

namespace Go.Proofs.YtmdeooflgkjbbaaDoor
set_option linter.unusedSimpArgs false
set_option linter.unusedVariables false
open Go.RowKit Go.Shelf

/-- The place behind, the place ahead, round a ring of n. -/
def prv (n i : Nat) : Nat := if i = 0 then n - 1 else i - 1
def nxt (n i : Nat) : Nat := if i + 1 = n then 0 else i + 1
theorem prv_lt {n i : Nat} (h : i < n) : prv n i < n := by unfold prv; split <;> omega
theorem nxt_lt {n i : Nat} (h : i < n) : nxt n i < n := by unfold nxt; split <;> omega
theorem prv_nxt {n i : Nat} (h : i < n) : prv n (nxt n i) = i := by unfold prv nxt; split <;> split <;> omega
theorem nxt_prv {n i : Nat} (h : i < n) : nxt n (prv n i) = i := by unfold prv nxt; split <;> split <;> omega
theorem nxt_mod {n i : Nat} (h : i < n) : (i + 1) % n = nxt n i := by
  unfold nxt
  split
  · rename_i e; rw [e, Nat.mod_self]
  · exact Nat.mod_eq_of_lt (by omega)
theorem prv_mod {n i : Nat} (h : i < n) : (i + n - 1) % n = prv n i := by
  unfold prv
  split
  · rename_i e; rw [e, Nat.zero_add]; exact Nat.mod_eq_of_lt (by omega)
  · rw [show i + n - 1 = i - 1 + n by omega, Nat.add_mod_right]; exact Nat.mod_eq_of_lt (by omega)
theorem back_emod {n i : Nat} (h : i < n) : ((i : Int) + -1) % (n : Int) = (prv n i : Nat) := by
  unfold prv
  split
  · rename_i e
    subst e
    rw [show ((0 : Nat) : Int) + -1 = ((n : Int) - 1) + (n : Int) * (-1) by omega, Int.add_mul_emod_self_left, Int.emod_eq_of_lt (by omega) (by omega)]
    omega
  · rw [Int.emod_eq_of_lt (by omega) (by omega)]
    omega
theorem ahead_emod {n i : Nat} (h : i < n) : ((i : Int) + 1) % (n : Int) = (nxt n i : Nat) := by
  unfold nxt
  split
  · rename_i e
    rw [show (i : Int) + 1 = 0 + (n : Int) * 1 by omega, Int.add_mul_emod_self_left]
    simp
  · rw [Int.emod_eq_of_lt (by omega) (by omega)]
    omega
theorem stay_emod {n i : Nat} (h : i < n) : ((i : Int) + 0) % (n : Int) = (i : Nat) := by
  rw [Int.emod_eq_of_lt (by omega) (by omega)]
  omega
theorem nb_xy {W H x y : Nat} (hx : x < W) (hy : y < H) :
    nb W H (-1) (x + W * y) 0 = prv W x + W * y ∧ nb W H (-1) (x + W * y) 1 = x + W * prv H y ∧ nb W H (-1) (x + W * y) 2 = nxt W x + W * y ∧ nb W H (-1) (x + W * y) 3 = x + W * nxt H y := by
  have e1 : (x + W * y) % W = x := by rw [Nat.add_mul_mod_self_left, Nat.mod_eq_of_lt hx]
  have e2 : (x + W * y) / W = y := by rw [Nat.add_mul_div_left _ _ (by omega), Nat.div_eq_of_lt hx, Nat.zero_add]
  have b1 := back_emod hx
  have b2 := back_emod hy
  have a1 := ahead_emod hx
  have a2 := ahead_emod hy
  have s1 := stay_emod hx
  have s2 := stay_emod hy
  refine ⟨?_, ?_, ?_, ?_⟩
  · unfold nb
    rw [e1, e2, show (-1 : Int) * dx 0 = -1 from by decide, show (-1 : Int) * dy 0 = 0 from by decide, b1, s2, ← Int.natCast_mul, ← Int.natCast_add, Int.toNat_natCast]
  · unfold nb
    rw [e1, e2, show (-1 : Int) * dx 1 = 0 from by decide, show (-1 : Int) * dy 1 = -1 from by decide, s1, b2, ← Int.natCast_mul, ← Int.natCast_add, Int.toNat_natCast]
  · unfold nb
    rw [e1, e2, show (-1 : Int) * dx 2 = 1 from by decide, show (-1 : Int) * dy 2 = 0 from by decide, a1, s2, ← Int.natCast_mul, ← Int.natCast_add, Int.toNat_natCast]
  · unfold nb
    rw [e1, e2, show (-1 : Int) * dx 3 = 0 from by decide, show (-1 : Int) * dy 3 = 1 from by decide, s1, a2, ← Int.natCast_mul, ← Int.natCast_add, Int.toNat_natCast]

/-- How many lines of an axis there are; the sum over one. -/
def lnN (a W H : Nat) : Nat := if a = 0 then W else H
def lnS (a W H : Nat) (tv : Nat → Int) (i : Nat) : Int := if a = 0 then sm H (fun y => tv (i + W * y)) else sm W (fun x => tv (x + W * i))
theorem sumT_col (tv : Nat → Int) (W x k : Nat) : sumT tv (recN W x 1 0 k) = sm k (fun y => tv (x + W * y)) := by
  induction k with
  | zero => rfl
  | succ k ih =>
    simp only [recN, sm]
    rw [sumT_append, ih]
    simp [rowN, sumT]
theorem sumT_row (tv : Nat → Int) (W y k : Nat) : sumT tv (rowN W 0 y k) = sm k (fun x => tv (x + W * y)) := by
  induction k with
  | zero => rfl
  | succ k ih =>
    simp only [rowN, sm]
    rw [sumT_append, ih]
    simp [sumT]
theorem blS_col (tv : Nat → Int) {W H x : Nat} (hH : 0 < H) : blS tv W x 0 x (H - 1) = lnS 0 W H tv x := by
  unfold blS lnS
  rw [show x + 1 - x = 1 by omega, show H - 1 + 1 - 0 = H by omega, sumT_col]
  simp
theorem blS_row (tv : Nat → Int) {W H y : Nat} (hW : 0 < W) : blS tv W 0 y (W - 1) y = lnS 1 W H tv y := by
  unfold blS lnS
  rw [show y + 1 - y = 1 by omega, show W - 1 + 1 - 0 = W by omega, recN_one, sumT_row]
  simp
theorem sm_prv (n : Nat) (f : Nat → Int) : sm n (fun i => f (prv n i)) = sm n f :=
  sm_perm n f (prv n) (nxt n) (fun _ hi => ⟨prv_lt hi, nxt_prv hi⟩) (fun _ hi => ⟨nxt_lt hi, prv_nxt hi⟩)
theorem sm_nxt (n : Nat) (f : Nat → Int) : sm n (fun i => f (nxt n i)) = sm n f :=
  sm_perm n f (nxt n) (prv n) (fun _ hi => ⟨nxt_lt hi, prv_nxt hi⟩) (fun _ hi => ⟨prv_lt hi, nxt_prv hi⟩)
theorem sm_four (n : Nat) (f g h k : Nat → Int) : sm n (fun i => f i + g i + h i + k i) = sm n f + sm n g + sm n h + sm n k := by
  rw [sm_add n (fun i => f i + g i + h i) k, sm_add n (fun i => f i + g i) h, sm_add n f g]
theorem lnS_ms (a W H : Nat) (G : Nat → Nat → Int) (i : Nat) : lnS a W H (msC G) i = lnS a W H (fun q => G q 0) i + lnS a W H (fun q => G q 1) i + lnS a W H (fun q => G q 2) i + lnS a W H (fun q => G q 3) i := by
  unfold lnS msC
  split
  · exact sm_four _ _ _ _ _
  · exact sm_four _ _ _ _ _
/-- P9: what each line has when the grid has streamed. -/
theorem ln_pull (a W H : Nat) (ha : a < 2) (G : Nat → Nat → Int) (i : Nat) (hi : i < lnN a W H) :
    lnS a W H (msC (pull W H 1 G)) i = lnS a W H (msC G) i + lnS a W H (fun q => G q a) (prv (lnN a W H) i) - lnS a W H (fun q => G q (a + 2)) i - lnS a W H (fun q => G q a) (prv (lnN a W H) (nxt (lnN a W H) i)) + lnS a W H (fun q => G q (a + 2)) (nxt (lnN a W H) i) := by
  rw [prv_nxt hi, lnS_ms, lnS_ms]
  match a, ha with
  | 0, _ =>
    simp only [lnN, if_true] at hi ⊢
    have e0 : lnS 0 W H (fun q => pull W H 1 G q 0) i = lnS 0 W H (fun q => G q 0) (prv W i) := by
      simp only [lnS, if_true]
      refine sm_congr _ _ _ fun y hy => ?_
      show G (nb W H (-1) (i + W * y) 0) 0 = _
      rw [(nb_xy hi hy).1]
    have e1 : lnS 0 W H (fun q => pull W H 1 G q 1) i = lnS 0 W H (fun q => G q 1) i := by
      simp only [lnS, if_true]
      rw [← sm_prv H (fun y => G (i + W * y) 1)]
      refine sm_congr _ _ _ fun y hy => ?_
      show G (nb W H (-1) (i + W * y) 1) 1 = _
      rw [(nb_xy hi hy).2.1]
    have e2 : lnS 0 W H (fun q => pull W H 1 G q 2) i = lnS 0 W H (fun q => G q 2) (nxt W i) := by
      simp only [lnS, if_true]
      refine sm_congr _ _ _ fun y hy => ?_
      show G (nb W H (-1) (i + W * y) 2) 2 = _
      rw [(nb_xy hi hy).2.2.1]
    have e3 : lnS 0 W H (fun q => pull W H 1 G q 3) i = lnS 0 W H (fun q => G q 3) i := by
      simp only [lnS, if_true]
      rw [← sm_nxt H (fun y => G (i + W * y) 3)]
      refine sm_congr _ _ _ fun y hy => ?_
      show G (nb W H (-1) (i + W * y) 3) 3 = _
      rw [(nb_xy hi hy).2.2.2]
    rw [e0, e1, e2, e3]
    rw [show 0 + 2 = 2 from rfl]
    omega
  | 1, _ =>
    simp only [lnN, Nat.one_ne_zero, if_false] at hi ⊢
    have e0 : lnS 1 W H (fun q => pull W H 1 G q 0) i = lnS 1 W H (fun q => G q 0) i := by
      simp only [lnS, Nat.one_ne_zero, if_false]
      rw [← sm_prv W (fun x => G (x + W * i) 0)]
      refine sm_congr _ _ _ fun x hx => ?_
      show G (nb W H (-1) (x + W * i) 0) 0 = _
      rw [(nb_xy hx hi).1]
    have e1 : lnS 1 W H (fun q => pull W H 1 G q 1) i = lnS 1 W H (fun q => G q 1) (prv H i) := by
      simp only [lnS, Nat.one_ne_zero, if_false]
      refine sm_congr _ _ _ fun x hx => ?_
      show G (nb W H (-1) (x + W * i) 1) 1 = _
      rw [(nb_xy hx hi).2.1]
    have e2 : lnS 1 W H (fun q => pull W H 1 G q 2) i = lnS 1 W H (fun q => G q 2) i := by
      simp only [lnS, Nat.one_ne_zero, if_false]
      rw [← sm_nxt W (fun x => G (x + W * i) 2)]
      refine sm_congr _ _ _ fun x hx => ?_
      show G (nb W H (-1) (x + W * i) 2) 2 = _
      rw [(nb_xy hx hi).2.2.1]
    have e3 : lnS 1 W H (fun q => pull W H 1 G q 3) i = lnS 1 W H (fun q => G q 3) (nxt H i) := by
      simp only [lnS, Nat.one_ne_zero, if_false]
      refine sm_congr _ _ _ fun x hx => ?_
      show G (nb W H (-1) (x + W * i) 3) 3 = _
      rw [(nb_xy hx hi).2.2.2]
    rw [e0, e1, e2, e3]
    rw [show 1 + 2 = 3 from rfl]
    omega
/-- The bounds of a line's sum. -/
theorem sm_bd {f : Nat → Int} (k : Nat) (h : ∀ i, i < k → -1000000000 ≤ f i ∧ f i ≤ 1000000000) : -(1000000000 * (k : Int)) ≤ sm k f ∧ sm k f ≤ 1000000000 * (k : Int) := by
  induction k with
  | zero => simp [sm]
  | succ k ih =>
    have h1 := h k (by omega)
    have h2 := ih (fun i hi => h i (by omega))
    simp only [sm]
    push_cast
    omega
theorem xy_lt2 {W H x y : Nat} (hx : x < W) (hy : y < H) : x + W * y < W * H := by
  have : W * (y + 1) ≤ W * H := Nat.mul_le_mul_left W hy
  rw [Nat.mul_add, Nat.mul_one] at this
  omega
theorem lnS_bd {a W H n : Nat} {tv : Nat → Int} (hn : n = W * H) (hW : W ≤ 64) (hH : H ≤ 64) (h : ∀ q, q < n → -1000000000 ≤ tv q ∧ tv q ≤ 1000000000) {i : Nat} (hi : i < lnN a W H) : -64000000000 ≤ lnS a W H tv i ∧ lnS a W H tv i ≤ 64000000000 := by
  unfold lnN at hi
  unfold lnS
  split at hi
  · rename_i e
    rw [if_pos e]
    have := sm_bd (f := fun y => tv (i + W * y)) H (fun y hy => h _ (by rw [hn]; exact xy_lt2 hi hy))
    omega
  · rename_i e
    rw [if_neg e]
    have := sm_bd (f := fun x => tv (x + W * i)) W (fun x hx => h _ (by rw [hn]; exact xy_lt2 hx hi))
    omega
end Go.Proofs.YtmdeooflgkjbbaaDoor
