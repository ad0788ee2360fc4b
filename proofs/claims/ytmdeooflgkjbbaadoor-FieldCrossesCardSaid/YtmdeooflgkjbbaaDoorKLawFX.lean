/- The law FieldCrosses: the walk over what both sides give. -/
import Derived.Test.YtmdeooflgkjbbaaDoorKFAwkL
import Derived.Test.YtmdeooflgkjbbaaDoorKFR8X
import Derived.Test.YtmdeooflgkjbbaaDoorKRunU
namespace Go.Proofs.YtmdeooflgkjbbaaDoor
set_option linter.unusedSimpArgs false
set_option linter.unusedVariables false
open Go.RowKit Go.Shelf
attribute [local go_sem] Oper.semAt_some

set_option maxRecDepth 100000 in
set_option maxHeartbeats 32000000 in
theorem fx_big (W H : Int) (ax at_ t : Int) (ao ro : Option Addr) (n cap len rc : Nat) (w : World) (hM : Mvs w) (BG : ∀ wx, Calls Tryd.prog 10 #[.agg #[.int .i64 W, .int .i64 H, .slice (ao) n cap]] wx fun e w' => e = .returned (.bool true) ∧ Below wx.heap.size wx w') :
    Calls Tryd.prog 5 #[.agg #[.int .i64 W, .int .i64 H, .slice (ao) n cap], .int .i64 ax, .int .i64 at_, .slice ro len rc, .int .i64 t] w fun e w' => e = .returned (.bool true) ∧ Below w.heap.size w w' := by
  have HM := Lib.hid hM
  have BG := Lib.hid BG
  clear hM
  go_enter Tryd.func5, Tryd.ntmps5
  go_wp2_with (first | (go_at_call 9; (with_reducible refine (awake08_any _ (HM.out.below (by (repeat' (first | (with_reducible exact Below.refl _ _) | (with_reducible refine Below.setCell ?_ (by first | omega | (simp; done) | (simp; omega)) _) | (with_reducible refine Below.alloc ?_ (by first | omega | (simp; done) | (simp; omega)) _) | (with_reducible refine Below.drew ?_) | (with_reducible refine below_drewN ?_ _) | (with_reducible refine Below.trans ?_ (Below.mono (by assumption) (by first | omega | (simp; done) | (simp; omega))))))))).mono ?_); rintro e w1 ⟨rfl, hb⟩; obtain ⟨hc, hf, hz⟩ := bcall hb; (try simp at hc hf hz)) | (go_at_call 10; (with_reducible refine (BG.out _).mono ?_); rintro e w1 ⟨rfl, hb⟩; obtain ⟨hc, hf, hz⟩ := bcall hb; (try simp at hc hf hz)))
  go_ret
  refine ⟨by simp, ?_⟩
  (repeat' (first | (with_reducible exact Below.refl _ _) | (with_reducible refine Below.setCell ?_ (by first | omega | (simp; done) | (simp; omega)) _) | (with_reducible refine Below.alloc ?_ (by first | omega | (simp; done) | (simp; omega)) _) | (with_reducible refine Below.drew ?_) | (with_reducible refine below_drewN ?_ _) | (with_reducible refine Below.trans ?_ (Below.mono (by assumption) (by first | omega | (simp; done) | (simp; omega))))))
set_option maxRecDepth 100000 in
set_option maxHeartbeats 32000000 in
theorem fx_long (W H : Int) (ax at_ t : Int) (ao ro : Option Addr) (n cap len rc : Nat) (w : World) (hM : Mvs w) (BG : ∀ wx, Calls Tryd.prog 10 #[.agg #[.int .i64 W, .int .i64 H, .slice (ao) n cap]] wx fun e w' => e = .returned (.bool false) ∧ Below wx.heap.size wx w') (h : 20 < len) :
    Calls Tryd.prog 5 #[.agg #[.int .i64 W, .int .i64 H, .slice (ao) n cap], .int .i64 ax, .int .i64 at_, .slice ro len rc, .int .i64 t] w fun e w' => e = .returned (.bool true) ∧ Below w.heap.size w w' := by
  have HM := Lib.hid hM
  have BG := Lib.hid BG
  have h' : 20 < (len : Int) := by omega
  clear hM h
  go_enter Tryd.func5, Tryd.ntmps5
  go_wp2_with (first | (go_at_call 9; (with_reducible refine (awake08_any _ (HM.out.below (by (repeat' (first | (with_reducible exact Below.refl _ _) | (with_reducible refine Below.setCell ?_ (by first | omega | (simp; done) | (simp; omega)) _) | (with_reducible refine Below.alloc ?_ (by first | omega | (simp; done) | (simp; omega)) _) | (with_reducible refine Below.drew ?_) | (with_reducible refine below_drewN ?_ _) | (with_reducible refine Below.trans ?_ (Below.mono (by assumption) (by first | omega | (simp; done) | (simp; omega))))))))).mono ?_); rintro e w1 ⟨rfl, hb⟩; obtain ⟨hc, hf, hz⟩ := bcall hb; (try simp at hc hf hz)) | (go_at_call 10; (with_reducible refine (BG.out _).mono ?_); rintro e w1 ⟨rfl, hb⟩; obtain ⟨hc, hf, hz⟩ := bcall hb; (try simp at hc hf hz)))
  go_ret
  refine ⟨by simp, ?_⟩
  (repeat' (first | (with_reducible exact Below.refl _ _) | (with_reducible refine Below.setCell ?_ (by first | omega | (simp; done) | (simp; omega)) _) | (with_reducible refine Below.alloc ?_ (by first | omega | (simp; done) | (simp; omega)) _) | (with_reducible refine Below.drew ?_) | (with_reducible refine below_drewN ?_ _) | (with_reducible refine Below.trans ?_ (Below.mono (by assumption) (by first | omega | (simp; done) | (simp; omega))))))
set_option maxRecDepth 100000 in
set_option maxHeartbeats 32000000 in
theorem fx_err (W H : Int) (ax at_ t : Int) (ao ro : Option Addr) (n cap len rc : Nat) (w : World) (hM : Mvs w) (BG : ∀ wx, Calls Tryd.prog 10 #[.agg #[.int .i64 W, .int .i64 H, .slice (ao) n cap]] wx fun e w' => e = .returned (.bool false) ∧ Below wx.heap.size wx w') (hl : len ≤ 20) (c1 c2 c3 r1 p1 p2 p3 : Int) (rk : Nat) (RK : Nat → Int) (hr : rk ≤ 1000000)
    (CR1 : ∀ wx, Below w.heap.size w wx → Calls Tryd.prog 27 #[.agg #[.int .i64 W, .int .i64 H, .slice (ao) n cap], .int .i64 ax, .int .i64 at_] wx fun e w' => e = .returned (.tuple #[.int .i64 c1, .int .i64 c2, .int .i64 c3]) ∧ Below wx.heap.size wx w')
    (CR2 : ∀ wx, Below w.heap.size w wx → Calls Tryd.prog 28 #[.agg #[.int .i64 W, .int .i64 H, .slice (ao) n cap], .int .i64 ax, .int .i64 at_] wx fun e w' => e = .returned (.tuple #[.int .i64 c1, .int .i64 c2, .int .i64 c3]) ∧ Below wx.heap.size wx w')
    (RW1 : ∀ wx, Below w.heap.size w wx → Calls Tryd.prog 29 #[.agg #[.int .i64 W, .int .i64 H, .slice (ao) n cap]] wx fun e w' => GaveI r1 rk RK wx e w')
    (RW2 : ∀ wx, Below w.heap.size w wx → Calls Tryd.prog 30 #[.agg #[.int .i64 W, .int .i64 H, .slice (ao) n cap]] wx fun e w' => GaveI r1 rk RK wx e w')
    (PA1 : ∀ wx, Below w.heap.size w wx → Calls Tryd.prog 31 #[.agg #[.int .i64 W, .int .i64 H, .slice (ao) n cap]] wx fun e w' => e = .returned (.tuple #[.int .i64 p1, .int .i64 p2, .int .i64 p3]) ∧ Below wx.heap.size wx w')
    (PA2 : ∀ wx, Below w.heap.size w wx → Calls Tryd.prog 32 #[.agg #[.int .i64 W, .int .i64 H, .slice (ao) n cap]] wx fun e w' => e = .returned (.tuple #[.int .i64 p1, .int .i64 p2, .int .i64 p3]) ∧ Below wx.heap.size wx w') (hp : p3 = 1) :
    Calls Tryd.prog 5 #[.agg #[.int .i64 W, .int .i64 H, .slice (ao) n cap], .int .i64 ax, .int .i64 at_, .slice ro len rc, .int .i64 t] w fun e w' => e = .returned (.bool true) ∧ Below w.heap.size w w' := by
  have HM := Lib.hid hM
  have BG := Lib.hid BG
  have CR1 := Lib.hid CR1
  have CR2 := Lib.hid CR2
  have RW1 := Lib.hid RW1
  have RW2 := Lib.hid RW2
  have PA1 := Lib.hid PA1
  have PA2 := Lib.hid PA2
  have h' : ¬ 20 < (len : Int) := by omega
  subst hp
  clear hM hl
  go_enter Tryd.func5, Tryd.ntmps5
  go_wp2_with (first | (go_at_call 9; (with_reducible refine (awake08_any _ (HM.out.below (by (repeat' (first | (with_reducible exact Below.refl _ _) | (with_reducible refine Below.setCell ?_ (by first | omega | (simp; done) | (simp; omega)) _) | (with_reducible refine Below.alloc ?_ (by first | omega | (simp; done) | (simp; omega)) _) | (with_reducible refine Below.drew ?_) | (with_reducible refine below_drewN ?_ _) | (with_reducible refine Below.trans ?_ (Below.mono (by assumption) (by first | omega | (simp; done) | (simp; omega))))))))).mono ?_); rintro e w1 ⟨rfl, hb⟩; obtain ⟨hc, hf, hz⟩ := bcall hb; (try simp at hc hf hz)) | (go_at_call 10; (with_reducible refine (BG.out _).mono ?_); rintro e w1 ⟨rfl, hb⟩; obtain ⟨hc, hf, hz⟩ := bcall hb; (try simp at hc hf hz)) | (go_at_call 27; (with_reducible refine (CR1.out _ (by (repeat' (first | (with_reducible exact Below.refl _ _) | (with_reducible refine Below.setCell ?_ (by first | omega | (simp; done) | (simp; omega)) _) | (with_reducible refine Below.alloc ?_ (by first | omega | (simp; done) | (simp; omega)) _) | (with_reducible refine Below.drew ?_) | (with_reducible refine below_drewN ?_ _) | (with_reducible refine Below.trans ?_ (Below.mono (by assumption) (by first | omega | (simp; done) | (simp; omega)))))))).mono ?_); rintro e w1 ⟨rfl, hb⟩; obtain ⟨hc, hf, hz⟩ := bcall hb; (try simp at hc hf hz)) | (go_at_call 28; (with_reducible refine (CR2.out _ (by (repeat' (first | (with_reducible exact Below.refl _ _) | (with_reducible refine Below.setCell ?_ (by first | omega | (simp; done) | (simp; omega)) _) | (with_reducible refine Below.alloc ?_ (by first | omega | (simp; done) | (simp; omega)) _) | (with_reducible refine Below.drew ?_) | (with_reducible refine below_drewN ?_ _) | (with_reducible refine Below.trans ?_ (Below.mono (by assumption) (by first | omega | (simp; done) | (simp; omega)))))))).mono ?_); rintro e w1 ⟨rfl, hb⟩; obtain ⟨hc, hf, hz⟩ := bcall hb; (try simp at hc hf hz)))
  (go_at_call 29; (refine (RW1.out _ (by (repeat' (first | (with_reducible exact Below.refl _ _) | (with_reducible refine Below.setCell ?_ (by first | omega | (simp; done) | (simp; omega)) _) | (with_reducible refine Below.alloc ?_ (by first | omega | (simp; done) | (simp; omega)) _) | (with_reducible refine Below.drew ?_) | (with_reducible refine below_drewN ?_ _) | (with_reducible refine Below.trans ?_ (Below.mono (by assumption) (by first | omega | (simp; done) | (simp; omega)))))))).mono ?_); rintro e w21 ⟨a21, q21, rfl, N21, hb21⟩)
  have N21 := Lib.hid N21
  obtain ⟨hc21, hf21, hz21⟩ := bcall hb21
  (try simp at hc21 hf21 hz21)
  go_wp2_with fail
  (go_at_call 30; (refine (RW2.out _ (by (repeat' (first | (with_reducible exact Below.refl _ _) | (with_reducible refine Below.setCell ?_ (by first | omega | (simp; done) | (simp; omega)) _) | (with_reducible refine Below.alloc ?_ (by first | omega | (simp; done) | (simp; omega)) _) | (with_reducible refine Below.drew ?_) | (with_reducible refine below_drewN ?_ _) | (with_reducible refine Below.trans ?_ (Below.mono (by assumption) (by first | omega | (simp; done) | (simp; omega)))))))).mono ?_); rintro e w22 ⟨a22, q22, rfl, N22, hb22⟩)
  have N22 := Lib.hid N22
  obtain ⟨hc22, hf22, hz22⟩ := bcall hb22
  (try simp at hc22 hf22 hz22)
  go_wp2_with fail
  (go_at_call 21; (refine (sameInts6_yes a21 a22 rk q21 q22 RK _ hr (N21.out.below (by (repeat' (first | (with_reducible exact Below.refl _ _) | (with_reducible refine Below.setCell ?_ (by first | omega | (simp; done) | (simp; omega)) _) | (with_reducible refine Below.alloc ?_ (by first | omega | (simp; done) | (simp; omega)) _) | (with_reducible refine Below.drew ?_) | (with_reducible refine below_drewN ?_ _) | (with_reducible refine Below.trans ?_ (Below.mono (by assumption) (by first | omega | (simp; done) | (simp; omega)))))))) (N22.out.below (by (repeat' (first | (with_reducible exact Below.refl _ _) | (with_reducible refine Below.setCell ?_ (by first | omega | (simp; done) | (simp; omega)) _) | (with_reducible refine Below.alloc ?_ (by first | omega | (simp; done) | (simp; omega)) _) | (with_reducible refine Below.drew ?_) | (with_reducible refine below_drewN ?_ _) | (with_reducible refine Below.trans ?_ (Below.mono (by assumption) (by first | omega | (simp; done) | (simp; omega))))))))).mono ?_); rintro e w2s ⟨rfl, hb2s⟩)
  obtain ⟨hc2s, hf2s, hz2s⟩ := bcall hb2s
  (try simp at hc2s hf2s hz2s)
  go_wp2_with (first | (go_at_call 31; (with_reducible refine (PA1.out _ (by (repeat' (first | (with_reducible exact Below.refl _ _) | (with_reducible refine Below.setCell ?_ (by first | omega | (simp; done) | (simp; omega)) _) | (with_reducible refine Below.alloc ?_ (by first | omega | (simp; done) | (simp; omega)) _) | (with_reducible refine Below.drew ?_) | (with_reducible refine below_drewN ?_ _) | (with_reducible refine Below.trans ?_ (Below.mono (by assumption) (by first | omega | (simp; done) | (simp; omega)))))))).mono ?_); rintro e w1 ⟨rfl, hb⟩; obtain ⟨hc, hf, hz⟩ := bcall hb; (try simp at hc hf hz)) | (go_at_call 32; (with_reducible refine (PA2.out _ (by (repeat' (first | (with_reducible exact Below.refl _ _) | (with_reducible refine Below.setCell ?_ (by first | omega | (simp; done) | (simp; omega)) _) | (with_reducible refine Below.alloc ?_ (by first | omega | (simp; done) | (simp; omega)) _) | (with_reducible refine Below.drew ?_) | (with_reducible refine below_drewN ?_ _) | (with_reducible refine Below.trans ?_ (Below.mono (by assumption) (by first | omega | (simp; done) | (simp; omega)))))))).mono ?_); rintro e w1 ⟨rfl, hb⟩; obtain ⟨hc, hf, hz⟩ := bcall hb; (try simp at hc hf hz)))
  go_ret
  refine ⟨by simp, ?_⟩
  (repeat' (first | (with_reducible exact Below.refl _ _) | (with_reducible refine Below.setCell ?_ (by first | omega | (simp; done) | (simp; omega)) _) | (with_reducible refine Below.alloc ?_ (by first | omega | (simp; done) | (simp; omega)) _) | (with_reducible refine Below.drew ?_) | (with_reducible refine below_drewN ?_ _) | (with_reducible refine Below.trans ?_ (Below.mono (by assumption) (by first | omega | (simp; done) | (simp; omega))))))
/-- How the law ends: an odd side, a step that there is not, a step whose parities have changed places. -/
def FxEnd (W H n cap len rc b off : Nat) (ro : Option Addr) (t p1 p2 : Int) (w : World) : Prop :=
  W % 2 = 1 ∨ (¬ W % 2 = 1 ∧ H % 2 = 1) ∨
  ((¬ W % 2 = 1 ∧ ¬ H % 2 = 1) ∧ ∃ er : Int, (er = 1 ∨ er = 7) ∧ ∀ wx, Below w.heap.size w wx → Calls Tryd.prog 34 #[.agg #[.int .i64 W, .int .i64 H, .slice (some ⟨b, off, none⟩) n cap], .slice ro len rc, .int .i64 t] wx fun e w' => e = .returned (.tuple #[.agg #[.int .i64 0, .int .i64 0, .slice (none) 0 0], .int .i64 er]) ∧ Below wx.heap.size wx w') ∨
  ((¬ W % 2 = 1 ∧ ¬ H % 2 = 1) ∧ ∀ wx, Below w.heap.size w wx → Calls Tryd.prog 34 #[.agg #[.int .i64 W, .int .i64 H, .slice (some ⟨b, off, none⟩) n cap], .slice ro len rc, .int .i64 t] wx fun e w' => ∃ d c, e = .returned (.tuple #[.agg #[.int .i64 W, .int .i64 H, .slice (some ⟨d, 0, none⟩) n c], .int .i64 0]) ∧ Hid (∀ wy, Below w'.heap.size w' wy → Calls Tryd.prog 31 #[.agg #[.int .i64 W, .int .i64 H, .slice (some ⟨d, 0, none⟩) n c]] wy fun e w'' => e = .returned (.tuple #[.int .i64 p2, .int .i64 p1, .int .i64 0]) ∧ Below wy.heap.size wy w'') ∧ Below wx.heap.size wx w')
set_option maxRecDepth 100000 in
set_option maxHeartbeats 32000000 in
theorem fx_ok (W H b off : Nat) (ax at_ t : Int) (ro : Option Addr) (n cap len rc : Nat) (w : World) (hM : Mvs w) (BG : ∀ wx, Calls Tryd.prog 10 #[.agg #[.int .i64 W, .int .i64 H, .slice (some ⟨b, off, none⟩) n cap]] wx fun e w' => e = .returned (.bool false) ∧ Below wx.heap.size wx w') (hl : len ≤ 20) (hW : W ≤ 64) (hH : H ≤ 64) (c1 c2 c3 r1 p1 p2 : Int) (rk : Nat) (RK : Nat → Int) (hr : rk ≤ 1000000)
    (CR1 : ∀ wx, Below w.heap.size w wx → Calls Tryd.prog 27 #[.agg #[.int .i64 W, .int .i64 H, .slice (some ⟨b, off, none⟩) n cap], .int .i64 ax, .int .i64 at_] wx fun e w' => e = .returned (.tuple #[.int .i64 c1, .int .i64 c2, .int .i64 c3]) ∧ Below wx.heap.size wx w')
    (CR2 : ∀ wx, Below w.heap.size w wx → Calls Tryd.prog 28 #[.agg #[.int .i64 W, .int .i64 H, .slice (some ⟨b, off, none⟩) n cap], .int .i64 ax, .int .i64 at_] wx fun e w' => e = .returned (.tuple #[.int .i64 c1, .int .i64 c2, .int .i64 c3]) ∧ Below wx.heap.size wx w')
    (RW1 : ∀ wx, Below w.heap.size w wx → Calls Tryd.prog 29 #[.agg #[.int .i64 W, .int .i64 H, .slice (some ⟨b, off, none⟩) n cap]] wx fun e w' => GaveI r1 rk RK wx e w')
    (RW2 : ∀ wx, Below w.heap.size w wx → Calls Tryd.prog 30 #[.agg #[.int .i64 W, .int .i64 H, .slice (some ⟨b, off, none⟩) n cap]] wx fun e w' => GaveI r1 rk RK wx e w')
    (PA1 : ∀ wx, Below w.heap.size w wx → Calls Tryd.prog 31 #[.agg #[.int .i64 W, .int .i64 H, .slice (some ⟨b, off, none⟩) n cap]] wx fun e w' => e = .returned (.tuple #[.int .i64 p1, .int .i64 p2, .int .i64 0]) ∧ Below wx.heap.size wx w')
    (PA2 : ∀ wx, Below w.heap.size w wx → Calls Tryd.prog 32 #[.agg #[.int .i64 W, .int .i64 H, .slice (some ⟨b, off, none⟩) n cap]] wx fun e w' => e = .returned (.tuple #[.int .i64 p1, .int .i64 p2, .int .i64 0]) ∧ Below wx.heap.size wx w')
    (F0 B0 F1 B1 : Nat → Int) (hF0 : ∀ i, i < W → (-64000000000 ≤ F0 i ∧ F0 i ≤ 64000000000) ∧ -64000000000 ≤ B0 i ∧ B0 i ≤ 64000000000) (hF1 : ∀ i, i < H → (-64000000000 ≤ F1 i ∧ F1 i ≤ 64000000000) ∧ -64000000000 ≤ B1 i ∧ B1 i ≤ 64000000000)
    (X0 : ∀ i, i < W → ∀ wx, Below w.heap.size w wx → Calls Tryd.prog 27 #[.agg #[.int .i64 W, .int .i64 H, .slice (some ⟨b, off, none⟩) n cap], .int .i64 0, .int .i64 ((i : Int))] wx fun e w' => e = .returned (.tuple #[.int .i64 (F0 i), .int .i64 (B0 i), .int .i64 0]) ∧ Below wx.heap.size wx w')
    (X1 : ∀ i, i < H → ∀ wx, Below w.heap.size w wx → Calls Tryd.prog 27 #[.agg #[.int .i64 W, .int .i64 H, .slice (some ⟨b, off, none⟩) n cap], .int .i64 1, .int .i64 ((i : Int))] wx fun e w' => e = .returned (.tuple #[.int .i64 (F1 i), .int .i64 (B1 i), .int .i64 0]) ∧ Below wx.heap.size wx w')
    (MO : ∀ wx, Below w.heap.size w wx → Calls Tryd.prog 33 #[.agg #[.int .i64 W, .int .i64 H, .slice (some ⟨b, off, none⟩) n cap]] wx fun e w' => e = .returned (.tuple #[.int .i64 (sm W (fun i => F0 i - B0 i)), .int .i64 (sm H (fun i => F1 i - B1 i)), .int .i64 0]) ∧ Below wx.heap.size wx w')
    (E : FxEnd W H n cap len rc b off ro t p1 p2 w) :
    Calls Tryd.prog 5 #[.agg #[.int .i64 W, .int .i64 H, .slice (some ⟨b, off, none⟩) n cap], .int .i64 ax, .int .i64 at_, .slice ro len rc, .int .i64 t] w fun e w' => e = .returned (.bool true) ∧ Below w.heap.size w w' := by
  have HM := Lib.hid hM
  have BG := Lib.hid BG
  have CR1 := Lib.hid CR1
  have CR2 := Lib.hid CR2
  have RW1 := Lib.hid RW1
  have RW2 := Lib.hid RW2
  have PA1 := Lib.hid PA1
  have PA2 := Lib.hid PA2
  have X0 := Lib.hid X0
  have X1 := Lib.hid X1
  have MO := Lib.hid MO
  have HE := Lib.hid E
  have h' : ¬ 20 < (len : Int) := by omega
  have HF0 := Lib.hid hF0
  have HF1 := Lib.hid hF1
  obtain ⟨D0, hD0⟩ : ∃ D, D = fun i => F0 i - B0 i := ⟨_, rfl⟩
  obtain ⟨D1, hD1⟩ : ∃ D, D = fun i => F1 i - B1 i := ⟨_, rfl⟩
  rw [← hD0, ← hD1] at MO
  have K0 := Lib.hid (fun k (hk : k ≤ W) => (show -128000000000 * (k : Int) ≤ sm k D0 ∧ sm k D0 ≤ 128000000000 * (k : Int) from by
    rw [hD0]
    induction k with
    | zero => simp [sm]
    | succ k ih =>
      have h1 := ih (by omega)
      have h2 := hF0 k (by omega)
      simp only [sm]
      push_cast
      omega))
  have K1 := Lib.hid (fun k (hk : k ≤ H) => (show -128000000000 * (k : Int) ≤ sm k D1 ∧ sm k D1 ≤ 128000000000 * (k : Int) from by
    rw [hD1]
    induction k with
    | zero => simp [sm]
    | succ k ih =>
      have h1 := ih (by omega)
      have h2 := hF1 k (by omega)
      simp only [sm]
      push_cast
      omega))
  have S0 := Lib.hid (fun k => (show sm (k + 1) D0 = sm k D0 + (F0 k - B0 k) from by rw [hD0]; rfl))
  have S1 := Lib.hid (fun k => (show sm (k + 1) D1 = sm k D1 + (F1 k - B1 k) from by rw [hD1]; rfl))
  have t0 := Three.new0 w 24 (.int .i64 W) (.int .i64 H) (.slice (some ⟨b, off, none⟩) n cap)
  clear hM hl hF0 hF1 hD0 hD1 E
  go_enter Tryd.func5, Tryd.ntmps5
  go_wp2_with (first | (go_at_call 9; (with_reducible refine (awake08_any _ (HM.out.below (by (repeat' (first | (with_reducible exact Below.refl _ _) | (with_reducible refine Below.setCell ?_ (by first | omega | (simp; done) | (simp; omega)) _) | (with_reducible refine Below.alloc ?_ (by first | omega | (simp; done) | (simp; omega)) _) | (with_reducible refine Below.drew ?_) | (with_reducible refine below_drewN ?_ _) | (with_reducible refine Below.trans ?_ (Below.mono (by assumption) (by first | omega | (simp; done) | (simp; omega))))))))).mono ?_); rintro e w1 ⟨rfl, hb⟩; obtain ⟨hc, hf, hz⟩ := bcall hb; (try simp at hc hf hz)) | (go_at_call 10; (with_reducible refine (BG.out _).mono ?_); rintro e w1 ⟨rfl, hb⟩; obtain ⟨hc, hf, hz⟩ := bcall hb; (try simp at hc hf hz)) | (go_at_call 27; (with_reducible refine (CR1.out _ (by (repeat' (first | (with_reducible exact Below.refl _ _) | (with_reducible refine Below.setCell ?_ (by first | omega | (simp; done) | (simp; omega)) _) | (with_reducible refine Below.alloc ?_ (by first | omega | (simp; done) | (simp; omega)) _) | (with_reducible refine Below.drew ?_) | (with_reducible refine below_drewN ?_ _) | (with_reducible refine Below.trans ?_ (Below.mono (by assumption) (by first | omega | (simp; done) | (simp; omega)))))))).mono ?_); rintro e w1 ⟨rfl, hb⟩; obtain ⟨hc, hf, hz⟩ := bcall hb; (try simp at hc hf hz)) | (go_at_call 28; (with_reducible refine (CR2.out _ (by (repeat' (first | (with_reducible exact Below.refl _ _) | (with_reducible refine Below.setCell ?_ (by first | omega | (simp; done) | (simp; omega)) _) | (with_reducible refine Below.alloc ?_ (by first | omega | (simp; done) | (simp; omega)) _) | (with_reducible refine Below.drew ?_) | (with_reducible refine below_drewN ?_ _) | (with_reducible refine Below.trans ?_ (Below.mono (by assumption) (by first | omega | (simp; done) | (simp; omega)))))))).mono ?_); rintro e w1 ⟨rfl, hb⟩; obtain ⟨hc, hf, hz⟩ := bcall hb; (try simp at hc hf hz)))
  (go_at_call 29; (refine (RW1.out _ (by (repeat' (first | (with_reducible exact Below.refl _ _) | (with_reducible refine Below.setCell ?_ (by first | omega | (simp; done) | (simp; omega)) _) | (with_reducible refine Below.alloc ?_ (by first | omega | (simp; done) | (simp; omega)) _) | (with_reducible refine Below.drew ?_) | (with_reducible refine below_drewN ?_ _) | (with_reducible refine Below.trans ?_ (Below.mono (by assumption) (by first | omega | (simp; done) | (simp; omega)))))))).mono ?_); rintro e w21 ⟨a21, q21, rfl, N21, hb21⟩)
  have N21 := Lib.hid N21
  obtain ⟨hc21, hf21, hz21⟩ := bcall hb21
  (try simp at hc21 hf21 hz21)
  go_wp2_with fail
  (go_at_call 30; (refine (RW2.out _ (by (repeat' (first | (with_reducible exact Below.refl _ _) | (with_reducible refine Below.setCell ?_ (by first | omega | (simp; done) | (simp; omega)) _) | (with_reducible refine Below.alloc ?_ (by first | omega | (simp; done) | (simp; omega)) _) | (with_reducible refine Below.drew ?_) | (with_reducible refine below_drewN ?_ _) | (with_reducible refine Below.trans ?_ (Below.mono (by assumption) (by first | omega | (simp; done) | (simp; omega)))))))).mono ?_); rintro e w22 ⟨a22, q22, rfl, N22, hb22⟩)
  have N22 := Lib.hid N22
  obtain ⟨hc22, hf22, hz22⟩ := bcall hb22
  (try simp at hc22 hf22 hz22)
  go_wp2_with fail
  (go_at_call 21; (refine (sameInts6_yes a21 a22 rk q21 q22 RK _ hr (N21.out.below (by (repeat' (first | (with_reducible exact Below.refl _ _) | (with_reducible refine Below.setCell ?_ (by first | omega | (simp; done) | (simp; omega)) _) | (with_reducible refine Below.alloc ?_ (by first | omega | (simp; done) | (simp; omega)) _) | (with_reducible refine Below.drew ?_) | (with_reducible refine below_drewN ?_ _) | (with_reducible refine Below.trans ?_ (Below.mono (by assumption) (by first | omega | (simp; done) | (simp; omega)))))))) (N22.out.below (by (repeat' (first | (with_reducible exact Below.refl _ _) | (with_reducible refine Below.setCell ?_ (by first | omega | (simp; done) | (simp; omega)) _) | (with_reducible refine Below.alloc ?_ (by first | omega | (simp; done) | (simp; omega)) _) | (with_reducible refine Below.drew ?_) | (with_reducible refine below_drewN ?_ _) | (with_reducible refine Below.trans ?_ (Below.mono (by assumption) (by first | omega | (simp; done) | (simp; omega))))))))).mono ?_); rintro e w2s ⟨rfl, hb2s⟩)
  obtain ⟨hc2s, hf2s, hz2s⟩ := bcall hb2s
  (try simp at hc2s hf2s hz2s)
  go_wp2_with (first | (go_at_call 31; (with_reducible refine (PA1.out _ (by (repeat' (first | (with_reducible exact Below.refl _ _) | (with_reducible refine Below.setCell ?_ (by first | omega | (simp; done) | (simp; omega)) _) | (with_reducible refine Below.alloc ?_ (by first | omega | (simp; done) | (simp; omega)) _) | (with_reducible refine Below.drew ?_) | (with_reducible refine below_drewN ?_ _) | (with_reducible refine Below.trans ?_ (Below.mono (by assumption) (by first | omega | (simp; done) | (simp; omega)))))))).mono ?_); rintro e w1 ⟨rfl, hb⟩; obtain ⟨hc, hf, hz⟩ := bcall hb; (try simp at hc hf hz)) | (go_at_call 32; (with_reducible refine (PA2.out _ (by (repeat' (first | (with_reducible exact Below.refl _ _) | (with_reducible refine Below.setCell ?_ (by first | omega | (simp; done) | (simp; omega)) _) | (with_reducible refine Below.alloc ?_ (by first | omega | (simp; done) | (simp; omega)) _) | (with_reducible refine Below.drew ?_) | (with_reducible refine below_drewN ?_ _) | (with_reducible refine Below.trans ?_ (Below.mono (by assumption) (by first | omega | (simp; done) | (simp; omega)))))))).mono ?_); rintro e w1 ⟨rfl, hb⟩; obtain ⟨hc, hf, hz⟩ := bcall hb; (try simp at hc hf hz)) | (go_at_call 33; (with_reducible refine (MO.out _ (by (repeat' (first | (with_reducible exact Below.refl _ _) | (with_reducible refine Below.setCell ?_ (by first | omega | (simp; done) | (simp; omega)) _) | (with_reducible refine Below.alloc ?_ (by first | omega | (simp; done) | (simp; omega)) _) | (with_reducible refine Below.drew ?_) | (with_reducible refine below_drewN ?_ _) | (with_reducible refine Below.trans ?_ (Below.mono (by assumption) (by first | omega | (simp; done) | (simp; omega)))))))).mono ?_); rintro e w1 ⟨rfl, hb⟩; obtain ⟨hc, hf, hz⟩ := bcall hb; (try simp at hc hf hz)))
  have u0 : Three w1 w.heap.size 24 (.int .i64 W) (.int .i64 H) (.slice (some ⟨b, off, none⟩) n cap) := t0.below (show Below (w.alloc (.cells #[.int .i64 W, .int .i64 H, .slice (some ⟨b, off, none⟩) n cap] 24)).heap.size (w.alloc (.cells #[.int .i64 W, .int .i64 H, .slice (some ⟨b, off, none⟩) n cap] 24)) w1 by (repeat' (first | (with_reducible exact Below.refl _ _) | (with_reducible refine Below.setCell ?_ (by first | omega | (simp; done) | (simp; omega)) _) | (with_reducible refine Below.alloc ?_ (by first | omega | (simp; done) | (simp; omega)) _) | (with_reducible refine Below.drew ?_) | (with_reducible refine below_drewN ?_ _) | (with_reducible refine Below.trans ?_ (Below.mono (by assumption) (by first | omega | (simp; done) | (simp; omega))))))) t0.lt
  have hbw : Below w.heap.size w w1 := by (repeat' (first | (with_reducible exact Below.refl _ _) | (with_reducible refine Below.setCell ?_ (by first | omega | (simp; done) | (simp; omega)) _) | (with_reducible refine Below.alloc ?_ (by first | omega | (simp; done) | (simp; omega)) _) | (with_reducible refine Below.drew ?_) | (with_reducible refine below_drewN ?_ _) | (with_reducible refine Below.trans ?_ (Below.mono (by assumption) (by first | omega | (simp; done) | (simp; omega))))))
  obtain ⟨wa, hwa⟩ : ∃ wa, wa = w1 := ⟨_, rfl⟩
  subst hwa
  have HBW := Lib.hid hbw
  have U0 := Lib.hid u0
  have s1 := hbw.size
  have l0 := u0.lt
  clear hb hc hf hz t0 hbw u0 hb21 hc21 hf21 hz21 hb22 hc22 hf22 hz22 hb2s hc2s hf2s hz2s N21 N22 PA1 PA2 MO RW1 RW2 CR1 CR2
  go_loopw [27, 30, 31, 32, 33] (fun e i _ _ _ wr => ∃ k : Nat, k ≤ W ∧ i = .int .i64 (k : Int) ∧ e = .int .i64 (sm W D0 - sm k D0) ∧ Below wa.heap.size wa wr) (fun _ i _ _ _ _ => W - (Go.RowKit.intOf i).toNat)
  case atStart => exact ⟨0, Nat.zero_le _, rfl, by simp [sm], Below.refl _ _⟩
  case round =>
    obtain ⟨k, hk, rfl, rfl, hB⟩ := hrel
    have v0 := U0.out.below hB l0
    have g0 := v0.c0
    have g1 := v0.c1
    have g2 := v0.c2
    have kb := K0.out k hk
    have kW := K0.out W (Nat.le_refl _)
    by_cases hlk : k < W
    · have p1' : (k : Int) < (W : Int) := by omega
      have XK := Lib.hid (fun wx (hb : Below w.heap.size w wx) => X0.out k hlk wx hb)
      have hf := HF0.out k hlk
      have hs := S0.out k
      obtain ⟨x, hx⟩ : ∃ x, x = sm W D0 - sm k D0 := ⟨_, rfl⟩
      have HS := Lib.hid (show sm W D0 - sm (k + 1) D0 = x - (F0 k - B0 k) from by rw [hs, hx]; omega)
      obtain ⟨ff, hff⟩ : ∃ x, x = F0 k := ⟨_, rfl⟩
      obtain ⟨bb, hbb⟩ : ∃ x, x = B0 k := ⟨_, rfl⟩
      rw [← hff, ← hbb] at XK hf HS
      rw [← hx]
      have e1 : IntKind.i64.wrap (ff - bb) = ff - bb := IntWalk.i64_in _ ⟨by omega, by omega⟩
      have e2 : IntKind.i64.wrap (x - (ff - bb)) = x - (ff - bb) := IntWalk.i64_in _ ⟨by omega, by omega⟩
      have HBB := Lib.hid hB
      have sB := hB.size
      have hbr := HBW.out.trans (hB.mono s1)
      clear hs hx hff hbb hf kb kW hB v0
      go_wp2_with fail
      (go_at_call 27; (refine (XK.out _ hbr).mono ?_); rintro e w5 ⟨rfl, hb5⟩)
      have HB5 := Lib.hid (HBB.out.trans (hb5.mono sB))
      clear hb5 hbr g0 g1 g2
      go_wp2
      go_roundw
      case rel => exact ⟨k + 1, by omega, by go_num, by rw [HS.out], HB5.out⟩
      case measure => simp [Go.RowKit.intOf]; omega
    · obtain rfl : k = W := by omega
      have h00 : sm k D0 - sm k D0 = 0 := by omega
      rw [h00]
      have sB := hB.size
      have BW := Lib.hid (HBW.out.trans (hB.mono s1))
      have V0 := Lib.hid v0
      have lr := v0.lt
      clear h00 kb kW hB v0
      go_wp2
      obtain ⟨wc, hwc⟩ : ∃ wc, wc = wr := ⟨_, rfl⟩
      subst hwc
      have s2 := BW.out.size
      clear g0 g1 g2
      go_loopw [28, 34, 35, 36, 37] (fun e i _ _ _ wr => ∃ j : Nat, j ≤ H ∧ i = .int .i64 (j : Int) ∧ e = .int .i64 (sm H D1 - sm j D1) ∧ Below wc.heap.size wc wr) (fun _ i _ _ _ _ => H - (Go.RowKit.intOf i).toNat)
      case atStart => exact ⟨0, Nat.zero_le _, rfl, by simp [sm], Below.refl _ _⟩
      case round =>
        obtain ⟨j, hj, rfl, rfl, hB⟩ := hrel
        have v0 := V0.out.below hB lr
        have g0 := v0.c0
        have g1 := v0.c1
        have g2 := v0.c2
        have kb := K1.out j hj
        have kH := K1.out H (Nat.le_refl _)
        by_cases hlj : j < H
        · have p1' : (j : Int) < (H : Int) := by omega
          have XK := Lib.hid (fun wx (hb : Below w.heap.size w wx) => X1.out j hlj wx hb)
          have hf := HF1.out j hlj
          have hs := S1.out j
          obtain ⟨x, hx⟩ : ∃ x, x = sm H D1 - sm j D1 := ⟨_, rfl⟩
          have HS := Lib.hid (show sm H D1 - sm (j + 1) D1 = x - (F1 j - B1 j) from by rw [hs, hx]; omega)
          obtain ⟨ff, hff⟩ : ∃ x, x = F1 j := ⟨_, rfl⟩
          obtain ⟨bb, hbb⟩ : ∃ x, x = B1 j := ⟨_, rfl⟩
          rw [← hff, ← hbb] at XK hf HS
          rw [← hx]
          have e1 : IntKind.i64.wrap (ff - bb) = ff - bb := IntWalk.i64_in _ ⟨by omega, by omega⟩
          have e2 : IntKind.i64.wrap (x - (ff - bb)) = x - (ff - bb) := IntWalk.i64_in _ ⟨by omega, by omega⟩
          have HBB := Lib.hid hB
          have sB := hB.size
          have hbr := BW.out.trans (hB.mono s2)
          clear hs hx hff hbb hf kb kH hB v0
          go_wp2_with fail
          (go_at_call 27; (refine (XK.out _ hbr).mono ?_); rintro e w5 ⟨rfl, hb5⟩)
          have HB5 := Lib.hid (HBB.out.trans (hb5.mono sB))
          clear hb5 hbr g0 g1 g2
          go_wp2
          go_roundw
          case rel => exact ⟨j + 1, by omega, by go_num, by rw [HS.out], HB5.out⟩
          case measure => simp [Go.RowKit.intOf]; omega
        · obtain rfl : j = H := by omega
          have h00 : sm j D1 - sm j D1 = 0 := by omega
          rw [h00]
          have q1 : ¬ (j : Int) < (j : Int) := by omega
          have sB := hB.size
          have BX := Lib.hid (BW.out.trans (hB.mono s2))
          have VX := Lib.hid v0
          have lx := v0.lt
          have sx := BX.out.size
          have oW : Int.tmod (k : Int) 2 = ((k % 2 : Nat) : Int) := by rw [Int.tmod_eq_emod_of_nonneg (by omega)]; push_cast; rfl
          have oH : Int.tmod (j : Int) 2 = ((j % 2 : Nat) : Int) := by rw [Int.tmod_eq_emod_of_nonneg (by omega)]; push_cast; rfl
          have oW2 : (k : Int) % 2 = ((k % 2 : Nat) : Int) := by push_cast; rfl
          have oH2 : (j : Int) % 2 = ((j % 2 : Nat) : Int) := by push_cast; rfl
          have hE := HE.out
          unfold FxEnd at hE
          have m1 := Nat.mod_lt k (show 0 < 2 by omega)
          have m2 := Nat.mod_lt j (show 0 < 2 by omega)
          obtain ⟨ow, how⟩ : ∃ z, z = k % 2 := ⟨_, rfl⟩
          obtain ⟨oh, hoh⟩ : ∃ z, z = j % 2 := ⟨_, rfl⟩
          rw [← how] at oW oW2 hE m1
          rw [← hoh] at oH oH2 hE m2
          have wW : IntKind.i64.wrap (ow : Int) = (ow : Int) := IntWalk.i64_in _ ⟨by omega, by omega⟩
          have wH : IntKind.i64.wrap (oh : Int) = (oh : Int) := IntWalk.i64_in _ ⟨by omega, by omega⟩
          clear h00 kb kH hB v0 how hoh HE
          rcases hE with h1 | ⟨h1, h2⟩ | ⟨⟨h1, h2⟩, er, her, hS⟩ | ⟨⟨h1, h2⟩, hS⟩
          · subst h1
            go_wp2
            go_ret
            exact ⟨by simp, BX.out⟩
          · subst h2
            have i1 : ¬ (ow : Int) = 1 := by omega
            go_wp2
            go_ret
            exact ⟨by simp, BX.out⟩
          · obtain rfl : ow = 0 := by omega
            obtain rfl : oh = 0 := by omega
            have HS := Lib.hid hS
            have d1 : (er != 0) = true := by rcases her with rfl | rfl <;> decide
            have d2 : (er == 0) = false := by rcases her with rfl | rfl <;> decide
            have d3 : ¬ (er = 0) := by rcases her with rfl | rfl <;> decide
            clear hS her
            go_wp2_with fail
            (go_at_call 34; (refine (HS.out _ BX.out).mono ?_); rintro e w5 ⟨rfl, hb5⟩)
            have HB5 := Lib.hid (BX.out.trans (hb5.mono sx))
            have s5 := HB5.out.size
            clear hb5
            go_wp2
            go_ret
            exact ⟨by simp, HB5.out.alloc s5 _⟩
          · obtain rfl : ow = 0 := by omega
            obtain rfl : oh = 0 := by omega
            have HS := Lib.hid hS
            clear hS
            go_wp2_with fail
            (go_at_call 34; (refine (HS.out _ BX.out).mono ?_); rintro e w5 ⟨d, c, rfl, hP, hb5⟩)
            have HB5 := Lib.hid (BX.out.trans (hb5.mono sx))
            have s5 := HB5.out.size
            clear hb5
            go_wp2_with fail
            (go_at_call 31; (refine (hP.out _ ((Below.refl _ _).alloc (Nat.le_refl _) _)).mono ?_); rintro e w6 ⟨rfl, hb6⟩)
            have HB6 := Lib.hid ((HB5.out.alloc s5 (.cells #[.int .i64 ((k : Int)), .int .i64 ((j : Int)), .slice (some ⟨d, 0, none⟩) n c] 24)).trans (hb6.mono (by simp; omega)))
            clear hb6
            go_wp2
            go_ret
            exact ⟨by simp, HB6.out⟩
end Go.Proofs.YtmdeooflgkjbbaaDoor

/- The law FieldCrosses: all cases. -/


namespace Go.Proofs.YtmdeooflgkjbbaaDoor
set_option linter.unusedSimpArgs false
set_option linter.unusedVariables false
open Go.RowKit Go.Shelf

section
variable (W H : Int) (ao : Option Addr) (n cap : Nat) (G : Nat → Nat → Int) (w : World) (hC : CellsIn w ao n G)
include hC
theorem cross_both (ax at_ : Int) : ∃ x y er : Int, (∀ wx, Below w.heap.size w wx → Calls Tryd.prog 27 #[.agg #[.int .i64 W, .int .i64 H, .slice (ao) n cap], .int .i64 ax, .int .i64 at_] wx fun e w' => e = .returned (.tuple #[.int .i64 x, .int .i64 y, .int .i64 er]) ∧ Below wx.heap.size wx w') ∧
    (∀ wx, Below w.heap.size w wx → Calls Tryd.prog 28 #[.agg #[.int .i64 W, .int .i64 H, .slice (ao) n cap], .int .i64 ax, .int .i64 at_] wx fun e w' => e = .returned (.tuple #[.int .i64 x, .int .i64 y, .int .i64 er]) ∧ Below wx.heap.size wx w') ∨ ¬ Acr w := by
  by_cases hA : Acr w
  · by_cases hv : VG W H n G
    · by_cases hk : 0 ≤ ax ∧ ax ≤ 1
      · obtain ⟨W', H', rfl, rfl, s, hG⟩ := Sides.vg hv
        obtain ⟨b, off, rfl, hlt, hGr⟩ := cells_of s hC
        have bel : ∀ wx, Below w.heap.size w wx → b < wx.heap.size ∧ Grd wx b off n G := fun wx hb => ⟨Nat.lt_of_lt_of_le hlt hb.size, hGr.below hb hlt⟩
        obtain ⟨a, rfl⟩ := Int.eq_ofNat_of_zero_le hk.1
        have ha : a < 2 := by omega
        by_cases hat : 0 ≤ at_ ∧ at_ < (lnN a W' H' : Int)
        · obtain ⟨q, rfl⟩ := Int.eq_ofNat_of_zero_le hat.1
          have hq : q < lnN a W' H' := by omega
          refine ⟨_, _, _, .inl ⟨fun wx hb => fcross_in a W' H' n cap b off q G wx s hG (bel wx hb).1 (bel wx hb).2 ha hq (hA.below hb), fun wx hb => ?_⟩⟩
          match a, ha, hq with
          | 0, _, hq =>
            have := rCross_ok0 W' H' n cap b off G wx s hG (bel wx hb).1 (bel wx hb).2 q hq
            rw [crF_all s _ hq, crB_all s _ hq] at this
            exact this
          | 1, _, hq =>
            have := rCross_ok1 W' H' n cap b off G wx s hG (bel wx hb).1 (bel wx hb).2 q hq
            rw [crF_all s _ hq, crB_all s _ hq] at this
            exact this
        · refine ⟨0, 0, 7, .inl ⟨fun wx hb => fCross_at a W' H' n cap b off at_ G wx s hG (bel wx hb).1 (bel wx hb).2 ha hat, fun wx hb => ?_⟩⟩
          match a, ha, hat with
          | 0, _, hat => exact rCross_at0 W' H' n cap b off G wx s hG (bel wx hb).1 (bel wx hb).2 at_ hat
          | 1, _, hat => exact rCross_at1 W' H' n cap b off G wx s hG (bel wx hb).1 (bel wx hb).2 at_ hat
      · exact ⟨0, 0, 7, .inl ⟨fun wx hb => fCross_rng W H ao n cap G ax at_ wx (hC.below hb) hv hk, fun wx hb => rCross_rng W H ao n cap G ax at_ wx (hC.below hb) hv hk⟩⟩
    · exact ⟨0, 0, 1, .inl ⟨fun wx hb => fCross_bad W H ao n cap G ax at_ wx (hC.below hb) hv, fun wx hb => rCross_bad W H ao n cap G ax at_ wx (hC.below hb) hv⟩⟩
  · exact ⟨0, 0, 0, .inr hA⟩
end
/-- How it ends for a valid grid. -/
theorem fx_end (W H n cap len rc b off : Nat) (G : Nat → Nat → Int) (ro : Option Addr) (R : Nat → Int × Int) (t : Int) (w : World) (s : Sides W H n) (hO : OkG n G) (lb : b < w.heap.size) (hG : Grd w b off n G) (hm : len ≤ 1000000000000) (hR : RulesIn w ro len R) :
    FxEnd W H n cap len rc b off ro t (evS W (msC G) n) (odS W (msC G) n) w := by
  have hC : CellsIn w (some ⟨b, off, none⟩) n G := .inr ⟨b, off, rfl, lb, hG⟩
  have hv := vg_of s hO
  unfold FxEnd
  by_cases h1 : W % 2 = 1
  · exact .inl h1
  · by_cases h2 : H % 2 = 1
    · exact .inr (.inl ⟨h1, h2⟩)
    · by_cases hk : OkRs len R
      · by_cases ht : 0 ≤ t ∧ t ≤ 1000000
        · obtain ⟨k, rfl⟩ := Int.eq_ofNat_of_zero_le ht.1
          refine .inr (.inr (.inr ⟨⟨h1, h2⟩, fun wx hb => ?_⟩))
          refine (gStep_ok W H n cap (some ⟨b, off, none⟩) G ro len rc R k wx s hO (hC.below hb) (hR.below hb) hk (by omega)).mono ?_
          rintro e w' ⟨d, c, rfl, hK, hd, hb'⟩
          refine ⟨d, c, rfl, Lib.hid fun wy hy => ?_, hb'⟩
          have hn0 : n ≠ 0 := by
            have := Nat.mul_le_mul s.w0 s.h0
            rw [← s.n0] at this
            omega
          rcases hK with h0 | ⟨d', o, e, hlt, hKr⟩
          · exact absurd h0 hn0
          · cases e
            have hp := fPar_ok W H n c d 0 (fwd W H len R k G) wy s (okG_fwd s.n0 hO) (Nat.lt_of_lt_of_le hlt hy.size) (hKr.below hy hlt)
            have e1 : evS W (msC (fwd W H len R k G)) n = odS W (msC G) n := evS_fwd s.n0 (by omega) (by omega)
            have e2 : odS W (msC (fwd W H len R k G)) n = evS W (msC G) n := by
              have a1 := evS_odS W (msC (fwd W H len R k G)) n
              have a2 := evS_odS W (msC G) n
              rw [sm_ms_fwd s.n0] at a1
              omega
            rw [e1, e2] at hp
            exact hp
        · exact .inr (.inr (.inl ⟨⟨h1, h2⟩, 7, .inr rfl, fun wx hb => gStep_range W H n cap (some ⟨b, off, none⟩) G ro len rc R t wx hv (hC.below hb) hm (hR.below hb) hk ht⟩))
      · exact .inr (.inr (.inl ⟨⟨h1, h2⟩, 1, .inl rfl, fun wx hb => gStep_inv W H n cap (some ⟨b, off, none⟩) G ro len rc R t wx (hC.below hb) hm (hR.below hb) (fun h => hk h.2)⟩))

theorem fieldCrosses_any (W H : Int) (ao : Option Addr) (n cap : Nat) (G : Nat → Nat → Int) (ax at_ : Int) (ro : Option Addr) (len rc : Nat) (R : Nat → Int × Int) (t : Int) (w : World) (hMA : Mvs w ∧ Acr w)
    (_ : Wf W) (_ : Wf H) (_ : n ≤ cap) (_ : cap ≤ maxLen) (hC : CellsIn w ao n G) (_ : Wf ax) (_ : Wf at_) (_ : len ≤ rc) (_ : rc ≤ maxLen) (hR : RulesIn w ro len R) (_ : Wf t) :
    Calls Tryd.prog 5 #[.agg #[.int .i64 W, .int .i64 H, .slice (ao) n cap], .int .i64 ax, .int .i64 at_, .slice ro len rc, .int .i64 t] w fun e w' => e = .returned (.bool true) ∧ Below w.heap.size w w' := by
  obtain ⟨hM, hA⟩ := hMA
  obtain ⟨bb, hbb, BG⟩ := fbig_any W H ao n cap w
  cases bb with
  | true => exact fx_big W H ax at_ t ao ro n cap len rc w hM BG
  | false =>
    by_cases hl : len ≤ 20
    · obtain ⟨c1, c2, c3, hcr⟩ := cross_both W H ao n cap G w hC ax at_
      obtain ⟨CR1, CR2⟩ := hcr.resolve_right (fun h => h hA)
      by_cases hv : VG W H n G
      · obtain ⟨W', H', rfl, rfl, s, hG⟩ := Sides.vg hv
        obtain ⟨b, off, rfl, hlt, hGr⟩ := cells_of s hC
        have bel : ∀ wx, Below w.heap.size w wx → b < wx.heap.size ∧ Grd wx b off n G := fun wx hb => ⟨Nat.lt_of_lt_of_le hlt hb.size, hGr.below hb hlt⟩
        have hp : ∀ d, d < 4 → ∀ q, q < n → -1000000000 ≤ G q d ∧ G q d ≤ 1000000000 := fun d hd q hq => by
          obtain ⟨a0, a1, a2, a3, a4⟩ := hG.1 q hq
          match d, hd with
          | 0, _ => omega
          | 1, _ => omega
          | 2, _ => omega
          | 3, _ => omega
        have hH0 := s.h0
        have hn := s.n0
        have lb := fun (a d i : Nat) (hd : d < 4) (hi : i < lnN a W' H') => lnS_bd (a := a) (tv := fun q => G q d) s.n0 s.w1 s.h1 (hp d hd) hi
        refine fx_ok W' H' b off ax at_ t ro n cap len rc w hM BG hl s.w1 s.h1 c1 c2 c3 0 (evS W' (msC G) n) (odS W' (msC G) n) H' (lnS 1 W' H' (eaC G)) (by have := s.h1; omega) CR1 CR2
          (fun wx hb => (frow_in W' H' n cap b off G wx s hG (bel wx hb).1 (bel wx hb).2).mono fun e w' h => gaveI_of hH0 h)
          (fun wx hb => (rRows_ok W' H' n cap b off G wx s hG (bel wx hb).1 (bel wx hb).2).mono fun e w' h => gaveI_of hH0 h)
          (fun wx hb => fPar_ok W' H' n cap b off G wx s hG (bel wx hb).1 (bel wx hb).2)
          (fun wx hb => rPar_ok W' H' n cap b off G wx s hG (bel wx hb).1 (bel wx hb).2)
          (fun i => lnS 0 W' H' (fun q => G q 0) (prv W' i)) (fun i => lnS 0 W' H' (fun q => G q 2) i) (fun i => lnS 1 W' H' (fun q => G q 1) (prv H' i)) (fun i => lnS 1 W' H' (fun q => G q 3) i)
          (fun i hi => ⟨lb 0 0 _ (by omega) (prv_lt hi), lb 0 2 _ (by omega) hi⟩) (fun i hi => ⟨lb 1 1 _ (by omega) (prv_lt hi), lb 1 3 _ (by omega) hi⟩)
          (fun i hi wx hb => fcross_in 0 W' H' n cap b off i G wx s hG (bel wx hb).1 (bel wx hb).2 (by omega) hi (hA.below hb))
          (fun i hi wx hb => fcross_in 1 W' H' n cap b off i G wx s hG (bel wx hb).1 (bel wx hb).2 (by omega) hi (hA.below hb))
          (fun wx hb => ?_)
          (fx_end W' H' n cap len rc b off G ro R t w s hG hlt hGr (by omega) hR)
        have hm := gMomentum_ok W' H' (some ⟨b, off, none⟩) n cap G wx hv (hC.below hb)
        have e0 := crD_sum 0 W' H' G
        have e1 := crD_sum 1 W' H' G
        rw [← hn] at e0 e1
        rw [imE_sm, imN_sm] at hm
        rw [← e0, ← e1] at hm
        exact hm
      · exact fx_err W H ax at_ t ao ro n cap len rc w hM BG hl c1 c2 c3 1 0 0 1 0 (fun _ => 0) (Nat.zero_le _) CR1 CR2
          (fun wx hb => (fRows_bad W H ao n cap G wx (hC.below hb) hv).mono fun e w' h => gaveI_nil h) (fun wx hb => (rRows_bad W H ao n cap G wx (hC.below hb) hv).mono fun e w' h => gaveI_nil h)
          (fun wx hb => fPar_bad W H ao n cap G wx (hC.below hb) hv) (fun wx hb => rParity_bad W H ao n cap G wx (hC.below hb) hv) rfl
    · exact fx_long W H ax at_ t ao ro n cap len rc w hM BG (by omega)
end Go.Proofs.YtmdeooflgkjbbaaDoor
