/- The door: a world in which the moves lie as they are laid. -/
import Derived.Test.YtmdeooflgkjbbaaDoorKFNext
import Derived.Stop.Joined
import Derived.JoinedOf
import Derived.Test.YtmdeooflgkjbbaaDoorKFAwkL
import Derived.Test.YtmdeooflgkjbbaaDoorKFPicB
import Derived.BigQuiet
import Derived.Test.YtmdeooflgkjbbaaDoorKEnds
import Derived.Test.YtmdeooflgkjbbaaDoorTie
import Derived.Test.YtmdeooflgkjbbaaDoorCards
import Derived.SevenTiedAt
namespace Go.Proofs.YtmdeooflgkjbbaaDoor
set_option linter.unusedSimpArgs false
set_option linter.unusedVariables false
open Go.ChangeShapes Go.WideShapes Go.ChangeAt Go.RowKit Go.Joins
set_option maxRecDepth 100000

theorem door_metM (os : Os) (args : Array Value) (gs : Tryd.prog.globalNamed "slipstream/field.moves" = some 1) : laidMetH Tryd.prog [("slipstream/field.moves", Rows.laid_slipstream_field_moves)] ((World.doorLaid Tryd.prog 400 os).forCall (fun _ _ => 0) ⟨#[], args, []⟩).memory :=
  laidMetH_of_parts3 (fuel := 8) (laidMet_of_run' 8 (by kernel_rfl) (by kernel_rfl)) (by kernel_rfl) (by kernel_rfl)
theorem tab_M {W : World} (h : laidMetH Tryd.prog [("slipstream/field.moves", Rows.laid_slipstream_field_moves)] W) : Mvs W := mvs_of h
end Go.Proofs.YtmdeooflgkjbbaaDoor

/- The law FieldSpreads: its walk. -/




namespace Go.Proofs.YtmdeooflgkjbbaaDoor
set_option linter.unusedSimpArgs false
set_option linter.unusedVariables false
open Go.RowKit Go.Shelf
attribute [local go_sem] Oper.semAt_some

set_option maxRecDepth 100000 in
set_option maxHeartbeats 16000000 in
theorem fp_big (W H : Int) (ao : Option Addr) (n cap : Nat) (w : World) (hM : Mvs w) (BG : ∀ wx, Calls Tryd.prog 10 #[.agg #[.int .i64 W, .int .i64 H, .slice (ao) n cap]] wx fun e w' => e = .returned (.bool true) ∧ Below wx.heap.size wx w') :
    Calls Tryd.prog 6 #[.agg #[.int .i64 W, .int .i64 H, .slice (ao) n cap]] w fun e w' => e = .returned (.bool true) ∧ Below w.heap.size w w' := by
  have HM := Lib.hid hM
  have BG := Lib.hid BG
  clear hM
  go_enter Tryd.func6, Tryd.ntmps6
  go_wp2_with (first | (go_at_call 9; (with_reducible refine (awake08_any _ (HM.out.below (by (repeat' (first | (with_reducible exact Below.refl _ _) | (with_reducible refine Below.setCell ?_ (by first | omega | (simp; done) | (simp; omega)) _) | (with_reducible refine Below.alloc ?_ (by first | omega | (simp; done) | (simp; omega)) _) | (with_reducible refine Below.drew ?_) | (with_reducible refine below_drewN ?_ _) | (with_reducible refine Below.trans ?_ (Below.mono (by assumption) (by first | omega | (simp; done) | (simp; omega))))))))).mono ?_); rintro e w1 ⟨rfl, hb⟩; obtain ⟨hc, hf, hz⟩ := bcall hb; (try simp at hc hf hz)) | (go_at_call 10; (with_reducible refine (BG.out _).mono ?_); rintro e w1 ⟨rfl, hb⟩; obtain ⟨hc, hf, hz⟩ := bcall hb; (try simp at hc hf hz)))
  go_ret
  refine ⟨by simp, ?_⟩
  (repeat' (first | (with_reducible exact Below.refl _ _) | (with_reducible refine Below.setCell ?_ (by first | omega | (simp; done) | (simp; omega)) _) | (with_reducible refine Below.alloc ?_ (by first | omega | (simp; done) | (simp; omega)) _) | (with_reducible refine Below.drew ?_) | (with_reducible refine below_drewN ?_ _) | (with_reducible refine Below.trans ?_ (Below.mono (by assumption) (by first | omega | (simp; done) | (simp; omega))))))
section
variable (W H : Int) (ao : Option Addr) (n cap : Nat) (x y : Int) (tx : ByteArray) (w : World) (hM : Mvs w)
    (BG : ∀ wx, Calls Tryd.prog 10 #[.agg #[.int .i64 W, .int .i64 H, .slice (ao) n cap]] wx fun e w' => e = .returned (.bool false) ∧ Below wx.heap.size wx w')
    (SP1 : ∀ wx, Below w.heap.size w wx → Calls Tryd.prog 35 #[.agg #[.int .i64 W, .int .i64 H, .slice (ao) n cap]] wx fun e w' => e = .returned (.tuple #[.agg #[.int .i64 x, .int .i64 y], .int .i64 1]) ∧ Below wx.heap.size wx w')
    (SP2 : ∀ wx, Below w.heap.size w wx → Calls Tryd.prog 36 #[.agg #[.int .i64 W, .int .i64 H, .slice (ao) n cap]] wx fun e w' => e = .returned (.tuple #[.agg #[.int .i64 x, .int .i64 y], .int .i64 1]) ∧ Below wx.heap.size wx w')
    (PC1 : ∀ wx, Below w.heap.size w wx → Calls Tryd.prog 37 #[.agg #[.int .i64 W, .int .i64 H, .slice (ao) n cap]] wx fun e w' => e = .returned (.string tx) ∧ Below wx.heap.size wx w')
    (PC2 : ∀ wx, Below w.heap.size w wx → Calls Tryd.prog 38 #[.agg #[.int .i64 W, .int .i64 H, .slice (ao) n cap]] wx fun e w' => e = .returned (.string tx) ∧ Below wx.heap.size wx w')
include hM BG SP1 SP2 PC1 PC2
set_option maxRecDepth 100000 in
set_option maxHeartbeats 32000000 in
theorem fp_err :
    Calls Tryd.prog 6 #[.agg #[.int .i64 W, .int .i64 H, .slice (ao) n cap]] w fun e w' => e = .returned (.bool true) ∧ Below w.heap.size w w' := by
  have HM := Lib.hid hM
  have BG := Lib.hid BG
  have SP1 := Lib.hid SP1
  have SP2 := Lib.hid SP2
  have PC1 := Lib.hid PC1
  have PC2 := Lib.hid PC2
  clear hM
  have t0 := Three.new0 w 24 (.int .i64 W) (.int .i64 H) (.slice ao n cap)
  go_enter Tryd.func6, Tryd.ntmps6
  go_wp2_with (first | (go_at_call 9; (with_reducible refine (awake08_any _ (HM.out.below (by (repeat' (first | (with_reducible exact Below.refl _ _) | (with_reducible refine Below.setCell ?_ (by first | omega | (simp; done) | (simp; omega)) _) | (with_reducible refine Below.alloc ?_ (by first | omega | (simp; done) | (simp; omega)) _) | (with_reducible refine Below.drew ?_) | (with_reducible refine below_drewN ?_ _) | (with_reducible refine Below.trans ?_ (Below.mono (by assumption) (by first | omega | (simp; done) | (simp; omega))))))))).mono ?_); rintro e w1 ⟨rfl, hb⟩; obtain ⟨hc, hf, hz⟩ := bcall hb; (try simp at hc hf hz)) | (go_at_call 10; (with_reducible refine (BG.out _).mono ?_); rintro e w1 ⟨rfl, hb⟩; obtain ⟨hc, hf, hz⟩ := bcall hb; (try simp at hc hf hz)) | (go_at_call 35; (with_reducible refine (SP1.out _ (by (repeat' (first | (with_reducible exact Below.refl _ _) | (with_reducible refine Below.setCell ?_ (by first | omega | (simp; done) | (simp; omega)) _) | (with_reducible refine Below.alloc ?_ (by first | omega | (simp; done) | (simp; omega)) _) | (with_reducible refine Below.drew ?_) | (with_reducible refine below_drewN ?_ _) | (with_reducible refine Below.trans ?_ (Below.mono (by assumption) (by first | omega | (simp; done) | (simp; omega)))))))).mono ?_); rintro e w1 ⟨rfl, hb⟩; obtain ⟨hc, hf, hz⟩ := bcall hb; (try simp at hc hf hz)))
  have u0 : Three w1 w.heap.size 24 (.int .i64 W) (.int .i64 H) (.slice ao n cap) := t0.below (show Below (w.alloc (.cells #[.int .i64 W, .int .i64 H, .slice ao n cap] 24)).heap.size (w.alloc (.cells #[.int .i64 W, .int .i64 H, .slice ao n cap] 24)) w1 by (repeat' (first | (with_reducible exact Below.refl _ _) | (with_reducible refine Below.setCell ?_ (by first | omega | (simp; done) | (simp; omega)) _) | (with_reducible refine Below.alloc ?_ (by first | omega | (simp; done) | (simp; omega)) _) | (with_reducible refine Below.drew ?_) | (with_reducible refine below_drewN ?_ _) | (with_reducible refine Below.trans ?_ (Below.mono (by assumption) (by first | omega | (simp; done) | (simp; omega))))))) t0.lt
  have hbw : Below w.heap.size w w1 := by (repeat' (first | (with_reducible exact Below.refl _ _) | (with_reducible refine Below.setCell ?_ (by first | omega | (simp; done) | (simp; omega)) _) | (with_reducible refine Below.alloc ?_ (by first | omega | (simp; done) | (simp; omega)) _) | (with_reducible refine Below.drew ?_) | (with_reducible refine below_drewN ?_ _) | (with_reducible refine Below.trans ?_ (Below.mono (by assumption) (by first | omega | (simp; done) | (simp; omega))))))
  have l0 := u0.lt
  have v3 := Two.new w1 33 (.int .i64 x) (.int .i64 y)
  have b3 : Below w1.heap.size w1 (w1.alloc (.cells #[.int .i64 x, .int .i64 y] 33)) := (Below.refl _ _).alloc (Nat.le_refl _) _
  obtain ⟨Z3, hZ3⟩ : ∃ Z, Z = w1.alloc (.cells #[.int .i64 x, .int .i64 y] 33) := ⟨_, rfl⟩
  rw [← hZ3] at v3 b3 ⊢
  have hbw := hbw.trans (b3.mono hbw.size)
  have u0 := u0.below b3 l0
  obtain ⟨P3, hP3⟩ : ∃ P, P = w1.heap.size := ⟨_, rfl⟩
  rw [← hP3] at v3 ⊢
  have hP0 : w.heap.size < P3 := by omega
  clear hZ3 hP3 b3 hb hc hf hz t0
  (go_at_call 36; (refine (SP2.out _ hbw).mono ?_); rintro e w4 ⟨rfl, hb4⟩)
  have v3 := v3.below hb4 v3.lt
  have u0 := u0.below hb4 u0.lt
  have hbw := hbw.trans (hb4.mono hbw.size)
  have g0 := u0.c0
  have g1 := u0.c1
  have g2 := u0.c2
  have l0 := u0.lt
  have l3 := v3.lt
  have sz4 := hbw.size
  clear hb4
  have v5 := Two.new w4 33 (.int .i64 x) (.int .i64 y)
  have b5 : Below w4.heap.size w4 (w4.alloc (.cells #[.int .i64 x, .int .i64 y] 33)) := (Below.refl _ _).alloc (Nat.le_refl _) _
  have hP5 : P3 < w4.heap.size := l3
  go_wp2_with fail
  obtain ⟨Z5, hZ5⟩ : ∃ Z, Z = w4.alloc (.cells #[.int .i64 x, .int .i64 y] 33) := ⟨_, rfl⟩
  rw [← hZ5] at v5 b5 ⊢
  have hbw := hbw.trans (b5.mono hbw.size)
  have u0 := u0.below b5 l0
  have v3 := v3.below b5 l3
  obtain ⟨P5, hP5e⟩ : ∃ P, P = w4.heap.size := ⟨_, rfl⟩
  rw [← hP5e] at v5 hP5 ⊢
  have g0 := u0.c0
  have g1 := u0.c1
  have g2 := u0.c2
  have m0 := v3.c0
  have m1 := v3.c1
  have o0 := v5.c0
  have o1 := v5.c1
  have l0 := u0.lt
  have l3 := v3.lt
  have l5 := v5.lt
  have sz5 := hbw.size
  have U0 := Lib.hid u0
  have V3 := Lib.hid v3
  clear hZ5 hP5e b5 u0 v3 v5
  go_region_held3 (fun w' => w'.cell? ⟨w.heap.size, 0, none⟩ = some (.int .i64 W) ∧ w'.cell? ⟨w.heap.size, 1, none⟩ = some (.int .i64 H) ∧ w'.cell? ⟨w.heap.size, 2, none⟩ = some (.slice ao n cap) ∧ w'.cell? ⟨P3, 0, none⟩ = some (.int .i64 x) ∧ w'.cell? ⟨P3, 1, none⟩ = some (.int .i64 y) ∧ w'.cell? ⟨P5, 0, none⟩ = some (.int .i64 x) ∧ w'.cell? ⟨P5, 1, none⟩ = some (.int .i64 y)) (first | (go_split_ands; (try dsimp only); refine ⟨?_, ?_, ?_, ?_, ?_, ?_, ?_⟩ <;> (first | (with_reducible assumption) | (with_reducible exact keep_cell (by assumption) (by first | omega | (simp; done) | (simp; omega)) (by assumption)) | (with_reducible exact (World.cell?_alloc_past _ _ _ (by show _ < _; omega)).trans (by assumption)) | (with_reducible exact (World.cell?_alloc_past _ _ _ (by show _ < _; omega)).trans ((World.cell?_alloc_past _ _ _ (by show _ < _; omega)).symm.trans (by assumption))) | (simp [go_sem]; with_reducible assumption))) | (simp [go_sem, ↓IntWalk.iteOmega, *]; done)) ((first | ((go_at_call 37; (with_reducible refine (PC1.out _ (by (repeat' (first | (with_reducible exact Below.refl _ _) | (with_reducible refine Below.setCell ?_ (by first | omega | (simp; done) | (simp; omega)) _) | (with_reducible refine Below.alloc ?_ (by first | omega | (simp; done) | (simp; omega)) _) | (with_reducible refine Below.drew ?_) | (with_reducible refine below_drewN ?_ _) | (with_reducible refine Below.trans ?_ (Below.mono (by assumption) (by first | omega | (simp; done) | (simp; omega)))))))).mono ?_); rintro e w1 ⟨rfl, hb⟩; obtain ⟨hc, hf, hz⟩ := bcall hb; (try simp at hc hf hz)); have hl6 : P5 < w1.heap.size := by omega) | ((go_at_call 38; (with_reducible refine (PC2.out _ (by (repeat' (first | (with_reducible exact Below.refl _ _) | (with_reducible refine Below.setCell ?_ (by first | omega | (simp; done) | (simp; omega)) _) | (with_reducible refine Below.alloc ?_ (by first | omega | (simp; done) | (simp; omega)) _) | (with_reducible refine Below.drew ?_) | (with_reducible refine below_drewN ?_ _) | (with_reducible refine Below.trans ?_ (Below.mono (by assumption) (by first | omega | (simp; done) | (simp; omega)))))))).mono ?_); rintro e w1 ⟨rfl, hb⟩; obtain ⟨hc, hf, hz⟩ := bcall hb; (try simp at hc hf hz)); have hl6 : P5 < w1.heap.size := by omega)))
  have hB6 : Below w.heap.size w w1 := hbw.trans ((show Below Z5.heap.size Z5 w1 by (repeat' (first | (with_reducible exact Below.refl _ _) | (with_reducible refine Below.setCell ?_ (by first | omega | (simp; done) | (simp; omega)) _) | (with_reducible refine Below.alloc ?_ (by first | omega | (simp; done) | (simp; omega)) _) | (with_reducible refine Below.drew ?_) | (with_reducible refine below_drewN ?_ _) | (with_reducible refine Below.trans ?_ (Below.mono (by assumption) (by first | omega | (simp; done) | (simp; omega))))))).mono hbw.size)
  go_wp2
  go_ret
  exact ⟨by simp, hB6⟩
end
/-- Whether the first k cells have one mass. -/
def smU (G : Nat → Nat → Int) : Nat → Bool
  | 0 => true
  | k + 1 => smU G k && decide (msC G k = msC G 0)
section
variable (W H : Int) (b off n cap : Nat) (x y : Int) (tx : ByteArray) (w : World) (hM : Mvs w)
    (BG : ∀ wx, Calls Tryd.prog 10 #[.agg #[.int .i64 W, .int .i64 H, .slice (some ⟨b, off, none⟩) n cap]] wx fun e w' => e = .returned (.bool false) ∧ Below wx.heap.size wx w')
    (SP1 : ∀ wx, Below w.heap.size w wx → Calls Tryd.prog 35 #[.agg #[.int .i64 W, .int .i64 H, .slice (some ⟨b, off, none⟩) n cap]] wx fun e w' => e = .returned (.tuple #[.agg #[.int .i64 x, .int .i64 y], .int .i64 0]) ∧ Below wx.heap.size wx w')
    (SP2 : ∀ wx, Below w.heap.size w wx → Calls Tryd.prog 36 #[.agg #[.int .i64 W, .int .i64 H, .slice (some ⟨b, off, none⟩) n cap]] wx fun e w' => e = .returned (.tuple #[.agg #[.int .i64 x, .int .i64 y], .int .i64 0]) ∧ Below wx.heap.size wx w')
    (PC1 : ∀ wx, Below w.heap.size w wx → Calls Tryd.prog 37 #[.agg #[.int .i64 W, .int .i64 H, .slice (some ⟨b, off, none⟩) n cap]] wx fun e w' => e = .returned (.string tx) ∧ Below wx.heap.size wx w')
    (PC2 : ∀ wx, Below w.heap.size w wx → Calls Tryd.prog 38 #[.agg #[.int .i64 W, .int .i64 H, .slice (some ⟨b, off, none⟩) n cap]] wx fun e w' => e = .returned (.string tx) ∧ Below wx.heap.size wx w')
    (G : Nat → Nat → Int) (n1 : 1 ≤ n) (n2 : n ≤ 1000000) (hO : OkG n G) (lb : b < w.heap.size) (hG : Grd w b off n G)
    (hT : smU G n = true → x = 0 ∧ y = 1) (hF : smU G n = false → ¬ x = 0)
include hM BG SP1 SP2 PC1 PC2 n1 n2 hO lb hG hT hF
set_option maxRecDepth 100000 in
set_option maxHeartbeats 32000000 in
theorem fp_ok :
    Calls Tryd.prog 6 #[.agg #[.int .i64 W, .int .i64 H, .slice (some ⟨b, off, none⟩) n cap]] w fun e w' => e = .returned (.bool true) ∧ Below w.heap.size w w' := by
  have HM := Lib.hid hM
  have BG := Lib.hid BG
  have SP1 := Lib.hid SP1
  have SP2 := Lib.hid SP2
  have PC1 := Lib.hid PC1
  have PC2 := Lib.hid PC2
  clear hM
  have HT := Lib.hid hT
  have HF := Lib.hid hF
  have HO := Lib.hid hO
  have HG := Lib.hid hG
  clear hT hF hO hG
  have t0 := Three.new0 w 24 (.int .i64 W) (.int .i64 H) (.slice (some ⟨b, off, none⟩) n cap)
  go_enter Tryd.func6, Tryd.ntmps6
  go_wp2_with (first | (go_at_call 9; (with_reducible refine (awake08_any _ (HM.out.below (by (repeat' (first | (with_reducible exact Below.refl _ _) | (with_reducible refine Below.setCell ?_ (by first | omega | (simp; done) | (simp; omega)) _) | (with_reducible refine Below.alloc ?_ (by first | omega | (simp; done) | (simp; omega)) _) | (with_reducible refine Below.drew ?_) | (with_reducible refine below_drewN ?_ _) | (with_reducible refine Below.trans ?_ (Below.mono (by assumption) (by first | omega | (simp; done) | (simp; omega))))))))).mono ?_); rintro e w1 ⟨rfl, hb⟩; obtain ⟨hc, hf, hz⟩ := bcall hb; (try simp at hc hf hz)) | (go_at_call 10; (with_reducible refine (BG.out _).mono ?_); rintro e w1 ⟨rfl, hb⟩; obtain ⟨hc, hf, hz⟩ := bcall hb; (try simp at hc hf hz)) | (go_at_call 35; (with_reducible refine (SP1.out _ (by (repeat' (first | (with_reducible exact Below.refl _ _) | (with_reducible refine Below.setCell ?_ (by first | omega | (simp; done) | (simp; omega)) _) | (with_reducible refine Below.alloc ?_ (by first | omega | (simp; done) | (simp; omega)) _) | (with_reducible refine Below.drew ?_) | (with_reducible refine below_drewN ?_ _) | (with_reducible refine Below.trans ?_ (Below.mono (by assumption) (by first | omega | (simp; done) | (simp; omega)))))))).mono ?_); rintro e w1 ⟨rfl, hb⟩; obtain ⟨hc, hf, hz⟩ := bcall hb; (try simp at hc hf hz)))
  have u0 : Three w1 w.heap.size 24 (.int .i64 W) (.int .i64 H) (.slice (some ⟨b, off, none⟩) n cap) := t0.below (show Below (w.alloc (.cells #[.int .i64 W, .int .i64 H, .slice (some ⟨b, off, none⟩) n cap] 24)).heap.size (w.alloc (.cells #[.int .i64 W, .int .i64 H, .slice (some ⟨b, off, none⟩) n cap] 24)) w1 by (repeat' (first | (with_reducible exact Below.refl _ _) | (with_reducible refine Below.setCell ?_ (by first | omega | (simp; done) | (simp; omega)) _) | (with_reducible refine Below.alloc ?_ (by first | omega | (simp; done) | (simp; omega)) _) | (with_reducible refine Below.drew ?_) | (with_reducible refine below_drewN ?_ _) | (with_reducible refine Below.trans ?_ (Below.mono (by assumption) (by first | omega | (simp; done) | (simp; omega))))))) t0.lt
  have hbw : Below w.heap.size w w1 := by (repeat' (first | (with_reducible exact Below.refl _ _) | (with_reducible refine Below.setCell ?_ (by first | omega | (simp; done) | (simp; omega)) _) | (with_reducible refine Below.alloc ?_ (by first | omega | (simp; done) | (simp; omega)) _) | (with_reducible refine Below.drew ?_) | (with_reducible refine below_drewN ?_ _) | (with_reducible refine Below.trans ?_ (Below.mono (by assumption) (by first | omega | (simp; done) | (simp; omega))))))
  have l0 := u0.lt
  have v3 := Two.new w1 33 (.int .i64 x) (.int .i64 y)
  have b3 : Below w1.heap.size w1 (w1.alloc (.cells #[.int .i64 x, .int .i64 y] 33)) := (Below.refl _ _).alloc (Nat.le_refl _) _
  obtain ⟨Z3, hZ3⟩ : ∃ Z, Z = w1.alloc (.cells #[.int .i64 x, .int .i64 y] 33) := ⟨_, rfl⟩
  rw [← hZ3] at v3 b3 ⊢
  have hbw := hbw.trans (b3.mono hbw.size)
  have u0 := u0.below b3 l0
  obtain ⟨P3, hP3⟩ : ∃ P, P = w1.heap.size := ⟨_, rfl⟩
  rw [← hP3] at v3 ⊢
  have hP0 : w.heap.size < P3 := by omega
  clear hZ3 hP3 b3 hb hc hf hz t0
  (go_at_call 36; (refine (SP2.out _ hbw).mono ?_); rintro e w4 ⟨rfl, hb4⟩)
  have v3 := v3.below hb4 v3.lt
  have u0 := u0.below hb4 u0.lt
  have hbw := hbw.trans (hb4.mono hbw.size)
  have g0 := u0.c0
  have g1 := u0.c1
  have g2 := u0.c2
  have l0 := u0.lt
  have l3 := v3.lt
  have sz4 := hbw.size
  clear hb4
  have v5 := Two.new w4 33 (.int .i64 x) (.int .i64 y)
  have b5 : Below w4.heap.size w4 (w4.alloc (.cells #[.int .i64 x, .int .i64 y] 33)) := (Below.refl _ _).alloc (Nat.le_refl _) _
  have hP5 : P3 < w4.heap.size := l3
  go_wp2_with fail
  obtain ⟨Z5, hZ5⟩ : ∃ Z, Z = w4.alloc (.cells #[.int .i64 x, .int .i64 y] 33) := ⟨_, rfl⟩
  rw [← hZ5] at v5 b5 ⊢
  have hbw := hbw.trans (b5.mono hbw.size)
  have u0 := u0.below b5 l0
  have v3 := v3.below b5 l3
  obtain ⟨P5, hP5e⟩ : ∃ P, P = w4.heap.size := ⟨_, rfl⟩
  rw [← hP5e] at v5 hP5 ⊢
  have g0 := u0.c0
  have g1 := u0.c1
  have g2 := u0.c2
  have m0 := v3.c0
  have m1 := v3.c1
  have o0 := v5.c0
  have o1 := v5.c1
  have l0 := u0.lt
  have l3 := v3.lt
  have l5 := v5.lt
  have sz5 := hbw.size
  have U0 := Lib.hid u0
  have V3 := Lib.hid v3
  clear hZ5 hP5e b5 u0 v3 v5
  go_region_held3 (fun w' => w'.cell? ⟨w.heap.size, 0, none⟩ = some (.int .i64 W) ∧ w'.cell? ⟨w.heap.size, 1, none⟩ = some (.int .i64 H) ∧ w'.cell? ⟨w.heap.size, 2, none⟩ = some (.slice (some ⟨b, off, none⟩) n cap) ∧ w'.cell? ⟨P3, 0, none⟩ = some (.int .i64 x) ∧ w'.cell? ⟨P3, 1, none⟩ = some (.int .i64 y) ∧ w'.cell? ⟨P5, 0, none⟩ = some (.int .i64 x) ∧ w'.cell? ⟨P5, 1, none⟩ = some (.int .i64 y)) (first | (go_split_ands; (try dsimp only); refine ⟨?_, ?_, ?_, ?_, ?_, ?_, ?_⟩ <;> (first | (with_reducible assumption) | (with_reducible exact keep_cell (by assumption) (by first | omega | (simp; done) | (simp; omega)) (by assumption)) | (with_reducible exact (World.cell?_alloc_past _ _ _ (by show _ < _; omega)).trans (by assumption)) | (with_reducible exact (World.cell?_alloc_past _ _ _ (by show _ < _; omega)).trans ((World.cell?_alloc_past _ _ _ (by show _ < _; omega)).symm.trans (by assumption))) | (simp [go_sem]; with_reducible assumption))) | (simp [go_sem, ↓IntWalk.iteOmega, *]; done)) ((first | ((go_at_call 37; (with_reducible refine (PC1.out _ (by (repeat' (first | (with_reducible exact Below.refl _ _) | (with_reducible refine Below.setCell ?_ (by first | omega | (simp; done) | (simp; omega)) _) | (with_reducible refine Below.alloc ?_ (by first | omega | (simp; done) | (simp; omega)) _) | (with_reducible refine Below.drew ?_) | (with_reducible refine below_drewN ?_ _) | (with_reducible refine Below.trans ?_ (Below.mono (by assumption) (by first | omega | (simp; done) | (simp; omega)))))))).mono ?_); rintro e w1 ⟨rfl, hb⟩; obtain ⟨hc, hf, hz⟩ := bcall hb; (try simp at hc hf hz)); have hl6 : P5 < w1.heap.size := by omega) | ((go_at_call 38; (with_reducible refine (PC2.out _ (by (repeat' (first | (with_reducible exact Below.refl _ _) | (with_reducible refine Below.setCell ?_ (by first | omega | (simp; done) | (simp; omega)) _) | (with_reducible refine Below.alloc ?_ (by first | omega | (simp; done) | (simp; omega)) _) | (with_reducible refine Below.drew ?_) | (with_reducible refine below_drewN ?_ _) | (with_reducible refine Below.trans ?_ (Below.mono (by assumption) (by first | omega | (simp; done) | (simp; omega)))))))).mono ?_); rintro e w1 ⟨rfl, hb⟩; obtain ⟨hc, hf, hz⟩ := bcall hb; (try simp at hc hf hz)); have hl6 : P5 < w1.heap.size := by omega)))
  have hB6 : Below Z5.heap.size Z5 w1 := by (repeat' (first | (with_reducible exact Below.refl _ _) | (with_reducible refine Below.setCell ?_ (by first | omega | (simp; done) | (simp; omega)) _) | (with_reducible refine Below.alloc ?_ (by first | omega | (simp; done) | (simp; omega)) _) | (with_reducible refine Below.drew ?_) | (with_reducible refine below_drewN ?_ _) | (with_reducible refine Below.trans ?_ (Below.mono (by assumption) (by first | omega | (simp; done) | (simp; omega))))))
  have u0 := U0.out.below hB6 l0
  have v3 := V3.out.below hB6 l3
  have hbw := hbw.trans (hB6.mono hbw.size)
  have U0 := Lib.hid u0
  have V3 := Lib.hid v3
  have HBW := Lib.hid hbw
  have l0 := u0.lt
  have l3 := v3.lt
  have sz6 := hbw.size
  clear g0 g1 g2 m0 m1 o0 o1 l5 sz5 sz4 hB6 u0 v3 hbw
  rename_i hX
  clear hX
  go_wp2
  go_loopw [7, 8] (fun t i wr => ∃ k : Nat, k ≤ n ∧ i = .int .i64 (k : Int) ∧ t = .bool (smU G k) ∧ Below w1.heap.size w1 wr) (fun _ i _ => n - (Go.RowKit.intOf i).toNat)
  case atStart => exact ⟨0, Nat.zero_le _, rfl, rfl, by (repeat' (first | (with_reducible exact Below.refl _ _) | (with_reducible refine Below.setCell ?_ (by first | omega | (simp; done) | (simp; omega)) _) | (with_reducible refine Below.alloc ?_ (by first | omega | (simp; done) | (simp; omega)) _) | (with_reducible refine Below.drew ?_) | (with_reducible refine below_drewN ?_ _) | (with_reducible refine Below.trans ?_ (Below.mono (by assumption) (by first | omega | (simp; done) | (simp; omega))))))⟩
  case round =>
    obtain ⟨k, hk, rfl, rfl, hB⟩ := hrel
    have hBw := HBW.out.trans (hB.mono HBW.out.size)
    have u1 := U0.out.below hB l0
    have g2 := u1.c2
    have ll := u1.lt
    have p0 : (0 : Int) ≤ (k : Int) := by omega
    by_cases hlk : k < n
    · have p1 : (k : Int) < (n : Int) := by omega
      have p2 : (0 : Int) < (n : Int) := by omega
      have p3 : 0 < n := by omega
      have CM := Lib.hid (fun wx => cellMass8 (G k 0) (G k 1) (G k 2) (G k 3) wx (HO.out.1 k hlk))
      have CZ := Lib.hid (fun wx => cellMass8 (G 0 0) (G 0 1) (G 0 2) (G 0 3) wx (HO.out.1 0 p3))
      have HD := Lib.hid (show smU G (k + 1) = (smU G k && decide (G k 0 + G k 1 + G k 2 + G k 3 = G 0 0 + G 0 1 + G 0 2 + G 0 3)) from rfl)
      have c0 : wr.cell? ⟨b, off + k * 4, none⟩ = some (.int .i64 (G k 0)) := (hBw.cell (p := ⟨b, off + k * 4, none⟩) lb).trans (HG.out k hlk).1
      have c1 := (hBw.cell (p := ⟨b, off + k * 4 + 1, none⟩) lb).trans (HG.out k hlk).2.1
      have c2 := (hBw.cell (p := ⟨b, off + k * 4 + 2, none⟩) lb).trans (HG.out k hlk).2.2.1
      have c3 := (hBw.cell (p := ⟨b, off + k * 4 + 3, none⟩) lb).trans (HG.out k hlk).2.2.2
      have z0 : wr.cell? ⟨b, off, none⟩ = some (.int .i64 (G 0 0)) := (hBw.cell (p := ⟨b, off, none⟩) lb).trans (by have := (HG.out 0 p3).1; simpa using this)
      have z1 : wr.cell? ⟨b, off + 1, none⟩ = some (.int .i64 (G 0 1)) := (hBw.cell (p := ⟨b, off + 1, none⟩) lb).trans (by have := (HG.out 0 p3).2.1; simpa using this)
      have z2 : wr.cell? ⟨b, off + 2, none⟩ = some (.int .i64 (G 0 2)) := (hBw.cell (p := ⟨b, off + 2, none⟩) lb).trans (by have := (HG.out 0 p3).2.2.1; simpa using this)
      have z3 : wr.cell? ⟨b, off + 3, none⟩ = some (.int .i64 (G 0 3)) := (hBw.cell (p := ⟨b, off + 3, none⟩) lb).trans (by have := (HG.out 0 p3).2.2.2; simpa using this)
      obtain ⟨d0, hd0⟩ : ∃ d, d = G k 0 := ⟨_, rfl⟩
      obtain ⟨d1, hd1⟩ : ∃ d, d = G k 1 := ⟨_, rfl⟩
      obtain ⟨d2, hd2⟩ : ∃ d, d = G k 2 := ⟨_, rfl⟩
      obtain ⟨d3, hd3⟩ : ∃ d, d = G k 3 := ⟨_, rfl⟩
      rw [← hd0, ← hd1, ← hd2, ← hd3] at CM HD
      rw [← hd0] at c0
      rw [← hd1] at c1
      rw [← hd2] at c2
      rw [← hd3] at c3
      obtain ⟨e0, he0⟩ : ∃ d, d = G 0 0 := ⟨_, rfl⟩
      obtain ⟨e1, he1⟩ : ∃ d, d = G 0 1 := ⟨_, rfl⟩
      obtain ⟨e2, he2⟩ : ∃ d, d = G 0 2 := ⟨_, rfl⟩
      obtain ⟨e3, he3⟩ : ∃ d, d = G 0 3 := ⟨_, rfl⟩
      rw [← he0, ← he1, ← he2, ← he3] at CZ HD
      rw [← he0] at z0
      rw [← he1] at z1
      rw [← he2] at z2
      rw [← he3] at z3
      clear hd0 hd1 hd2 hd3 he0 he1 he2 he3
      have HK := Lib.hid hlk
      have hk2 : (k : Int) ≤ 1000000 := by omega
      have HBx := Lib.hid hBw
      have HB := Lib.hid hB
      clear hBw hB u1
      cases hs : smU G k with
      | false =>
        go_wp2
        go_quiet (fail)
        go_wp2
        go_roundw
        case rel => exact ⟨k + 1, HK.out, by go_num, by rw [HD.out, hs]; rfl, below_drewN HB.out _⟩
        case measure =>
          have hlk := HK.out
          simp [Go.RowKit.intOf]; omega
      | true =>
        rw [hs, Bool.true_and] at HD
        clear hs
        go_wp2
        go_region_held3 (fun w' => w'.cell? ⟨w.heap.size, 2, none⟩ = some (.slice (some ⟨b, off, none⟩) n cap) ∧ w'.cell? ⟨b, off + k * 4, none⟩ = some (.int .i64 d0) ∧ w'.cell? ⟨b, off + k * 4 + 1, none⟩ = some (.int .i64 d1) ∧ w'.cell? ⟨b, off + k * 4 + 2, none⟩ = some (.int .i64 d2) ∧ w'.cell? ⟨b, off + k * 4 + 3, none⟩ = some (.int .i64 d3) ∧ w'.cell? ⟨b, off, none⟩ = some (.int .i64 e0) ∧ w'.cell? ⟨b, off + 1, none⟩ = some (.int .i64 e1) ∧ w'.cell? ⟨b, off + 2, none⟩ = some (.int .i64 e2) ∧ w'.cell? ⟨b, off + 3, none⟩ = some (.int .i64 e3)) (first | (go_split_ands; (try dsimp only); refine ⟨?_, ?_, ?_, ?_, ?_, ?_, ?_, ?_, ?_⟩ <;> (first | (with_reducible assumption) | (with_reducible exact keep_cell (by assumption) (by first | omega | (simp; done) | (simp; omega)) (by assumption)) | (with_reducible exact (World.cell?_alloc_past _ _ _ (by show _ < _; omega)).trans (by assumption)) | (with_reducible exact (World.cell?_alloc_past _ _ _ (by show _ < _; omega)).trans ((World.cell?_alloc_past _ _ _ (by show _ < _; omega)).symm.trans (by assumption))) | (simp [go_sem]; with_reducible assumption))) | (simp [go_sem, ↓IntWalk.iteOmega, *]; done)) ((first | ((go_at_call 39; (with_reducible refine (CM.out _).mono ?_); rintro e w1 ⟨rfl, hb⟩; obtain ⟨hc, hf, hz⟩ := bcall hb; (try simp at hc hf hz)); have hl6 : w.heap.size < w1.heap.size := by omega) | ((go_at_call 39; (with_reducible refine (CZ.out _).mono ?_); rintro e w1 ⟨rfl, hb⟩; obtain ⟨hc, hf, hz⟩ := bcall hb; (try simp at hc hf hz)); have hl6 : w.heap.size < w1.heap.size := by omega)))
        have HB7 := Lib.hid (HB.out.trans ((show Below wr.heap.size wr w1 by (repeat' (first | (with_reducible exact Below.refl _ _) | (with_reducible refine Below.setCell ?_ (by first | omega | (simp; done) | (simp; omega)) _) | (with_reducible refine Below.alloc ?_ (by first | omega | (simp; done) | (simp; omega)) _) | (with_reducible refine Below.drew ?_) | (with_reducible refine below_drewN ?_ _) | (with_reducible refine Below.trans ?_ (Below.mono (by assumption) (by first | omega | (simp; done) | (simp; omega))))))).mono HB.out.size))
        go_wp2
        go_roundw
        case rel => exact ⟨k + 1, HK.out, by go_num, by rw [HD.out]; rfl, HB7.out⟩
        case measure =>
          have hlk := HK.out
          simp [Go.RowKit.intOf]; omega
    · obtain rfl : k = n := by omega
      have p1 : ¬ (k : Int) < (k : Int) := by omega
      have v4 := V3.out.below hB l3
      have m0 := v4.c0
      have m1 := v4.c1
      cases hs : smU G k with
      | true =>
        obtain ⟨rfl, rfl⟩ := HT.out hs
        clear hs
        go_wp2
        go_ret
        exact ⟨by simp, hBw⟩
      | false =>
        have hx := HF.out hs
        clear hs
        go_wp2
        go_ret
        exact ⟨by simp [hx], hBw⟩
end
end Go.Proofs.YtmdeooflgkjbbaaDoor

/- The law FieldSpreads: all cases. -/

namespace Go.Proofs.YtmdeooflgkjbbaaDoor
set_option linter.unusedSimpArgs false
set_option linter.unusedVariables false
open Go.RowKit Go.Shelf

theorem smU_true {G : Nat → Nat → Int} {n : Nat} (h : smU G n = true) : ∀ i, i < n → msC G i = msC G 0 := by
  induction n with
  | zero => intro i hi; omega
  | succ n ih =>
    simp only [smU, Bool.and_eq_true, decide_eq_true_eq] at h
    intro i hi
    rcases Nat.lt_succ_iff_lt_or_eq.1 hi with h1 | rfl
    · exact ih h.1 i h1
    · exact h.2
theorem smU_of {G : Nat → Nat → Int} {n : Nat} (h : ∀ i, i < n → msC G i = msC G 0) : smU G n = true := by
  induction n with
  | zero => rfl
  | succ n ih =>
    simp only [smU, Bool.and_eq_true, decide_eq_true_eq]
    exact ⟨ih fun i hi => h i (by omega), h n (by omega)⟩
theorem sm_one {f : Nat → Int} {c : Int} {k : Nat} (h : ∀ i, i < k → f i = c) : sm k f = (k : Int) * c := by
  induction k with
  | zero => simp [sm]
  | succ k ih =>
    simp only [sm]
    rw [ih fun i hi => h i (by omega), h k (by omega)]
    push_cast
    rw [Int.add_mul, Int.one_mul]
theorem spT_eq {G : Nat → Nat → Int} {n : Nat} (h : smU G n = true) : spT n G n = 0 := by
  have h1 := smU_true h
  have hM : wt G n = (n : Int) * msC G 0 := by rw [← wt_ms]; exact sm_one h1
  unfold spT
  rw [sm_one (c := 0) (k := n)]
  · simp
  · intro i hi
    simp only [h1 i hi, hM]
    simp
theorem spT_ne {G : Nat → Nat → Int} {n : Nat} (n1 : 1 ≤ n) (h : smU G n = false) : ¬ spT n G n = 0 := by
  intro h0
  have hz : ∀ q, q < n → (n : Int) * msC G q = wt G n := by
    intro q hq
    have a1 := sm_mono_nn (f := fun q => ((((n : Int) * msC G q - wt G n).natAbs : Nat) : Int)) (n := n) (fun i _ => Int.natCast_nonneg _) (q + 1) (by omega)
    have a2 := sm_mono_nn (f := fun q => ((((n : Int) * msC G q - wt G n).natAbs : Nat) : Int)) (n := q) (fun i _ => Int.natCast_nonneg _) 0 (by omega)
    simp only [sm] at a1 a2
    have a3 : sm n (fun q => ((((n : Int) * msC G q - wt G n).natAbs : Nat) : Int)) = 0 := h0
    omega
  have hq : ∀ i, i < n → msC G i = msC G 0 := by
    intro i hi
    have e : (n : Int) * msC G i = (n : Int) * msC G 0 := (hz i hi).trans (hz 0 (by omega)).symm
    exact Int.eq_of_mul_eq_mul_left (by omega) e
  rw [smU_of hq] at h
  exact absurd h (by simp)
theorem lt_zero {c : Nat} (hc : 1 ≤ c) : ltN 0 c = 0 ∧ ((ltD 0 c : Nat) : Int) = 1 := by
  obtain ⟨p1, p2⟩ := lt_parts 0 c
  have hg : gcN 0 c = c := by simp [gcN]
  rw [hg] at p1 p2
  refine ⟨?_, ?_⟩
  · rcases Int.mul_eq_zero.1 p1.symm with h | h
    · omega
    · exact h
  · have : ltD 0 c = 1 := Nat.eq_of_mul_eq_mul_left (by omega : 0 < c) (by omega)
    omega
theorem lt_nz {s : Int} {c : Nat} (h : ¬ s = 0) : ¬ ltN s c = 0 := by
  intro h0
  have p1 := (lt_parts s c).1
  rw [h0, Int.mul_zero] at p1
  exact h p1

theorem fieldSpreads_any (W H : Int) (ao : Option Addr) (n cap : Nat) (G : Nat → Nat → Int) (w : World) (hM : Mvs w)
    (_ : Wf W) (_ : Wf H) (_ : n ≤ cap) (_ : cap ≤ maxLen) (hC : CellsIn w ao n G) :
    Calls Tryd.prog 6 #[.agg #[.int .i64 W, .int .i64 H, .slice (ao) n cap]] w fun e w' => e = .returned (.bool true) ∧ Below w.heap.size w w' := by
  obtain ⟨bb, hbb, BG⟩ := fbig_any W H ao n cap w
  cases bb with
  | true => exact fp_big W H ao n cap w hM BG
  | false =>
    by_cases hv : VG W H n G
    · obtain ⟨W', H', rfl, rfl, s, hG⟩ := Sides.vg hv
      obtain ⟨b, off, rfl, hlt, hGr⟩ := cells_of s hC
      have bel : ∀ wx, Below w.heap.size w wx → b < wx.heap.size ∧ Grd wx b off n G := fun wx hb => ⟨Nat.lt_of_lt_of_le hlt hb.size, hGr.below hb hlt⟩
      have n1 : 1 ≤ n := by
        have := Nat.mul_le_mul s.w0 s.h0
        rw [← s.n0] at this
        omega
      have n2 : n ≤ 1000000 := by
        have := s.n1
        omega
      have nn : 1 ≤ n * n := Nat.mul_le_mul n1 n1
      exact fp_ok W' H' b off n cap _ _ _ w hM BG
        (fun wx hb => fSpr_ok W' H' n cap b off G wx s hG (bel wx hb).1 (bel wx hb).2)
        (fun wx hb => rSpr_ok W' H' n cap b off G wx s hG (bel wx hb).1 (bel wx hb).2)
        (fun wx hb => callsIn_wide.1 (picture_in W' H' n cap b off G wx s hG (bel wx hb).1 (bel wx hb).2 (hM.below hb)))
        (fun wx hb => rPic_ok W' H' n cap b off G wx s hG (bel wx hb).1 (bel wx hb).2)
        G n1 n2 hG hlt hGr (fun h => by rw [spT_eq h]; exact lt_zero nn) (fun h => lt_nz (spT_ne n1 h))
    · exact fp_err W H ao n cap 0 0 ⟨#[]⟩ w hM BG
        (fun wx hb => fSpr_bad W H ao n cap G wx (hC.below hb) hv) (fun wx hb => rSpr_bad W H ao n cap G wx (hC.below hb) hv)
        (fun wx hb => callsIn_wide.1 (fPic_bad W H ao n cap G wx (hC.below hb) hv)) (fun wx hb => rPic_bad W H ao n cap G wx (hC.below hb) hv)
end Go.Proofs.YtmdeooflgkjbbaaDoor

/- The law FieldSpreads holds: for every input the call returns true, the arguments read as they did, and what was there is as it was; the card, tied. -/






namespace Go.Proofs.YtmdeooflgkjbbaaDoor
set_option linter.unusedSimpArgs false
set_option linter.unusedVariables false
open Go.ChangeShapes Go.WideShapes Go.ChangeAt Go.RowKit Go.Joins

set_option maxRecDepth 100000 in
theorem fieldSpreads_lifted (os : Os) (started : os.Started) (H : Type) (enc : TypeId × Value → H) :
    ReturnsInHanded {} Tryd.checked os 6 .any (fun w args => (Rows.fieldSpreadsSpec.pre enc Tryd.prog Tryd.f6 [] false w args ∧ laidMetH Tryd.prog [("slipstream/field.moves", Rows.laid_slipstream_field_moves)] w) ∧ sizedMet enc Tryd.prog Tryd.f6 (OpenSpec.ofChange Rows.fieldSpreadsSpec) false w args)
      (Rows.fieldSpreadsSpec.post enc Tryd.prog Tryd.f6 false true false false) := by
  refine returnsInHanded_of_change_and (C := Tryd.checked) (X := fun w _ => laidMetH Tryd.prog [("slipstream/field.moves", Rows.laid_slipstream_field_moves)] w) (fun _ _ _ hh h => h.of_heap hh) own started (by kernel_rfl) Tryd.func6
    (ChangeSpec.witness_shaped (enc := enc) (C := Tryd.checked) (os := os) (X := fun w _ => laidMetH Tryd.prog [("slipstream/field.moves", Rows.laid_slipstream_field_moves)] w) false (World.doorLaid Tryd.prog 400 os) #[.agg #[.int .i64 0, .int .i64 0, .slice none 0 0]] 8 rfl (World.shaped_of_RefB (by kernel_rfl) (by kernel_rfl)) (by kernel_rfl) (by kernel_rfl) (by kernel_rfl) (door_metM os _ (by kernel_rfl))) ?_
  intro W base args ds gs before hval0 hW _ _ hL _
  have hval : ∀ (j : Nat) t v, Tryd.f6.params[j]? = some t → args[j]? = some v → Value.okWide Tryd.prog W .any base t v := hval0
  have hW' := hW
  obtain ⟨p, q, hA0, hV, rfl, hfz, hnd⟩ := hW
  have hA : DataW.TrodAll enc Tryd.prog W 0 (fun _ => true) true Tryd.f6.params.toList args.toList ds p := hA0
  rw [Tryd.params6] at hA hval
  obtain ⟨v0, vs0, d0, ds0, p0, q0, hargs, rfl, rfl, h0, r0⟩ := trodAll_cons hA
  obtain ⟨rfl, rfl, rfl⟩ := trodAll_nil r0
  obtain rfl : args = #[v0] := by cases args; simp_all
  obtain ⟨rfl, rfl⟩ := trodVars_none hV
  have lt0 : ∀ x ∈ p0, x.block < W.heap.size := fun x hx => by simpa using hW'.lt x (by simp [hx])
  have k0 := h0
  obtain ⟨W0, H0, a0, n0, c0, G0, rfl, w0, u0, l0, m0, g0⟩ := open_grid (hval 0 24 v0 rfl rfl) h0
  clear hA0 hval0
  simp only [List.append_nil] at hW'
  refine (fieldSpreads_any W0 H0 a0 n0 c0 G0 W (tab_M hL) w0 u0 l0 m0 g0).mono fun e W' ⟨he, hg⟩ => ?_
  subst he
  exact ⟨_, rfl, law_post2 (pv := []) hW' (fun _ _ _ => (trodAll_cons_mk (shut_bool Tryd.underlying4 _) trodAll_mk0)) (trodAll_cons_mk (Below.trod laidOut (by kernel_rfl) (of_decide_eq_true (by kernel_rfl)) k0 hg lt0) trodAll_mk0) (fun _ _ => rfl) (by simp) hg⟩

theorem fieldSpreads_holds : Rows.FieldSpreadsSaid :=
  OpenClaim.holds_of_wide 6 Tryd.f6 rfl rfl rfl rfl rfl rfl rfl ⟨rfl, rfl, rfl, rfl, rfl⟩ rfl rfl rfl rfl rfl (by kernel_rfl) Tryd.func6 (by kernel_rfl)
    (of_decide_eq_true (by kernel_rfl)) (by unfold Func.isWrapper; first | (rw [if_pos (by decide +kernel)]; kernel_rfl) | (rw [if_neg (by decide +kernel)]; exact ⟨rfl, rfl⟩))
    (fun os started H enc _ => fieldSpreads_lifted os started H enc)

theorem fieldSpreads_card_holds : Rows.FieldSpreadsCardSaid :=
  Claim7.holds_tied_plain_at .later [] [.data] true Rows.fieldSpreadsCard.stood.harness false
    fieldSpreads_holds (fun _ h => by cases h) (by kernel_rfl) (fun _ h => by cases h) fieldSpreads_row_tie rfl ⟨rfl, rfl⟩ (by kernel_rfl) rfl
    (fun f fn hf hfn => by
      obtain rfl : f = 6 := Option.some.inj ((show Tryd.prog.funcNamed "slipstream/slipstreamlaw08.FieldSpreads" = some 6 by kernel_rfl).symm.trans hf) |>.symm
      obtain rfl : fn = Tryd.f6 := (Option.some.inj (Tryd.func6.symm.trans hfn)).symm
      exact ⟨by kernel_rfl, fun j t ht => by
        rw [Tryd.params6] at ht
        rcases j with _ | j
        · obtain rfl : 24 = t := by simpa using ht
          exact (show Tryd.prog.wantsStandIn 24 = false by kernel_rfl)
        · simp at ht⟩)
    (by kernel_rfl)
end Go.Proofs.YtmdeooflgkjbbaaDoor
