/- The law PhaseEven: the walk. -/
import Derived.Test.YtglkikdjchpmjaaDoorKInter3
import Derived.Test.YtglkikdjchpmjaaDoorKLawExch
namespace Go.Proofs.YtglkikdjchpmjaaDoor
set_option linter.unusedSimpArgs false
set_option linter.unusedVariables false
open Go.RowKit

section
variable (W H : Int) (ao : Option Addr) (n c : Nat) (A : Nat → Nat → Int) (bo : Option Addr) (m d : Nat) (B : Nat → Nat → Int) (w : World)
theorem small200_mix (h1 : n ≤ 200) (h2 : m ≤ 200) : Calls Tryd.prog 27 #[.agg #[.int .i64 W, .int .i64 H, .slice (ao) n c, .slice (bo) m d], .int .i64 200] w fun e w' => e = .returned (.bool true) ∧ Below w.heap.size w w' := by
  go_enter Tryd.func27, Tryd.ntmps27
  go_wp2
  go_ret
  refine ⟨by first | (simp; done) | (simp; omega), ?_⟩
  (repeat' (first | (with_reducible exact Below.refl _ _) | (with_reducible refine Below.setCell ?_ (by first | omega | (simp; done) | (simp; omega)) _) | (with_reducible refine Below.alloc ?_ (by first | omega | (simp; done) | (simp; omega)) _) | (with_reducible refine Below.drew ?_) | (with_reducible refine below_drewN ?_ _) | (with_reducible refine Below.trans ?_ (Below.mono (by assumption) (by first | omega | (simp; done) | (simp; omega))))))
theorem big200_mix (hn : n ≤ 9223372036854775807) (hm : m ≤ 9223372036854775807) (h : ¬ (n ≤ 200 ∧ m ≤ 200)) : Calls Tryd.prog 27 #[.agg #[.int .i64 W, .int .i64 H, .slice (ao) n c, .slice (bo) m d], .int .i64 200] w fun e w' => e = .returned (.bool false) ∧ Below w.heap.size w w' := by
  by_cases h1 : n ≤ 200
  · have h2 : 200 < m := by omega
    clear h
    go_enter Tryd.func27, Tryd.ntmps27
    go_wp2
    go_ret
    refine ⟨by first | (simp; done) | (simp; omega), ?_⟩
    (repeat' (first | (with_reducible exact Below.refl _ _) | (with_reducible refine Below.setCell ?_ (by first | omega | (simp; done) | (simp; omega)) _) | (with_reducible refine Below.alloc ?_ (by first | omega | (simp; done) | (simp; omega)) _) | (with_reducible refine Below.drew ?_) | (with_reducible refine below_drewN ?_ _) | (with_reducible refine Below.trans ?_ (Below.mono (by assumption) (by first | omega | (simp; done) | (simp; omega))))))
  · clear h
    go_enter Tryd.func27, Tryd.ntmps27
    go_wp2
    go_ret
    refine ⟨by first | (simp; done) | (simp; omega), ?_⟩
    (repeat' (first | (with_reducible exact Below.refl _ _) | (with_reducible refine Below.setCell ?_ (by first | omega | (simp; done) | (simp; omega)) _) | (with_reducible refine Below.alloc ?_ (by first | omega | (simp; done) | (simp; omega)) _) | (with_reducible refine Below.drew ?_) | (with_reducible refine below_drewN ?_ _) | (with_reducible refine Below.trans ?_ (Below.mono (by assumption) (by first | omega | (simp; done) | (simp; omega))))))
set_option maxHeartbeats 2000000 in
theorem inter_bad (hn : n ≤ 1000000000000) (hv : ¬ VM W H n A m B) (hA : CellsIn w ao n A) (hB : CellsIn w bo m B) : Calls Tryd.prog 29 #[.agg #[.int .i64 W, .int .i64 H, .slice (ao) n c, .slice (bo) m d]] w fun e w' => e = .returned (.tuple #[.int .i64 0, .int .i64 1]) ∧ Below w.heap.size w w' := by
  have HV := Lib.hid hv; clear hv
  have HA := Lib.hid hA; clear hA
  have HB := Lib.hid hB; clear hB
  go_enter Tryd.func29, Tryd.ntmps29
  go_wp2_with (go_at_call 88; (with_reducible refine (mValid_bad W H ao n c A bo m d B _ hn HV.out (HA.out.below (by (repeat' (first | (with_reducible exact Below.refl _ _) | (with_reducible refine Below.setCell ?_ (by first | omega | (simp; done) | (simp; omega)) _) | (with_reducible refine Below.alloc ?_ (by first | omega | (simp; done) | (simp; omega)) _) | (with_reducible refine Below.drew ?_) | (with_reducible refine below_drewN ?_ _) | (with_reducible refine Below.trans ?_ (Below.mono (by assumption) (by first | omega | (simp; done) | (simp; omega)))))))) (HB.out.below (by (repeat' (first | (with_reducible exact Below.refl _ _) | (with_reducible refine Below.setCell ?_ (by first | omega | (simp; done) | (simp; omega)) _) | (with_reducible refine Below.alloc ?_ (by first | omega | (simp; done) | (simp; omega)) _) | (with_reducible refine Below.drew ?_) | (with_reducible refine below_drewN ?_ _) | (with_reducible refine Below.trans ?_ (Below.mono (by assumption) (by first | omega | (simp; done) | (simp; omega))))))))).mono ?_); rintro e w1 ⟨rfl, hb⟩; obtain ⟨hc, hf, hz⟩ := bcall hb; (try simp at hc hf hz))
  go_ret2
  refine ⟨rfl, ?_⟩
  (repeat' (first | (with_reducible exact Below.refl _ _) | (with_reducible refine Below.setCell ?_ (by first | omega | (simp; done) | (simp; omega)) _) | (with_reducible refine Below.alloc ?_ (by first | omega | (simp; done) | (simp; omega)) _) | (with_reducible refine Below.drew ?_) | (with_reducible refine below_drewN ?_ _) | (with_reducible refine Below.trans ?_ (Below.mono (by assumption) (by first | omega | (simp; done) | (simp; omega))))))

set_option maxRecDepth 100000 in
set_option maxHeartbeats 4000000 in
theorem phaseEven_out (hT : Ends w) (hn : n ≤ 9223372036854775807) (hm : m ≤ 9223372036854775807) (h : ¬ (n ≤ 200 ∧ m ≤ 200)) :
    Calls Tryd.prog 6 #[.agg #[.int .i64 W, .int .i64 H, .slice (ao) n c, .slice (bo) m d]] w fun e w' => e = .returned (.bool true) ∧ Below w.heap.size w w' := by
  have HT := Lib.hid hT
  have H1 := Lib.hid h
  clear h hT
  go_enter Tryd.func6, Tryd.ntmps6
  go_wp2_with (first | (go_at_call 27; (with_reducible refine (big200_mix W H ao n c bo m d _ hn hm H1.out).mono ?_); rintro e w1 ⟨rfl, hb⟩; obtain ⟨hc, hf, hz⟩ := bcall hb; (try simp at hc hf hz)) | (go_at_call 28; (with_reducible refine (awake4_any _ (HT.out.below (by (repeat' (first | (with_reducible exact Below.refl _ _) | (with_reducible refine Below.setCell ?_ (by first | omega | (simp; done) | (simp; omega)) _) | (with_reducible refine Below.alloc ?_ (by first | omega | (simp; done) | (simp; omega)) _) | (with_reducible refine Below.drew ?_) | (with_reducible refine below_drewN ?_ _) | (with_reducible refine Below.trans ?_ (Below.mono (by assumption) (by first | omega | (simp; done) | (simp; omega))))))))).mono ?_); rintro e w1 ⟨rfl, hb⟩; obtain ⟨hc, hf, hz⟩ := bcall hb; (try simp at hc hf hz)))
  go_ret
  refine ⟨rfl, ?_⟩
  (repeat' (first | (with_reducible exact Below.refl _ _) | (with_reducible refine Below.setCell ?_ (by first | omega | (simp; done) | (simp; omega)) _) | (with_reducible refine Below.alloc ?_ (by first | omega | (simp; done) | (simp; omega)) _) | (with_reducible refine Below.drew ?_) | (with_reducible refine below_drewN ?_ _) | (with_reducible refine Below.trans ?_ (Below.mono (by assumption) (by first | omega | (simp; done) | (simp; omega))))))
set_option maxRecDepth 100000 in
set_option maxHeartbeats 4000000 in
theorem phaseEven_thin (hT : Ends w) (h1 : n ≤ 200) (h2 : m ≤ 200) (h : W < 3 ∨ H < 3) :
    Calls Tryd.prog 6 #[.agg #[.int .i64 W, .int .i64 H, .slice (ao) n c, .slice (bo) m d]] w fun e w' => e = .returned (.bool true) ∧ Below w.heap.size w w' := by
  have HT := Lib.hid hT
  have h' : W < 3 ∨ (3 ≤ W ∧ H < 3) := by omega
  clear h hT
  rcases h' with h | ⟨h0, h⟩
  all_goals
    go_enter Tryd.func6, Tryd.ntmps6
    go_wp2_with (first | (go_at_call 27; (with_reducible refine (small200_mix W H ao n c bo m d _ h1 h2).mono ?_); rintro e w1 ⟨rfl, hb⟩; obtain ⟨hc, hf, hz⟩ := bcall hb; (try simp at hc hf hz)) | (go_at_call 28; (with_reducible refine (awake4_any _ (HT.out.below (by (repeat' (first | (with_reducible exact Below.refl _ _) | (with_reducible refine Below.setCell ?_ (by first | omega | (simp; done) | (simp; omega)) _) | (with_reducible refine Below.alloc ?_ (by first | omega | (simp; done) | (simp; omega)) _) | (with_reducible refine Below.drew ?_) | (with_reducible refine below_drewN ?_ _) | (with_reducible refine Below.trans ?_ (Below.mono (by assumption) (by first | omega | (simp; done) | (simp; omega))))))))).mono ?_); rintro e w1 ⟨rfl, hb⟩; obtain ⟨hc, hf, hz⟩ := bcall hb; (try simp at hc hf hz)))
    go_ret
    refine ⟨rfl, ?_⟩
    (repeat' (first | (with_reducible exact Below.refl _ _) | (with_reducible refine Below.setCell ?_ (by first | omega | (simp; done) | (simp; omega)) _) | (with_reducible refine Below.alloc ?_ (by first | omega | (simp; done) | (simp; omega)) _) | (with_reducible refine Below.drew ?_) | (with_reducible refine below_drewN ?_ _) | (with_reducible refine Below.trans ?_ (Below.mono (by assumption) (by first | omega | (simp; done) | (simp; omega))))))
set_option maxRecDepth 100000 in
set_option maxHeartbeats 4000000 in
theorem phaseEven_bad (hT : Ends w) (h1 : n ≤ 200) (h2 : m ≤ 200) (hW : 3 ≤ W) (hH : 3 ≤ H) (hv : ¬ VM W H n A m B) (hA : CellsIn w ao n A) (hB : CellsIn w bo m B) :
    Calls Tryd.prog 6 #[.agg #[.int .i64 W, .int .i64 H, .slice (ao) n c, .slice (bo) m d]] w fun e w' => e = .returned (.bool true) ∧ Below w.heap.size w w' := by
  have HT := Lib.hid hT
  have HV := Lib.hid hv
  have HA := Lib.hid hA
  have HB := Lib.hid hB
  clear hT hv hA hB
  go_enter Tryd.func6, Tryd.ntmps6
  go_wp2_with (first | (go_at_call 27; (with_reducible refine (small200_mix W H ao n c bo m d _ h1 h2).mono ?_); rintro e w1 ⟨rfl, hb⟩; obtain ⟨hc, hf, hz⟩ := bcall hb; (try simp at hc hf hz)) | (go_at_call 29; (with_reducible refine (inter_bad W H ao n c A bo m d B _ (by omega) HV.out (HA.out.below (by (repeat' (first | (with_reducible exact Below.refl _ _) | (with_reducible refine Below.setCell ?_ (by first | omega | (simp; done) | (simp; omega)) _) | (with_reducible refine Below.alloc ?_ (by first | omega | (simp; done) | (simp; omega)) _) | (with_reducible refine Below.drew ?_) | (with_reducible refine below_drewN ?_ _) | (with_reducible refine Below.trans ?_ (Below.mono (by assumption) (by first | omega | (simp; done) | (simp; omega)))))))) (HB.out.below (by (repeat' (first | (with_reducible exact Below.refl _ _) | (with_reducible refine Below.setCell ?_ (by first | omega | (simp; done) | (simp; omega)) _) | (with_reducible refine Below.alloc ?_ (by first | omega | (simp; done) | (simp; omega)) _) | (with_reducible refine Below.drew ?_) | (with_reducible refine below_drewN ?_ _) | (with_reducible refine Below.trans ?_ (Below.mono (by assumption) (by first | omega | (simp; done) | (simp; omega))))))))).mono ?_); rintro e w1 ⟨rfl, hb⟩; obtain ⟨hc, hf, hz⟩ := bcall hb; (try simp at hc hf hz)) | (go_at_call 28; (with_reducible refine (awake4_any _ (HT.out.below (by (repeat' (first | (with_reducible exact Below.refl _ _) | (with_reducible refine Below.setCell ?_ (by first | omega | (simp; done) | (simp; omega)) _) | (with_reducible refine Below.alloc ?_ (by first | omega | (simp; done) | (simp; omega)) _) | (with_reducible refine Below.drew ?_) | (with_reducible refine below_drewN ?_ _) | (with_reducible refine Below.trans ?_ (Below.mono (by assumption) (by first | omega | (simp; done) | (simp; omega))))))))).mono ?_); rintro e w1 ⟨rfl, hb⟩; obtain ⟨hc, hf, hz⟩ := bcall hb; (try simp at hc hf hz)))
  go_ret
  refine ⟨rfl, ?_⟩
  (repeat' (first | (with_reducible exact Below.refl _ _) | (with_reducible refine Below.setCell ?_ (by first | omega | (simp; done) | (simp; omega)) _) | (with_reducible refine Below.alloc ?_ (by first | omega | (simp; done) | (simp; omega)) _) | (with_reducible refine Below.drew ?_) | (with_reducible refine below_drewN ?_ _) | (with_reducible refine Below.trans ?_ (Below.mono (by assumption) (by first | omega | (simp; done) | (simp; omega))))))
end

set_option maxRecDepth 100000 in
set_option maxHeartbeats 16000000 in
theorem phaseEven_in (W H n c d b ob b2 o2 : Nat) (A B : Nat → Nat → Int) (w : World) (hT : Ends w) (s : Sides W H n) (hW : 3 ≤ W) (hH : 3 ≤ H) (hn : n ≤ 200) (hv : VM W H n A n B) (lb : b < w.heap.size) (hC : Grd w b ob n A) (lb2 : b2 < w.heap.size) (hD : Grd w b2 o2 n B) :
    Calls Tryd.prog 6 #[.agg #[.int .i64 W, .int .i64 H, .slice (some ⟨b, ob, none⟩) n c, .slice (some ⟨b2, o2, none⟩) n d]] w fun e w' => e = .returned (.bool true) ∧ Below w.heap.size w w' := by
  have IC := Lib.hid (fun wx (hb : Below w.heap.size w wx) => inter_in W H n c d b ob b2 o2 A B wx s hv (Nat.lt_of_lt_of_le lb hb.size) (hC.below hb lb) (Nat.lt_of_lt_of_le lb2 hb.size) (hD.below hb lb2))
  have KC := Lib.hid (fun q (hq : q < n) wx (hb : Below w.heap.size w wx) => kind_in W H n c d b ob b2 o2 q A B wx s hq hv (Nat.lt_of_lt_of_le lb hb.size) (hC.below hb lb) (Nat.lt_of_lt_of_le lb2 hb.size) (hD.below hb lb2))
  have hp := pairs_rng W H (kdG A B) n
  have HE := Lib.hid (fun h => pairs_even (W := W) (H := H) (k := kdG A B) s.n0 h)
  obtain ⟨KK, hKK⟩ : ∃ KK, KK = kdG A B := ⟨_, rfl⟩
  have HR := Lib.hid (show ∀ i, 0 ≤ KK i ∧ KK i ≤ 2 from fun i => by rw [hKK]; exact kdG_rng A B i)
  rw [← hKK] at IC KC hp HE
  obtain ⟨P, hP⟩ : ∃ P, P = sm n (prI W H KK) := ⟨_, rfl⟩
  rw [← hP] at IC hp HE
  have HT := Lib.hid hT
  have HS := Lib.hid s
  have hws := s.w1
  have hhs := s.h1
  have hw0 := s.w0
  clear hC hD hv hKK hP hT s
  go_enter Tryd.func6, Tryd.ntmps6
  go_wp2_with fail
  go_at_call 27
  refine (small200_mix W H (some ⟨b, ob, none⟩) n c (some ⟨b2, o2, none⟩) n d _ hn hn).mono ?_
  rintro e w1 ⟨rfl, hb⟩
  have hbs := Lib.hid (show Below w.heap.size w w1 from ((Below.refl _ w).alloc (Nat.le_refl _) _).trans (hb.mono (by simp)))
  have hbm := hb
  obtain ⟨m0, m1, m2, m3⟩ := mix_cells w 50 (.int .i64 W) (.int .i64 H) (.slice (some ⟨b, ob, none⟩) n c) (.slice (some ⟨b2, o2, none⟩) n d)
  have x0 : w1.cell? ⟨w.heap.size, 0, none⟩ = some (.int .i64 W) := keep_cell hb (by simp) m0
  have x1 : w1.cell? ⟨w.heap.size, 1, none⟩ = some (.int .i64 H) := keep_cell hb (by simp) m1
  have x2 : w1.cell? ⟨w.heap.size, 2, none⟩ = some (.slice (some ⟨b, ob, none⟩) n c) := keep_cell hb (by simp) m2
  have x3 : w1.cell? ⟨w.heap.size, 3, none⟩ = some (.slice (some ⟨b2, o2, none⟩) n d) := keep_cell hb (by simp) m3
  have lw1 : w.heap.size < w1.heap.size := by have := hb.size; simp at this; omega
  have hb0 := hb.mono (show w.heap.size ≤ _ by simp)
  clear hb m0 m1 m2 m3 hbm
  go_wp2_with fail
  go_at_call 29
  refine (IC.out w1 hbs.out).mono ?_
  rintro e w2 ⟨rfl, hb2⟩
  have X0 := Lib.hid (keep_cell hb2 lw1 x0)
  have X1 := Lib.hid (keep_cell hb2 lw1 x1)
  have X2 := Lib.hid (keep_cell hb2 lw1 x2)
  have X3 := Lib.hid (keep_cell hb2 lw1 x3)
  have HB2 := Lib.hid (hbs.out.trans (hb2.mono hbs.out.size))
  have lw2 : w.heap.size < w2.heap.size := Nat.lt_of_lt_of_le lw1 hb2.size
  clear hb2 x0 x1 x2 x3 IC hbs lw1
  go_wp2_with fail
  go_loopw [5] (fun i wr => ∃ k : Nat, k ≤ n ∧ i = .int .i64 k ∧ (∀ j, j < k → KK j ≠ 0) ∧ Hid (Below w2.heap.size w2 wr)) (fun i _ => n - (intOf i).toNat)
  case atStart => exact ⟨0, Nat.zero_le _, rfl, fun j hj => by omega, Lib.hid (Below.refl _ _)⟩
  case round =>
    obtain ⟨k, hk, rfl, hz, HH⟩ := hrel
    have hBr := HH.out
    have e0 := keep_cell hBr lw2 X0.out
    have e1 := keep_cell hBr lw2 X1.out
    have e2 := keep_cell hBr lw2 X2.out
    have e3 := keep_cell hBr lw2 X3.out
    have lwr : w.heap.size < wr.heap.size := Nat.lt_of_lt_of_le lw2 hBr.size
    have HWr := Lib.hid (HB2.out.trans (hBr.mono HB2.out.size))
    have HZ := Lib.hid hz
    clear hz
    by_cases hlk : k < n
    · have p0 : (0 : Int) ≤ (k : Int) := by omega
      have p1 : (k : Int) < (n : Int) := by omega
      have KCk := Lib.hid (fun wx (hb : Below wr.heap.size wr wx) => KC.out k hlk wx (HWr.out.trans (hb.mono HWr.out.size)))
      obtain ⟨x, hx⟩ : ∃ x, x = k % W := ⟨_, rfl⟩
      obtain ⟨y, hy⟩ : ∃ y, y = k / W := ⟨_, rfl⟩
      have hxl : x < W := by rw [hx]; exact Nat.mod_lt _ (by omega)
      have hy5 : y ≤ k := by rw [hy]; exact Nat.div_le_self _ _
      have tm : (k : Int).tmod (W : Int) = (x : Int) := by rw [Int.tmod_eq_emod_of_nonneg (by omega), hx]; rfl
      have td : (k : Int).tdiv (W : Int) = (y : Int) := by rw [Int.tdiv_eq_ediv_of_nonneg (by omega), hy]; rfl
      have wne : ¬ W = 0 := by omega
      have g0 : ((W : Int) == 0) = false := beq_eq_false_iff_ne.2 (by omega)
      have g3 : IntKind.i64.wrap (y : Int) = (y : Int) := IntWalk.i64_in _ ⟨by omega, by omega⟩
      have g4 : IntKind.i64.wrap (x : Int) = (x : Int) := IntWalk.i64_in _ ⟨by omega, by omega⟩
      obtain ⟨z, hze⟩ : ∃ z, z = KK k := ⟨_, rfl⟩
      rw [← hx, ← hy, ← hze] at KCk
      have HZE := Lib.hid hze
      clear hx hy hze hBr
      go_wp2
      go_region_held3 (fun w' => w'.cell? ⟨w.heap.size, 0, none⟩ = some (.int .i64 W) ∧ w'.cell? ⟨w.heap.size, 1, none⟩ = some (.int .i64 H) ∧ w'.cell? ⟨w.heap.size, 2, none⟩ = some (.slice (some ⟨b, ob, none⟩) n c) ∧ w'.cell? ⟨w.heap.size, 3, none⟩ = some (.slice (some ⟨b2, o2, none⟩) n d)) (first | (go_split_ands; (try dsimp only); refine ⟨?_, ?_, ?_, ?_⟩ <;> (first | (with_reducible assumption) | (with_reducible exact keep_cell (by assumption) (by first | omega | (simp; done) | (simp; omega)) (by assumption)) | (with_reducible exact (World.cell?_alloc_past _ _ _ (by show _ < _; omega)).trans (by assumption)) | (with_reducible exact (World.cell?_alloc_past _ _ _ (by show _ < _; omega)).trans ((World.cell?_alloc_past _ _ _ (by show _ < _; omega)).symm.trans (by assumption))) | (simp [go_sem]; with_reducible assumption))) | (simp [go_sem, ↓IntWalk.iteOmega, *]; done)) ((go_at_call 30; (with_reducible refine (KCk.out _ (by (repeat' (first | (with_reducible exact Below.refl _ _) | (with_reducible refine Below.setCell ?_ (by first | omega | (simp; done) | (simp; omega)) _) | (with_reducible refine Below.alloc ?_ (by first | omega | (simp; done) | (simp; omega)) _) | (with_reducible refine Below.drew ?_) | (with_reducible refine below_drewN ?_ _) | (with_reducible refine Below.trans ?_ (Below.mono (by assumption) (by first | omega | (simp; done) | (simp; omega)))))))).mono ?_); rintro e w1 ⟨rfl, hb⟩; obtain ⟨hc, hf, hz⟩ := bcall hb; (try simp at hc hf hz)))
      all_goals
        rename_i hX9
        clear hX9
        have HX9 := Lib.hid (show Below wr.heap.size wr w1 from by (repeat' (first | (with_reducible exact Below.refl _ _) | (with_reducible refine Below.setCell ?_ (by first | omega | (simp; done) | (simp; omega)) _) | (with_reducible refine Below.alloc ?_ (by first | omega | (simp; done) | (simp; omega)) _) | (with_reducible refine Below.drew ?_) | (with_reducible refine below_drewN ?_ _) | (with_reducible refine Below.trans ?_ (Below.mono (by assumption) (by first | omega | (simp; done) | (simp; omega)))))))
        clear hc hf hb e0 e1 e2 e3
        by_cases hz0 : z = 0
        · subst hz0
          have HT2 := Lib.hid (HT.out.below (HWr.out.trans (HX9.out.mono HWr.out.size)))
          have HW9 := Lib.hid (HWr.out.trans (HX9.out.mono HWr.out.size))
          go_wp2_with (go_at_call 28; (with_reducible refine (awake4_any _ (HT2.out.below (by (repeat' (first | (with_reducible exact Below.refl _ _) | (with_reducible refine Below.setCell ?_ (by first | omega | (simp; done) | (simp; omega)) _) | (with_reducible refine Below.alloc ?_ (by first | omega | (simp; done) | (simp; omega)) _) | (with_reducible refine Below.drew ?_) | (with_reducible refine below_drewN ?_ _) | (with_reducible refine Below.trans ?_ (Below.mono (by assumption) (by first | omega | (simp; done) | (simp; omega))))))))).mono ?_); rintro e w1 ⟨rfl, hb⟩; obtain ⟨hc, hf, hz⟩ := bcall hb; (try simp at hc hf hz))
          go_ret
          refine ⟨rfl, ?_⟩
          have hW := HW9.out
          (repeat' (first | (with_reducible exact Below.refl _ _) | (with_reducible refine Below.setCell ?_ (by first | omega | (simp; done) | (simp; omega)) _) | (with_reducible refine Below.alloc ?_ (by first | omega | (simp; done) | (simp; omega)) _) | (with_reducible refine Below.drew ?_) | (with_reducible refine below_drewN ?_ _) | (with_reducible refine Below.trans ?_ (Below.mono (by assumption) (by first | omega | (simp; done) | (simp; omega))))))
        · have zb : (z == 0) = false := beq_eq_false_iff_ne.2 hz0
          have HZ0 := Lib.hid hz0
          clear hz0
          go_wp2
          go_roundw
          case rel => exact ⟨k + 1, by omega, by go_num, fun j hj => by
            by_cases e : j = k
            · rw [e, ← HZE.out]; exact HZ0.out
            · exact HZ.out j (by omega), Lib.hid (HH.out.trans (HX9.out.mono HH.out.size))⟩
          case measure => simp [intOf]; omega
    · obtain rfl : n = k := by omega
      have hev := HE.out (fun i hi => by have a := HR.out i; have b := HZ.out i hi; omega)
      have t0 : P.tmod 2 = 0 := by rw [Int.tmod_eq_emod_of_nonneg hp.1]; exact hev
      have HT2 := Lib.hid (HT.out.below HWr.out)
      clear hev hBr
      go_wp2_with (go_at_call 28; (with_reducible refine (awake4_any _ (HT2.out.below (by (repeat' (first | (with_reducible exact Below.refl _ _) | (with_reducible refine Below.setCell ?_ (by first | omega | (simp; done) | (simp; omega)) _) | (with_reducible refine Below.alloc ?_ (by first | omega | (simp; done) | (simp; omega)) _) | (with_reducible refine Below.drew ?_) | (with_reducible refine below_drewN ?_ _) | (with_reducible refine Below.trans ?_ (Below.mono (by assumption) (by first | omega | (simp; done) | (simp; omega))))))))).mono ?_); rintro e w1 ⟨rfl, hb⟩; obtain ⟨hc, hf, hz⟩ := bcall hb; (try simp at hc hf hz))
      go_ret
      refine ⟨by simp, ?_⟩
      have hW := HWr.out
      (repeat' (first | (with_reducible exact Below.refl _ _) | (with_reducible refine Below.setCell ?_ (by first | omega | (simp; done) | (simp; omega)) _) | (with_reducible refine Below.alloc ?_ (by first | omega | (simp; done) | (simp; omega)) _) | (with_reducible refine Below.drew ?_) | (with_reducible refine below_drewN ?_ _) | (with_reducible refine Below.trans ?_ (Below.mono (by assumption) (by first | omega | (simp; done) | (simp; omega))))))

theorem phaseEven_row (W H : Int) (ao : Option Addr) (n c : Nat) (A : Nat → Nat → Int) (bo : Option Addr) (m d : Nat) (B : Nat → Nat → Int) (w : World) (hT : Ends w) (_ : Wf W) (_ : Wf H) (hn : n ≤ c) (hc : c ≤ maxLen) (hA : CellsIn w ao n A) (hm : m ≤ d) (hd : d ≤ maxLen) (hB : CellsIn w bo m B) :
    Calls Tryd.prog 6 #[.agg #[.int .i64 W, .int .i64 H, .slice (ao) n c, .slice (bo) m d]] w fun e w' => e = .returned (.bool true) ∧ Below w.heap.size w w' := by
  unfold maxLen at hc hd
  by_cases hs : n ≤ 200 ∧ m ≤ 200
  · by_cases ht : W < 3 ∨ H < 3
    · exact phaseEven_thin W H ao n c bo m d w hT hs.1 hs.2 ht
    · by_cases hv : VM W H n A m B
      · obtain rfl := hv.len
        obtain ⟨W', H', rfl, rfl, s, _⟩ := Sides.vg hv.1.1
        obtain ⟨b, ob, rfl, lb, hC⟩ := cells_of1 s hA
        obtain ⟨b2, o2, rfl, lb2, hD⟩ := cells_of1 s hB
        exact phaseEven_in W' H' m c d b ob b2 o2 A B w hT s (by omega) (by omega) hs.1 hv lb hC lb2 hD
      · exact phaseEven_bad W H ao n c A bo m d B w hT hs.1 hs.2 (by omega) (by omega) hv hA hB
  · exact phaseEven_out W H ao n c bo m d w hT (by omega) (by omega) hs
end Go.Proofs.YtglkikdjchpmjaaDoor
