/- The law FieldLoops: corners that are right. -/
import Derived.Test.YtmpfchgampiohaaDoorKLawFL1
import Derived.Test.YtmpfchgampiohaaDoorKFAlike
import Derived.Test.YtmpfchgampiohaaDoorKFPthP
import Derived.Deep.AppendLies
import Derived.Deep.RegionHeld3
namespace Go.Proofs.YtmpfchgampiohaaDoor
set_option linter.unusedSimpArgs false
set_option linter.unusedVariables false
open Go.RowKit Go.Shelf
attribute [local go_sem] Oper.semAt_some

theorem three_set2 {w : World} {B : Nat} {t : TypeId} {x y z : Value} (h : Three w B t x y z) (u : Value) : Three (w.setCell ⟨B, 2, none⟩ u) B t x y u := by
  unfold Three at *
  simp only [World.setCell, Array.getElem?_modify, ↓reduceIte, h, Option.map_some]
  rfl
theorem upN_get : ∀ {n i : Nat}, i < n → (upN n)[i]? = some i := by
  intro n
  induction n with
  | zero => intro i h; omega
  | succ n ih =>
    intro i h
    rw [show upN (n + 1) = upN n ++ [n] from rfl]
    by_cases e : i < n
    · rw [List.getElem?_append_left (by rw [upN_len]; exact e)]
      exact ih e
    · obtain rfl : i = n := by omega
      rw [List.getElem?_append_right (by rw [upN_len]; exact Nat.le_refl _), upN_len]
      simp
set_option maxRecDepth 100000 in
set_option maxHeartbeats 16000000 in
theorem fl_ok (W H n cap b off : Nat) (a0 a1 b0 b1 sd z x y z2 er2 : Int) (G : Nat → Nat → Int) (w : World) (hM : Mvs w) (lb : b < w.heap.size) (hG : Grd w b off n G) (hO : OkG n G) (hn1 : 1 ≤ n) (hn : n ≤ 1024)
    (BG : ∀ wx, Calls Tryd.prog 18 #[.agg #[.int .i64 W, .int .i64 H, .slice (some ⟨b, off, none⟩) n cap]] wx fun e w' => e = .returned (.bool false) ∧ Below wx.heap.size wx w')
    (CI : ∀ wx, Below w.heap.size w wx → Calls Tryd.prog 19 #[.agg #[.int .i64 W, .int .i64 H, .slice (some ⟨b, off, none⟩) n cap], .agg #[.int .i64 a0, .int .i64 a1], .agg #[.int .i64 b0, .int .i64 b1]] wx fun e w' => e = .returned (.tuple #[.int .i64 z, .int .i64 0]) ∧ Below wx.heap.size wx w')
    (CR : ∀ wx, Below w.heap.size w wx → Calls Tryd.prog 22 #[.agg #[.int .i64 W, .int .i64 H, .slice (some ⟨b, off, none⟩) n cap], .agg #[.int .i64 a0, .int .i64 a1], .agg #[.int .i64 b0, .int .i64 b1]] wx fun e w' => e = .returned (.tuple #[.int .i64 z, .int .i64 0]) ∧ Below wx.heap.size wx w')
    (VI : ∀ wx, Below w.heap.size w wx → Calls Tryd.prog 23 #[.agg #[.int .i64 W, .int .i64 H, .slice (some ⟨b, off, none⟩) n cap], .int .i64 sd] wx fun e w' => e = .returned (.tuple #[.agg #[.int .i64 x, .int .i64 y], .int .i64 z2, .int .i64 er2]) ∧ Below wx.heap.size wx w')
    (VR : ∀ wx, Below w.heap.size w wx → Calls Tryd.prog 24 #[.agg #[.int .i64 W, .int .i64 H, .slice (some ⟨b, off, none⟩) n cap], .int .i64 sd] wx fun e w' => e = .returned (.tuple #[.agg #[.int .i64 x, .int .i64 y], .int .i64 z2, .int .i64 er2]) ∧ Below wx.heap.size wx w')
    (CA : ∀ (K : Nat → Nat → Int) g c wx, OkG n K → (∃ d0 d1 d2 d3, K = cst d0 d1 d2 d3) → g < wx.heap.size → Grd wx g 0 n K → Calls Tryd.prog 19 #[.agg #[.int .i64 W, .int .i64 H, .slice (some ⟨g, 0, none⟩) n c], .agg #[.int .i64 a0, .int .i64 a1], .agg #[.int .i64 b0, .int .i64 b1]] wx fun e w' => e = .returned (.tuple #[.int .i64 0, .int .i64 0]) ∧ Below wx.heap.size wx w') :
    Calls Tryd.prog 5 #[.agg #[.int .i64 W, .int .i64 H, .slice (some ⟨b, off, none⟩) n cap], .agg #[.int .i64 a0, .int .i64 a1], .agg #[.int .i64 b0, .int .i64 b1], .int .i64 sd] w fun e w' => e = .returned (.bool true) ∧ Below w.heap.size w w' := by
  have HM := Lib.hid hM
  have BG := Lib.hid BG
  have CI := Lib.hid CI
  have CR := Lib.hid CR
  have VI := Lib.hid VI
  have VR := Lib.hid VR
  have HG := Lib.hid hG
  have HO := Lib.hid hO
  clear hM hG hO
  go_enter Tryd.func5, Tryd.ntmps5
  obtain ⟨w1, hw1⟩ : ∃ w1, w1 = ((w.alloc (.cells #[.int .i64 W, .int .i64 H, .slice (some ⟨b, off, none⟩) n cap] 24)).alloc (.cells #[.int .i64 a0, .int .i64 a1] 36)).alloc (.cells #[.int .i64 b0, .int .i64 b1] 36) := ⟨_, rfl⟩
  have t4 := three_alloc (three_alloc (Three.new0 w 24 (.int .i64 W) (.int .i64 H) (.slice (some ⟨b, off, none⟩) n cap)) (.cells #[.int .i64 a0, .int .i64 a1] 36)) (.cells #[.int .i64 b0, .int .i64 b1] 36)
  have t5 := (Two.new (w.alloc (.cells #[.int .i64 W, .int .i64 H, .slice (some ⟨b, off, none⟩) n cap] 24)) 36 (.int .i64 a0) (.int .i64 a1)).alloc (.cells #[.int .i64 b0, .int .i64 b1] 36)
  have t6 := Two.new ((w.alloc (.cells #[.int .i64 W, .int .i64 H, .slice (some ⟨b, off, none⟩) n cap] 24)).alloc (.cells #[.int .i64 a0, .int .i64 a1] 36)) 36 (.int .i64 b0) (.int .i64 b1)
  simp only [World.size_alloc] at t5 t6
  have hb1 : Below w.heap.size w (((w.alloc (.cells #[.int .i64 W, .int .i64 H, .slice (some ⟨b, off, none⟩) n cap] 24)).alloc (.cells #[.int .i64 a0, .int .i64 a1] 36)).alloc (.cells #[.int .i64 b0, .int .i64 b1] 36)) := by (repeat' (first | (with_reducible exact Below.refl _ _) | (with_reducible refine Below.setCell ?_ (by first | omega | (simp; done) | (simp; omega)) _) | (with_reducible refine Below.alloc ?_ (by first | omega | (simp; done) | (simp; omega)) _) | (with_reducible refine Below.drew ?_) | (with_reducible refine below_drewN ?_ _) | (with_reducible refine Below.trans ?_ (Below.mono (by assumption) (by first | omega | (simp; done) | (simp; omega))))))
  rw [← hw1] at t4 t5 t6 hb1
  go_wp2_with fail
  rw [← hw1]
  clear hw1
  have s1 := hb1.size
  have l4 := t4.lt
  have l5 := t5.lt
  have l6 := t6.lt
  have T4 := Lib.hid t4
  have T5 := Lib.hid t5
  have T6 := Lib.hid t6
  have HB := Lib.hid hb1
  have B0 := Lib.hid (Below.refl w1.heap.size w1)
  clear t4 t5 t6 hb1
  (go_at_call 17; (refine (awake08_any _ (HM.out.below (HB.out.trans (B0.out.mono s1)))).mono ?_); rintro e v1 ⟨rfl, hb1⟩)
  have B1 := Lib.hid (B0.out.trans (hb1.mono B0.out.size))
  clear hb1
  have q0 := (T4.out.below B1.out l4).c0
  have q1 := (T4.out.below B1.out l4).c1
  have q2 := (T4.out.below B1.out l4).c2
  have r0 := (T5.out.below B1.out l5).c0
  have r1 := (T5.out.below B1.out l5).c1
  have u0 := (T6.out.below B1.out l6).c0
  have u1 := (T6.out.below B1.out l6).c1
  have z1 := B1.out.size
  go_wp2_with fail
  clear q0 q1 q2 r0 r1 u0 u1 z1
  (go_at_call 18; (refine (BG.out _).mono ?_); rintro e v2 ⟨rfl, hb2⟩)
  have B2 := Lib.hid (B1.out.trans (hb2.mono B1.out.size))
  clear hb2
  have q0 := (T4.out.below B2.out l4).c0
  have q1 := (T4.out.below B2.out l4).c1
  have q2 := (T4.out.below B2.out l4).c2
  have r0 := (T5.out.below B2.out l5).c0
  have r1 := (T5.out.below B2.out l5).c1
  have u0 := (T6.out.below B2.out l6).c0
  have u1 := (T6.out.below B2.out l6).c1
  have z1 := B2.out.size
  go_wp2_with fail
  clear q0 q1 q2 r0 r1 u0 u1 z1
  (go_at_call 19; (refine (CI.out _ (HB.out.trans (B2.out.mono s1))).mono ?_); rintro e v3 ⟨rfl, hb3⟩)
  have B3 := Lib.hid (B2.out.trans (hb3.mono B2.out.size))
  clear hb3
  have q0 := (T4.out.below B3.out l4).c0
  have q1 := (T4.out.below B3.out l4).c1
  have q2 := (T4.out.below B3.out l4).c2
  have r0 := (T5.out.below B3.out l5).c0
  have r1 := (T5.out.below B3.out l5).c1
  have u0 := (T6.out.below B3.out l6).c0
  have u1 := (T6.out.below B3.out l6).c1
  have z1 := B3.out.size
  go_wp2_with fail
  clear q0 q1 q2 r0 r1 u0 u1 z1
  (go_at_call 22; (refine (CR.out _ (HB.out.trans (B3.out.mono s1))).mono ?_); rintro e v4 ⟨rfl, hb4⟩)
  have B4 := Lib.hid (B3.out.trans (hb4.mono B3.out.size))
  clear hb4
  have q0 := (T4.out.below B4.out l4).c0
  have q1 := (T4.out.below B4.out l4).c1
  have q2 := (T4.out.below B4.out l4).c2
  have r0 := (T5.out.below B4.out l5).c0
  have r1 := (T5.out.below B4.out l5).c1
  have u0 := (T6.out.below B4.out l6).c0
  have u1 := (T6.out.below B4.out l6).c1
  have z1 := B4.out.size
  go_wp2_with fail
  clear q0 q1 q2 r0 r1 u0 u1 z1
  (go_at_call 23; (refine (VI.out _ (HB.out.trans (B4.out.mono s1))).mono ?_); rintro e v5 ⟨rfl, hb5⟩)
  have B5 := Lib.hid (B4.out.trans (hb5.mono B4.out.size))
  clear hb5
  have q0 := (T4.out.below B5.out l4).c0
  have q1 := (T4.out.below B5.out l4).c1
  have q2 := (T4.out.below B5.out l4).c2
  have r0 := (T5.out.below B5.out l5).c0
  have r1 := (T5.out.below B5.out l5).c1
  have u0 := (T6.out.below B5.out l6).c0
  have u1 := (T6.out.below B5.out l6).c1
  have z1 := B5.out.size
  go_wp2_with fail
  clear q0 q1 q2 r0 r1 u0 u1 z1
  have D5 := Lib.hid (B5.out.alloc B5.out.size (.cells #[.int .i64 x, .int .i64 y] 36))
  obtain ⟨P13, hP13⟩ : ∃ P, P = v5.heap.size := ⟨_, rfl⟩
  have X13 := Lib.hid (Two.new v5 36 (.int .i64 x) (.int .i64 y))
  (go_at_call 24; (refine (VR.out _ (HB.out.trans (D5.out.mono s1))).mono ?_); rintro e v6 ⟨rfl, hb6⟩)
  have x13 := X13.out.below hb6 X13.out.lt
  have B6 := Lib.hid (D5.out.trans (hb6.mono D5.out.size))
  have z6 := hb6.size
  simp only [World.size_alloc] at z6
  clear hb6
  have q0 := (T4.out.below B6.out l4).c0
  have q1 := (T4.out.below B6.out l4).c1
  have q2 := (T4.out.below B6.out l4).c2
  have r0 := (T5.out.below B6.out l5).c0
  have r1 := (T5.out.below B6.out l5).c1
  have u0 := (T6.out.below B6.out l6).c0
  have u1 := (T6.out.below B6.out l6).c1
  have z1 := B6.out.size
  have p0 := x13.c0
  have p1 := x13.c1
  go_wp2_with fail
  clear q0 q1 q2 r0 r1 u0 u1 z1 p0 p1
  clear X13 x13
  have BG2 := Lib.hid (B6.out.alloc B6.out.size (.cells #[.int .i64 x, .int .i64 y] 36))
  have BG3 := Lib.hid (BG2.out.alloc BG2.out.size (.cells #[.int .i64 W, .int .i64 H, .slice none 0 0] 24))
  have t19 := Three.new0 (v6.alloc (.cells #[.int .i64 x, .int .i64 y] 36)) 24 (.int .i64 W) (.int .i64 H) (.slice none 0 0)
  simp only [World.size_alloc] at t19
  obtain ⟨w2, hw2⟩ : ∃ w2, w2 = (v6.alloc (.cells #[.int .i64 x, .int .i64 y] 36)).alloc (.cells #[.int .i64 W, .int .i64 H, .slice none 0 0] 24) := ⟨_, rfl⟩
  obtain ⟨P, hP⟩ : ∃ P, P = v6.heap.size + 1 := ⟨_, rfl⟩
  have hsz : w2.heap.size = P + 1 := by rw [hw2, hP]; simp
  have hP1 : w1.heap.size ≤ P := by have := B6.out.size; omega
  have b2 := BG3.out
  rw [← hw2] at b2 t19 ⊢
  rw [← hP] at t19 ⊢
  clear hw2 hP hP13 BG2 BG3 B0 B1 B2 B3 B4 B5 D5 VI VR CR BG
  have t4 := T4.out.below b2 l4
  have L4 := Lib.hid t4
  obtain ⟨i0, hif, hz0, hz1, hz2⟩ := info_parts info_cell
  have hw2b := HB.out.trans (b2.mono s1)
  have hgr := HG.out.below hw2b lb
  obtain ⟨y0, y1, y2, y3⟩ := hgr 0 (by omega)
  obtain ⟨o0, o1, o2, o3, o4⟩ := HO.out.1 0 (by omega)
  obtain ⟨d0, hd0⟩ : ∃ d, d = G 0 0 := ⟨_, rfl⟩
  obtain ⟨d1, hd1⟩ : ∃ d, d = G 0 1 := ⟨_, rfl⟩
  obtain ⟨d2, hd2⟩ : ∃ d, d = G 0 2 := ⟨_, rfl⟩
  obtain ⟨d3, hd3⟩ : ∃ d, d = G 0 3 := ⟨_, rfl⟩
  rw [← hd0] at y0 o0 o4
  rw [← hd1] at y1 o1 o4
  rw [← hd2] at y2 o2 o4
  rw [← hd3] at y3 o3 o4
  simp only [Nat.zero_mul, Nat.add_zero] at y0 y1 y2 y3
  obtain ⟨f0, hf0⟩ : ∃ f, f = d0.tmod 1000 := ⟨_, rfl⟩
  obtain ⟨f1, hf1⟩ : ∃ f, f = d1.tmod 1000 := ⟨_, rfl⟩
  obtain ⟨f2, hf2⟩ : ∃ f, f = d2.tmod 1000 := ⟨_, rfl⟩
  obtain ⟨f3, hf3⟩ : ∃ f, f = d3.tmod 1000 := ⟨_, rfl⟩
  have HF := Lib.hid (show (0 ≤ f0 ∧ f0 < 1000) ∧ (0 ≤ f1 ∧ f1 < 1000) ∧ (0 ≤ f2 ∧ f2 < 1000) ∧ (0 ≤ f3 ∧ f3 < 1000) from by
    rw [hf0, hf1, hf2, hf3, Int.tmod_eq_emod_of_nonneg o0, Int.tmod_eq_emod_of_nonneg o1, Int.tmod_eq_emod_of_nonneg o2, Int.tmod_eq_emod_of_nonneg o3]
    omega)
  clear hd0 hd1 hd2 hd3 hgr
  go_loopw [85] (fun i wr => ∃ k : Nat, k ≤ n ∧ i = .int .i64 (k : Int) ∧ Hid (∃ v, Three wr P 24 (.int .i64 W) (.int .i64 H) v ∧ wr.ownsRow w2.heap.size 49 4 v k (cellV (cst f0 f1 f2 f3) (upN k)) ∧ Below P w2 wr)) (fun i _ => n - (Go.RowKit.intOf i).toNat)
  case atStart => exact ⟨0, Nat.zero_le _, rfl, Lib.hid ⟨_, t19, World.ownsRow_nil _ _ _ _, Below.refl _ _⟩⟩
  case round =>
    obtain ⟨k, hk, rfl, HH⟩ := hrel
    obtain ⟨v, hT, hown, hbr⟩ := HH.out
    by_cases hlk : k < n
    · have p1 : (k : Int) < (n : Int) := by omega
      have hPr := hbr
      have lP2 : P < w2.heap.size := by omega
      have sr := hbr.size
      have lPr : P < wr.heap.size := by omega
      have bP : b < P := by have := hw2b.size; omega
      have wP : w.heap.size < P := by omega
      have m2 := (t4.below hbr wP).c2
      have y0 := (hbr.cell (p := ⟨b, off, none⟩) bP).trans y0
      have y1 := (hbr.cell (p := ⟨b, off + 1, none⟩) bP).trans y1
      have y2 := (hbr.cell (p := ⟨b, off + 2, none⟩) bP).trans y2
      have y3 := (hbr.cell (p := ⟨b, off + 3, none⟩) bP).trans y3
      obtain ⟨va, vc, rfl⟩ : ∃ va vc, v = .slice va k vc := by
        rcases hown.2 with ⟨rfl, h0⟩ | ⟨g, c, cur, rfl, _⟩
        · exact ⟨none, 0, by rw [h0]⟩
        · exact ⟨_, _, rfl⟩
      have HOW := Lib.hid hown
      have HT3 := Lib.hid hT
      have HBR := Lib.hid hbr
      have mP := hT.c2
      have fP : wr.frozen? ⟨P, 2, none⟩ = false := by simp [World.frozen?, show wr.heap[P]? = _ from hT]
      have e0 : Int.tmod d0 1000 = f0 := hf0.symm
      have e1 : Int.tmod d1 1000 = f1 := hf1.symm
      have e2 : Int.tmod d2 1000 = f2 := hf2.symm
      have e3 : Int.tmod d3 1000 = f3 := hf3.symm
      have r0 : (0 : Int) < (n : Int) := by omega
      have r9 : 0 < n := hn1
      have HNX := Lib.hid (show ∀ (w8 : World) (g cp : Nat), w8.ownsRow w2.heap.size 49 4 (.slice (some ⟨g, 0, none⟩) (k + 1) cp) (k + 1) (cellV (cst f0 f1 f2 f3) (upN k) ++ [.int .i64 f0, .int .i64 f1, .int .i64 f2, .int .i64 f3]) → (w8.setCell ⟨P, 2, none⟩ (.slice (some ⟨g, 0, none⟩) (k + 1) cp)).ownsRow w2.heap.size 49 4 (.slice (some ⟨g, 0, none⟩) (k + 1) cp) (k + 1) (cellV (cst f0 f1 f2 f3) (upN (k + 1))) from fun w8 g cp h => by
        rw [show upN (k + 1) = upN k ++ [k] from rfl, cellV_app]
        exact ownsRow_setCell_below h (a := ⟨P, 2, none⟩) lP2 _)
      have HBX := Lib.hid (show ∀ (X : World), Below wr.heap.size wr X → ∀ {w8 : World}, X.grownBy w8 (Value.slice va k vc).ownBlock → ∀ u, Below P w2 (w8.setCell ⟨P, 2, none⟩ u) from fun X hX w8 hg u => by
        have h1 : Below P w2 X := HBR.out.trans (hX.mono (by omega))
        refine (h1.grown hg (by have := hX.size; omega) (fun j hj => ?_)).setCell (p := ⟨P, 2, none⟩) (Nat.le_refl _) _
        have := (own_rowF HOW.out j hj).1
        omega)
      clear hf0 hf1 hf2 hf3 hown hT hbr hPr
      go_wp2_with fail
      refine wp_region_noPanic ?_
      refine wp_region_held_drew (S := fun w' => w'.cell? ⟨w.heap.size, 2, none⟩ = some (.slice (some ⟨b, off, none⟩) n cap) ∧ w'.cell? ⟨b, off, none⟩ = some (.int .i64 d0) ∧ w'.cell? ⟨b, off + 1, none⟩ = some (.int .i64 d1) ∧ w'.cell? ⟨b, off + 2, none⟩ = some (.int .i64 d2) ∧ w'.cell? ⟨b, off + 3, none⟩ = some (.int .i64 d3)) (by kernel_rfl) ?_ (fun hHeld => ?_)
      · ((try dsimp only); (first | (go_split_ands; (try dsimp only); refine ⟨?_, ?_, ?_, ?_, ?_⟩ <;> (first | (with_reducible assumption) | (with_reducible exact keep_cell (by assumption) (by first | omega | (simp; done) | (simp; omega)) (by assumption)) | (with_reducible exact (World.cell?_alloc_past _ _ _ (by show _ < _; omega)).trans (by assumption)) | (with_reducible exact (World.cell?_alloc_past _ _ _ (by show _ < _; omega)).trans ((World.cell?_alloc_past _ _ _ (by show _ < _; omega)).symm.trans (by assumption))) | (simp [go_sem]; with_reducible assumption))) | (simp [go_sem, ↓IntWalk.iteOmega, *]; done)))
      refine wpAnyH_take (i := 0) (v := ?_) rfl (by kernel_rfl) (by kernel_rfl) (by kernel_rfl) (fun _ _ _ h => h) (Or.inl ⟨by rfl, ?_⟩) (by assumption) ?_
      rotate_left
      · (intro w hSw; (try dsimp only at hSw); go_simp; (try with_reducible rfl))
      (try simp only [Act.put, List.setIfInBounds_toArray, List.set_cons_zero, List.set_cons_succ])
      refine wpAnyH_take (i := 2) (v := ?_) rfl (by kernel_rfl) (by kernel_rfl) (by kernel_rfl) (fun _ _ _ h => h) (Or.inl ⟨by rfl, ?_⟩) (by assumption) ?_
      rotate_left
      · (intro w hSw; (try dsimp only at hSw); go_simp; (try with_reducible rfl))
      (try simp only [Act.put, List.setIfInBounds_toArray, List.set_cons_zero, List.set_cons_succ])
      refine wpAnyH_take (i := 3) (v := ?_) rfl (by kernel_rfl) (by kernel_rfl) (by kernel_rfl) (fun _ _ _ h => h) (Or.inl ⟨by rfl, ?_⟩) (by assumption) ?_
      rotate_left
      · (intro w hSw; (try dsimp only at hSw); go_simp; (try with_reducible rfl))
      (try simp only [Act.put, List.setIfInBounds_toArray, List.set_cons_zero, List.set_cons_succ])
      refine wpAnyH_take (i := 4) (v := ?_) rfl (by kernel_rfl) (by kernel_rfl) (by kernel_rfl) (fun _ _ _ h => h) (Or.inl ⟨by rfl, ?_⟩) (by assumption) ?_
      rotate_left
      · (intro w hSw; (try dsimp only at hSw); go_simp; (try with_reducible rfl))
      (try simp only [Act.put, List.setIfInBounds_toArray, List.set_cons_zero, List.set_cons_succ])
      refine wpAnyH_take (i := 5) (v := ?_) rfl (by kernel_rfl) (by kernel_rfl) (by kernel_rfl) (fun _ _ _ h => h) (Or.inl ⟨by rfl, ?_⟩) (by assumption) ?_
      rotate_left
      · (intro w hSw; (try dsimp only at hSw); go_simp; (try with_reducible rfl))
      (try simp only [Act.put, List.setIfInBounds_toArray, List.set_cons_zero, List.set_cons_succ])
      refine wpAnyH_take (i := 6) (v := ?_) rfl (by kernel_rfl) (by kernel_rfl) (by kernel_rfl) (fun _ _ _ h => h) (Or.inl ⟨by rfl, ?_⟩) (by assumption) ?_
      rotate_left
      · (intro w hSw; (try dsimp only at hSw); go_simp; (try with_reducible rfl))
      (try simp only [Act.put, List.setIfInBounds_toArray, List.set_cons_zero, List.set_cons_succ])
      refine wpAnyH_take (i := 7) (v := ?_) rfl (by kernel_rfl) (by kernel_rfl) (by kernel_rfl) (fun _ _ _ h => h) (Or.inl ⟨by rfl, ?_⟩) (by assumption) ?_
      rotate_left
      · (intro w hSw; (try dsimp only at hSw); go_simp; (try with_reducible rfl))
      (try simp only [Act.put, List.setIfInBounds_toArray, List.set_cons_zero, List.set_cons_succ])
      refine wpAnyH_take (i := 8) (v := ?_) rfl (by kernel_rfl) (by kernel_rfl) (by kernel_rfl) (fun _ _ _ h => h) (Or.inl ⟨by rfl, ?_⟩) (by assumption) ?_
      rotate_left
      · (intro w hSw; (try dsimp only at hSw); go_simp; (try with_reducible rfl))
      (try simp only [Act.put, List.setIfInBounds_toArray, List.set_cons_zero, List.set_cons_succ])
      refine wpAnyH_take (i := 9) (v := ?_) rfl (by kernel_rfl) (by kernel_rfl) (by kernel_rfl) (fun _ _ _ h => h) (Or.inl ⟨by rfl, ?_⟩) (by assumption) ?_
      rotate_left
      · (intro w hSw; (try dsimp only at hSw); go_simp; (try with_reducible rfl))
      (try simp only [Act.put, List.setIfInBounds_toArray, List.set_cons_zero, List.set_cons_succ])
      refine wpAnyH_take (i := 10) (v := ?_) rfl (by kernel_rfl) (by kernel_rfl) (by kernel_rfl) (fun _ _ _ h => h) (Or.inl ⟨by rfl, ?_⟩) (by assumption) ?_
      rotate_left
      · (intro w hSw; (try dsimp only at hSw); go_simp; (try with_reducible rfl))
      (try simp only [Act.put, List.setIfInBounds_toArray, List.set_cons_zero, List.set_cons_succ])
      refine wpAnyH_take (i := 11) (v := ?_) rfl (by kernel_rfl) (by kernel_rfl) (by kernel_rfl) (fun _ _ _ h => h) (Or.inl ⟨by rfl, ?_⟩) (by assumption) ?_
      rotate_left
      · (intro w hSw; (try dsimp only at hSw); go_simp; (try with_reducible rfl))
      (try simp only [Act.put, List.setIfInBounds_toArray, List.set_cons_zero, List.set_cons_succ])
      refine wpAnyH_take (i := 12) (v := ?_) rfl (by kernel_rfl) (by kernel_rfl) (by kernel_rfl) (fun _ _ _ h => h) (Or.inl ⟨by rfl, ?_⟩) (by assumption) ?_
      rotate_left
      · (intro w hSw; (try dsimp only at hSw); go_simp; (try with_reducible rfl))
      (try simp only [Act.put, List.setIfInBounds_toArray, List.set_cons_zero, List.set_cons_succ])
      refine wpAnyH_take (i := 13) (v := ?_) rfl (by kernel_rfl) (by kernel_rfl) (by kernel_rfl) (fun _ _ _ h => h) (Or.inl ⟨by rfl, ?_⟩) (by assumption) ?_
      rotate_left
      · (intro w hSw; (try dsimp only at hSw); go_simp; (try with_reducible rfl))
      (try simp only [Act.put, List.setIfInBounds_toArray, List.set_cons_zero, List.set_cons_succ])
      refine wpAnyH_take (i := 14) (v := ?_) rfl (by kernel_rfl) (by kernel_rfl) (by kernel_rfl) (fun _ _ _ h => h) (Or.inl ⟨by rfl, ?_⟩) (by assumption) ?_
      rotate_left
      · (intro w hSw; (try dsimp only at hSw); go_simp; (try with_reducible rfl))
      (try simp only [Act.put, List.setIfInBounds_toArray, List.set_cons_zero, List.set_cons_succ])
      refine wpAnyH_take (i := 15) (v := ?_) rfl (by kernel_rfl) (by kernel_rfl) (by kernel_rfl) (fun _ _ _ h => h) (Or.inl ⟨by rfl, ?_⟩) (by assumption) ?_
      rotate_left
      · (intro w hSw; (try dsimp only at hSw); go_simp; (try with_reducible rfl))
      (try simp only [Act.put, List.setIfInBounds_toArray, List.set_cons_zero, List.set_cons_succ])
      refine wpAnyH_take (i := 16) (v := ?_) rfl (by kernel_rfl) (by kernel_rfl) (by kernel_rfl) (fun _ _ _ h => h) (Or.inl ⟨by rfl, ?_⟩) (by assumption) ?_
      rotate_left
      · (intro w hSw; (try dsimp only at hSw); go_simp; (try with_reducible rfl))
      (try simp only [Act.put, List.setIfInBounds_toArray, List.set_cons_zero, List.set_cons_succ])
      refine wpAnyH_take (i := 17) (v := ?_) rfl (by kernel_rfl) (by kernel_rfl) (by kernel_rfl) (fun _ _ _ h => h) (Or.inl ⟨by rfl, ?_⟩) (by assumption) ?_
      rotate_left
      · (intro w hSw; (try dsimp only at hSw); go_simp; (try with_reducible rfl))
      (try simp only [Act.put, List.setIfInBounds_toArray, List.set_cons_zero, List.set_cons_succ])
      refine wpAnyH_take (i := 18) (v := ?_) rfl (by kernel_rfl) (by kernel_rfl) (by kernel_rfl) (fun _ _ _ h => h) (Or.inl ⟨by rfl, ?_⟩) (by assumption) ?_
      rotate_left
      · (intro w hSw; (try dsimp only at hSw); go_simp; (try with_reducible rfl))
      (try simp only [Act.put, List.setIfInBounds_toArray, List.set_cons_zero, List.set_cons_succ])
      refine wpAnyH_take (i := 19) (v := ?_) rfl (by kernel_rfl) (by kernel_rfl) (by kernel_rfl) (fun _ _ _ h => h) (Or.inl ⟨by rfl, ?_⟩) (by assumption) ?_
      rotate_left
      · (intro w hSw; (try dsimp only at hSw); go_simp; (try with_reducible rfl))
      (try simp only [Act.put, List.setIfInBounds_toArray, List.set_cons_zero, List.set_cons_succ])
      refine wpAnyH_take (i := 20) (v := ?_) rfl (by kernel_rfl) (by kernel_rfl) (by kernel_rfl) (fun _ _ _ h => h) (Or.inl ⟨by rfl, ?_⟩) (by assumption) ?_
      rotate_left
      · (intro w hSw; (try dsimp only at hSw); go_simp; (try with_reducible rfl))
      (try simp only [Act.put, List.setIfInBounds_toArray, List.set_cons_zero, List.set_cons_succ])
      refine wpAnyH_take (i := 21) (v := ?_) rfl (by kernel_rfl) (by kernel_rfl) (by kernel_rfl) (fun _ _ _ h => h) (Or.inl ⟨by rfl, ?_⟩) (by assumption) ?_
      rotate_left
      · (intro w hSw; (try dsimp only at hSw); go_simp; (try with_reducible rfl))
      (try simp only [Act.put, List.setIfInBounds_toArray, List.set_cons_zero, List.set_cons_succ])
      refine wpAnyH_take (i := 22) (v := ?_) rfl (by kernel_rfl) (by kernel_rfl) (by kernel_rfl) (fun _ _ _ h => h) (Or.inl ⟨by rfl, ?_⟩) (by assumption) ?_
      rotate_left
      · (intro w hSw; (try dsimp only at hSw); go_simp; (try with_reducible rfl))
      (try simp only [Act.put, List.setIfInBounds_toArray, List.set_cons_zero, List.set_cons_succ])
      refine wpAnyH_take (i := 23) (v := ?_) rfl (by kernel_rfl) (by kernel_rfl) (by kernel_rfl) (fun _ _ _ h => h) (Or.inl ⟨by rfl, ?_⟩) (by assumption) ?_
      rotate_left
      · (intro w hSw; (try dsimp only at hSw); go_simp; (try with_reducible rfl))
      (try simp only [Act.put, List.setIfInBounds_toArray, List.set_cons_zero, List.set_cons_succ])
      refine wpAnyH_take (i := 24) (v := ?_) rfl (by kernel_rfl) (by kernel_rfl) (by kernel_rfl) (fun _ _ _ h => h) (Or.inl ⟨by rfl, ?_⟩) (by assumption) ?_
      rotate_left
      · (intro w hSw; (try dsimp only at hSw); go_simp; (try with_reducible rfl))
      (try simp only [Act.put, List.setIfInBounds_toArray, List.set_cons_zero, List.set_cons_succ])
      refine wpAnyH_take (i := 25) (v := ?_) rfl (by kernel_rfl) (by kernel_rfl) (by kernel_rfl) (fun _ _ _ h => h) (Or.inl ⟨by rfl, ?_⟩) (by assumption) ?_
      rotate_left
      · (intro w hSw; (try dsimp only at hSw); go_simp; (try with_reducible rfl))
      (try simp only [Act.put, List.setIfInBounds_toArray, List.set_cons_zero, List.set_cons_succ])
      refine wpAnyH_take (i := 26) (v := ?_) rfl (by kernel_rfl) (by kernel_rfl) (by kernel_rfl) (fun _ _ _ h => h) (Or.inl ⟨by rfl, ?_⟩) (by assumption) ?_
      rotate_left
      · (intro w hSw; (try dsimp only at hSw); go_simp; (try with_reducible rfl))
      (try simp only [Act.put, List.setIfInBounds_toArray, List.set_cons_zero, List.set_cons_succ])
      refine wpAnyH_ready (rs := [1, 27]) (by kernel_rfl) (by simp) ?_
      refine AllReadyH.cons rfl (fun K hK => ?_) (AllReadyH.cons rfl (fun K hK => ?_) AllReadyH.nil)
      · go_simp
        refine hK.out _ _ ?_ (fun hHeld => ?_)
        · ((try dsimp only); (first | (go_split_ands; (try dsimp only); refine ⟨?_, ?_, ?_, ?_, ?_⟩ <;> (first | (with_reducible assumption) | (with_reducible exact keep_cell (by assumption) (by first | omega | (simp; done) | (simp; omega)) (by assumption)) | (with_reducible exact (World.cell?_alloc_past _ _ _ (by show _ < _; omega)).trans (by assumption)) | (with_reducible exact (World.cell?_alloc_past _ _ _ (by show _ < _; omega)).trans ((World.cell?_alloc_past _ _ _ (by show _ < _; omega)).symm.trans (by assumption))) | (simp [go_sem]; with_reducible assumption))) | (simp [go_sem, ↓IntWalk.iteOmega, *]; done)))
        clear hK K
        (try simp only [Act.put, List.setIfInBounds_toArray, List.set_cons_zero, List.set_cons_succ])
        refine wpAnyH_ready (rs := [27]) (by kernel_rfl) (by simp) ?_
        refine AllReadyH.cons rfl (fun K hK => ?_) AllReadyH.nil
        go_simp
        refine hK.out _ _ ?_ (fun hHeld => ?_)
        · ((try dsimp only); (first | (go_split_ands; (try dsimp only); refine ⟨?_, ?_, ?_, ?_, ?_⟩ <;> (first | (with_reducible assumption) | (with_reducible exact keep_cell (by assumption) (by first | omega | (simp; done) | (simp; omega)) (by assumption)) | (with_reducible exact (World.cell?_alloc_past _ _ _ (by show _ < _; omega)).trans (by assumption)) | (with_reducible exact (World.cell?_alloc_past _ _ _ (by show _ < _; omega)).trans ((World.cell?_alloc_past _ _ _ (by show _ < _; omega)).symm.trans (by assumption))) | (simp [go_sem]; with_reducible assumption))) | (simp [go_sem, ↓IntWalk.iteOmega, *]; done)))
        clear hK K
        (try simp only [Act.put, List.setIfInBounds_toArray, List.set_cons_zero, List.set_cons_succ])
        refine wpAnyH_ready (rs := [28]) (by kernel_rfl) (by simp) ?_
        refine AllReadyH.cons rfl (fun K hK => ?_) AllReadyH.nil
        have b6 : Below wr.heap.size wr (wr.drew.alloc (.cells #[.int .i64 f0, .int .i64 f1, .int .i64 f2, .int .i64 f3] 49)) := ((Below.refl _ wr).drew).alloc (Nat.le_refl _) _
        refine step_append_lies _ (by rfl) _ _ _ (by rfl) w2.heap.size 49 i0 (.agg #[.int .i64 0, .int .i64 0, .int .i64 0, .int .i64 0]) 4 32 Tryd.underlying22 hif hz0 hz1 hz2 rfl (by omega) (.slice va k vc) k (cellV (cst f0 f1 f2 f3) (upN k)) (by rfl) (owns_below HOW.out b6) _ 1 1 [.int .i64 f0, .int .i64 f1, .int .i64 f2, .int .i64 f3] (by rfl) (by rfl) (World.news_of_block (cs := #[.int .i64 f0, .int .i64 f1, .int .i64 f2, .int .i64 f3]) (t := 49) (fr := (0, 0)) (heap_alloc_new _ _)) (by simp [Value.oneCell']) (by omega) (by unfold maxLen; omega) (by omega) (by simp; omega) _ rfl ?_
        intro g cp w8 hown8 hgrow8 hat8 hlt8
        have low := fun j (hj : j < w2.heap.size) (e : some j = (Value.slice va k vc).ownBlock) => (show False by have := (own_rowF HOW.out j e.symm).1; omega)
        have x8 : ∀ j i u, j < w2.heap.size → j < wr.heap.size → wr.cell? ⟨j, i, none⟩ = some u → w8.cell? ⟨j, i, none⟩ = some u := fun j i u h1 h2 h3 => hgrow8.cell (a := ⟨j, i, none⟩) ((World.cell?_alloc_past _ _ _ h2).trans h3) (fun e => low j h1 e)
        have e8 : w8.heap[P]? = wr.heap[P]? := (hgrow8.block P (by simp; omega) (fun e => low P (by omega) e)).trans (Below.heap_alloc _ _ P lPr)
        have T8 : Three w8 P 24 (.int .i64 W) (.int .i64 H) (.slice va k vc) := e8.trans HT3.out
        have c8 := T8.c2
        have g8 : w8.frozen? ⟨P, 2, none⟩ = false := by simp [World.frozen?, show w8.heap[P]? = _ from T8]
        have l8 := T8.lt
        have k2 := x8 w.heap.size 2 _ (by omega) (by omega) m2
        have k3 := x8 b off _ (by omega) (by omega) y0
        have k4 := x8 b (off + 1) _ (by omega) (by omega) y1
        have k5 := x8 b (off + 2) _ (by omega) (by omega) y2
        have k6 := x8 b (off + 3) _ (by omega) (by omega) y3
        refine hK.out _ _ ?_ (fun hHeld => ?_)
        · ((try dsimp only); (first | (go_split_ands; (try dsimp only); refine ⟨?_, ?_, ?_, ?_, ?_⟩ <;> (first | (with_reducible assumption) | (with_reducible exact keep_cell (by assumption) (by first | omega | (simp; done) | (simp; omega)) (by assumption)) | (with_reducible exact (World.cell?_alloc_past _ _ _ (by show _ < _; omega)).trans (by assumption)) | (with_reducible exact (World.cell?_alloc_past _ _ _ (by show _ < _; omega)).trans ((World.cell?_alloc_past _ _ _ (by show _ < _; omega)).symm.trans (by assumption))) | (simp [go_sem]; with_reducible assumption))) | (simp [go_sem, ↓IntWalk.iteOmega, *]; done)))
        clear hK K
        (try simp only [Act.put, List.setIfInBounds_toArray, List.set_cons_zero, List.set_cons_succ])
        refine wpAnyH_take (i := 29) (v := ?_) rfl (by kernel_rfl) (by kernel_rfl) (by kernel_rfl) (fun _ _ _ h => h) (Or.inl ⟨by rfl, ?_⟩) (by assumption) ?_
        rotate_left
        · (intro w hSw; (try dsimp only at hSw); go_simp; (try with_reducible rfl))
        (try simp only [Act.put, List.setIfInBounds_toArray, List.set_cons_zero, List.set_cons_succ])
        refine wpAnyH_ready (rs := [30]) (by kernel_rfl) (by simp) ?_
        refine AllReadyH.cons rfl (fun K hK => ?_) AllReadyH.nil
        go_simp
        refine hK.out _ _ ?_ (fun hHeld => ?_)
        · ((try dsimp only); (first | (go_split_ands; (try dsimp only); refine ⟨?_, ?_, ?_, ?_, ?_⟩ <;> (first | (with_reducible assumption) | (with_reducible exact keep_cell (by assumption) (by first | omega | (simp; done) | (simp; omega)) (by assumption)) | (with_reducible exact (World.cell?_alloc_past _ _ _ (by show _ < _; omega)).trans (by assumption)) | (with_reducible exact (World.cell?_alloc_past _ _ _ (by show _ < _; omega)).trans ((World.cell?_alloc_past _ _ _ (by show _ < _; omega)).symm.trans (by assumption))) | (simp [go_sem]; with_reducible assumption))) | (simp [go_sem, ↓IntWalk.iteOmega, *]; done)))
        clear hK K
        (try simp only [Act.put, List.setIfInBounds_toArray, List.set_cons_zero, List.set_cons_succ])
        refine wpAnyH_done (by kernel_rfl) ?_ _
        refine NoPanic.normal ?_
        go_wp2
        go_roundw
        case rel => exact ⟨k + 1, by omega, by go_num, Lib.hid ⟨_, three_set2 T8 _, HNX.out _ _ _ hown8, HBX.out _ b6 hgrow8 _⟩⟩
        case measure => simp [Go.RowKit.intOf]; omega
      · go_simp
        refine hK.out _ _ ?_ (fun hHeld => ?_)
        · ((try dsimp only); (first | (go_split_ands; (try dsimp only); refine ⟨?_, ?_, ?_, ?_, ?_⟩ <;> (first | (with_reducible assumption) | (with_reducible exact keep_cell (by assumption) (by first | omega | (simp; done) | (simp; omega)) (by assumption)) | (with_reducible exact (World.cell?_alloc_past _ _ _ (by show _ < _; omega)).trans (by assumption)) | (with_reducible exact (World.cell?_alloc_past _ _ _ (by show _ < _; omega)).trans ((World.cell?_alloc_past _ _ _ (by show _ < _; omega)).symm.trans (by assumption))) | (simp [go_sem]; with_reducible assumption))) | (simp [go_sem, ↓IntWalk.iteOmega, *]; done)))
        clear hK K
        (try simp only [Act.put, List.setIfInBounds_toArray, List.set_cons_zero, List.set_cons_succ])
        refine wpAnyH_ready (rs := [1]) (by kernel_rfl) (by simp) ?_
        refine AllReadyH.cons rfl (fun K hK => ?_) AllReadyH.nil
        go_simp
        refine hK.out _ _ ?_ (fun hHeld => ?_)
        · ((try dsimp only); (first | (go_split_ands; (try dsimp only); refine ⟨?_, ?_, ?_, ?_, ?_⟩ <;> (first | (with_reducible assumption) | (with_reducible exact keep_cell (by assumption) (by first | omega | (simp; done) | (simp; omega)) (by assumption)) | (with_reducible exact (World.cell?_alloc_past _ _ _ (by show _ < _; omega)).trans (by assumption)) | (with_reducible exact (World.cell?_alloc_past _ _ _ (by show _ < _; omega)).trans ((World.cell?_alloc_past _ _ _ (by show _ < _; omega)).symm.trans (by assumption))) | (simp [go_sem]; with_reducible assumption))) | (simp [go_sem, ↓IntWalk.iteOmega, *]; done)))
        clear hK K
        (try simp only [Act.put, List.setIfInBounds_toArray, List.set_cons_zero, List.set_cons_succ])
        refine wpAnyH_ready (rs := [28]) (by kernel_rfl) (by simp) ?_
        refine AllReadyH.cons rfl (fun K hK => ?_) AllReadyH.nil
        have b6 : Below wr.heap.size wr (wr.drew.alloc (.cells #[.int .i64 f0, .int .i64 f1, .int .i64 f2, .int .i64 f3] 49)) := ((Below.refl _ wr).drew).alloc (Nat.le_refl _) _
        refine step_append_lies _ (by rfl) _ _ _ (by rfl) w2.heap.size 49 i0 (.agg #[.int .i64 0, .int .i64 0, .int .i64 0, .int .i64 0]) 4 32 Tryd.underlying22 hif hz0 hz1 hz2 rfl (by omega) (.slice va k vc) k (cellV (cst f0 f1 f2 f3) (upN k)) (by rfl) (owns_below HOW.out b6) _ 1 1 [.int .i64 f0, .int .i64 f1, .int .i64 f2, .int .i64 f3] (by rfl) (by rfl) (World.news_of_block (cs := #[.int .i64 f0, .int .i64 f1, .int .i64 f2, .int .i64 f3]) (t := 49) (fr := (0, 0)) (heap_alloc_new _ _)) (by simp [Value.oneCell']) (by omega) (by unfold maxLen; omega) (by omega) (by simp; omega) _ rfl ?_
        intro g cp w8 hown8 hgrow8 hat8 hlt8
        have low := fun j (hj : j < w2.heap.size) (e : some j = (Value.slice va k vc).ownBlock) => (show False by have := (own_rowF HOW.out j e.symm).1; omega)
        have x8 : ∀ j i u, j < w2.heap.size → j < wr.heap.size → wr.cell? ⟨j, i, none⟩ = some u → w8.cell? ⟨j, i, none⟩ = some u := fun j i u h1 h2 h3 => hgrow8.cell (a := ⟨j, i, none⟩) ((World.cell?_alloc_past _ _ _ h2).trans h3) (fun e => low j h1 e)
        have e8 : w8.heap[P]? = wr.heap[P]? := (hgrow8.block P (by simp; omega) (fun e => low P (by omega) e)).trans (Below.heap_alloc _ _ P lPr)
        have T8 : Three w8 P 24 (.int .i64 W) (.int .i64 H) (.slice va k vc) := e8.trans HT3.out
        have c8 := T8.c2
        have g8 : w8.frozen? ⟨P, 2, none⟩ = false := by simp [World.frozen?, show w8.heap[P]? = _ from T8]
        have l8 := T8.lt
        have k2 := x8 w.heap.size 2 _ (by omega) (by omega) m2
        have k3 := x8 b off _ (by omega) (by omega) y0
        have k4 := x8 b (off + 1) _ (by omega) (by omega) y1
        have k5 := x8 b (off + 2) _ (by omega) (by omega) y2
        have k6 := x8 b (off + 3) _ (by omega) (by omega) y3
        refine hK.out _ _ ?_ (fun hHeld => ?_)
        · ((try dsimp only); (first | (go_split_ands; (try dsimp only); refine ⟨?_, ?_, ?_, ?_, ?_⟩ <;> (first | (with_reducible assumption) | (with_reducible exact keep_cell (by assumption) (by first | omega | (simp; done) | (simp; omega)) (by assumption)) | (with_reducible exact (World.cell?_alloc_past _ _ _ (by show _ < _; omega)).trans (by assumption)) | (with_reducible exact (World.cell?_alloc_past _ _ _ (by show _ < _; omega)).trans ((World.cell?_alloc_past _ _ _ (by show _ < _; omega)).symm.trans (by assumption))) | (simp [go_sem]; with_reducible assumption))) | (simp [go_sem, ↓IntWalk.iteOmega, *]; done)))
        clear hK K
        (try simp only [Act.put, List.setIfInBounds_toArray, List.set_cons_zero, List.set_cons_succ])
        refine wpAnyH_take (i := 29) (v := ?_) rfl (by kernel_rfl) (by kernel_rfl) (by kernel_rfl) (fun _ _ _ h => h) (Or.inl ⟨by rfl, ?_⟩) (by assumption) ?_
        rotate_left
        · (intro w hSw; (try dsimp only at hSw); go_simp; (try with_reducible rfl))
        (try simp only [Act.put, List.setIfInBounds_toArray, List.set_cons_zero, List.set_cons_succ])
        refine wpAnyH_ready (rs := [30]) (by kernel_rfl) (by simp) ?_
        refine AllReadyH.cons rfl (fun K hK => ?_) AllReadyH.nil
        go_simp
        refine hK.out _ _ ?_ (fun hHeld => ?_)
        · ((try dsimp only); (first | (go_split_ands; (try dsimp only); refine ⟨?_, ?_, ?_, ?_, ?_⟩ <;> (first | (with_reducible assumption) | (with_reducible exact keep_cell (by assumption) (by first | omega | (simp; done) | (simp; omega)) (by assumption)) | (with_reducible exact (World.cell?_alloc_past _ _ _ (by show _ < _; omega)).trans (by assumption)) | (with_reducible exact (World.cell?_alloc_past _ _ _ (by show _ < _; omega)).trans ((World.cell?_alloc_past _ _ _ (by show _ < _; omega)).symm.trans (by assumption))) | (simp [go_sem]; with_reducible assumption))) | (simp [go_sem, ↓IntWalk.iteOmega, *]; done)))
        clear hK K
        (try simp only [Act.put, List.setIfInBounds_toArray, List.set_cons_zero, List.set_cons_succ])
        refine wpAnyH_done (by kernel_rfl) ?_ _
        refine NoPanic.normal ?_
        go_wp2
        go_roundw
        case rel => exact ⟨k + 1, by omega, by go_num, Lib.hid ⟨_, three_set2 T8 _, HNX.out _ _ _ hown8, HBX.out _ b6 hgrow8 _⟩⟩
        case measure => simp [Go.RowKit.intOf]; omega
    · obtain rfl : k = n := by omega
      have HT3 := hT
      have sr := hbr.size
      obtain ⟨g, vc, rfl, hg⟩ : ∃ g vc, v = .slice (some ⟨g, 0, none⟩) k vc ∧ g < wr.heap.size := by
        rcases hown.2 with ⟨rfl, h0⟩ | ⟨g, c, cur, rfl, _, hh, _⟩
        · omega
        · exact ⟨_, _, rfl, (Array.getElem?_eq_some_iff.1 hh).1⟩
      have hGK : Grd wr g 0 k (cst f0 f1 f2 f3) := fun i hi => by
        have hL := upN_get hi
        have h4 : ∀ d, d < 4 → wr.cell? ⟨g, i * 4 + d, none⟩ = some (.int .i64 (cst f0 f1 f2 f3 i d)) := fun d hd => by
          rw [hown.cellAt (i * 4 + d) (by omega)]
          exact cellV_get _ _ i d i hL hd
        simp only [Nat.zero_add]
        exact ⟨h4 0 (by omega), h4 1 (by omega), h4 2 (by omega), h4 3 (by omega)⟩
      have CAK := Lib.hid (CA (cst f0 f1 f2 f3) g vc wr (okG_const HF.out.1 HF.out.2.1 HF.out.2.2.1 HF.out.2.2.2 hn) ⟨_, _, _, _, rfl⟩ hg hGK)
      have bw := hw2b.trans (hbr.mono (by omega))
      have q0 := hT.c0
      have q1 := hT.c1
      have q2 := hT.c2
      have t5 := (T5.out.below b2 l5).below hbr (by omega)
      have t6 := (T6.out.below b2 l6).below hbr (by omega)
      have r0 := t5.c0
      have r1 := t5.c1
      have u0 := t6.c0
      have u1 := t6.c1
      have HBW := Lib.hid bw
      have p1 : ¬ (k : Int) < (k : Int) := by omega
      clear hGK hown hbr bw t5 t6 HT3 hT
      go_wp2_with fail
      (go_at_call 19; (refine (CAK.out).mono ?_); rintro e wz ⟨rfl, hbz⟩)
      go_wp2_with fail
      go_ret
      exact ⟨by simp, HBW.out.trans (hbz.mono HBW.out.size)⟩
end Go.Proofs.YtmpfchgampiohaaDoor
