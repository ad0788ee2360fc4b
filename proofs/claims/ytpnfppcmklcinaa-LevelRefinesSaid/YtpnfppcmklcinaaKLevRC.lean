/- Coarsened, by the reference. -/
import Derived.Test.YtpnfppcmklcinaaKLevRR
namespace Go.Proofs.Ytpnfppcmklcinaa
set_option linter.unusedSimpArgs false
set_option linter.unusedVariables false
open Go.RowKit

/-- What the coarse cell i has of the fine cells before j, and of j in the directions before t. -/
def accP (W : Nat) (G : Nat → Nat → Int) (j t i d p : Nat) : Int := if q4 W i p < j ∨ (q4 W i p = j ∧ d < t) then G (q4 W i p) d else 0
def KA (W : Nat) (G : Nat → Nat → Int) (j t : Nat) : Nat → Nat → Int := fun i d => accP W G j t i d 0 + accP W G j t i d 1 + accP W G j t i d 2 + accP W G j t i d 3
theorem accP_other {W j t i d p : Nat} (G : Nat → Nat → Int) (h : ¬ (q4 W i p = j ∧ d = t)) : accP W G j (t + 1) i d p = accP W G j t i d p := by
  unfold accP
  by_cases e : q4 W i p < j ∨ (q4 W i p = j ∧ d < t)
  · rw [if_pos e, if_pos (by omega)]
  · rw [if_neg e, if_neg (by omega)]
theorem accP_this {W j t i p : Nat} (G : Nat → Nat → Int) (h : q4 W i p = j) : accP W G j (t + 1) i t p = accP W G j t i t p + G j t := by
  unfold accP
  rw [if_pos (by omega), if_neg (by omega), h]
  omega
theorem accP_next {W j i d p : Nat} (G : Nat → Nat → Int) (hd : d < 4) : accP W G j 4 i d p = accP W G (j + 1) 0 i d p := by
  unfold accP
  by_cases e : q4 W i p < j + 1
  · rw [if_pos (by omega), if_pos (by omega)]
  · rw [if_neg (by omega), if_neg (by omega)]
theorem KA_step {W H m j t : Nat} {G : Nat → Nat → Int} (hm : m = 2 * W * (2 * H)) (hj : j < m) (ht : t < 4) (i d : Nat) : KA W G j (t + 1) i d = if i = crs W j ∧ d = t then KA W G j t i d + G j t else KA W G j t i d := by
  rw [hm] at hj
  obtain ⟨_, _, hW, _⟩ := xy_of hj
  have hW' : 0 < W := by omega
  have hq := q4_crs hj
  have hp := prt_lt W j
  by_cases e : i = crs W j ∧ d = t
  · rw [if_pos e]
    obtain ⟨rfl, rfl⟩ := e
    have ne : ∀ p, p < 4 → p ≠ prt W j → ¬ (q4 W (crs W j) p = j ∧ d = d) := fun p hp4 hne h => hne (by rw [← prt_q4 (i := crs W j) hW' hp4, h.1])
    have cs : prt W j = 0 ∨ prt W j = 1 ∨ prt W j = 2 ∨ prt W j = 3 := by omega
    unfold KA
    rcases cs with c | c | c | c
    · rw [accP_this (p := 0) G (by rw [← c]; exact hq), accP_other G (ne 1 (by omega) (by omega)), accP_other G (ne 2 (by omega) (by omega)), accP_other G (ne 3 (by omega) (by omega))]; omega
    · rw [accP_this (p := 1) G (by rw [← c]; exact hq), accP_other G (ne 0 (by omega) (by omega)), accP_other G (ne 2 (by omega) (by omega)), accP_other G (ne 3 (by omega) (by omega))]; omega
    · rw [accP_this (p := 2) G (by rw [← c]; exact hq), accP_other G (ne 0 (by omega) (by omega)), accP_other G (ne 1 (by omega) (by omega)), accP_other G (ne 3 (by omega) (by omega))]; omega
    · rw [accP_this (p := 3) G (by rw [← c]; exact hq), accP_other G (ne 0 (by omega) (by omega)), accP_other G (ne 1 (by omega) (by omega)), accP_other G (ne 2 (by omega) (by omega))]; omega
  · rw [if_neg e]
    have ne : ∀ p, p < 4 → ¬ (q4 W i p = j ∧ d = t) := fun p hp4 h => e ⟨by rw [← h.1, crs_q4 hW' hp4], h.2⟩
    unfold KA
    rw [accP_other G (ne 0 (by omega)), accP_other G (ne 1 (by omega)), accP_other G (ne 2 (by omega)), accP_other G (ne 3 (by omega))]
theorem KA_next (W n : Nat) (G : Nat → Nat → Int) (j : Nat) : EqG n (KA W G j 4) (KA W G (j + 1) 0) := by
  intro i _ d hd
  unfold KA
  rw [accP_next G hd, accP_next G hd, accP_next G hd, accP_next G hd]
theorem KA_zero (W n : Nat) (G : Nat → Nat → Int) : EqG n (fun _ _ => 0) (KA W G 0 0) := by
  intro i _ d _
  unfold KA accP
  simp
theorem KA_all {W H n m : Nat} {G : Nat → Nat → Int} (hn : n = W * H) (hm : m = 2 * W * (2 * H)) : EqG n (KA W G m 0) (coaG W G) := by
  intro i hi d _
  rw [hn] at hi
  have h : ∀ p, p < 4 → accP W G m 0 i d p = G (q4 W i p) d := fun p hp => by
    unfold accP
    rw [if_pos (.inl (by rw [hm]; exact q4_lt hi hp))]
  unfold KA coaG
  rw [h 0 (by omega), h 1 (by omega), h 2 (by omega), h 3 (by omega)]
theorem KA_bd {W H n m j t i d : Nat} {G : Nat → Nat → Int} (hn : n = W * H) (hm : m = n * 4) (hmm : m = 2 * W * (2 * H)) (h : OkG m G) (hi : i < n) (hd : d < 4) : 0 ≤ KA W G j t i d ∧ KA W G j t i d ≤ 1000000000 := by
  have hp : ∀ p, p < 4 → 0 ≤ accP W G j t i d p ∧ accP W G j t i d p ≤ G (q4 W i p) d := fun p hp => by
    have := okG_pos h (show q4 W i p < m by rw [hmm]; exact q4_lt (by rw [← hn]; exact hi) hp) hd
    unfold accP
    split <;> omega
  have p0 := hp 0 (by omega)
  have p1 := hp 1 (by omega)
  have p2 := hp 2 (by omega)
  have p3 := hp 3 (by omega)
  have hc := okG_coa hn hm h
  have c := (pop_le hc hi hd).2
  have c2 := hc.2
  unfold coaG at c
  unfold KA
  have e : coaG W G i d = G (q4 W i 0) d + G (q4 W i 1) d + G (q4 W i 2) d + G (q4 W i 3) d := rfl
  have c3 : wt (coaG W G) n ≤ 1000000000 := c2
  have c4 : coaG W G i d ≤ wt (coaG W G) n := (pop_le hc hi hd).2
  omega

/-- The world in the loops: the coarse row. -/
def LA (W n o : Nat) (G : Nat → Nat → Int) (wl : World) (j t : Nat) (wr : World) : Prop := Ex (fun z => z = o ∨ wl.heap.size ≤ z) wl wr ∧ Row wr o n (KA W G j t)
theorem LA.step {W H n m o : Nat} {G : Nat → Nat → Int} {wl : World} {j t : Nat} {wr X : World} (h : LA W n o G wl j t wr) (hm : m = 2 * W * (2 * H)) (hj : j < m) (ht : t < 4) (hi : crs W j < n) (hX : Below wr.heap.size wr X) {i : Nat} (hii : i = crs W j) :
    LA W n o G wl j (t + 1) (X.setCell ⟨o, i * 4 + t, none⟩ (.int .i64 (KA W G j t i t + G j t))) := by
  subst hii
  obtain ⟨h1, h2⟩ := h
  refine ⟨(h1.trans (Ex.of_below hX)).trans (Ex.setCell (Ex.refl _ X) (show o = o ∨ _ from .inl rfl) _), ?_⟩
  refine ((h2.below hX h2.1).set hi ht (KA W G j t (crs W j) t + G j t) rfl).eqG (fun a _ d hd => ?_)
  rw [KA_step hm hj ht a d]
  unfold upd
  by_cases e : a = crs W j ∧ d = t
  · rw [if_pos e, if_pos e, e.1, e.2]
  · rw [if_neg e, if_neg e]
theorem grd_at {w : World} {b off n : Nat} {G : Nat → Nat → Int} (h : Grd w b off n G) {j : Nat} (hj : j < n) {t : Nat} (ht : t < 4) : w.cell? ⟨b, off + j * 4 + t, none⟩ = some (.int .i64 (G j t)) := by
  obtain ⟨e0, e1, e2, e3⟩ := h j hj
  have ht' : t = 0 ∨ t = 1 ∨ t = 2 ∨ t = 3 := by omega
  rcases ht' with rfl | rfl | rfl | rfl
  · exact e0
  · exact e1
  · exact e2
  · exact e3

attribute [local irreducible] wpStill
set_option maxRecDepth 100000 in
set_option maxHeartbeats 16000000 in
theorem coarsened_in (W H b off n m cap : Nat) (G : Nat → Nat → Int) (w : World) (s : Sides W H n) (hm : m = n * 4) (h2 : Sides (2 * W) (2 * H) m) (hG : OkG m G) (hlt : b < w.heap.size) (hC : Grd w b off m G) :
    Calls Try.prog 114 #[.agg #[.int .i64 (2 * (W : Int)), .int .i64 (2 * (H : Int)), .slice (some ⟨b, off, none⟩) m cap]] w (Gave W H n (coaG W G) w) := by
  have EM := Lib.hid (fun w' => rempty6 W H n w' s)
  obtain ⟨b1, b2, b3⟩ := h2.twice
  have hw0 := s.w0
  have hh0 := s.h0
  have hn1 := s.n1
  have t3 : (2 * (W : Int)).tdiv 2 = (W : Int) := by rw [Int.tdiv_eq_ediv_of_nonneg (by omega)]; omega
  have t4 : (2 * (H : Int)).tdiv 2 = (H : Int) := by rw [Int.tdiv_eq_ediv_of_nonneg (by omega)]; omega
  have HN := Lib.hid s.n0
  have HG := Lib.hid hC
  have HO := Lib.hid hG
  have HM := Lib.hid hm
  have H2 := Lib.hid h2.n0
  clear hC hG s h2 hm
  go_enter Try.func114, Try.ntmps114
  go_wp2_with (go_at_call 124; (with_reducible refine (EM.out _).mono ?_); rintro e w2 ⟨o, co, rfl, ho, lo, hb⟩; obtain ⟨hc, hf, hz⟩ := bcall hb; (try simp at hc hf hz lo))
  obtain ⟨wl, hwl⟩ : ∃ wl, wl = w2.alloc (.cells #[.int .i64 W, .int .i64 H, .slice (some ⟨o, 0, none⟩) n co] 34) := ⟨_, rfl⟩
  have l2 : wl.heap.size = w2.heap.size + 1 := by rw [hwl]; simp
  have lo2 := ho.1
  have k0 : wl.cell? ⟨w.heap.size, 0, none⟩ = some (.int .i64 (2 * (W : Int))) := by rw [hwl]; simp [go_sem, ↓IntWalk.iteOmega, *]
  have k1 : wl.cell? ⟨w.heap.size, 1, none⟩ = some (.int .i64 (2 * (H : Int))) := by rw [hwl]; simp [go_sem, ↓IntWalk.iteOmega, *]
  have k2 : wl.cell? ⟨w.heap.size, 2, none⟩ = some (.slice (some ⟨b, off, none⟩) m cap) := by rw [hwl]; simp [go_sem, ↓IntWalk.iteOmega, *]
  have T1 : Three ((w.alloc (.cells #[.int .i64 (2 * (W : Int)), .int .i64 (2 * (H : Int)), .slice (some ⟨b, off, none⟩) m cap] 34)).alloc (.cells #[.int .i64 0, .int .i64 0, .slice none 0 0] 34)) (w.heap.size + 1) 34 (.int .i64 0) (.int .i64 0) (.slice none 0 0) := Three.new1 w _ 34 (.int .i64 0) (.int .i64 0) (.slice none 0 0)
  have T2 := Lib.hid (show Three wl (w.heap.size + 1) 34 (.int .i64 0) (.int .i64 0) (.slice none 0 0) from by rw [hwl]; exact (T1.below hb (by simp)).below ((Below.refl w2.heap.size w2).alloc (Nat.le_refl _) _) (by omega))
  have TF := Lib.hid (show Three wl w2.heap.size 34 (.int .i64 W) (.int .i64 H) (.slice (some ⟨o, 0, none⟩) n co) from by rw [hwl]; exact Three.new0 _ _ _ _ _)
  have RO := Lib.hid (show Row wl o n (fun _ _ => 0) from by rw [hwl]; exact ho.below ((Below.refl w2.heap.size w2).alloc (Nat.le_refl _) _) lo2)
  have BB := Lib.hid (show Below w.heap.size w wl from by rw [hwl]; (repeat' (first | (with_reducible exact Below.refl _ _) | (with_reducible refine Below.setCell ?_ (by first | omega | (simp; done) | (simp; omega)) _) | (with_reducible refine Below.alloc ?_ (by first | omega | (simp; done) | (simp; omega)) _) | (with_reducible refine Below.drew ?_) | (with_reducible refine below_drewN ?_ _) | (with_reducible refine Below.trans ?_ (Below.mono (by assumption) (by first | omega | (simp; done) | (simp; omega)))))))
  go_wp2
  rw [← hwl]
  obtain ⟨F, hF⟩ : ∃ F, F = w2.heap.size := ⟨_, rfl⟩
  rw [← hF] at TF l2 lo2
  rw [← hF]
  have lw1 : w.heap.size + 2 ≤ o := by omega
  have sB := BB.out.size
  clear ho hc hf hz hb T1 hwl hF lo t3 t4
  go_loopw [4, 5, 6] (fun y _ _ wr => ∃ Y : Nat, Y ≤ 2 * H ∧ y = .int .i64 Y ∧ Hid (LA W n o G wl (0 + 2 * W * Y) 0 wr)) (fun y _ _ _ => 2 * H - (intOf y).toNat)
  case atStart => exact ⟨0, Nat.zero_le _, rfl, Lib.hid ⟨Ex.refl _ _, RO.out.eqG (KA_zero W n G)⟩⟩
  case round =>
    obtain ⟨Y, hY, rfl, HH⟩ := hrel
    obtain ⟨wy, hwy⟩ : ∃ wy, wy = wr := ⟨_, rfl⟩
    subst hwy
    obtain ⟨hX, hR⟩ := HH.out
    have lX := hX.size
    have kO : wy.cell? ⟨w.heap.size, 1, none⟩ = some (.int .i64 (2 * (H : Int))) := (hX.cell (by omega) (by omega)).trans k1
    have TO := Lib.hid (TF.out.ex hX (by omega))
    have HX := Lib.hid hX
    have HR := Lib.hid hR
    clear hX hR
    by_cases hlY : Y < 2 * H
    · have hlYi : (Y : Int) < 2 * (H : Int) := by omega
      go_wp2
      go_loopw [5, 6] (fun x _ wr => ∃ X : Nat, X ≤ 2 * W ∧ x = .int .i64 X ∧ Hid (LA W n o G wl (X + 2 * W * Y) 0 wr)) (fun x _ _ => 2 * W - (intOf x).toNat)
      case atStart => exact ⟨0, Nat.zero_le _, rfl, HH⟩
      case round =>
        obtain ⟨X, hXW, rfl, HJ⟩ := hrel
        obtain ⟨wo, hwo⟩ : ∃ wo, wo = wr := ⟨_, rfl⟩
        subst hwo
        have g0 : wo.cell? ⟨w.heap.size, 0, none⟩ = some (.int .i64 (2 * (W : Int))) := (HJ.out.1.cell (by omega) (by omega)).trans k0
        by_cases hlX : X < 2 * W
        · obtain ⟨j, hj⟩ : ∃ j, j = X + 2 * W * Y := ⟨_, rfl⟩
          have hjm : j < m := by rw [hj, H2.out]; exact xy_lt hlX hlY
          have hxy := at_xy (y := Y) hlX
          rw [← hj] at hxy
          have hjm2 := hjm
          rw [H2.out] at hjm2
          have hci : crs W j < n := by rw [HN.out]; exact (crs_parts hjm2).1
          obtain ⟨i, hi⟩ : ∃ i, i = crs W j := ⟨_, rfl⟩
          have hie : i = X / 2 + W * (Y / 2) := by rw [hi]; unfold crs; rw [hxy.1, hxy.2]
          have hil : i < n := by rw [hi]; exact hci
          have hq1 : (W : Int) * ((Y / 2 : Nat) : Int) = (i : Int) - ((X / 2 : Nat) : Int) := by rw [hie]; push_cast; omega
          have hq2 : (2 * (W : Int)) * (Y : Int) = (j : Int) - (X : Int) := by rw [hj]; push_cast; omega
          have x2 : (X : Int).tdiv 2 = ((X / 2 : Nat) : Int) := by rw [Int.tdiv_eq_ediv_of_nonneg (by omega)]; rfl
          have y2 : (Y : Int).tdiv 2 = ((Y / 2 : Nat) : Int) := by rw [Int.tdiv_eq_ediv_of_nonneg (by omega)]; rfl
          have HI := Lib.hid hi
          have HJ2 := Lib.hid hj
          obtain ⟨X2, hX2⟩ : ∃ X2, X2 = X / 2 := ⟨_, rfl⟩
          obtain ⟨Y2, hY2⟩ : ∃ Y2, Y2 = Y / 2 := ⟨_, rfl⟩
          rw [← hX2] at hq1 x2
          rw [← hY2] at hq1 y2
          have xl2 : X2 ≤ 64 := by omega
          have yl2 : Y2 ≤ 64 := by omega
          have xw : IntKind.i64.wrap (X2 : Int) = (X2 : Int) := IntWalk.i64_in _ ⟨by omega, by omega⟩
          have yw : IntKind.i64.wrap (Y2 : Int) = (Y2 : Int) := IntWalk.i64_in _ ⟨by omega, by omega⟩
          have A1 := Lib.hid (fun w' => rat6 W H (some ⟨o, 0, none⟩) n co X2 Y2 i w' (by omega) (by omega) (by omega) (by omega) hq1 (by omega) (by omega))
          have A2 := Lib.hid (fun w' => rat6 (2 * (W : Int)) (2 * (H : Int)) (some ⟨b, off, none⟩) m cap X Y j w' (by omega) (by omega) (by omega) (by omega) hq2 (by omega) (by omega))
          clear hi hj hie hq1 hq2 hX2 hY2 hxy hjm2 hci
          have HJ3 := Lib.hid (show LA W n o G wl j 0 wo from by rw [HJ2.out]; exact HJ.out)
          have hlXi : (X : Int) < 2 * (W : Int) := by omega
          go_wp2
          go_loopw [6] (fun d wr => ∃ t : Nat, t ≤ 4 ∧ d = .int .i64 t ∧ Hid (LA W n o G wl j t wr)) (fun d _ => 4 - (intOf d).toNat)
          case atStart => exact ⟨0, by omega, rfl, HJ3⟩
          case round =>
            clear g0 kO
            obtain ⟨t, ht, rfl, L⟩ := hrel
            by_cases hlt4 : t < 4
            · obtain ⟨xL, rL⟩ := L.out
              have sL := xL.size
              have g0 : wr.cell? ⟨w.heap.size, 0, none⟩ = some (.int .i64 (2 * (W : Int))) := (xL.cell (by omega) (by omega)).trans k0
              have g1 : wr.cell? ⟨w.heap.size, 1, none⟩ = some (.int .i64 (2 * (H : Int))) := (xL.cell (by omega) (by omega)).trans k1
              have g2 : wr.cell? ⟨w.heap.size, 2, none⟩ = some (.slice (some ⟨b, off, none⟩) m cap) := (xL.cell (by omega) (by omega)).trans k2
              have TW := TF.out.ex xL (by omega)
              have F0 := TW.c0
              have F1 := TW.c1
              have F2 := TW.c2
              have lFw := TW.lt
              have lor := rL.1
              have BW := BB.out.trans (xL.below sB (fun z hz => by omega))
              have g3 : wr.cell? ⟨b, off + j * 4 + t, none⟩ = some (.int .i64 (G j t)) := grd_at (HG.out.below BW hlt) hjm hlt4
              have lbw : b < wr.heap.size := by have := BW.size; omega
              obtain ⟨a0, f0⟩ := rL.at hil hlt4
              have kb := KA_bd (j := j) (t := t) HN.out HM.out H2.out HO.out hil hlt4
              have gb := pop_le HO.out hjm hlt4
              have gb2 := HO.out.2
              have kb2 := KA_bd (j := j) (t := t + 1) HN.out HM.out H2.out HO.out hil hlt4
              rw [KA_step H2.out hjm hlt4 i t, if_pos ⟨HI.out, rfl⟩] at kb2
              have ST := Lib.hid (fun X (hX : Below wr.heap.size wr X) => L.out.step H2.out hjm hlt4 (by rw [← HI.out]; exact hil) hX HI.out)
              clear TW BW xL rL
              obtain ⟨g, hg⟩ : ∃ g, g = G j t := ⟨_, rfl⟩
              obtain ⟨v, hv⟩ : ∃ v, v = KA W G j t i t := ⟨_, rfl⟩
              rw [← hg] at g3 gb kb2 ST
              rw [← hv] at a0 kb kb2 ST
              have sw : IntKind.i64.wrap (v + g) = v + g := IntWalk.i64_in _ ⟨by omega, by omega⟩
              have p0 : (0 : Int) ≤ (j : Int) := by omega
              have p1 : (j : Int) < (m : Int) := by omega
              have p2 : (0 : Int) ≤ (i : Int) := by omega
              have p3 : (i : Int) < (n : Int) := by omega
              have p4 : (0 : Int) ≤ (t : Int) := by omega
              have p5 : (t : Int) < 4 := by omega
              clear hg hv gb gb2 kb kb2
              go_wp2
              refine wp_region_noPanic ?_
              refine wp_region_held_drew (S := (fun w' => w'.cell? ⟨w.heap.size, 0, none⟩ = some (.int .i64 (2 * (W : Int))) ∧ w'.cell? ⟨w.heap.size, 1, none⟩ = some (.int .i64 (2 * (H : Int))) ∧ w'.cell? ⟨w.heap.size, 2, none⟩ = some (.slice (some ⟨b, off, none⟩) m cap) ∧ w'.cell? ⟨F, 0, none⟩ = some (.int .i64 W) ∧ w'.cell? ⟨F, 1, none⟩ = some (.int .i64 H) ∧ w'.cell? ⟨F, 2, none⟩ = some (.slice (some ⟨o, 0, none⟩) n co) ∧ w'.cell? ⟨b, off + j * 4 + t, none⟩ = some (.int .i64 g))) (by kernel_rfl) ?_ (fun hHeld => ?_)
              · ((try dsimp only); (first | (go_split_ands; (try dsimp only); refine ⟨?_, ?_, ?_, ?_, ?_, ?_, ?_⟩ <;> (first | (with_reducible assumption) | (with_reducible exact keep_cell (by assumption) (by first | omega | (simp; done) | (simp; omega)) (by assumption)) | (with_reducible exact (World.cell?_alloc_past _ _ _ (by show _ < _; omega)).trans (by assumption)) | (with_reducible exact (World.cell?_alloc_past _ _ _ (by show _ < _; omega)).trans ((World.cell?_alloc_past _ _ _ (by show _ < _; omega)).symm.trans (by assumption))) | (simp [go_sem]; with_reducible assumption))) | (simp [go_sem, ↓IntWalk.iteOmega, *]; done)))
              refine wpAnyH_take (i := 0) (v := ?_) rfl (by kernel_rfl) (by kernel_rfl) (by kernel_rfl) (fun _ _ _ h => h) (Or.inl ⟨by rfl, ?_⟩) (by assumption) ?_
              rotate_left
              · (intro w hSw; (try dsimp only at hSw); go_simp; (try with_reducible rfl))
              (try simp only [Act.put, List.setIfInBounds_toArray, List.set_cons_zero, List.set_cons_succ])
              refine wpAnyH_take (i := 1) (v := ?_) rfl (by kernel_rfl) (by kernel_rfl) (by kernel_rfl) (fun _ _ _ h => h) (Or.inl ⟨by rfl, ?_⟩) (by assumption) ?_
              rotate_left
              · (intro w hSw; (try dsimp only at hSw); go_simp; (try with_reducible rfl))
              (try simp only [Act.put, List.setIfInBounds_toArray, List.set_cons_zero, List.set_cons_succ])
              refine wpAnyH_take (i := 2) (v := ?_) rfl (by kernel_rfl) (by kernel_rfl) (by kernel_rfl) (fun _ _ _ h => h) (Or.inl ⟨by rfl, ?_⟩) (by assumption) ?_
              rotate_left
              · (intro w hSw; (try dsimp only at hSw); go_simp; (try with_reducible rfl))
              (try simp only [Act.put, List.setIfInBounds_toArray, List.set_cons_zero, List.set_cons_succ])
              refine wpAnyH_take (i := 3) (v := ?_) rfl (by kernel_rfl) (by kernel_rfl) (by kernel_rfl) (fun _ _ _ h => h) (Or.inl ⟨by rfl, ?_⟩) (by assumption) ?_
              rotate_left
              · (intro w hSw; (try dsimp only at hSw); go_simp; (try with_reducible rfl))
              (try simp only [Act.put, List.setIfInBounds_toArray, List.set_cons_zero, List.set_cons_succ])
              refine wpAnyH_take (i := 4) (v := ?_) rfl (by kernel_rfl) (by kernel_rfl) (by kernel_rfl) (fun _ _ _ h => h) (Or.inl ⟨by rfl, ?_⟩) (by assumption) ?_
              rotate_left
              · (intro w hSw; (try dsimp only at hSw); go_simp; (try with_reducible rfl))
              (try simp only [Act.put, List.setIfInBounds_toArray, List.set_cons_zero, List.set_cons_succ])
              refine wpAnyH_take (i := 5) (v := ?_) rfl (by kernel_rfl) (by kernel_rfl) (by kernel_rfl) (fun _ _ _ h => h) (Or.inl ⟨by rfl, ?_⟩) (by assumption) ?_
              rotate_left
              · (intro w hSw; (try dsimp only at hSw); go_simp; (try with_reducible rfl))
              (try simp only [Act.put, List.setIfInBounds_toArray, List.set_cons_zero, List.set_cons_succ])
              refine wpAnyH_take (i := 6) (v := ?_) rfl (by kernel_rfl) (by kernel_rfl) (by kernel_rfl) (fun _ _ _ h => h) (Or.inl ⟨by rfl, ?_⟩) (by assumption) ?_
              rotate_left
              · (intro w hSw; (try dsimp only at hSw); go_simp; (try with_reducible rfl))
              (try simp only [Act.put, List.setIfInBounds_toArray, List.set_cons_zero, List.set_cons_succ])
              refine wpAnyH_take (i := 8) (v := ?_) rfl (by kernel_rfl) (by kernel_rfl) (by kernel_rfl) (fun _ _ _ h => h) (Or.inl ⟨by rfl, ?_⟩) (by assumption) ?_
              rotate_left
              · (intro w hSw; (try dsimp only at hSw); go_simp; (try with_reducible rfl))
              (try simp only [Act.put, List.setIfInBounds_toArray, List.set_cons_zero, List.set_cons_succ])
              refine wpAnyH_take (i := 12) (v := ?_) rfl (by kernel_rfl) (by kernel_rfl) (by kernel_rfl) (fun _ _ _ h => h) (Or.inl ⟨by rfl, ?_⟩) (by assumption) ?_
              rotate_left
              · (intro w hSw; (try dsimp only at hSw); go_simp; (try with_reducible rfl))
              (try simp only [Act.put, List.setIfInBounds_toArray, List.set_cons_zero, List.set_cons_succ])
              refine wpAnyH_take (i := 13) (v := ?_) rfl (by kernel_rfl) (by kernel_rfl) (by kernel_rfl) (fun _ _ _ h => h) (Or.inl ⟨by rfl, ?_⟩) (by assumption) ?_
              rotate_left
              · (intro w hSw; (try dsimp only at hSw); go_simp; (try with_reducible rfl))
              (try simp only [Act.put, List.setIfInBounds_toArray, List.set_cons_zero, List.set_cons_succ])
              refine wpAnyH_take (i := 14) (v := ?_) rfl (by kernel_rfl) (by kernel_rfl) (by kernel_rfl) (fun _ _ _ h => h) (Or.inl ⟨by rfl, ?_⟩) (by assumption) ?_
              rotate_left
              · (intro w hSw; (try dsimp only at hSw); go_simp; (try with_reducible rfl))
              (try simp only [Act.put, List.setIfInBounds_toArray, List.set_cons_zero, List.set_cons_succ])
              refine wpAnyH_take (i := 15) (v := ?_) rfl (by kernel_rfl) (by kernel_rfl) (by kernel_rfl) (fun _ _ _ h => h) (Or.inl ⟨by rfl, ?_⟩) (by assumption) ?_
              rotate_left
              · (intro w hSw; (try dsimp only at hSw); go_simp; (try with_reducible rfl))
              (try simp only [Act.put, List.setIfInBounds_toArray, List.set_cons_zero, List.set_cons_succ])
              refine wpAnyH_take (i := 16) (v := ?_) rfl (by kernel_rfl) (by kernel_rfl) (by kernel_rfl) (fun _ _ _ h => h) (Or.inl ⟨by rfl, ?_⟩) (by assumption) ?_
              rotate_left
              · (intro w hSw; (try dsimp only at hSw); go_simp; (try with_reducible rfl))
              (try simp only [Act.put, List.setIfInBounds_toArray, List.set_cons_zero, List.set_cons_succ])
              refine wpAnyH_take (i := 18) (v := ?_) rfl (by kernel_rfl) (by kernel_rfl) (by kernel_rfl) (fun _ _ _ h => h) (Or.inl ⟨by rfl, ?_⟩) (by assumption) ?_
              rotate_left
              · (intro w hSw; (try dsimp only at hSw); go_simp; (try with_reducible rfl))
              (try simp only [Act.put, List.setIfInBounds_toArray, List.set_cons_zero, List.set_cons_succ])
              refine wpAnyH_ready (rs := [7]) (by kernel_rfl) (by simp) ?_
              refine AllReadyH.cons rfl (fun K hK => ?_) AllReadyH.nil
              (go_simp; go_at_call 125; (with_reducible refine (A1.out _).mono ?_); rintro e w7 ⟨rfl, hb7⟩; have a7 := keep_cell hb7 (by first | omega | (simp; done) | (simp; omega)) a0; have f7 := (hb7.frozen (p := ⟨o, i * 4 + t, none⟩) (by first | omega | (simp; done) | (simp; omega))).trans f0; have s7 := hb7.size; (try simp at s7))
              refine hK.out _ _ ?_ (fun hHeld => ?_)
              · ((try dsimp only); (first | (go_split_ands; (try dsimp only); refine ⟨?_, ?_, ?_, ?_, ?_, ?_, ?_⟩ <;> (first | (with_reducible assumption) | (with_reducible exact keep_cell (by assumption) (by first | omega | (simp; done) | (simp; omega)) (by assumption)) | (with_reducible exact (World.cell?_alloc_past _ _ _ (by show _ < _; omega)).trans (by assumption)) | (with_reducible exact (World.cell?_alloc_past _ _ _ (by show _ < _; omega)).trans ((World.cell?_alloc_past _ _ _ (by show _ < _; omega)).symm.trans (by assumption))) | (simp [go_sem]; with_reducible assumption))) | (simp [go_sem, ↓IntWalk.iteOmega, *]; done)))
              clear hK K
              (try simp only [Act.put, List.setIfInBounds_toArray, List.set_cons_zero, List.set_cons_succ])
              refine wpAnyH_take (i := 9) (v := ?_) rfl (by kernel_rfl) (by kernel_rfl) (by kernel_rfl) (fun _ _ _ h => h) (Or.inl ⟨by rfl, ?_⟩) (by assumption) ?_
              rotate_left
              · (intro w hSw; (try dsimp only at hSw); go_simp; (try with_reducible rfl))
              (try simp only [Act.put, List.setIfInBounds_toArray, List.set_cons_zero, List.set_cons_succ])
              refine wpAnyH_take (i := 10) (v := ?_) rfl (by kernel_rfl) (by kernel_rfl) (by kernel_rfl) (fun _ _ _ h => h) (Or.inl ⟨by rfl, ?_⟩) (by assumption) ?_
              rotate_left
              · (intro w hSw; (try dsimp only at hSw); go_simp; (try with_reducible rfl))
              (try simp only [Act.put, List.setIfInBounds_toArray, List.set_cons_zero, List.set_cons_succ])
              refine wpAnyH_take (i := 23) (v := ?_) rfl (by kernel_rfl) (by kernel_rfl) (by kernel_rfl) (fun _ _ _ h => h) (Or.inl ⟨by rfl, ?_⟩) (by assumption) ?_
              rotate_left
              · (intro w hSw; (try dsimp only at hSw); go_simp; (try with_reducible rfl))
              (try simp only [Act.put, List.setIfInBounds_toArray, List.set_cons_zero, List.set_cons_succ])
              refine wpAnyH_ready (rs := [11, 17]) (by kernel_rfl) (by simp) ?_
              refine AllReadyH.cons rfl (fun K hK => ?_) (AllReadyH.cons rfl (fun K hK => ?_) (AllReadyH.nil))
              · go_simp
                refine hK.out _ _ ?_ (fun hHeld => ?_)
                · ((try dsimp only); (first | (go_split_ands; (try dsimp only); refine ⟨?_, ?_, ?_, ?_, ?_, ?_, ?_⟩ <;> (first | (with_reducible assumption) | (with_reducible exact keep_cell (by assumption) (by first | omega | (simp; done) | (simp; omega)) (by assumption)) | (with_reducible exact (World.cell?_alloc_past _ _ _ (by show _ < _; omega)).trans (by assumption)) | (with_reducible exact (World.cell?_alloc_past _ _ _ (by show _ < _; omega)).trans ((World.cell?_alloc_past _ _ _ (by show _ < _; omega)).symm.trans (by assumption))) | (simp [go_sem]; with_reducible assumption))) | (simp [go_sem, ↓IntWalk.iteOmega, *]; done)))
                clear hK K
                (try simp only [Act.put, List.setIfInBounds_toArray, List.set_cons_zero, List.set_cons_succ])
                refine wpAnyH_ready (rs := [17]) (by kernel_rfl) (by simp) ?_
                refine AllReadyH.cons rfl (fun K hK => ?_) AllReadyH.nil
                (go_simp; go_at_call 125; (with_reducible refine (A2.out _).mono ?_); rintro e w17 ⟨rfl, hb17⟩; have a17 := keep_cell hb17 (by first | omega | (simp; done) | (simp; omega)) a7; have f17 := (hb17.frozen (p := ⟨o, i * 4 + t, none⟩) (by first | omega | (simp; done) | (simp; omega))).trans f7; have s17 := hb17.size; (try simp at s17))
                refine hK.out _ _ ?_ (fun hHeld => ?_)
                · ((try dsimp only); (first | (go_split_ands; (try dsimp only); refine ⟨?_, ?_, ?_, ?_, ?_, ?_, ?_⟩ <;> (first | (with_reducible assumption) | (with_reducible exact keep_cell (by assumption) (by first | omega | (simp; done) | (simp; omega)) (by assumption)) | (with_reducible exact (World.cell?_alloc_past _ _ _ (by show _ < _; omega)).trans (by assumption)) | (with_reducible exact (World.cell?_alloc_past _ _ _ (by show _ < _; omega)).trans ((World.cell?_alloc_past _ _ _ (by show _ < _; omega)).symm.trans (by assumption))) | (simp [go_sem]; with_reducible assumption))) | (simp [go_sem, ↓IntWalk.iteOmega, *]; done)))
                clear hK K
                (try simp only [Act.put, List.setIfInBounds_toArray, List.set_cons_zero, List.set_cons_succ])
                refine wpAnyH_take (i := 19) (v := ?_) rfl (by kernel_rfl) (by kernel_rfl) (by kernel_rfl) (fun _ _ _ h => h) (Or.inl ⟨by rfl, ?_⟩) (by assumption) ?_
                rotate_left
                · (intro w hSw; (try dsimp only at hSw); go_simp; (try with_reducible rfl))
                (try simp only [Act.put, List.setIfInBounds_toArray, List.set_cons_zero, List.set_cons_succ])
                refine wpAnyH_take (i := 20) (v := ?_) rfl (by kernel_rfl) (by kernel_rfl) (by kernel_rfl) (fun _ _ _ h => h) (Or.inl ⟨by rfl, ?_⟩) (by assumption) ?_
                rotate_left
                · (intro w hSw; (try dsimp only at hSw); go_simp; (try with_reducible rfl))
                (try simp only [Act.put, List.setIfInBounds_toArray, List.set_cons_zero, List.set_cons_succ])
                refine wpAnyH_take (i := 21) (v := ?_) rfl (by kernel_rfl) (by kernel_rfl) (by kernel_rfl) (fun _ _ _ h => h) (Or.inl ⟨by rfl, ?_⟩) (by assumption) ?_
                rotate_left
                · (intro w hSw; (try dsimp only at hSw); go_simp; (try with_reducible rfl))
                (try simp only [Act.put, List.setIfInBounds_toArray, List.set_cons_zero, List.set_cons_succ])
                refine wpAnyH_take (i := 22) (v := ?_) rfl (by kernel_rfl) (by kernel_rfl) (by kernel_rfl) (fun _ _ _ h => h) (Or.inl ⟨by rfl, ?_⟩) (by assumption) ?_
                rotate_left
                · (intro w hSw; (try dsimp only at hSw); go_simp; (try with_reducible rfl))
                (try simp only [Act.put, List.setIfInBounds_toArray, List.set_cons_zero, List.set_cons_succ])
                refine wpAnyH_take (i := 24) (v := ?_) rfl (by kernel_rfl) (by kernel_rfl) (by kernel_rfl) (fun _ _ _ h => h) (Or.inl ⟨by rfl, ?_⟩) (by assumption) ?_
                rotate_left
                · (intro w hSw; (try dsimp only at hSw); go_simp; (try with_reducible rfl))
                (try simp only [Act.put, List.setIfInBounds_toArray, List.set_cons_zero, List.set_cons_succ])
                refine wpAnyH_ready (rs := [25]) (by kernel_rfl) (by simp) ?_
                refine AllReadyH.cons rfl (fun K hK => ?_) AllReadyH.nil
                go_simp
                refine hK.out _ _ ?_ (fun hHeld => ?_)
                · ((try dsimp only); (first | (go_split_ands; (try dsimp only); refine ⟨?_, ?_, ?_, ?_, ?_, ?_, ?_⟩ <;> (first | (with_reducible assumption) | (with_reducible exact keep_cell (by assumption) (by first | omega | (simp; done) | (simp; omega)) (by assumption)) | (with_reducible exact (World.cell?_alloc_past _ _ _ (by show _ < _; omega)).trans (by assumption)) | (with_reducible exact (World.cell?_alloc_past _ _ _ (by show _ < _; omega)).trans ((World.cell?_alloc_past _ _ _ (by show _ < _; omega)).symm.trans (by assumption))) | (simp [go_sem]; with_reducible assumption))) | (simp [go_sem, ↓IntWalk.iteOmega, *]; done)))
                clear hK K
                (try simp only [Act.put, List.setIfInBounds_toArray, List.set_cons_zero, List.set_cons_succ])
                refine wpAnyH_done (by kernel_rfl) ?_ _
                refine NoPanic.normal ?_
                have hXX := Lib.hid (show Below wr.heap.size wr w17 from by (repeat' (first | (with_reducible exact Below.refl _ _) | (with_reducible refine Below.setCell ?_ (by first | omega | (simp; done) | (simp; omega)) _) | (with_reducible refine Below.alloc ?_ (by first | omega | (simp; done) | (simp; omega)) _) | (with_reducible refine Below.drew ?_) | (with_reducible refine below_drewN ?_ _) | (with_reducible refine Below.trans ?_ (Below.mono (by assumption) (by first | omega | (simp; done) | (simp; omega)))))))
                go_wp2
                go_roundw
                case rel => exact ⟨t + 1, by omega, by go_num, Lib.hid (ST.out _ hXX.out)⟩
                case measure => simp [intOf]; omega
              · (go_simp; go_at_call 125; (with_reducible refine (A2.out _).mono ?_); rintro e w17 ⟨rfl, hb17⟩; have a17 := keep_cell hb17 (by first | omega | (simp; done) | (simp; omega)) a7; have f17 := (hb17.frozen (p := ⟨o, i * 4 + t, none⟩) (by first | omega | (simp; done) | (simp; omega))).trans f7; have s17 := hb17.size; (try simp at s17))
                refine hK.out _ _ ?_ (fun hHeld => ?_)
                · ((try dsimp only); (first | (go_split_ands; (try dsimp only); refine ⟨?_, ?_, ?_, ?_, ?_, ?_, ?_⟩ <;> (first | (with_reducible assumption) | (with_reducible exact keep_cell (by assumption) (by first | omega | (simp; done) | (simp; omega)) (by assumption)) | (with_reducible exact (World.cell?_alloc_past _ _ _ (by show _ < _; omega)).trans (by assumption)) | (with_reducible exact (World.cell?_alloc_past _ _ _ (by show _ < _; omega)).trans ((World.cell?_alloc_past _ _ _ (by show _ < _; omega)).symm.trans (by assumption))) | (simp [go_sem]; with_reducible assumption))) | (simp [go_sem, ↓IntWalk.iteOmega, *]; done)))
                clear hK K
                (try simp only [Act.put, List.setIfInBounds_toArray, List.set_cons_zero, List.set_cons_succ])
                refine wpAnyH_take (i := 19) (v := ?_) rfl (by kernel_rfl) (by kernel_rfl) (by kernel_rfl) (fun _ _ _ h => h) (Or.inl ⟨by rfl, ?_⟩) (by assumption) ?_
                rotate_left
                · (intro w hSw; (try dsimp only at hSw); go_simp; (try with_reducible rfl))
                (try simp only [Act.put, List.setIfInBounds_toArray, List.set_cons_zero, List.set_cons_succ])
                refine wpAnyH_take (i := 20) (v := ?_) rfl (by kernel_rfl) (by kernel_rfl) (by kernel_rfl) (fun _ _ _ h => h) (Or.inl ⟨by rfl, ?_⟩) (by assumption) ?_
                rotate_left
                · (intro w hSw; (try dsimp only at hSw); go_simp; (try with_reducible rfl))
                (try simp only [Act.put, List.setIfInBounds_toArray, List.set_cons_zero, List.set_cons_succ])
                refine wpAnyH_take (i := 21) (v := ?_) rfl (by kernel_rfl) (by kernel_rfl) (by kernel_rfl) (fun _ _ _ h => h) (Or.inl ⟨by rfl, ?_⟩) (by assumption) ?_
                rotate_left
                · (intro w hSw; (try dsimp only at hSw); go_simp; (try with_reducible rfl))
                (try simp only [Act.put, List.setIfInBounds_toArray, List.set_cons_zero, List.set_cons_succ])
                refine wpAnyH_ready (rs := [11]) (by kernel_rfl) (by simp) ?_
                refine AllReadyH.cons rfl (fun K hK => ?_) AllReadyH.nil
                go_simp
                refine hK.out _ _ ?_ (fun hHeld => ?_)
                · ((try dsimp only); (first | (go_split_ands; (try dsimp only); refine ⟨?_, ?_, ?_, ?_, ?_, ?_, ?_⟩ <;> (first | (with_reducible assumption) | (with_reducible exact keep_cell (by assumption) (by first | omega | (simp; done) | (simp; omega)) (by assumption)) | (with_reducible exact (World.cell?_alloc_past _ _ _ (by show _ < _; omega)).trans (by assumption)) | (with_reducible exact (World.cell?_alloc_past _ _ _ (by show _ < _; omega)).trans ((World.cell?_alloc_past _ _ _ (by show _ < _; omega)).symm.trans (by assumption))) | (simp [go_sem]; with_reducible assumption))) | (simp [go_sem, ↓IntWalk.iteOmega, *]; done)))
                clear hK K
                (try simp only [Act.put, List.setIfInBounds_toArray, List.set_cons_zero, List.set_cons_succ])
                refine wpAnyH_take (i := 22) (v := ?_) rfl (by kernel_rfl) (by kernel_rfl) (by kernel_rfl) (fun _ _ _ h => h) (Or.inl ⟨by rfl, ?_⟩) (by assumption) ?_
                rotate_left
                · (intro w hSw; (try dsimp only at hSw); go_simp; (try with_reducible rfl))
                (try simp only [Act.put, List.setIfInBounds_toArray, List.set_cons_zero, List.set_cons_succ])
                refine wpAnyH_take (i := 24) (v := ?_) rfl (by kernel_rfl) (by kernel_rfl) (by kernel_rfl) (fun _ _ _ h => h) (Or.inl ⟨by rfl, ?_⟩) (by assumption) ?_
                rotate_left
                · (intro w hSw; (try dsimp only at hSw); go_simp; (try with_reducible rfl))
                (try simp only [Act.put, List.setIfInBounds_toArray, List.set_cons_zero, List.set_cons_succ])
                refine wpAnyH_ready (rs := [25]) (by kernel_rfl) (by simp) ?_
                refine AllReadyH.cons rfl (fun K hK => ?_) AllReadyH.nil
                go_simp
                refine hK.out _ _ ?_ (fun hHeld => ?_)
                · ((try dsimp only); (first | (go_split_ands; (try dsimp only); refine ⟨?_, ?_, ?_, ?_, ?_, ?_, ?_⟩ <;> (first | (with_reducible assumption) | (with_reducible exact keep_cell (by assumption) (by first | omega | (simp; done) | (simp; omega)) (by assumption)) | (with_reducible exact (World.cell?_alloc_past _ _ _ (by show _ < _; omega)).trans (by assumption)) | (with_reducible exact (World.cell?_alloc_past _ _ _ (by show _ < _; omega)).trans ((World.cell?_alloc_past _ _ _ (by show _ < _; omega)).symm.trans (by assumption))) | (simp [go_sem]; with_reducible assumption))) | (simp [go_sem, ↓IntWalk.iteOmega, *]; done)))
                clear hK K
                (try simp only [Act.put, List.setIfInBounds_toArray, List.set_cons_zero, List.set_cons_succ])
                refine wpAnyH_done (by kernel_rfl) ?_ _
                refine NoPanic.normal ?_
                have hXX := Lib.hid (show Below wr.heap.size wr w17 from by (repeat' (first | (with_reducible exact Below.refl _ _) | (with_reducible refine Below.setCell ?_ (by first | omega | (simp; done) | (simp; omega)) _) | (with_reducible refine Below.alloc ?_ (by first | omega | (simp; done) | (simp; omega)) _) | (with_reducible refine Below.drew ?_) | (with_reducible refine below_drewN ?_ _) | (with_reducible refine Below.trans ?_ (Below.mono (by assumption) (by first | omega | (simp; done) | (simp; omega)))))))
                go_wp2
                go_roundw
                case rel => exact ⟨t + 1, by omega, by go_num, Lib.hid (ST.out _ hXX.out)⟩
                case measure => simp [intOf]; omega
            · obtain rfl : t = 4 := by omega
              go_wp2
              go_roundw
              case rel => exact ⟨X + 1, by omega, by go_num, Lib.hid (by rw [show X + 1 + 2 * W * Y = j + 1 by have := HJ2.out; omega]; exact ⟨L.out.1, L.out.2.eqG (KA_next W n G j)⟩)⟩
              case measure => simp [intOf]; omega
        · obtain rfl : X = 2 * W := by omega
          go_wp2
          go_roundw
          case rel => exact ⟨Y + 1, by omega, by go_num, Lib.hid (by rw [show 0 + 2 * W * (Y + 1) = 2 * W + 2 * W * Y by rw [Nat.zero_add, Nat.mul_succ, Nat.add_comm]]; exact HJ.out)⟩
          case measure => simp [intOf]; omega
    · obtain rfl : Y = 2 * H := by omega
      obtain ⟨c0, c1, c2⟩ := And.intro TO.out.c0 (And.intro TO.out.c1 TO.out.c2)
      have t2 := T2.out.ex HX.out (by omega)
      obtain ⟨r0, r1, r2⟩ := And.intro t2.c0 (And.intro t2.c1 t2.c2)
      have u0 := t2.free 0
      have u1 := t2.free 1
      have u2 := t2.free 2
      have BO := Lib.hid (BB.out.trans (HX.out.below sB (fun z hz => by omega)))
      clear t2
      go_wp2
      refine bodyPost_ret (v := .agg #[.int .i64 W, .int .i64 H, .slice (some ⟨o, 0, none⟩) n co]) (by simp [results, Try.results114, go_sem, ↓IntWalk.iteOmega, *]) rfl ?_
      have hR := HR.out
      rw [Nat.zero_add, ← H2.out] at hR
      exact gave_pass (hR.eqG (KA_all HN.out H2.out)) BO.out (by omega) (by omega)
end Go.Proofs.Ytpnfppcmklcinaa
