/- A mean of fractions, weighted: by the program of the fields. -/
import Derived.Test.YtmdeooflgkjbbaaDoorKFTab
import Derived.Test.YtmdeooflgkjbbaaDoorKSameN
import Derived.Test.YtmdeooflgkjbbaaDoorKTunS
import Derived.BigQuiet
import Derived.Test.YtmdeooflgkjbbaaDoorKFR8V
import Derived.Test.YtmdeooflgkjbbaaDoorKFBoth
namespace Go.Proofs.YtmdeooflgkjbbaaDoor
set_option linter.unusedSimpArgs false
set_option linter.unusedVariables false
open Go.RowKit Go.Shelf
attribute [local go_sem] Oper.semAt_some

/-- A fraction that may be the mean of so many cells. -/
def MeanOk (N D c : Int) : Prop := (1 ≤ c ∧ c ≤ 1024) ∧ (-1000000000 ≤ N ∧ N ≤ 1000000000) ∧ 1 ≤ D ∧ Int.tmod c D = 0
theorem meanOk_facts {N D c : Int} (h : MeanOk N D c) : 0 ≤ Int.tdiv c D ∧ Int.tdiv c D ≤ 1024 ∧ -1024000000000 ≤ N * Int.tdiv c D ∧ N * Int.tdiv c D ≤ 1024000000000 := by
  obtain ⟨⟨h1, h2⟩, ⟨h3, h4⟩, h5, _⟩ := h
  have e : Int.tdiv c D = c / D := Int.tdiv_eq_ediv_of_nonneg (by omega)
  have a1 : 0 ≤ c / D := Int.ediv_nonneg (by omega) (by omega)
  have a2 : c / D ≤ c := Int.ediv_le_self _ (by omega)
  rw [e]
  have b1 : N * (c / D) ≤ 1000000000 * (c / D) := Int.mul_le_mul_of_nonneg_right h4 a1
  have b2 : -1000000000 * (c / D) ≤ N * (c / D) := Int.mul_le_mul_of_nonneg_right h3 a1
  omega
/-- The sums of a weighted mean. -/
def wtS (R : Nat → Int × Int) (C : Nat → Int) (k : Nat) : Int := sm k fun i => (R i).1 * Int.tdiv (C i) (R i).2
def wtA (C : Nat → Int) (k : Nat) : Int := sm k C
theorem wtS_bd {R : Nat → Int × Int} {C : Nat → Int} (k : Nat) (h : ∀ i, i < k → MeanOk (R i).1 (R i).2 (C i)) : -1024000000000 * (k : Int) ≤ wtS R C k ∧ wtS R C k ≤ 1024000000000 * (k : Int) ∧ (k : Int) ≤ wtA C k ∧ wtA C k ≤ 1024 * (k : Int) := by
  induction k with
  | zero => simp [wtS, wtA, sm]
  | succ k ih =>
    have h1 := ih (fun i hi => h i (by omega))
    have h2 := h k (by omega)
    have h3 := meanOk_facts h2
    obtain ⟨⟨h4, h5⟩, _⟩ := h2
    unfold wtS wtA at *
    simp only [sm]
    push_cast
    omega
section
variable (N D c : Int) (w : World)
set_option maxRecDepth 100000 in
set_option maxHeartbeats 4000000 in
theorem fMean_yes (h : MeanOk N D c) : Calls Tryd.prog 83 #[.agg #[.int .i64 N, .int .i64 D], .int .i64 c] w fun e w' => e = .returned (.bool true) ∧ Below w.heap.size w w' := by
  obtain ⟨⟨h1, h2⟩, ⟨h3, h4⟩, h5, h6⟩ := h
  have g1 : ¬ c < 1 := by omega
  have g2 : ¬ 1024 < c := by omega
  have g3 : ¬ N < -1000000000 := by omega
  have g4 : ¬ 1000000000 < N := by omega
  have g5 : 0 < D := by omega
  have g6 : ¬ D = 0 := by omega
  have x6 : IntKind.i64.wrap (Int.tmod c D) = 0 := by rw [h6]; exact IntWalk.i64_in _ ⟨by omega, by omega⟩
  clear h1 h2 h3 h4 h5
  go_enter Tryd.func83, Tryd.ntmps83
  go_wp2
  go_ret
  refine ⟨by simp, ?_⟩
  (repeat' (first | (with_reducible exact Below.refl _ _) | (with_reducible refine Below.setCell ?_ (by first | omega | (simp; done) | (simp; omega)) _) | (with_reducible refine Below.alloc ?_ (by first | omega | (simp; done) | (simp; omega)) _) | (with_reducible refine Below.drew ?_) | (with_reducible refine below_drewN ?_ _) | (with_reducible refine Below.trans ?_ (Below.mono (by assumption) (by first | omega | (simp; done) | (simp; omega))))))
set_option maxRecDepth 100000 in
set_option maxHeartbeats 4000000 in
theorem fMean_no (h : ¬ MeanOk N D c) : Calls Tryd.prog 83 #[.agg #[.int .i64 N, .int .i64 D], .int .i64 c] w fun e w' => e = .returned (.bool false) ∧ Below w.heap.size w w' := by
  have h' : c < 1 ∨ (¬ c < 1 ∧ 1024 < c) ∨ (¬ c < 1 ∧ ¬ 1024 < c ∧ N < -1000000000) ∨ (¬ c < 1 ∧ ¬ 1024 < c ∧ ¬ N < -1000000000 ∧ 1000000000 < N) ∨ (¬ c < 1 ∧ ¬ 1024 < c ∧ ¬ N < -1000000000 ∧ ¬ 1000000000 < N ∧ ¬ 0 < D) ∨ (¬ c < 1 ∧ ¬ 1024 < c ∧ ¬ N < -1000000000 ∧ ¬ 1000000000 < N ∧ 0 < D ∧ ¬ Int.tmod c D = 0) := by
    by_cases hm : Int.tmod c D = 0
    · unfold MeanOk at h
      omega
    · omega
  clear h
  rcases h' with g1 | ⟨g1, g2⟩ | ⟨g1, g2, g3⟩ | ⟨g1, g2, g3, g4⟩ | ⟨g1, g2, g3, g4, g5⟩ | ⟨g1, g2, g3, g4, g5, g7⟩
  case inr.inr.inr.inr.inr =>
    have g6 : ¬ D = 0 := by omega
    have e : Int.tmod c D = c % D := Int.tmod_eq_emod_of_nonneg (by omega)
    have b1 := Int.emod_nonneg c g6
    have b2 := Int.emod_lt_of_pos c g5
    have b3 : c % D ≤ c := by
      rw [← e]
      have := Int.emod_add_mul_ediv c D
      have hq : 0 ≤ c / D := Int.ediv_nonneg (by omega) (by omega)
      have hp := Int.mul_nonneg (show 0 ≤ D by omega) hq
      rw [e]
      omega
    have x6 : IntKind.i64.wrap (Int.tmod c D) = Int.tmod c D := by rw [e]; exact IntWalk.i64_in _ ⟨by omega, by omega⟩
    obtain ⟨r, hr⟩ : ∃ r, Int.tmod c D = r := ⟨_, rfl⟩
    rw [hr] at g7 x6
    clear e b1 b2 b3
    go_enter Tryd.func83, Tryd.ntmps83
    go_wp2
    go_ret
    refine ⟨by simp [*], ?_⟩
    (repeat' (first | (with_reducible exact Below.refl _ _) | (with_reducible refine Below.setCell ?_ (by first | omega | (simp; done) | (simp; omega)) _) | (with_reducible refine Below.alloc ?_ (by first | omega | (simp; done) | (simp; omega)) _) | (with_reducible refine Below.drew ?_) | (with_reducible refine below_drewN ?_ _) | (with_reducible refine Below.trans ?_ (Below.mono (by assumption) (by first | omega | (simp; done) | (simp; omega))))))
  all_goals
    go_enter Tryd.func83, Tryd.ntmps83
    go_wp2
    go_ret
    refine ⟨by simp, ?_⟩
    (repeat' (first | (with_reducible exact Below.refl _ _) | (with_reducible refine Below.setCell ?_ (by first | omega | (simp; done) | (simp; omega)) _) | (with_reducible refine Below.alloc ?_ (by first | omega | (simp; done) | (simp; omega)) _) | (with_reducible refine Below.drew ?_) | (with_reducible refine below_drewN ?_ _) | (with_reducible refine Below.trans ?_ (Below.mono (by assumption) (by first | omega | (simp; done) | (simp; omega))))))
end
set_option maxRecDepth 100000 in
set_option maxHeartbeats 16000000 in
theorem fWtd_ok (b off n cap b' off' cap' : Nat) (R : Nat → Int × Int) (C : Nat → Int) (w : World) (n1 : 1 ≤ n) (n2 : n ≤ 100) (lb : b < w.heap.size) (lb' : b' < w.heap.size) (hR : RulesAt w b off n R) (hC : NumsAt w b' off' n C) (hlow : ∀ i, i < n → MeanOk (R i).1 (R i).2 (C i)) : Calls Tryd.prog 25 #[.slice (some ⟨b, off, none⟩) n cap, .slice (some ⟨b', off', none⟩) n cap'] w fun e w' => e = .returned (.tuple #[.agg #[.int .i64 (ltN (wtS R C n) (wtA C n).toNat), .int .i64 (((ltD (wtS R C n) (wtA C n).toNat : Nat) : Int))], .int .i64 0]) ∧ Below w.heap.size w w' := by
  have HR := Lib.hid hR
  have HC := Lib.hid hC
  have HL := Lib.hid hlow
  clear hR hC hlow
  have nn1 : ¬ (n : Int) < 1 := by omega
  have nn2 : ¬ 100 < (n : Int) := by omega
  have nn3 : ¬ n < 1 := by omega
  have nn4 : ¬ 100 < n := by omega
  have v0 := Two.new w 33 (.int .i64 0) (.int .i64 0)
  have b0 : Below w.heap.size w (w.alloc (.cells #[.int .i64 0, .int .i64 0] 33)) := by (repeat' (first | (with_reducible exact Below.refl _ _) | (with_reducible refine Below.setCell ?_ (by first | omega | (simp; done) | (simp; omega)) _) | (with_reducible refine Below.alloc ?_ (by first | omega | (simp; done) | (simp; omega)) _) | (with_reducible refine Below.drew ?_) | (with_reducible refine below_drewN ?_ _) | (with_reducible refine Below.trans ?_ (Below.mono (by assumption) (by first | omega | (simp; done) | (simp; omega))))))
  go_enter Tryd.func25, Tryd.ntmps25
  obtain ⟨wb, hwb⟩ : ∃ wb, wb = w.alloc (.cells #[.int .i64 0, .int .i64 0] 33) := ⟨_, rfl⟩
  rw [← hwb] at v0 b0
  go_wp2_with fail
  rw [← hwb]
  clear hwb
  have s0 := b0.size
  go_loopw [6, 7, 27] (fun t a i wr => ∃ k : Nat, k ≤ n ∧ i = .int .i64 (k : Int) ∧ t = .int .i64 (wtS R C k) ∧ a = .int .i64 (wtA C k) ∧ Below wb.heap.size wb wr) (fun _ _ i _ => n - (Go.RowKit.intOf i).toNat)
  case atStart => exact ⟨0, Nat.zero_le _, rfl, rfl, rfl, Below.refl _ _⟩
  case round =>
    obtain ⟨k, hk, rfl, rfl, rfl, hB⟩ := hrel
    have hbd := wtS_bd k (fun i hi => HL.out i (by omega))
    have hBw := b0.trans (hB.mono s0)
    have sB := hB.size
    by_cases hlk : k < n
    · have hok := HL.out k hlk
      have a0 := (hBw.cell (p := ⟨b, off + k * 2, none⟩) lb).trans (HR.out k (by omega)).1
      have a1 := (hBw.cell (p := ⟨b, off + k * 2 + 1, none⟩) lb).trans (HR.out k (by omega)).2
      have c0 := (hBw.cell (p := ⟨b', off' + k, none⟩) lb').trans (HC.out k (by omega))
      have hf := meanOk_facts hok
      have IM := Lib.hid (fun wx => fMean_yes (R k).1 (R k).2 (C k) wx hok)
      have HD := Lib.hid (show wtS R C (k + 1) = wtS R C k + (R k).1 * Int.tdiv (C k) (R k).2 ∧ wtA C (k + 1) = wtA C k + C k from ⟨rfl, rfl⟩)
      obtain ⟨⟨o1, o2⟩, _, o3, o4⟩ := hok
      have d0 : ¬ (R k).2 = 0 := by omega
      obtain ⟨t, ht⟩ : ∃ t, t = wtS R C k := ⟨_, rfl⟩
      obtain ⟨al, hal⟩ : ∃ t, t = wtA C k := ⟨_, rfl⟩
      obtain ⟨rn, hrn⟩ : ∃ t, t = (R k).1 := ⟨_, rfl⟩
      obtain ⟨rd, hrd⟩ : ∃ t, t = (R k).2 := ⟨_, rfl⟩
      obtain ⟨c, hc⟩ : ∃ t, t = C k := ⟨_, rfl⟩
      obtain ⟨q, hq⟩ : ∃ q, q = Int.tdiv c rd := ⟨_, rfl⟩
      rw [← hc, ← hrn, ← hrd, ← ht, ← hal, ← hq] at HD
      rw [← hc, ← hrn, ← hrd, ← hq] at hf
      rw [← hc, ← hrn, ← hrd] at IM
      rw [← hrn] at a0
      rw [← hrd] at a1 d0
      rw [← hc] at c0 o1 o2
      rw [← ht, ← hal] at hbd ⊢
      obtain ⟨z, hz⟩ : ∃ z, z = rn * q := ⟨_, rfl⟩
      rw [← hz] at hf HD
      have e1 := hq.symm
      have e2 : IntKind.i64.wrap q = q := IntWalk.i64_in _ ⟨by omega, by omega⟩
      have e3 := hz.symm
      have e4 : IntKind.i64.wrap z = z := IntWalk.i64_in _ ⟨by omega, by omega⟩
      have e5 : IntKind.i64.wrap (t + z) = t + z := IntWalk.i64_in _ ⟨by omega, by omega⟩
      have e6 : IntKind.i64.wrap (al + c) = al + c := IntWalk.i64_in _ ⟨by omega, by omega⟩
      have p0 : (0 : Int) ≤ (k : Int) := by omega
      have p1 : (k : Int) < (n : Int) := by omega
      have p2 : k < n := by omega
      have lbr : b < wr.heap.size := by omega
      have lbr' : b' < wr.heap.size := by omega
      clear ht hal hrn hrd hc hq hz hbd hf o1 o2 o3 o4
      go_wp2
      obtain ⟨w2, hw2⟩ : ∃ w2, w2 = wr.alloc (.cells #[.int .i64 rn, .int .i64 rd] 33) := ⟨_, rfl⟩
      have v2 := Two.new wr 33 (.int .i64 rn) (.int .i64 rd)
      have b2 : Below wr.heap.size wr (wr.alloc (.cells #[.int .i64 rn, .int .i64 rd] 33)) := (Below.refl _ _).alloc (Nat.le_refl _) _
      rw [← hw2] at v2 b2 ⊢
      clear hw2
      obtain ⟨P, hP⟩ : ∃ P, P = wr.heap.size := ⟨_, rfl⟩
      have r0 := v2.c0
      have r1 := v2.c1
      have r2 := (b2.cell (p := ⟨b', off' + k, none⟩) lbr').trans c0
      have lP := v2.lt
      have s2 := b2.size
      rw [← hP] at r0 r1 lP lbr lbr' s2 ⊢
      have B2 := Lib.hid b2
      have hP2 := Lib.hid hP
      have HB0 := Lib.hid hB
      clear b2 hP v2 a0 a1 c0 hB hBw sB
      go_region_held3 (fun w' => w'.cell? ⟨P, 0, none⟩ = some (.int .i64 rn) ∧ w'.cell? ⟨P, 1, none⟩ = some (.int .i64 rd) ∧ w'.cell? ⟨b', off' + k, none⟩ = some (.int .i64 c)) (first | (go_split_ands; (try dsimp only); refine ⟨?_, ?_, ?_⟩ <;> (first | (with_reducible assumption) | (with_reducible exact keep_cell (by assumption) (by first | omega | (simp; done) | (simp; omega)) (by assumption)) | (with_reducible exact (World.cell?_alloc_past _ _ _ (by show _ < _; omega)).trans (by assumption)) | (with_reducible exact (World.cell?_alloc_past _ _ _ (by show _ < _; omega)).trans ((World.cell?_alloc_past _ _ _ (by show _ < _; omega)).symm.trans (by assumption))) | (simp [go_sem]; with_reducible assumption))) | (simp [go_sem, ↓IntWalk.iteOmega, *]; done)) ((go_at_call 83; (with_reducible refine (IM.out _).mono ?_); rintro e w1 ⟨rfl, hb⟩; obtain ⟨hc, hf, hz⟩ := bcall hb; (try simp at hc hf hz)))
      rename_i hX
      have HBK := Lib.hid (show Below wr.heap.size wr w1 from (B2.out.drew).trans (hb.mono (by show wr.heap.size ≤ w2.heap.size; rw [← hP2.out]; exact s2)))
      obtain ⟨r0, r1, r2⟩ := hX
      have lP1 : P < w1.heap.size := by omega
      have lb1 : b' < w1.heap.size := by omega
      clear hb hc hf hz B2
      go_wp2
      go_quiet (fail)
      go_wp2
      go_roundw
      case rel => exact ⟨k + 1, by omega, by go_num, by rw [HD.out.1], by rw [HD.out.2], below_drewN (HB0.out.trans (HBK.out.mono HB0.out.size)) _⟩
      case measure => simp [Go.RowKit.intOf]; omega
    · obtain rfl : k = n := by omega
      have p1 : ¬ (k : Int) < (k : Int) := by omega
      have RA := Lib.hid (fun wx => fRatio_lt (wtS R C k) (wtA C k).toNat wx (by omega) (by omega) (by omega))
      rw [show (((wtA C k).toNat : Nat) : Int) = wtA C k from by omega] at RA
      obtain ⟨kN, hkN⟩ : ∃ t, t = ltN (wtS R C k) (wtA C k).toNat := ⟨_, rfl⟩
      obtain ⟨kD, hkD⟩ : ∃ t : Int, t = ((ltD (wtS R C k) (wtA C k).toNat : Nat) : Int) := ⟨_, rfl⟩
      rw [← hkN, ← hkD] at RA
      have HK := Lib.hid (And.intro hkN hkD)
      have v1 := v0.below hB v0.lt
      have k0 := v1.c0
      have k1 := v1.c1
      have f0 := v1.f0 0
      have f1 := v1.f0 1
      have l1 := v1.lt
      clear hkN hkD v0 v1 hbd
      go_wp2_with (go_at_call 65; (with_reducible refine (RA.out _).mono ?_); rintro e w1 ⟨rfl, hb⟩; obtain ⟨hc, hf, hz⟩ := bcall hb; (try simp at hc hf hz))
      refine bodyPost_ret (v := .tuple #[.agg #[.int .i64 kN, .int .i64 kD], .int .i64 0]) (by simp [results, Tryd.results25, go_sem, ↓IntWalk.iteOmega, *]) rfl ⟨by rw [HK.out.1, HK.out.2], ?_⟩
      have HBW := hBw
      (repeat' (first | (with_reducible exact Below.refl _ _) | (with_reducible refine Below.setCell ?_ (by first | omega | (simp; done) | (simp; omega)) _) | (with_reducible refine Below.alloc ?_ (by first | omega | (simp; done) | (simp; omega)) _) | (with_reducible refine Below.drew ?_) | (with_reducible refine below_drewN ?_ _) | (with_reducible refine Below.trans ?_ (Below.mono (by assumption) (by first | omega | (simp; done) | (simp; omega))))))
set_option maxRecDepth 100000 in
set_option maxHeartbeats 16000000 in
theorem fWtd_bad (b off n cap b' off' cap' : Nat) (R : Nat → Int × Int) (C : Nat → Int) (w : World) (n1 : 1 ≤ n) (n2 : n ≤ 100) (lb : b < w.heap.size) (lb' : b' < w.heap.size) (hR : RulesAt w b off n R) (hC : NumsAt w b' off' n C) (k0 : Nat) (hk0 : k0 < n) (hlow : ∀ i, i < k0 → MeanOk (R i).1 (R i).2 (C i)) (hno : ¬ MeanOk (R k0).1 (R k0).2 (C k0)) : Calls Tryd.prog 25 #[.slice (some ⟨b, off, none⟩) n cap, .slice (some ⟨b', off', none⟩) n cap'] w fun e w' => e = .returned (.tuple #[.agg #[.int .i64 0, .int .i64 0], .int .i64 7]) ∧ Below w.heap.size w w' := by
  have HR := Lib.hid hR
  have HC := Lib.hid hC
  have HL := Lib.hid hlow
  have HX := Lib.hid hno
  clear hR hC hlow hno
  have nn1 : ¬ (n : Int) < 1 := by omega
  have nn2 : ¬ 100 < (n : Int) := by omega
  have nn3 : ¬ n < 1 := by omega
  have nn4 : ¬ 100 < n := by omega
  have v0 := Two.new w 33 (.int .i64 0) (.int .i64 0)
  have b0 : Below w.heap.size w (w.alloc (.cells #[.int .i64 0, .int .i64 0] 33)) := by (repeat' (first | (with_reducible exact Below.refl _ _) | (with_reducible refine Below.setCell ?_ (by first | omega | (simp; done) | (simp; omega)) _) | (with_reducible refine Below.alloc ?_ (by first | omega | (simp; done) | (simp; omega)) _) | (with_reducible refine Below.drew ?_) | (with_reducible refine below_drewN ?_ _) | (with_reducible refine Below.trans ?_ (Below.mono (by assumption) (by first | omega | (simp; done) | (simp; omega))))))
  go_enter Tryd.func25, Tryd.ntmps25
  obtain ⟨wb, hwb⟩ : ∃ wb, wb = w.alloc (.cells #[.int .i64 0, .int .i64 0] 33) := ⟨_, rfl⟩
  rw [← hwb] at v0 b0
  go_wp2_with fail
  rw [← hwb]
  clear hwb
  have s0 := b0.size
  go_loopw [6, 7, 27] (fun t a i wr => ∃ k : Nat, k ≤ k0 ∧ i = .int .i64 (k : Int) ∧ t = .int .i64 (wtS R C k) ∧ a = .int .i64 (wtA C k) ∧ Below wb.heap.size wb wr) (fun _ _ i _ => n - (Go.RowKit.intOf i).toNat)
  case atStart => exact ⟨0, Nat.zero_le _, rfl, rfl, rfl, Below.refl _ _⟩
  case round =>
    obtain ⟨k, hk, rfl, rfl, rfl, hB⟩ := hrel
    have hbd := wtS_bd k (fun i hi => HL.out i (by omega))
    have hBw := b0.trans (hB.mono s0)
    have sB := hB.size
    by_cases hlk : k < k0
    · have hok := HL.out k hlk
      have a0 := (hBw.cell (p := ⟨b, off + k * 2, none⟩) lb).trans (HR.out k (by omega)).1
      have a1 := (hBw.cell (p := ⟨b, off + k * 2 + 1, none⟩) lb).trans (HR.out k (by omega)).2
      have c0 := (hBw.cell (p := ⟨b', off' + k, none⟩) lb').trans (HC.out k (by omega))
      have hf := meanOk_facts hok
      have IM := Lib.hid (fun wx => fMean_yes (R k).1 (R k).2 (C k) wx hok)
      have HD := Lib.hid (show wtS R C (k + 1) = wtS R C k + (R k).1 * Int.tdiv (C k) (R k).2 ∧ wtA C (k + 1) = wtA C k + C k from ⟨rfl, rfl⟩)
      obtain ⟨⟨o1, o2⟩, _, o3, o4⟩ := hok
      have d0 : ¬ (R k).2 = 0 := by omega
      obtain ⟨t, ht⟩ : ∃ t, t = wtS R C k := ⟨_, rfl⟩
      obtain ⟨al, hal⟩ : ∃ t, t = wtA C k := ⟨_, rfl⟩
      obtain ⟨rn, hrn⟩ : ∃ t, t = (R k).1 := ⟨_, rfl⟩
      obtain ⟨rd, hrd⟩ : ∃ t, t = (R k).2 := ⟨_, rfl⟩
      obtain ⟨c, hc⟩ : ∃ t, t = C k := ⟨_, rfl⟩
      obtain ⟨q, hq⟩ : ∃ q, q = Int.tdiv c rd := ⟨_, rfl⟩
      rw [← hc, ← hrn, ← hrd, ← ht, ← hal, ← hq] at HD
      rw [← hc, ← hrn, ← hrd, ← hq] at hf
      rw [← hc, ← hrn, ← hrd] at IM
      rw [← hrn] at a0
      rw [← hrd] at a1 d0
      rw [← hc] at c0 o1 o2
      rw [← ht, ← hal] at hbd ⊢
      obtain ⟨z, hz⟩ : ∃ z, z = rn * q := ⟨_, rfl⟩
      rw [← hz] at hf HD
      have e1 := hq.symm
      have e2 : IntKind.i64.wrap q = q := IntWalk.i64_in _ ⟨by omega, by omega⟩
      have e3 := hz.symm
      have e4 : IntKind.i64.wrap z = z := IntWalk.i64_in _ ⟨by omega, by omega⟩
      have e5 : IntKind.i64.wrap (t + z) = t + z := IntWalk.i64_in _ ⟨by omega, by omega⟩
      have e6 : IntKind.i64.wrap (al + c) = al + c := IntWalk.i64_in _ ⟨by omega, by omega⟩
      have p0 : (0 : Int) ≤ (k : Int) := by omega
      have p1 : (k : Int) < (n : Int) := by omega
      have p2 : k < n := by omega
      have lbr : b < wr.heap.size := by omega
      have lbr' : b' < wr.heap.size := by omega
      clear ht hal hrn hrd hc hq hz hbd hf o1 o2 o3 o4
      go_wp2
      obtain ⟨w2, hw2⟩ : ∃ w2, w2 = wr.alloc (.cells #[.int .i64 rn, .int .i64 rd] 33) := ⟨_, rfl⟩
      have v2 := Two.new wr 33 (.int .i64 rn) (.int .i64 rd)
      have b2 : Below wr.heap.size wr (wr.alloc (.cells #[.int .i64 rn, .int .i64 rd] 33)) := (Below.refl _ _).alloc (Nat.le_refl _) _
      rw [← hw2] at v2 b2 ⊢
      clear hw2
      obtain ⟨P, hP⟩ : ∃ P, P = wr.heap.size := ⟨_, rfl⟩
      have r0 := v2.c0
      have r1 := v2.c1
      have r2 := (b2.cell (p := ⟨b', off' + k, none⟩) lbr').trans c0
      have lP := v2.lt
      have s2 := b2.size
      rw [← hP] at r0 r1 lP lbr lbr' s2 ⊢
      have B2 := Lib.hid b2
      have hP2 := Lib.hid hP
      have HB0 := Lib.hid hB
      clear b2 hP v2 a0 a1 c0 hB hBw sB
      go_region_held3 (fun w' => w'.cell? ⟨P, 0, none⟩ = some (.int .i64 rn) ∧ w'.cell? ⟨P, 1, none⟩ = some (.int .i64 rd) ∧ w'.cell? ⟨b', off' + k, none⟩ = some (.int .i64 c)) (first | (go_split_ands; (try dsimp only); refine ⟨?_, ?_, ?_⟩ <;> (first | (with_reducible assumption) | (with_reducible exact keep_cell (by assumption) (by first | omega | (simp; done) | (simp; omega)) (by assumption)) | (with_reducible exact (World.cell?_alloc_past _ _ _ (by show _ < _; omega)).trans (by assumption)) | (with_reducible exact (World.cell?_alloc_past _ _ _ (by show _ < _; omega)).trans ((World.cell?_alloc_past _ _ _ (by show _ < _; omega)).symm.trans (by assumption))) | (simp [go_sem]; with_reducible assumption))) | (simp [go_sem, ↓IntWalk.iteOmega, *]; done)) ((go_at_call 83; (with_reducible refine (IM.out _).mono ?_); rintro e w1 ⟨rfl, hb⟩; obtain ⟨hc, hf, hz⟩ := bcall hb; (try simp at hc hf hz)))
      rename_i hX
      have HBK := Lib.hid (show Below wr.heap.size wr w1 from (B2.out.drew).trans (hb.mono (by show wr.heap.size ≤ w2.heap.size; rw [← hP2.out]; exact s2)))
      obtain ⟨r0, r1, r2⟩ := hX
      have lP1 : P < w1.heap.size := by omega
      have lb1 : b' < w1.heap.size := by omega
      clear hb hc hf hz B2
      go_wp2
      go_quiet (fail)
      go_wp2
      go_roundw
      case rel => exact ⟨k + 1, by omega, by go_num, by rw [HD.out.1], by rw [HD.out.2], below_drewN (HB0.out.trans (HBK.out.mono HB0.out.size)) _⟩
      case measure => simp [Go.RowKit.intOf]; omega
    · obtain rfl : k = k0 := by omega
      have a0 := (hBw.cell (p := ⟨b, off + k * 2, none⟩) lb).trans (HR.out k hk0).1
      have a1 := (hBw.cell (p := ⟨b, off + k * 2 + 1, none⟩) lb).trans (HR.out k hk0).2
      have c0 := (hBw.cell (p := ⟨b', off' + k, none⟩) lb').trans (HC.out k hk0)
      have IM := Lib.hid (fun wx => fMean_no (R k).1 (R k).2 (C k) wx HX.out)
      obtain ⟨rn, hrn⟩ : ∃ t, t = (R k).1 := ⟨_, rfl⟩
      obtain ⟨rd, hrd⟩ : ∃ t, t = (R k).2 := ⟨_, rfl⟩
      obtain ⟨c, hc⟩ : ∃ t, t = C k := ⟨_, rfl⟩
      rw [← hc, ← hrn, ← hrd] at IM
      rw [← hrn] at a0
      rw [← hrd] at a1
      rw [← hc] at c0
      have p0 : (0 : Int) ≤ (k : Int) := by omega
      have p1 : (k : Int) < (n : Int) := by omega
      have lbr : b < wr.heap.size := by omega
      have lbr' : b' < wr.heap.size := by omega
      have v1 := v0.below hB v0.lt
      have l1 := v1.lt
      clear hrn hrd hc hbd
      go_wp2
      obtain ⟨w2, hw2⟩ : ∃ w2, w2 = wr.alloc (.cells #[.int .i64 rn, .int .i64 rd] 33) := ⟨_, rfl⟩
      have v2 := Two.new wr 33 (.int .i64 rn) (.int .i64 rd)
      have b2 : Below wr.heap.size wr (wr.alloc (.cells #[.int .i64 rn, .int .i64 rd] 33)) := (Below.refl _ _).alloc (Nat.le_refl _) _
      rw [← hw2] at v2 b2 ⊢
      clear hw2
      obtain ⟨P, hP⟩ : ∃ P, P = wr.heap.size := ⟨_, rfl⟩
      have r0 := v2.c0
      have r1 := v2.c1
      have r2 := (b2.cell (p := ⟨b', off' + k, none⟩) lbr').trans c0
      have lP := v2.lt
      have s2 := b2.size
      have v1 := v1.below b2 l1
      have l1 := v1.lt
      rw [← hP] at r0 r1 lP lbr lbr' s2 ⊢
      have B2 := Lib.hid (hBw.trans (b2.mono hBw.size))
      have sw2 := B2.out.size
      have V1 := Lib.hid v1
      clear b2 hP v2 a0 a1 c0 hB hBw sB v1
      go_region_held3 (fun w' => w'.cell? ⟨P, 0, none⟩ = some (.int .i64 rn) ∧ w'.cell? ⟨P, 1, none⟩ = some (.int .i64 rd) ∧ w'.cell? ⟨b', off' + k, none⟩ = some (.int .i64 c)) (first | (go_split_ands; (try dsimp only); refine ⟨?_, ?_, ?_⟩ <;> (first | (with_reducible assumption) | (with_reducible exact keep_cell (by assumption) (by first | omega | (simp; done) | (simp; omega)) (by assumption)) | (with_reducible exact (World.cell?_alloc_past _ _ _ (by show _ < _; omega)).trans (by assumption)) | (with_reducible exact (World.cell?_alloc_past _ _ _ (by show _ < _; omega)).trans ((World.cell?_alloc_past _ _ _ (by show _ < _; omega)).symm.trans (by assumption))) | (simp [go_sem]; with_reducible assumption))) | (simp [go_sem, ↓IntWalk.iteOmega, *]; done)) ((go_at_call 83; (with_reducible refine (IM.out _).mono ?_); rintro e w1 ⟨rfl, hb⟩; obtain ⟨hc, hf, hz⟩ := bcall hb; (try simp at hc hf hz)))
      rename_i hX
      have hb3 : Below w2.heap.size w2 w1 := (Below.refl w2.heap.size w2).drew.trans hb
      have v1 := V1.out.below hb3 l1
      have k0 := v1.c0
      have k1 := v1.c1
      have f0 := v1.f0 0
      have f1 := v1.f0 1
      have l2 := v1.lt
      have HB3 := Lib.hid (B2.out.trans (hb3.mono sw2))
      clear hX hb hc hf hz hb3 v1 B2
      go_wp2
      refine bodyPost_ret (v := .tuple #[.agg #[.int .i64 0, .int .i64 0], .int .i64 7]) (by simp [results, Tryd.results25, go_sem, ↓IntWalk.iteOmega, *]) rfl ⟨rfl, ?_⟩
      have HBW := HB3.out
      (repeat' (first | (with_reducible exact Below.refl _ _) | (with_reducible refine Below.setCell ?_ (by first | omega | (simp; done) | (simp; omega)) _) | (with_reducible refine Below.alloc ?_ (by first | omega | (simp; done) | (simp; omega)) _) | (with_reducible refine Below.drew ?_) | (with_reducible refine below_drewN ?_ _) | (with_reducible refine Below.trans ?_ (Below.mono (by assumption) (by first | omega | (simp; done) | (simp; omega))))))
set_option maxRecDepth 100000 in
set_option maxHeartbeats 4000000 in
theorem fWtd_size (ao ao' : Option Addr) (n cap n' cap' : Nat) (w : World) (h : n ≠ n') : Calls Tryd.prog 25 #[.slice ao n cap, .slice ao' n' cap'] w fun e w' => e = .returned (.tuple #[.agg #[.int .i64 0, .int .i64 0], .int .i64 9]) ∧ Below w.heap.size w w' := by
  have h1 : ¬ (n : Int) = (n' : Int) := by omega
  go_enter Tryd.func25, Tryd.ntmps25
  go_wp2
  refine bodyPost_ret (v := .tuple #[.agg #[.int .i64 0, .int .i64 0], .int .i64 9]) (by simp [results, Tryd.results25, go_sem, ↓IntWalk.iteOmega, *]) rfl ⟨rfl, ?_⟩
  (repeat' (first | (with_reducible exact Below.refl _ _) | (with_reducible refine Below.setCell ?_ (by first | omega | (simp; done) | (simp; omega)) _) | (with_reducible refine Below.alloc ?_ (by first | omega | (simp; done) | (simp; omega)) _) | (with_reducible refine Below.drew ?_) | (with_reducible refine below_drewN ?_ _) | (with_reducible refine Below.trans ?_ (Below.mono (by assumption) (by first | omega | (simp; done) | (simp; omega))))))
set_option maxRecDepth 100000 in
set_option maxHeartbeats 4000000 in
theorem fWtd_rng (ao ao' : Option Addr) (n cap cap' : Nat) (w : World) (h : n < 1 ∨ 100 < n) : Calls Tryd.prog 25 #[.slice ao n cap, .slice ao' n cap'] w fun e w' => e = .returned (.tuple #[.agg #[.int .i64 0, .int .i64 0], .int .i64 7]) ∧ Below w.heap.size w w' := by
  rcases h with h | h
  · have h1 : (n : Int) < 1 := by omega
    obtain rfl : n = 0 := by omega
    go_enter Tryd.func25, Tryd.ntmps25
    go_wp2
    refine bodyPost_ret (v := .tuple #[.agg #[.int .i64 0, .int .i64 0], .int .i64 7]) (by simp [results, Tryd.results25, go_sem, ↓IntWalk.iteOmega, *]) rfl ⟨rfl, ?_⟩
    (repeat' (first | (with_reducible exact Below.refl _ _) | (with_reducible refine Below.setCell ?_ (by first | omega | (simp; done) | (simp; omega)) _) | (with_reducible refine Below.alloc ?_ (by first | omega | (simp; done) | (simp; omega)) _) | (with_reducible refine Below.drew ?_) | (with_reducible refine below_drewN ?_ _) | (with_reducible refine Below.trans ?_ (Below.mono (by assumption) (by first | omega | (simp; done) | (simp; omega))))))
  · have h1 : ¬ (n : Int) < 1 := by omega
    have h2 : 100 < (n : Int) := by omega
    go_enter Tryd.func25, Tryd.ntmps25
    go_wp2
    refine bodyPost_ret (v := .tuple #[.agg #[.int .i64 0, .int .i64 0], .int .i64 7]) (by simp [results, Tryd.results25, go_sem, ↓IntWalk.iteOmega, *]) rfl ⟨rfl, ?_⟩
    (repeat' (first | (with_reducible exact Below.refl _ _) | (with_reducible refine Below.setCell ?_ (by first | omega | (simp; done) | (simp; omega)) _) | (with_reducible refine Below.alloc ?_ (by first | omega | (simp; done) | (simp; omega)) _) | (with_reducible refine Below.drew ?_) | (with_reducible refine below_drewN ?_ _) | (with_reducible refine Below.trans ?_ (Below.mono (by assumption) (by first | omega | (simp; done) | (simp; omega))))))
end Go.Proofs.YtmdeooflgkjbbaaDoor

/- A mean of fractions, weighted: by the reference of the fields. -/


namespace Go.Proofs.YtmdeooflgkjbbaaDoor
set_option linter.unusedSimpArgs false
set_option linter.unusedVariables false
open Go.RowKit Go.Shelf
attribute [local go_sem] Oper.semAt_some

set_option maxHeartbeats 1000000 in
theorem r8w_yes (n lo hi : Int) (w : World) (h1 : lo ≤ n) (h2 : n ≤ hi) : Calls Tryd.prog 84 #[.int .i64 n, .int .i64 lo, .int .i64 hi] w fun e w' => e = .returned (.bool true) ∧ w = w' := by
  go_enter Tryd.func84, Tryd.ntmps84
  go_wp2
  go_ret
  exact ⟨by simp [h1, h2], rfl⟩
set_option maxHeartbeats 1000000 in
theorem r8w_no (n lo hi : Int) (w : World) (h : ¬ (lo ≤ n ∧ n ≤ hi)) : Calls Tryd.prog 84 #[.int .i64 n, .int .i64 lo, .int .i64 hi] w fun e w' => e = .returned (.bool false) ∧ w = w' := by
  by_cases h1 : lo ≤ n
  · have h2 : ¬ n ≤ hi := by omega
    have d2 : decide (n ≤ hi) = false := decide_eq_false h2
    clear h
    go_enter Tryd.func84, Tryd.ntmps84
    go_wp2
    go_ret
    exact ⟨by simp [d2], rfl⟩
  · have d1 : decide (lo ≤ n) = false := decide_eq_false h1
    clear h
    go_enter Tryd.func84, Tryd.ntmps84
    go_wp2
    go_ret
    exact ⟨by simp, rfl⟩
set_option maxRecDepth 100000 in
set_option maxHeartbeats 4000000 in
theorem rWtd_size (ao ao' : Option Addr) (n cap n' cap' : Nat) (w : World) (h : n ≠ n') : Calls Tryd.prog 26 #[.slice ao n cap, .slice ao' n' cap'] w fun e w' => e = .returned (.tuple #[.agg #[.int .i64 0, .int .i64 0], .int .i64 9]) ∧ Below w.heap.size w w' := by
  have h1 : ¬ (n : Int) = (n' : Int) := by omega
  go_enter Tryd.func26, Tryd.ntmps26
  go_wp2
  refine bodyPost_ret (v := .tuple #[.agg #[.int .i64 0, .int .i64 0], .int .i64 9]) (by simp [results, Tryd.results26, go_sem, ↓IntWalk.iteOmega, *]) rfl ⟨rfl, ?_⟩
  (repeat' (first | (with_reducible exact Below.refl _ _) | (with_reducible refine Below.setCell ?_ (by first | omega | (simp; done) | (simp; omega)) _) | (with_reducible refine Below.alloc ?_ (by first | omega | (simp; done) | (simp; omega)) _) | (with_reducible refine Below.drew ?_) | (with_reducible refine below_drewN ?_ _) | (with_reducible refine Below.trans ?_ (Below.mono (by assumption) (by first | omega | (simp; done) | (simp; omega))))))
set_option maxRecDepth 100000 in
set_option maxHeartbeats 4000000 in
theorem rWtd_rng (ao ao' : Option Addr) (n cap cap' : Nat) (w : World) (h : n < 1 ∨ 100 < n) : Calls Tryd.prog 26 #[.slice ao n cap, .slice ao' n cap'] w fun e w' => e = .returned (.tuple #[.agg #[.int .i64 0, .int .i64 0], .int .i64 7]) ∧ Below w.heap.size w w' := by
  have WI := Lib.hid (fun wx => r8w_no (n : Int) 1 100 wx (by omega))
  clear h
  go_enter Tryd.func26, Tryd.ntmps26
  go_wp2_with (go_at_call 84; (with_reducible refine (WI.out _).mono ?_); rintro e w1 ⟨rfl, rfl⟩)
  refine bodyPost_ret (v := .tuple #[.agg #[.int .i64 0, .int .i64 0], .int .i64 7]) (by simp [results, Tryd.results26, go_sem, ↓IntWalk.iteOmega, *]) rfl ⟨rfl, ?_⟩
  (repeat' (first | (with_reducible exact Below.refl _ _) | (with_reducible refine Below.setCell ?_ (by first | omega | (simp; done) | (simp; omega)) _) | (with_reducible refine Below.alloc ?_ (by first | omega | (simp; done) | (simp; omega)) _) | (with_reducible refine Below.drew ?_) | (with_reducible refine below_drewN ?_ _) | (with_reducible refine Below.trans ?_ (Below.mono (by assumption) (by first | omega | (simp; done) | (simp; omega))))))
set_option maxRecDepth 100000 in
set_option maxHeartbeats 32000000 in
theorem rWtd_ok (b off n cap b' off' cap' : Nat) (R : Nat → Int × Int) (C : Nat → Int) (w : World) (n1 : 1 ≤ n) (n2 : n ≤ 100) (lb : b < w.heap.size) (lb' : b' < w.heap.size) (hR : RulesAt w b off n R) (hC : NumsAt w b' off' n C) (hlow : ∀ i, i < n → MeanOk (R i).1 (R i).2 (C i)) : Calls Tryd.prog 26 #[.slice (some ⟨b, off, none⟩) n cap, .slice (some ⟨b', off', none⟩) n cap'] w fun e w' => e = .returned (.tuple #[.agg #[.int .i64 (ltN (wtS R C n) (wtA C n).toNat), .int .i64 (((ltD (wtS R C n) (wtA C n).toNat : Nat) : Int))], .int .i64 0]) ∧ Below w.heap.size w w' := by
  have HR := Lib.hid hR
  have HC := Lib.hid hC
  have HL := Lib.hid hlow
  clear hR hC hlow
  have WI := Lib.hid (fun wx => r8w_yes (n : Int) 1 100 wx (by omega) (by omega))
  have v0 := Two.new w 33 (.int .i64 0) (.int .i64 0)
  have b0 : Below w.heap.size w (w.alloc (.cells #[.int .i64 0, .int .i64 0] 33)) := by (repeat' (first | (with_reducible exact Below.refl _ _) | (with_reducible refine Below.setCell ?_ (by first | omega | (simp; done) | (simp; omega)) _) | (with_reducible refine Below.alloc ?_ (by first | omega | (simp; done) | (simp; omega)) _) | (with_reducible refine Below.drew ?_) | (with_reducible refine below_drewN ?_ _) | (with_reducible refine Below.trans ?_ (Below.mono (by assumption) (by first | omega | (simp; done) | (simp; omega))))))
  go_enter Tryd.func26, Tryd.ntmps26
  obtain ⟨wb, hwb⟩ : ∃ wb, wb = w.alloc (.cells #[.int .i64 0, .int .i64 0] 33) := ⟨_, rfl⟩
  rw [← hwb] at v0 b0
  go_wp2_with (go_at_call 84; (with_reducible refine (WI.out _).mono ?_); rintro e w1 ⟨rfl, rfl⟩)
  rw [← hwb]
  clear hwb WI
  have s0 := b0.size
  go_loopw [6, 7, 8] (fun t a i wr => ∃ k : Nat, k ≤ n ∧ i = .int .i64 (k : Int) ∧ t = .int .i64 (wtS R C k) ∧ a = .int .i64 (wtA C k) ∧ Below wb.heap.size wb wr) (fun _ _ i _ => n - (Go.RowKit.intOf i).toNat)
  case atStart => exact ⟨0, Nat.zero_le _, rfl, rfl, rfl, Below.refl _ _⟩
  case round =>
    obtain ⟨k, hk, rfl, rfl, rfl, hB⟩ := hrel
    have hbd := wtS_bd k (fun i hi => HL.out i (by omega))
    have hBw := b0.trans (hB.mono s0)
    have sB := hB.size
    have p0 : (0 : Int) ≤ (k : Int) := by omega
    by_cases hlk : k < n
    · have hok := HL.out k hlk
      have a0 := (hBw.cell (p := ⟨b, off + k * 2, none⟩) lb).trans (HR.out k (by omega)).1
      have a1 := (hBw.cell (p := ⟨b, off + k * 2 + 1, none⟩) lb).trans (HR.out k (by omega)).2
      have c0 := (hBw.cell (p := ⟨b', off' + k, none⟩) lb').trans (HC.out k (by omega))
      have hf := meanOk_facts hok
      have HD := Lib.hid (show wtS R C (k + 1) = wtS R C k + (R k).1 * Int.tdiv (C k) (R k).2 ∧ wtA C (k + 1) = wtA C k + C k from ⟨rfl, rfl⟩)
      obtain ⟨⟨o1, o2⟩, ⟨o5, o6⟩, o3, o4⟩ := hok
      have C1 := Lib.hid (fun wx => r8w_yes (C k) 1 1024 wx o1 o2)
      have C2 := Lib.hid (fun wx => r8w_yes (R k).1 (-1000000000) 1000000000 wx o5 o6)
      have d0 : ¬ (R k).2 = 0 := by omega
      have d1 : ¬ (R k).2 < 1 := by omega
      obtain ⟨t, ht⟩ : ∃ t, t = wtS R C k := ⟨_, rfl⟩
      obtain ⟨al, hal⟩ : ∃ t, t = wtA C k := ⟨_, rfl⟩
      obtain ⟨rn, hrn⟩ : ∃ t, t = (R k).1 := ⟨_, rfl⟩
      obtain ⟨rd, hrd⟩ : ∃ t, t = (R k).2 := ⟨_, rfl⟩
      obtain ⟨c, hc⟩ : ∃ t, t = C k := ⟨_, rfl⟩
      obtain ⟨q, hq⟩ : ∃ q, q = Int.tdiv c rd := ⟨_, rfl⟩
      rw [← hc, ← hrn, ← hrd, ← ht, ← hal, ← hq] at HD
      rw [← hc, ← hrn, ← hrd, ← hq] at hf
      rw [← hc] at C1
      rw [← hrn] at C2
      rw [← hrn] at a0
      rw [← hrd] at a1 d0 d1
      rw [← hc] at c0 o1 o2
      rw [← hc, ← hrd] at o4
      rw [← ht, ← hal] at hbd ⊢
      obtain ⟨z, hz⟩ : ∃ z, z = rn * q := ⟨_, rfl⟩
      rw [← hz] at hf HD
      have e1 := hq.symm
      have e2 : IntKind.i64.wrap q = q := IntWalk.i64_in _ ⟨by omega, by omega⟩
      have e3 := hz.symm
      have e4 : IntKind.i64.wrap z = z := IntWalk.i64_in _ ⟨by omega, by omega⟩
      have e5 : IntKind.i64.wrap (t + z) = t + z := IntWalk.i64_in _ ⟨by omega, by omega⟩
      have e6 : IntKind.i64.wrap (al + c) = al + c := IntWalk.i64_in _ ⟨by omega, by omega⟩
      have e7 : IntKind.i64.wrap (Int.tmod c rd) = 0 := by rw [o4]; exact IntWalk.i64_in _ ⟨by omega, by omega⟩
      have p1 : (k : Int) < (n : Int) := by omega
      have p2 : k < n := by omega
      have dd1 : decide (rd < 1) = false := decide_eq_false d1
      have HB := Lib.hid hB
      clear ht hal hrn hrd hc hq hz hbd hf o1 o2 o3 o5 o6 hB hBw sB
      go_wp2
      refine wp_region_quiet_lit (by kernel_rfl) (by kernel_rfl) ?_
      (iterate 6 (go_big_quiet_step ((go_at_call 84; exact Calls.quiet_of_same ((C1.out _).mono fun _ _ h => ⟨h.1, h.2.symm⟩)))))
      repeat (go_big_quiet_step ((go_at_call 84; exact Calls.quiet_of_same ((C2.out _).mono fun _ _ h => ⟨h.1, h.2.symm⟩))))
      refine wpQuiet_nil ?_
      rintro _ ⟨nq, rfl⟩
      go_wp2
      go_quiet (fail)
      go_wp2
      go_roundw
      case rel => exact ⟨k + 1, by omega, by go_num, by rw [HD.out.1], by rw [HD.out.2], below_drewN HB.out _⟩
      case measure => simp [Go.RowKit.intOf]; omega
    · obtain rfl : k = n := by omega
      have p1 : ¬ (k : Int) < (k : Int) := by omega
      have RA := Lib.hid (fun wx => rRatio_lt (wtS R C k) (wtA C k).toNat wx (by omega) (by omega) (by omega))
      rw [show (((wtA C k).toNat : Nat) : Int) = wtA C k from by omega] at RA
      obtain ⟨kN, hkN⟩ : ∃ t, t = ltN (wtS R C k) (wtA C k).toNat := ⟨_, rfl⟩
      obtain ⟨kD, hkD⟩ : ∃ t : Int, t = ((ltD (wtS R C k) (wtA C k).toNat : Nat) : Int) := ⟨_, rfl⟩
      rw [← hkN, ← hkD] at RA
      have HK := Lib.hid (And.intro hkN hkD)
      have v1 := v0.below hB v0.lt
      have k0 := v1.c0
      have k1 := v1.c1
      have f0 := v1.f0 0
      have f1 := v1.f0 1
      have l1 := v1.lt
      clear hkN hkD v0 v1 hbd
      go_wp2_with (go_at_call 69; (with_reducible refine (RA.out _).mono ?_); rintro e w1 ⟨rfl, hb⟩; obtain ⟨hc, hf, hz⟩ := bcall hb; (try simp at hc hf hz))
      refine bodyPost_ret (v := .tuple #[.agg #[.int .i64 kN, .int .i64 kD], .int .i64 0]) (by simp [results, Tryd.results26, go_sem, ↓IntWalk.iteOmega, *]) rfl ⟨by rw [HK.out.1, HK.out.2], ?_⟩
      have HBW := hBw
      (repeat' (first | (with_reducible exact Below.refl _ _) | (with_reducible refine Below.setCell ?_ (by first | omega | (simp; done) | (simp; omega)) _) | (with_reducible refine Below.alloc ?_ (by first | omega | (simp; done) | (simp; omega)) _) | (with_reducible refine Below.drew ?_) | (with_reducible refine below_drewN ?_ _) | (with_reducible refine Below.trans ?_ (Below.mono (by assumption) (by first | omega | (simp; done) | (simp; omega))))))
set_option maxRecDepth 100000 in
set_option maxHeartbeats 32000000 in
theorem rWtd_bad (b off n cap b' off' cap' : Nat) (R : Nat → Int × Int) (C : Nat → Int) (w : World) (n1 : 1 ≤ n) (n2 : n ≤ 100) (lb : b < w.heap.size) (lb' : b' < w.heap.size) (hR : RulesAt w b off n R) (hC : NumsAt w b' off' n C) (k0 : Nat) (hk0 : k0 < n) (hlow : ∀ i, i < k0 → MeanOk (R i).1 (R i).2 (C i)) (hno : ¬ MeanOk (R k0).1 (R k0).2 (C k0)) : Calls Tryd.prog 26 #[.slice (some ⟨b, off, none⟩) n cap, .slice (some ⟨b', off', none⟩) n cap'] w fun e w' => e = .returned (.tuple #[.agg #[.int .i64 0, .int .i64 0], .int .i64 7]) ∧ Below w.heap.size w w' := by
  have HR := Lib.hid hR
  have HC := Lib.hid hC
  have HL := Lib.hid hlow
  have HX := Lib.hid hno
  clear hR hC hlow hno
  have WI := Lib.hid (fun wx => r8w_yes (n : Int) 1 100 wx (by omega) (by omega))
  have v0 := Two.new w 33 (.int .i64 0) (.int .i64 0)
  have b0 : Below w.heap.size w (w.alloc (.cells #[.int .i64 0, .int .i64 0] 33)) := by (repeat' (first | (with_reducible exact Below.refl _ _) | (with_reducible refine Below.setCell ?_ (by first | omega | (simp; done) | (simp; omega)) _) | (with_reducible refine Below.alloc ?_ (by first | omega | (simp; done) | (simp; omega)) _) | (with_reducible refine Below.drew ?_) | (with_reducible refine below_drewN ?_ _) | (with_reducible refine Below.trans ?_ (Below.mono (by assumption) (by first | omega | (simp; done) | (simp; omega))))))
  go_enter Tryd.func26, Tryd.ntmps26
  obtain ⟨wb, hwb⟩ : ∃ wb, wb = w.alloc (.cells #[.int .i64 0, .int .i64 0] 33) := ⟨_, rfl⟩
  rw [← hwb] at v0 b0
  go_wp2_with (go_at_call 84; (with_reducible refine (WI.out _).mono ?_); rintro e w1 ⟨rfl, rfl⟩)
  rw [← hwb]
  clear hwb WI
  have s0 := b0.size
  go_loopw [6, 7, 8] (fun t a i wr => ∃ k : Nat, k ≤ k0 ∧ i = .int .i64 (k : Int) ∧ t = .int .i64 (wtS R C k) ∧ a = .int .i64 (wtA C k) ∧ Below wb.heap.size wb wr) (fun _ _ i _ => n - (Go.RowKit.intOf i).toNat)
  case atStart => exact ⟨0, Nat.zero_le _, rfl, rfl, rfl, Below.refl _ _⟩
  case round =>
    obtain ⟨k, hk, rfl, rfl, rfl, hB⟩ := hrel
    have hbd := wtS_bd k (fun i hi => HL.out i (by omega))
    have hBw := b0.trans (hB.mono s0)
    have sB := hB.size
    have p0 : (0 : Int) ≤ (k : Int) := by omega
    by_cases hlk : k < k0
    · have hok := HL.out k hlk
      have a0 := (hBw.cell (p := ⟨b, off + k * 2, none⟩) lb).trans (HR.out k (by omega)).1
      have a1 := (hBw.cell (p := ⟨b, off + k * 2 + 1, none⟩) lb).trans (HR.out k (by omega)).2
      have c0 := (hBw.cell (p := ⟨b', off' + k, none⟩) lb').trans (HC.out k (by omega))
      have hf := meanOk_facts hok
      have HD := Lib.hid (show wtS R C (k + 1) = wtS R C k + (R k).1 * Int.tdiv (C k) (R k).2 ∧ wtA C (k + 1) = wtA C k + C k from ⟨rfl, rfl⟩)
      obtain ⟨⟨o1, o2⟩, ⟨o5, o6⟩, o3, o4⟩ := hok
      have C1 := Lib.hid (fun wx => r8w_yes (C k) 1 1024 wx o1 o2)
      have C2 := Lib.hid (fun wx => r8w_yes (R k).1 (-1000000000) 1000000000 wx o5 o6)
      have d0 : ¬ (R k).2 = 0 := by omega
      have d1 : ¬ (R k).2 < 1 := by omega
      obtain ⟨t, ht⟩ : ∃ t, t = wtS R C k := ⟨_, rfl⟩
      obtain ⟨al, hal⟩ : ∃ t, t = wtA C k := ⟨_, rfl⟩
      obtain ⟨rn, hrn⟩ : ∃ t, t = (R k).1 := ⟨_, rfl⟩
      obtain ⟨rd, hrd⟩ : ∃ t, t = (R k).2 := ⟨_, rfl⟩
      obtain ⟨c, hc⟩ : ∃ t, t = C k := ⟨_, rfl⟩
      obtain ⟨q, hq⟩ : ∃ q, q = Int.tdiv c rd := ⟨_, rfl⟩
      rw [← hc, ← hrn, ← hrd, ← ht, ← hal, ← hq] at HD
      rw [← hc, ← hrn, ← hrd, ← hq] at hf
      rw [← hc] at C1
      rw [← hrn] at C2
      rw [← hrn] at a0
      rw [← hrd] at a1 d0 d1
      rw [← hc] at c0 o1 o2
      rw [← hc, ← hrd] at o4
      rw [← ht, ← hal] at hbd ⊢
      obtain ⟨z, hz⟩ : ∃ z, z = rn * q := ⟨_, rfl⟩
      rw [← hz] at hf HD
      have e1 := hq.symm
      have e2 : IntKind.i64.wrap q = q := IntWalk.i64_in _ ⟨by omega, by omega⟩
      have e3 := hz.symm
      have e4 : IntKind.i64.wrap z = z := IntWalk.i64_in _ ⟨by omega, by omega⟩
      have e5 : IntKind.i64.wrap (t + z) = t + z := IntWalk.i64_in _ ⟨by omega, by omega⟩
      have e6 : IntKind.i64.wrap (al + c) = al + c := IntWalk.i64_in _ ⟨by omega, by omega⟩
      have e7 : IntKind.i64.wrap (Int.tmod c rd) = 0 := by rw [o4]; exact IntWalk.i64_in _ ⟨by omega, by omega⟩
      have p1 : (k : Int) < (n : Int) := by omega
      have p2 : k < n := by omega
      have dd1 : decide (rd < 1) = false := decide_eq_false d1
      have HB := Lib.hid hB
      clear ht hal hrn hrd hc hq hz hbd hf o1 o2 o3 o5 o6 hB hBw sB
      go_wp2
      refine wp_region_quiet_lit (by kernel_rfl) (by kernel_rfl) ?_
      (iterate 6 (go_big_quiet_step ((go_at_call 84; exact Calls.quiet_of_same ((C1.out _).mono fun _ _ h => ⟨h.1, h.2.symm⟩)))))
      repeat (go_big_quiet_step ((go_at_call 84; exact Calls.quiet_of_same ((C2.out _).mono fun _ _ h => ⟨h.1, h.2.symm⟩))))
      refine wpQuiet_nil ?_
      rintro _ ⟨nq, rfl⟩
      go_wp2
      go_quiet (fail)
      go_wp2
      go_roundw
      case rel => exact ⟨k + 1, by omega, by go_num, by rw [HD.out.1], by rw [HD.out.2], below_drewN HB.out _⟩
      case measure => simp [Go.RowKit.intOf]; omega
    · obtain rfl : k = k0 := by omega
      have a0 := (hBw.cell (p := ⟨b, off + k * 2, none⟩) lb).trans (HR.out k hk0).1
      have a1 := (hBw.cell (p := ⟨b, off + k * 2 + 1, none⟩) lb).trans (HR.out k hk0).2
      have c0 := (hBw.cell (p := ⟨b', off' + k, none⟩) lb').trans (HC.out k hk0)
      have hno := HX.out
      obtain ⟨rn, hrn⟩ : ∃ t, t = (R k).1 := ⟨_, rfl⟩
      obtain ⟨rd, hrd⟩ : ∃ t, t = (R k).2 := ⟨_, rfl⟩
      obtain ⟨c, hc⟩ : ∃ t, t = C k := ⟨_, rfl⟩
      rw [← hc, ← hrn, ← hrd] at hno
      rw [← hrn] at a0
      rw [← hrd] at a1
      rw [← hc] at c0
      have p1 : (k : Int) < (n : Int) := by omega
      have v1 := v0.below hB v0.lt
      have l1 := v1.lt
      have k0' := v1.c0
      have k1 := v1.c1
      have f0 := v1.f0 0
      have f1 := v1.f0 1
      have HB := Lib.hid hBw
      have hno' : ¬ (1 ≤ c ∧ c ≤ 1024) ∨ ((1 ≤ c ∧ c ≤ 1024) ∧ ¬ (-1000000000 ≤ rn ∧ rn ≤ 1000000000)) ∨ ((1 ≤ c ∧ c ≤ 1024) ∧ (-1000000000 ≤ rn ∧ rn ≤ 1000000000) ∧ rd < 1) ∨ ((1 ≤ c ∧ c ≤ 1024) ∧ (-1000000000 ≤ rn ∧ rn ≤ 1000000000) ∧ ¬ rd < 1 ∧ ¬ Int.tmod c rd = 0) := by
        by_cases hm : Int.tmod c rd = 0
        · unfold MeanOk at hno
          omega
        · omega
      clear hrn hrd hc hbd hno v1 hB hBw sB
      rcases hno' with g1 | ⟨g1, g2⟩ | ⟨g1, g2, g3⟩ | ⟨g1, g2, g3, g4⟩
      · have C1 := Lib.hid (fun wx => r8w_no c 1 1024 wx g1)
        clear g1
        go_wp2
        refine wp_region_quiet_lit (by kernel_rfl) (by kernel_rfl) ?_
        (iterate 6 (go_big_quiet_step ((go_at_call 84; exact Calls.quiet_of_same ((C1.out _).mono fun _ _ h => ⟨h.1, h.2.symm⟩)))))
        repeat (go_big_quiet_step (fail))
        refine wpQuiet_nil ?_
        rintro _ ⟨nq, rfl⟩
        go_wp2
        refine bodyPost_ret (v := .tuple #[.agg #[.int .i64 0, .int .i64 0], .int .i64 7]) (by simp [results, Tryd.results26, go_sem, ↓IntWalk.iteOmega, *]) rfl ⟨rfl, ?_⟩
        have HBW := HB.out
        (repeat' (first | (with_reducible exact Below.refl _ _) | (with_reducible refine Below.setCell ?_ (by first | omega | (simp; done) | (simp; omega)) _) | (with_reducible refine Below.alloc ?_ (by first | omega | (simp; done) | (simp; omega)) _) | (with_reducible refine Below.drew ?_) | (with_reducible refine below_drewN ?_ _) | (with_reducible refine Below.trans ?_ (Below.mono (by assumption) (by first | omega | (simp; done) | (simp; omega))))))
      · have C1 := Lib.hid (fun wx => r8w_yes c 1 1024 wx g1.1 g1.2)
        have C2 := Lib.hid (fun wx => r8w_no rn (-1000000000) 1000000000 wx g2)
        clear g1 g2
        go_wp2
        refine wp_region_quiet_lit (by kernel_rfl) (by kernel_rfl) ?_
        (iterate 6 (go_big_quiet_step ((go_at_call 84; exact Calls.quiet_of_same ((C1.out _).mono fun _ _ h => ⟨h.1, h.2.symm⟩)))))
        repeat (go_big_quiet_step ((go_at_call 84; exact Calls.quiet_of_same ((C2.out _).mono fun _ _ h => ⟨h.1, h.2.symm⟩))))
        refine wpQuiet_nil ?_
        rintro _ ⟨nq, rfl⟩
        go_wp2
        refine bodyPost_ret (v := .tuple #[.agg #[.int .i64 0, .int .i64 0], .int .i64 7]) (by simp [results, Tryd.results26, go_sem, ↓IntWalk.iteOmega, *]) rfl ⟨rfl, ?_⟩
        have HBW := HB.out
        (repeat' (first | (with_reducible exact Below.refl _ _) | (with_reducible refine Below.setCell ?_ (by first | omega | (simp; done) | (simp; omega)) _) | (with_reducible refine Below.alloc ?_ (by first | omega | (simp; done) | (simp; omega)) _) | (with_reducible refine Below.drew ?_) | (with_reducible refine below_drewN ?_ _) | (with_reducible refine Below.trans ?_ (Below.mono (by assumption) (by first | omega | (simp; done) | (simp; omega))))))
      · have C1 := Lib.hid (fun wx => r8w_yes c 1 1024 wx g1.1 g1.2)
        have C2 := Lib.hid (fun wx => r8w_yes rn (-1000000000) 1000000000 wx g2.1 g2.2)
        have dd1 : decide (rd < 1) = true := decide_eq_true g3
        clear g1 g2
        go_wp2
        refine wp_region_quiet_lit (by kernel_rfl) (by kernel_rfl) ?_
        (iterate 6 (go_big_quiet_step ((go_at_call 84; exact Calls.quiet_of_same ((C1.out _).mono fun _ _ h => ⟨h.1, h.2.symm⟩)))))
        repeat (go_big_quiet_step ((go_at_call 84; exact Calls.quiet_of_same ((C2.out _).mono fun _ _ h => ⟨h.1, h.2.symm⟩))))
        refine wpQuiet_nil ?_
        rintro _ ⟨nq, rfl⟩
        go_wp2
        refine bodyPost_ret (v := .tuple #[.agg #[.int .i64 0, .int .i64 0], .int .i64 7]) (by simp [results, Tryd.results26, go_sem, ↓IntWalk.iteOmega, *]) rfl ⟨rfl, ?_⟩
        have HBW := HB.out
        (repeat' (first | (with_reducible exact Below.refl _ _) | (with_reducible refine Below.setCell ?_ (by first | omega | (simp; done) | (simp; omega)) _) | (with_reducible refine Below.alloc ?_ (by first | omega | (simp; done) | (simp; omega)) _) | (with_reducible refine Below.drew ?_) | (with_reducible refine below_drewN ?_ _) | (with_reducible refine Below.trans ?_ (Below.mono (by assumption) (by first | omega | (simp; done) | (simp; omega))))))
      · have C1 := Lib.hid (fun wx => r8w_yes c 1 1024 wx g1.1 g1.2)
        have C2 := Lib.hid (fun wx => r8w_yes rn (-1000000000) 1000000000 wx g2.1 g2.2)
        have dd1 : decide (rd < 1) = false := decide_eq_false g3
        have g6 : ¬ rd = 0 := by omega
        have e : Int.tmod c rd = c % rd := Int.tmod_eq_emod_of_nonneg (by omega)
        have b1 := Int.emod_nonneg c g6
        have b3 : c % rd ≤ c := by
          have := Int.emod_add_mul_ediv c rd
          have hq : 0 ≤ c / rd := Int.ediv_nonneg (by omega) (by omega)
          have hp := Int.mul_nonneg (show 0 ≤ rd by omega) hq
          omega
        have x6 : IntKind.i64.wrap (Int.tmod c rd) = Int.tmod c rd := by rw [e]; exact IntWalk.i64_in _ ⟨by omega, by omega⟩
        obtain ⟨r, hr⟩ : ∃ r, Int.tmod c rd = r := ⟨_, rfl⟩
        rw [hr] at g4 x6
        have dd4 : decide (r = 0) = false := decide_eq_false g4
        clear g1 g2 e b1 b3
        go_wp2
        refine wp_region_quiet_lit (by kernel_rfl) (by kernel_rfl) ?_
        (iterate 6 (go_big_quiet_step ((go_at_call 84; exact Calls.quiet_of_same ((C1.out _).mono fun _ _ h => ⟨h.1, h.2.symm⟩)))))
        repeat (go_big_quiet_step ((go_at_call 84; exact Calls.quiet_of_same ((C2.out _).mono fun _ _ h => ⟨h.1, h.2.symm⟩))))
        refine wpQuiet_nil ?_
        rintro _ ⟨nq, rfl⟩
        go_wp2
        refine bodyPost_ret (v := .tuple #[.agg #[.int .i64 0, .int .i64 0], .int .i64 7]) (by simp [results, Tryd.results26, go_sem, ↓IntWalk.iteOmega, *]) rfl ⟨rfl, ?_⟩
        have HBW := HB.out
        (repeat' (first | (with_reducible exact Below.refl _ _) | (with_reducible refine Below.setCell ?_ (by first | omega | (simp; done) | (simp; omega)) _) | (with_reducible refine Below.alloc ?_ (by first | omega | (simp; done) | (simp; omega)) _) | (with_reducible refine Below.drew ?_) | (with_reducible refine below_drewN ?_ _) | (with_reducible refine Below.trans ?_ (Below.mono (by assumption) (by first | omega | (simp; done) | (simp; omega))))))
end Go.Proofs.YtmdeooflgkjbbaaDoor

/- The mean of a table's densities: the mathematics; what both sides give of weighted means. -/


namespace Go.Proofs.YtmdeooflgkjbbaaDoor
set_option linter.unusedSimpArgs false
set_option linter.unusedVariables false
open Go.RowKit Go.Shelf

theorem sumT_recX (tv : Nat → Int) (W x i j y k : Nat) : sumT tv (recN W x (i + j) y k) = sumT tv (recN W x i y k) + sumT tv (recN W (x + i) j y k) := by
  induction k with
  | zero => simp [recN, sumT]
  | succ k ih =>
    simp only [recN]
    rw [sumT_append, sumT_append, sumT_append, ih, rowN_split, sumT_append]
    omega
theorem sumT_tabrow (tv : Nat → Int) (W wi y hi J : Nat) : sm J (fun j => sumT tv (recN W (j * wi) wi y hi)) = sumT tv (recN W 0 (J * wi) y hi) := by
  induction J with
  | zero =>
    have : ∀ k, sumT tv (recN W 0 0 y k) = 0 := by
      intro k
      induction k with
      | zero => rfl
      | succ k ih => simp only [recN]; rw [sumT_append, ih]; rfl
    rw [Nat.zero_mul, this]
    rfl
  | succ J ih =>
    simp only [sm]
    rw [ih, Nat.add_mul, Nat.one_mul, sumT_recX, Nat.zero_add]
theorem tabS_at (tv : Nat → Int) {W m wi hi k j : Nat} (h1 : 1 ≤ wi) (h2 : 1 ≤ hi) (hj : j < m) : tabS tv W m wi hi (k * m + j) = sumT tv (recN W (j * wi) wi (k * hi) hi) := by
  unfold tabS tabP blS
  rw [Nat.mul_comm k m, Nat.mul_add_mod, Nat.mod_eq_of_lt hj, Nat.mul_add_div (by omega), Nat.div_eq_of_lt hj, Nat.add_zero]
  show sumT tv (recN W (j * wi) (j * wi + wi - 1 + 1 - j * wi) (k * hi) (k * hi + hi - 1 + 1 - k * hi)) = _
  rw [show j * wi + wi - 1 + 1 - j * wi = wi by omega, show k * hi + hi - 1 + 1 - k * hi = hi by omega]
theorem tab_rows (tv : Nat → Int) {W m wi hi : Nat} (h1 : 1 ≤ wi) (h2 : 1 ≤ hi) (k : Nat) : sm (k * m) (tabS tv W m wi hi) = sumT tv (recN W 0 (m * wi) 0 (k * hi)) := by
  induction k with
  | zero => rw [Nat.zero_mul, Nat.zero_mul]; rfl
  | succ k ih =>
    rw [Nat.add_mul, Nat.one_mul, sm_app, ih, Nat.add_mul, Nat.one_mul, recN_split, sumT_append, Nat.zero_add, ← sumT_tabrow tv W wi (k * hi) hi m]
    congr 1
    exact sm_congr _ _ _ fun j hj => tabS_at tv h1 h2 hj
/-- A table adds up to the grid. -/
theorem tab_sum (tv : Nat → Int) {W H m M wi hi : Nat} (h1 : 1 ≤ wi) (h2 : 1 ≤ hi) (hW : W = wi * m) (hH : H = hi * M) : sm (M * m) (tabS tv W m wi hi) = sm (W * H) tv := by
  rw [tab_rows tv h1 h2, Nat.mul_comm m wi, ← hW, Nat.mul_comm M hi, ← hH, sumT_rows]
theorem gcN_pos {s : Int} {c : Nat} (h : 1 ≤ c) : 1 ≤ gcN s c := Nat.gcd_pos_of_pos_left _ h
theorem lt_facts (s : Int) (c : Nat) (hc : 1 ≤ c) : 1 ≤ ltD s c ∧ Int.tdiv (c : Int) ((ltD s c : Nat) : Int) = (gcN s c : Int) ∧ ltN s c * (gcN s c : Int) = s ∧ Int.tmod (c : Int) ((ltD s c : Nat) : Int) = 0 ∧ (ltN s c).natAbs ≤ s.natAbs ∧ gcN s c ≤ c ∧ ltD s c ≤ c := by
  obtain ⟨p1, p2⟩ := lt_parts s c
  have g1 := gcN_pos (s := s) hc
  have d1 : 1 ≤ ltD s c := by
    rcases Nat.eq_zero_or_pos (ltD s c) with h | h
    · rw [h, Nat.mul_zero] at p2; omega
    · exact h
  have n0 : ¬ ((ltD s c : Nat) : Int) = 0 := by omega
  have e : (c : Int) = (gcN s c : Int) * ((ltD s c : Nat) : Int) := by rw [← Int.natCast_mul, ← p2]
  refine ⟨d1, ?_, ?_, ?_, ?_, ?_, ?_⟩
  · rw [show Int.tdiv (c : Int) ((ltD s c : Nat) : Int) = Int.tdiv ((gcN s c : Int) * ((ltD s c : Nat) : Int)) ((ltD s c : Nat) : Int) from by rw [← e]]
    exact Int.mul_tdiv_cancel _ n0
  · rw [Int.mul_comm]; exact p1.symm
  · rw [show Int.tmod (c : Int) ((ltD s c : Nat) : Int) = Int.tmod ((gcN s c : Int) * ((ltD s c : Nat) : Int)) ((ltD s c : Nat) : Int) from by rw [← e]]
    exact Int.mul_tmod_left _ _
  · have h := congrArg Int.natAbs p1
    rw [Int.natAbs_mul, Int.natAbs_natCast] at h
    rw [h]
    exact Nat.le_mul_of_pos_left _ g1
  · exact Nat.gcd_le_left _ hc
  · exact Nat.div_le_self _ _
theorem lt_mean {s : Int} {c : Nat} (hc : 1 ≤ c) (hc2 : c ≤ 1024) (hs : 0 ≤ s ∧ s ≤ 1000000000) : MeanOk (ltN s c) ((ltD s c : Nat) : Int) (c : Int) := by
  obtain ⟨h1, h2, h3, h4, h5, _⟩ := lt_facts s c hc
  exact ⟨⟨by omega, by omega⟩, ⟨by omega, by omega⟩, by omega, h4⟩
/-- The weighted mean of the densities of a table: its sums. -/
theorem wtS_tab (S : Nat → Int) (c : Nat) (hc : 1 ≤ c) (K : Nat) : wtS (fun i => (ltN (S i) c, ((ltD (S i) c : Nat) : Int))) (fun _ => (c : Int)) K = sm K S ∧ wtA (fun _ => (c : Int)) K = (K : Int) * (c : Int) := by
  refine ⟨sm_congr _ _ _ fun i _ => ?_, ?_⟩
  · obtain ⟨h1, h2, h3, _⟩ := lt_facts (S i) c hc
    show ltN (S i) c * Int.tdiv (c : Int) ((ltD (S i) c : Nat) : Int) = S i
    rw [h2, h3]
  · unfold wtA
    induction K with
    | zero => simp [sm]
    | succ K ih => simp only [sm]; rw [ih]; push_cast; rw [Int.add_mul, Int.one_mul]
theorem sm_part {f : Nat → Int} {n : Nat} (h : ∀ i, i < n → 0 ≤ f i) {i : Nat} (hi : i < n) : f i ≤ sm n f := by
  induction n with
  | zero => omega
  | succ n ih =>
    have hn : 0 ≤ sm n f := by
      clear ih hi
      have h := fun i (hi : i < n) => h i (by omega)
      induction n with
      | zero => simp [sm]
      | succ n ih => simp only [sm]; have := ih (fun i hi => h i (by omega)) (fun i hi => h i (by omega)); have := h n (by omega); omega
    simp only [sm]
    have h2 := h n (by omega)
    by_cases e : i = n
    · subst e; omega
    · have := ih (fun i hi => h i (by omega)) (by omega)
      omega

/-- Weighted by both: the same. -/
theorem wtd_both (ao bo : Option Addr) (n cap n' cap' : Nat) (R : Nat → Int × Int) (C : Nat → Int) (w : World) (hR : RulesIn w ao n R) (hC : NumsIn w bo n' C) : ∃ x y er : Int,
    (∀ wx, Below w.heap.size w wx → Calls Tryd.prog 25 #[.slice ao n cap, .slice bo n' cap'] wx fun e w' => e = .returned (.tuple #[.agg #[.int .i64 x, .int .i64 y], .int .i64 er]) ∧ Below wx.heap.size wx w') ∧
    (∀ wx, Below w.heap.size w wx → Calls Tryd.prog 26 #[.slice ao n cap, .slice bo n' cap'] wx fun e w' => e = .returned (.tuple #[.agg #[.int .i64 x, .int .i64 y], .int .i64 er]) ∧ Below wx.heap.size wx w') := by
  by_cases hn : n = n'
  · subst hn
    by_cases h : n < 1 ∨ 100 < n
    · exact ⟨_, _, _, fun wx _ => fWtd_rng ao bo n cap cap' wx h, fun wx _ => rWtd_rng ao bo n cap cap' wx h⟩
    · rcases hR with h0 | ⟨b, off, rfl, lb, hR⟩
      · omega
      · rcases hC with h0 | ⟨b', off', rfl, lb', hC⟩
        · omega
        · have hRx : ∀ wx, Below w.heap.size w wx → RulesAt wx b off n R := fun wx hb => hR.below2 hb lb
          have hCx : ∀ wx, Below w.heap.size w wx → NumsAt wx b' off' n C := fun wx hb => hC.below hb lb'
          by_cases hok : ∀ i, i < n → MeanOk (R i).1 (R i).2 (C i)
          · exact ⟨_, _, _, fun wx hb => fWtd_ok b off n cap b' off' cap' R C wx (by omega) (by omega) (Nat.lt_of_lt_of_le lb hb.size) (Nat.lt_of_lt_of_le lb' hb.size) (hRx wx hb) (hCx wx hb) hok,
              fun wx hb => rWtd_ok b off n cap b' off' cap' R C wx (by omega) (by omega) (Nat.lt_of_lt_of_le lb hb.size) (Nat.lt_of_lt_of_le lb' hb.size) (hRx wx hb) (hCx wx hb) hok⟩
          · have hex : ∃ k, k < n ∧ (∀ i, i < k → MeanOk (R i).1 (R i).2 (C i)) ∧ ¬ MeanOk (R k).1 (R k).2 (C k) := by
              refine Classical.byContradiction fun hne => hok ?_
              have key : ∀ k, k ≤ n → ∀ i, i < k → MeanOk (R i).1 (R i).2 (C i) := by
                intro k
                induction k with
                | zero => intro _ i hi; omega
                | succ k ih =>
                  intro hk i hi
                  by_cases e : i = k
                  · subst e
                    exact Classical.byContradiction fun h => hne ⟨i, by omega, ih (by omega), h⟩
                  · exact ih (by omega) i (by omega)
              exact key n (Nat.le_refl _)
            obtain ⟨k, hk, hlow, hno⟩ := hex
            exact ⟨_, _, _, fun wx hb => fWtd_bad b off n cap b' off' cap' R C wx (by omega) (by omega) (Nat.lt_of_lt_of_le lb hb.size) (Nat.lt_of_lt_of_le lb' hb.size) (hRx wx hb) (hCx wx hb) k hk hlow hno,
              fun wx hb => rWtd_bad b off n cap b' off' cap' R C wx (by omega) (by omega) (Nat.lt_of_lt_of_le lb hb.size) (Nat.lt_of_lt_of_le lb' hb.size) (hRx wx hb) (hCx wx hb) k hk hlow hno⟩
  · exact ⟨_, _, _, fun wx _ => fWtd_size ao bo n cap n' cap' wx hn, fun wx _ => rWtd_size ao bo n cap n' cap' wx hn⟩
end Go.Proofs.YtmdeooflgkjbbaaDoor
