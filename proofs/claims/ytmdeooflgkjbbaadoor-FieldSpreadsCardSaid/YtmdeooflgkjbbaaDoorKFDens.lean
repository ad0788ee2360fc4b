/- A ratio in lowest terms: by the program of the fields. -/
import Derived.Test.YtmdeooflgkjbbaaDoorKFMainP
import Derived.LoopTactic
import Derived.Deep.QuietTactic
import Derived.Deep.RegionHeld3
import Derived.Test.YtmdeooflgkjbbaaDoorKFJoin
namespace Go.Proofs.YtmdeooflgkjbbaaDoor
set_option linter.unusedSimpArgs false
set_option linter.unusedVariables false
open Go.RowKit Go.Shelf
attribute [local go_sem] Oper.semAt_some

set_option maxHeartbeats 1000000 in
theorem fMagn_15 (n : Int) (w : World) (hn : -1000000000000000 ≤ n ∧ n ≤ 1000000000000000) : Calls Tryd.prog 92 #[.int .i64 n] w fun e w' => e = .returned (.int .i64 ((n.natAbs : Int))) ∧ Below w.heap.size w w' := by
  have e1 : IntKind.i64.wrap (-n) = -n := IntWalk.i64_in _ ⟨by omega, by omega⟩
  have e2 : max n (-n) = (n.natAbs : Int) := by omega
  have e3 : (if n < -n then -n else n) = (n.natAbs : Int) := by split <;> omega
  have e4 : (if n ≤ -n then -n else n) = (n.natAbs : Int) := by split <;> omega
  clear hn
  go_enter Tryd.func92, Tryd.ntmps92
  go_wp2
  refine bodyPost_ret (v := .int .i64 ((n.natAbs : Int))) (by simp [results, Tryd.results92, go_sem, *]) rfl ⟨rfl, ?_⟩
  (repeat' (first | (with_reducible exact Below.refl _ _) | (with_reducible refine Below.setCell ?_ (by first | omega | (simp; done) | (simp; omega)) _) | (with_reducible refine Below.alloc ?_ (by first | omega | (simp; done) | (simp; omega)) _) | (with_reducible refine Below.drew ?_) | (with_reducible refine below_drewN ?_ _) | (with_reducible refine Below.trans ?_ (Below.mono (by assumption) (by first | omega | (simp; done) | (simp; omega))))))
set_option maxRecDepth 100000 in
set_option maxHeartbeats 4000000 in
theorem fRatio_big (n : Int) (d g dd : Nat) (k : Int) (w : World) (hg : g = Nat.gcd d n.natAbs) (hk : n = g * k) (hdd : d = g * dd) (hd1 : 1 ≤ d) (hd2 : d ≤ 1000000000000000) (hn : -1000000000000000 ≤ n ∧ n ≤ 1000000000000000) : Calls Tryd.prog 65 #[.int .i64 n, .int .i64 d] w fun e w' => e = .returned (.agg #[.int .i64 k, .int .i64 dd]) ∧ Below w.heap.size w w' := by
  have HK := Lib.hid (And.intro hg (And.intro hk (And.intro hdd hd1)))
  have HN := Lib.hid hn
  clear hg hk hdd
  have hm : n.natAbs ≤ 1000000000000000 := by omega
  have p0 : 0 ≤ d := by omega
  have v0 := Two.new w 33 (.int .i64 0) (.int .i64 0)
  have b0 : Below w.heap.size w (w.alloc (.cells #[.int .i64 0, .int .i64 0] 33)) := by (repeat' (first | (with_reducible exact Below.refl _ _) | (with_reducible refine Below.setCell ?_ (by first | omega | (simp; done) | (simp; omega)) _) | (with_reducible refine Below.alloc ?_ (by first | omega | (simp; done) | (simp; omega)) _) | (with_reducible refine Below.drew ?_) | (with_reducible refine below_drewN ?_ _) | (with_reducible refine Below.trans ?_ (Below.mono (by assumption) (by first | omega | (simp; done) | (simp; omega))))))
  go_enter Tryd.func65, Tryd.ntmps65
  go_wp2_with (go_at_call 92; (refine (fMagn_15 n _ HN.out).mono ?_); rintro e w1 ⟨rfl, hb⟩; obtain ⟨hc, hf, hz⟩ := bcall hb; (try simp at hc hf hz))
  have v1 := v0.below hb v0.lt
  have b1 := b0.trans (hb.mono (by simp))
  clear hc hf hb v0 b0
  go_loopw [5, 6] (fun s t wr => ∃ x y : Nat, s = .int .i64 x ∧ t = .int .i64 y ∧ Hid (Nat.gcd x y = Nat.gcd d n.natAbs) ∧ x ≤ 1000000000000000 ∧ y ≤ 1000000000000000 ∧ Below w1.heap.size w1 wr) (fun _ t _ => (intOf t).toNat)
  case atStart => exact ⟨d, n.natAbs, rfl, rfl, Lib.hid rfl, by omega, hm, Below.refl _ _⟩
  case round =>
    obtain ⟨x, y, rfl, rfl, hg, hx, hy, hB⟩ := hrel
    by_cases hy0 : y = 0
    · subst hy0
      have eg : x = g := by rw [HK.out.1, ← hg.out, Nat.gcd_zero_right]
      subst eg
      obtain ⟨hgx, hk, hdd, hd⟩ := HK.out
      clear hgx
      have x0 : 1 ≤ x := by
        rcases Nat.eq_zero_or_pos x with h | h
        · rw [h, Nat.zero_mul] at hdd; omega
        · exact h
      have n0 : ¬ ((x : Int) = 0) := by omega
      have n1 : ¬ (x = 0) := by omega
      have q1 : Int.tdiv n (x : Int) = k := by rw [hk]; exact Int.mul_tdiv_cancel_left _ n0
      have q2 : Int.tdiv (d : Int) (x : Int) = (dd : Int) := by rw [hdd]; push_cast; exact Int.mul_tdiv_cancel_left _ n0
      have q3 : (d : Int) / (x : Int) = (dd : Int) := by rw [hdd]; push_cast; exact Int.mul_ediv_cancel_left _ n0
      have hdl : dd ≤ d := by rw [hdd]; exact Nat.le_mul_of_pos_left _ x0
      have e2 : IntKind.i64.wrap (dd : Int) = (dd : Int) := IntWalk.i64_in _ ⟨by omega, by omega⟩
      have hkl : k.natAbs ≤ n.natAbs := by rw [hk, Int.natAbs_mul]; exact Nat.le_mul_of_pos_left _ (by rw [Int.natAbs_natCast]; omega)
      have e1 : IntKind.i64.wrap k = k := IntWalk.i64_in _ ⟨by omega, by omega⟩
      have v2 := v1.below hB v1.lt
      have k0 := v2.c0
      have k1 := v2.c1
      have lv := v2.lt
      have fz0 := v2.f0 0
      have fz1 := v2.f0 1
      clear hk hdd hd hdl hkl
      go_wp2
      go_region_held3 (fun w' => w'.heap.size = wr.heap.size) (simp [go_sem]) (fail)
      all_goals
        go_wp2
        refine bodyPost_ret (v := .agg #[.int .i64 k, .int .i64 dd]) (by simp [results, Tryd.results65, go_sem, ↓IntWalk.iteOmega, *]) rfl ⟨rfl, ?_⟩
        exact (b1.trans (hB.mono b1.size)).setCell (p := ⟨w.heap.size, 0, none⟩) (Nat.le_refl _) _ |>.setCell (p := ⟨w.heap.size, 1, none⟩) (Nat.le_refl _) _ |>.drew
    · have hp : 0 < y := by omega
      have hl := Nat.mod_lt x hp
      have tm : (x : Int).tmod (y : Int) = ((x % y : Nat) : Int) := by rw [Int.tmod_eq_emod_of_nonneg (Int.natCast_nonneg _)]; exact (Int.natCast_emod _ _).symm
      obtain ⟨r, hr⟩ : ∃ r, r = x % y := ⟨_, rfl⟩
      have HR := Lib.hid hr
      rw [← hr] at tm hl
      clear hr
      go_wp2
      go_quiet (fail)
      clear tm
      go_wp2
      go_roundw
      case rel => exact ⟨y, r, rfl, rfl, Lib.hid (by rw [← hg.out, HR.out, Nat.gcd_comm y, ← Nat.gcd_rec, Nat.gcd_comm]), hy, by omega, below_drewN hB _⟩
      case measure => simp [intOf]; omega
theorem fMagn_in (n : Int) (w : World) (hn : -2000000000000 ≤ n ∧ n ≤ 2000000000000) : Calls Tryd.prog 92 #[.int .i64 n] w fun e w' => e = .returned (.int .i64 ((n.natAbs : Int))) ∧ Below w.heap.size w w' := fMagn_15 n w ⟨by omega, by omega⟩
theorem fRatio_in (n : Int) (d g dd : Nat) (k : Int) (w : World) (hg : g = Nat.gcd d n.natAbs) (hk : n = g * k) (hdd : d = g * dd) (hd1 : 1 ≤ d) (hd2 : d ≤ 2000000000000) (hn : -2000000000000 ≤ n ∧ n ≤ 2000000000000) : Calls Tryd.prog 65 #[.int .i64 n, .int .i64 d] w fun e w' => e = .returned (.agg #[.int .i64 k, .int .i64 dd]) ∧ Below w.heap.size w w' := fRatio_big n d g dd k w hg hk hdd hd1 (by omega) ⟨by omega, by omega⟩
end Go.Proofs.YtmdeooflgkjbbaaDoor

/- The density of a block: by the program of the fields. -/


namespace Go.Proofs.YtmdeooflgkjbbaaDoor
set_option linter.unusedSimpArgs false
set_option linter.unusedVariables false
open Go.RowKit Go.Shelf
attribute [local go_sem] Oper.semAt_some

set_option maxRecDepth 100000 in
set_option maxHeartbeats 4000000 in
theorem fSize_in (W H : Int) (ao : Option Addr) (n cap : Nat) (ax ay bx yb : Int) (i j : Nat) (w : World) (hi : bx - ax + 1 = (i : Int)) (hj : yb - ay + 1 = (j : Int)) (hi2 : i ≤ 64) (hj2 : j ≤ 64) (hax : 0 ≤ ax ∧ ax ≤ 64) (hay : 0 ≤ ay ∧ ay ≤ 64) :
    Calls Tryd.prog 62 #[.agg #[.int .i64 W, .int .i64 H, .slice ao n cap, .int .i64 ax, .int .i64 ay, .int .i64 bx, .int .i64 yb]] w fun e w' => e = .returned (.int .i64 (((i * j : Nat) : Int))) ∧ Below w.heap.size w w' := by
  have hm : i * j ≤ 64 * 64 := Nat.mul_le_mul hi2 hj2
  obtain ⟨m, hm2⟩ : ∃ m, m = i * j := ⟨_, rfl⟩
  rw [← hm2] at hm ⊢
  have e0 : IntKind.i64.wrap (bx - ax) = bx - ax := IntWalk.i64_in _ ⟨by omega, by omega⟩
  have e1 : IntKind.i64.wrap (bx - ax + 1) = (i : Int) := by rw [hi]; exact IntWalk.i64_in _ ⟨by omega, by omega⟩
  have e2 : IntKind.i64.wrap (yb - ay) = yb - ay := IntWalk.i64_in _ ⟨by omega, by omega⟩
  have e3 : IntKind.i64.wrap (yb - ay + 1) = (j : Int) := by rw [hj]; exact IntWalk.i64_in _ ⟨by omega, by omega⟩
  have e4 : (i : Int) * (j : Int) = (m : Int) := by rw [hm2]; push_cast; rfl
  have e5 : IntKind.i64.wrap (m : Int) = (m : Int) := IntWalk.i64_in _ ⟨by omega, by omega⟩
  clear hm hm2 hi hj hi2 hj2 hax hay
  go_enter Tryd.func62, Tryd.ntmps62
  go_wp2
  refine bodyPost_ret (v := .int .i64 ((m : Int))) (by simp [results, Tryd.results62, go_sem, *]) rfl ⟨rfl, ?_⟩
  (repeat' (first | (with_reducible exact Below.refl _ _) | (with_reducible refine Below.setCell ?_ (by first | omega | (simp; done) | (simp; omega)) _) | (with_reducible refine Below.alloc ?_ (by first | omega | (simp; done) | (simp; omega)) _) | (with_reducible refine Below.drew ?_) | (with_reducible refine below_drewN ?_ _) | (with_reducible refine Below.trans ?_ (Below.mono (by assumption) (by first | omega | (simp; done) | (simp; omega))))))

set_option maxRecDepth 100000 in
set_option maxHeartbeats 16000000 in
theorem fDens_in (W H : Int) (ao : Option Addr) (n cap : Nat) (G : Nat → Nat → Int) (ax ay bx yb s k : Int) (m dd : Nat) (w : World) (hv : VG W H n G) (hG : CellsIn w ao n G) (h : BlkOk W H ax ay bx yb)
    (C1 : ∀ wx, Below w.heap.size w wx → Calls Tryd.prog 66 #[.agg #[.int .i64 W, .int .i64 H, .slice ao n cap, .int .i64 ax, .int .i64 ay, .int .i64 bx, .int .i64 yb], .func (.func 67) #[] #[]] wx fun e w' => e = .returned (.int .i64 s) ∧ Below wx.heap.size wx w')
    (C2 : ∀ wx, Below w.heap.size w wx → Calls Tryd.prog 62 #[.agg #[.int .i64 W, .int .i64 H, .slice ao n cap, .int .i64 ax, .int .i64 ay, .int .i64 bx, .int .i64 yb]] wx fun e w' => e = .returned (.int .i64 ((m : Int))) ∧ Below wx.heap.size wx w')
    (C3 : ∀ wx, Below w.heap.size w wx → Calls Tryd.prog 65 #[.int .i64 s, .int .i64 ((m : Int))] wx fun e w' => e = .returned (.agg #[.int .i64 k, .int .i64 dd]) ∧ Below wx.heap.size wx w') :
    Calls Tryd.prog 13 #[.agg #[.int .i64 W, .int .i64 H, .slice (ao) n cap], .agg #[.int .i64 ax, .int .i64 ay], .agg #[.int .i64 bx, .int .i64 yb]] w fun e w' => e = .returned (.tuple #[.agg #[.int .i64 k, .int .i64 dd], .int .i64 0]) ∧ Below w.heap.size w w' := by
  have HNB := Lib.hid (fun wx (hb : Below w.heap.size w wx) => newBlock_ok W H ao n cap G ax ay bx yb wx hv (hG.below hb) h)
  have C1 := Lib.hid C1
  have C2 := Lib.hid C2
  have C3 := Lib.hid C3
  clear hv hG h
  go_enter Tryd.func13, Tryd.ntmps13
  go_wp2_with (go_at_call 61; (with_reducible refine (HNB.out _ (by (repeat' (first | (with_reducible exact Below.refl _ _) | (with_reducible refine Below.setCell ?_ (by first | omega | (simp; done) | (simp; omega)) _) | (with_reducible refine Below.alloc ?_ (by first | omega | (simp; done) | (simp; omega)) _) | (with_reducible refine Below.drew ?_) | (with_reducible refine below_drewN ?_ _) | (with_reducible refine Below.trans ?_ (Below.mono (by assumption) (by first | omega | (simp; done) | (simp; omega)))))))).mono ?_); rintro e w1 ⟨rfl, hb⟩; obtain ⟨hc, hf, hz⟩ := bcall hb; (try simp at hc hf hz))
  have v8 := Sev.new w1 (.int .i64 W) (.int .i64 H) (.slice ao n cap) (.int .i64 ax) (.int .i64 ay) (.int .i64 bx) (.int .i64 yb)
  have v6 := Two.new (((w.alloc (.cells #[.int .i64 W, .int .i64 H, .slice ao n cap] 24)).alloc (.cells #[.int .i64 ax, .int .i64 ay] 26)).alloc (.cells #[.int .i64 bx, .int .i64 yb] 26)) 33 (.int .i64 0) (.int .i64 0)
  have v6 := (v6.below hb v6.lt).alloc (.cells #[.int .i64 W, .int .i64 H, .slice ao n cap, .int .i64 ax, .int .i64 ay, .int .i64 bx, .int .i64 yb] 86)
  simp only [World.size_alloc] at v6
  have b8 : Below w.heap.size w (w1.alloc (.cells #[.int .i64 W, .int .i64 H, .slice ao n cap, .int .i64 ax, .int .i64 ay, .int .i64 bx, .int .i64 yb] 86)) := by (repeat' (first | (with_reducible exact Below.refl _ _) | (with_reducible refine Below.setCell ?_ (by first | omega | (simp; done) | (simp; omega)) _) | (with_reducible refine Below.alloc ?_ (by first | omega | (simp; done) | (simp; omega)) _) | (with_reducible refine Below.drew ?_) | (with_reducible refine below_drewN ?_ _) | (with_reducible refine Below.trans ?_ (Below.mono (by assumption) (by first | omega | (simp; done) | (simp; omega))))))
  have hz8 : w1.heap.size < (w1.alloc (.cells #[.int .i64 W, .int .i64 H, .slice ao n cap, .int .i64 ax, .int .i64 ay, .int .i64 bx, .int .i64 yb] 86)).heap.size := by simp
  obtain ⟨wq, hwq⟩ : ∃ wq, wq = w1.alloc (.cells #[.int .i64 W, .int .i64 H, .slice ao n cap, .int .i64 ax, .int .i64 ay, .int .i64 bx, .int .i64 yb] 86) := ⟨_, rfl⟩
  rw [← hwq] at v8 v6 b8 hz8 ⊢
  obtain ⟨P, hP⟩ : ∃ P, P = w1.heap.size := ⟨_, rfl⟩
  rw [← hP] at v8 hz8 ⊢
  have hne : ¬ (P = w.heap.size + 1 + 1 + 1) := by omega
  have hne2 : ¬ (w.heap.size + 1 + 1 + 1 = P) := by omega
  have hle : w.heap.size ≤ P := by omega
  clear hwq hc hf hb hz hP
  have m0 := v8.at 0 _ rfl
  have m1 := v8.at 1 _ rfl
  have m2 := v8.at 2 _ rfl
  have m3 := v8.at 3 _ rfl
  have m4 := v8.at 4 _ rfl
  have m5 := v8.at 5 _ rfl
  have m6 := v8.at 6 _ rfl
  have k0 := v6.c0
  have k1 := v6.c1
  have f0 := v6.f0 0
  have f1 := v6.f0 1
  have l6 := v6.lt
  go_region_held3 (fun w' => w'.cell? ⟨P, 0, none⟩ = some (.int .i64 W) ∧ w'.cell? ⟨P, 1, none⟩ = some (.int .i64 H) ∧ w'.cell? ⟨P, 2, none⟩ = some (.slice ao n cap) ∧ w'.cell? ⟨P, 3, none⟩ = some (.int .i64 ax) ∧ w'.cell? ⟨P, 4, none⟩ = some (.int .i64 ay) ∧ w'.cell? ⟨P, 5, none⟩ = some (.int .i64 bx) ∧ w'.cell? ⟨P, 6, none⟩ = some (.int .i64 yb)) (first | (go_split_ands; (try dsimp only); refine ⟨?_, ?_, ?_, ?_, ?_, ?_, ?_⟩ <;> (first | (with_reducible assumption) | (with_reducible exact keep_cell (by assumption) (by first | omega | (simp; done) | (simp; omega)) (by assumption)) | (with_reducible exact (World.cell?_alloc_past _ _ _ (by show _ < _; omega)).trans (by assumption)) | (with_reducible exact (World.cell?_alloc_past _ _ _ (by show _ < _; omega)).trans ((World.cell?_alloc_past _ _ _ (by show _ < _; omega)).symm.trans (by assumption))) | (simp [go_sem]; with_reducible assumption))) | (simp [go_sem, ↓IntWalk.iteOmega, *]; done)) ((first | ((go_at_call 66; (with_reducible refine (C1.out _ (by (repeat' (first | (with_reducible exact Below.refl _ _) | (with_reducible refine Below.setCell ?_ (by first | omega | (simp; done) | (simp; omega)) _) | (with_reducible refine Below.alloc ?_ (by first | omega | (simp; done) | (simp; omega)) _) | (with_reducible refine Below.drew ?_) | (with_reducible refine below_drewN ?_ _) | (with_reducible refine Below.trans ?_ (Below.mono (by assumption) (by first | omega | (simp; done) | (simp; omega)))))))).mono ?_); rintro e w1 ⟨rfl, hb⟩; obtain ⟨hc, hf, hz⟩ := bcall hb; (try simp at hc hf hz)); have hl6 : w.heap.size + 1 + 1 + 1 < w1.heap.size := by omega) | ((go_at_call 62; (with_reducible refine (C2.out _ (by (repeat' (first | (with_reducible exact Below.refl _ _) | (with_reducible refine Below.setCell ?_ (by first | omega | (simp; done) | (simp; omega)) _) | (with_reducible refine Below.alloc ?_ (by first | omega | (simp; done) | (simp; omega)) _) | (with_reducible refine Below.drew ?_) | (with_reducible refine below_drewN ?_ _) | (with_reducible refine Below.trans ?_ (Below.mono (by assumption) (by first | omega | (simp; done) | (simp; omega)))))))).mono ?_); rintro e w1 ⟨rfl, hb⟩; obtain ⟨hc, hf, hz⟩ := bcall hb; (try simp at hc hf hz)); have hl6 : w.heap.size + 1 + 1 + 1 < w1.heap.size := by omega) | ((go_at_call 65; (with_reducible refine (C3.out _ (by (repeat' (first | (with_reducible exact Below.refl _ _) | (with_reducible refine Below.setCell ?_ (by first | omega | (simp; done) | (simp; omega)) _) | (with_reducible refine Below.alloc ?_ (by first | omega | (simp; done) | (simp; omega)) _) | (with_reducible refine Below.drew ?_) | (with_reducible refine below_drewN ?_ _) | (with_reducible refine Below.trans ?_ (Below.mono (by assumption) (by first | omega | (simp; done) | (simp; omega)))))))).mono ?_); rintro e w1 ⟨rfl, hb⟩; obtain ⟨hc, hf, hz⟩ := bcall hb; (try simp at hc hf hz)); have hl6 : w.heap.size + 1 + 1 + 1 < w1.heap.size := by omega)))
  all_goals
    go_wp2
    refine bodyPost_ret (v := .tuple #[.agg #[.int .i64 k, .int .i64 dd], .int .i64 0]) (by simp [results, Tryd.results13, go_sem, ↓IntWalk.iteOmega, *]) rfl ⟨rfl, ?_⟩
    (repeat' (first | (with_reducible exact Below.refl _ _) | (with_reducible refine Below.setCell ?_ (by first | omega | (simp; done) | (simp; omega)) _) | (with_reducible refine Below.alloc ?_ (by first | omega | (simp; done) | (simp; omega)) _) | (with_reducible refine Below.drew ?_) | (with_reducible refine below_drewN ?_ _) | (with_reducible refine Below.trans ?_ (Below.mono (by assumption) (by first | omega | (simp; done) | (simp; omega))))))
end Go.Proofs.YtmdeooflgkjbbaaDoor

/- Density of any block, and of the whole grid; the mass of the whole: by the program of the fields. -/


namespace Go.Proofs.YtmdeooflgkjbbaaDoor
set_option linter.unusedSimpArgs false
set_option linter.unusedVariables false
open Go.RowKit Go.Shelf

/-- A fraction in lowest terms. -/
def gcN (s : Int) (m : Nat) : Nat := Nat.gcd m s.natAbs
def ltN (s : Int) (m : Nat) : Int := s / (gcN s m : Int)
def ltD (s : Int) (m : Nat) : Nat := m / gcN s m
theorem lt_parts (s : Int) (m : Nat) : s = (gcN s m : Int) * ltN s m ∧ m = gcN s m * ltD s m := by
  refine ⟨?_, ?_⟩
  · have h : ((gcN s m : Nat) : Int) ∣ s := Int.ofNat_dvd_left.2 (Nat.gcd_dvd_right _ _)
    exact (Int.mul_ediv_cancel' h).symm
  · exact (Nat.mul_div_cancel' (Nat.gcd_dvd_left _ _)).symm

/-- The sum over the whole grid. -/
theorem sm_app (f : Nat → Int) (i j : Nat) : sm (i + j) f = sm i f + sm j (fun x => f (i + x)) := by
  induction j with
  | zero => simp [sm]
  | succ j ih =>
    rw [← Nat.add_assoc]
    simp only [sm]
    rw [ih]
    omega
theorem sumT_rows (tv : Nat → Int) (W k : Nat) : sumT tv (recN W 0 W 0 k) = sm (W * k) tv := by
  induction k with
  | zero => simp [recN, sumT, sm]
  | succ k ih =>
    simp only [recN]
    rw [sumT_append, ih, Nat.mul_add, Nat.mul_one, sm_app, Nat.zero_add, sumT_row]
    congr 1
    refine sm_congr _ _ _ fun x _ => ?_
    rw [Nat.add_comm]
theorem wt_ms (G : Nat → Nat → Int) (n : Nat) : sm n (msC G) = wt G n := by
  induction n with
  | zero => rfl
  | succ k ih => simp only [sm, wt, msC] at ih ⊢; rw [← ih]
theorem blS_all {W H n : Nat} (s : Sides W H n) (G : Nat → Nat → Int) : blS (msC G) W 0 0 (W - 1) (H - 1) = wt G n := by
  have h1 := s.w0
  have h2 := s.h0
  unfold blS
  rw [show W - 1 + 1 - 0 = W by omega, show H - 1 + 1 - 0 = H by omega, sumT_rows, ← s.n0, wt_ms]

section
variable (W H n cap b off : Nat) (G : Nat → Nat → Int) (ax ay bx yb : Nat) (w : World) (s : Sides W H n) (hO : OkG n G) (lb : b < w.heap.size) (hG : Grd w b off n G) (h1 : ax ≤ bx) (h2 : bx < W) (h3 : ay ≤ yb) (h4 : yb < H)
include s hO lb hG h1 h2 h3 h4
theorem fdens_bl : Calls Tryd.prog 13 #[.agg #[.int .i64 W, .int .i64 H, .slice (some ⟨b, off, none⟩) n cap], .agg #[.int .i64 ((ax : Int)), .int .i64 ((ay : Int))], .agg #[.int .i64 ((bx : Int)), .int .i64 ((yb : Int))]] w fun e w' => e = .returned (.tuple #[.agg #[.int .i64 (ltN (blS (msC G) W ax ay bx yb) ((bx + 1 - ax) * (yb + 1 - ay))), .int .i64 (((ltD (blS (msC G) W ax ay bx yb) ((bx + 1 - ax) * (yb + 1 - ay)) : Nat) : Int))], .int .i64 0]) ∧ Below w.heap.size w w' := by
  obtain ⟨p1, p2⟩ := lt_parts (blS (msC G) W ax ay bx yb) ((bx + 1 - ax) * (yb + 1 - ay))
  have hm : (bx + 1 - ax) * (yb + 1 - ay) ≤ W * H := Nat.mul_le_mul (by omega) (by omega)
  have hm1 : 1 * 1 ≤ (bx + 1 - ax) * (yb + 1 - ay) := Nat.mul_le_mul (by omega) (by omega)
  have hn := s.n0
  have hn1 := s.n1
  have hW := s.w1
  have hH := s.h1
  have hbd := (tells_bd hO).1
  exact fDens_in W H (some ⟨b, off, none⟩) n cap G ax ay bx yb (blS (msC G) W ax ay bx yb) _ ((bx + 1 - ax) * (yb + 1 - ay)) _ w (vg_of s hO) (.inr ⟨b, off, rfl, lb, hG⟩)
    ⟨⟨⟨⟨by omega, by omega⟩, by omega, by omega⟩, ⟨by omega, by omega⟩, by omega, by omega⟩, by omega, by omega⟩
    (fun wx hb => fsum_bl W H n cap b off G ax ay bx yb w s lb hG h1 h2 h3 h4 67 (msC G) (fun wy _ => tells_mass wy n G hO) hbd wx hb)
    (fun wx hb => fSize_in W H (some ⟨b, off, none⟩) n cap ax ay bx yb (bx + 1 - ax) (yb + 1 - ay) wx (by omega) (by omega) (by omega) (by omega) ⟨by omega, by omega⟩ ⟨by omega, by omega⟩)
    (fun wx hb => fRatio_in (blS (msC G) W ax ay bx yb) ((bx + 1 - ax) * (yb + 1 - ay)) (gcN (blS (msC G) W ax ay bx yb) ((bx + 1 - ax) * (yb + 1 - ay))) (ltD (blS (msC G) W ax ay bx yb) ((bx + 1 - ax) * (yb + 1 - ay))) (ltN (blS (msC G) W ax ay bx yb) ((bx + 1 - ax) * (yb + 1 - ay))) wx rfl p1 p2 (by omega) (by omega) (blS_bd hbd hn hn1 hW hH h1 h2 h3 h4))
end
theorem fdens_all (W H n cap b off : Nat) (G : Nat → Nat → Int) (w : World) (s : Sides W H n) (hO : OkG n G) (lb : b < w.heap.size) (hG : Grd w b off n G) :
    Calls Tryd.prog 13 #[.agg #[.int .i64 W, .int .i64 H, .slice (some ⟨b, off, none⟩) n cap], .agg #[.int .i64 0, .int .i64 0], .agg #[.int .i64 ((W : Int) - 1), .int .i64 ((H : Int) - 1)]] w fun e w' => e = .returned (.tuple #[.agg #[.int .i64 (ltN (wt G n) n), .int .i64 (((ltD (wt G n) n : Nat) : Int))], .int .i64 0]) ∧ Below w.heap.size w w' := by
  have h1 := s.w0
  have h2 := s.h0
  have := fdens_bl W H n cap b off G 0 0 (W - 1) (H - 1) w s hO lb hG (by omega) (by omega) (by omega) (by omega)
  rw [blS_all s, show W - 1 + 1 - 0 = W by omega, show H - 1 + 1 - 0 = H by omega, ← s.n0, show ((W - 1 : Nat) : Int) = (W : Int) - 1 by omega, show ((H - 1 : Nat) : Int) = (H : Int) - 1 by omega] at this
  exact this
end Go.Proofs.YtmdeooflgkjbbaaDoor
