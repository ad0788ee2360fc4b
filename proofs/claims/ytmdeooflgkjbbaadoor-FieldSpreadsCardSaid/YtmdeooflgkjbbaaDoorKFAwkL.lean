/- The chapter's examples, as the program of the fields gives them: a path, a picture, a circulation. -/
import Derived.Test.YtmdeooflgkjbbaaDoorKFPthP
import Derived.Test.YtmdeooflgkjbbaaDoorKFPic
import Derived.Test.YtmdeooflgkjbbaaDoorKFJoin
import Derived.BigQuiet
namespace Go.Proofs.YtmdeooflgkjbbaaDoor
set_option linter.unusedSimpArgs false
set_option linter.unusedVariables false
open Go.RowKit Go.Shelf
attribute [local go_sem] Oper.semAt_some

set_option maxRecDepth 100000 in
set_option maxHeartbeats 4000000 in
theorem samePts_yes (ga gb n ca cb : Nat) (P Q : Nat → Int) (w : World) (hn : n ≤ 1000) (la : ga < w.heap.size) (lb : gb < w.heap.size)
    (hA : ∀ i, i < n → w.cell? ⟨ga, i * 2, none⟩ = some (.int .i64 (P i)) ∧ w.cell? ⟨ga, i * 2 + 1, none⟩ = some (.int .i64 (Q i)))
    (hB : ∀ i, i < n → w.cell? ⟨gb, i * 2, none⟩ = some (.int .i64 (P i)) ∧ w.cell? ⟨gb, i * 2 + 1, none⟩ = some (.int .i64 (Q i))) :
    Calls Tryd.prog 60 #[.slice (some ⟨ga, 0, none⟩) n ca, .slice (some ⟨gb, 0, none⟩) n cb] w fun e w' => e = .returned (.bool true) ∧ Below w.heap.size w w' := by
  have HA := Lib.hid hA
  have HB := Lib.hid hB
  clear hA hB
  go_enter Tryd.func60, Tryd.ntmps60
  go_wp2
  go_loopw [5] (fun i wr => ∃ k : Nat, k ≤ n ∧ i = .int .i64 k ∧ Below w.heap.size w wr) (fun i _ => n - (Go.RowKit.intOf i).toNat)
  case atStart => exact ⟨0, Nat.zero_le _, rfl, Below.refl _ _⟩
  case round =>
    obtain ⟨k, hk, rfl, hB⟩ := hrel
    by_cases hlk : k < n
    · have a0 := (hB.cell (p := ⟨ga, k * 2, none⟩) la).trans (HA.out k hlk).1
      have a1 := (hB.cell (p := ⟨ga, k * 2 + 1, none⟩) la).trans (HA.out k hlk).2
      have b0 := (hB.cell (p := ⟨gb, k * 2, none⟩) lb).trans (HB.out k hlk).1
      have b1 := (hB.cell (p := ⟨gb, k * 2 + 1, none⟩) lb).trans (HB.out k hlk).2
      have p0 : (0 : Int) ≤ (k : Int) := by omega
      have p1 : (k : Int) < (n : Int) := by omega
      go_wp2
      go_quiet (fail)
      go_wp2
      go_roundw
      case rel => exact ⟨k + 1, by omega, by go_num, below_drewN hB _⟩
      case measure => simp [Go.RowKit.intOf]; omega
    · obtain rfl : n = k := by omega
      go_wp2
      go_ret
      exact ⟨rfl, hB⟩

/-- The examples' grid. -/
def G9 : Nat → Nat → Int := fun q d => if q = 0 ∧ d = 0 then 1 else if q = 1 ∧ d = 1 then 1 else 0
theorem g9_ok : OkG 4 G9 := okG_of (by decide +kernel) (by decide +kernel)
theorem g9_sides : Sides 2 2 4 := ⟨by omega, by omega, by omega, by omega, by omega, by omega⟩
theorem g9_chn : Chn 2 2 4 G9 [0, 1, 3] := by
  refine ⟨?_, ?_, ?_⟩
  · intro j i h
    match j, h with
    | 0, h => simp at h; omega
    | 1, h => simp at h; omega
    | 2, h => simp at h; omega
    | j + 3, h => simp at h
  · intro j i k h h'
    match j, h, h' with
    | 0, h, h' =>
      simp at h h'
      subst h h'
      exact ⟨by unfold Emp; decide +kernel, 0, by omega, by decide +kernel, by decide +kernel⟩
    | 1, h, h' =>
      simp at h h'
      subst h h'
      exact ⟨by unfold Emp; decide +kernel, 1, by omega, by decide +kernel, by decide +kernel⟩
    | 2, h, h' => simp at h'
    | j + 3, h, h' => simp at h
  · intro j i h h'
    match j, h, h' with
    | 0, h, h' => simp at h'
    | 1, h, h' => simp at h'
    | 2, h, h' =>
      simp at h
      subst h
      unfold Emp
      decide +kernel
    | j + 3, h, h' => simp at h
theorem g9_ps : ∀ (j i : Nat), ([0, 1, 3] : List Nat)[j]? = some i → (fun q : Nat => if q = 0 then 0 else if q = 1 then 1 else 2) i = j := by
  intro j i h
  match j, h with
  | 0, h => simp at h; subst h; rfl
  | 1, h => simp at h; subst h; rfl
  | 2, h => simp at h; subst h; rfl
  | j + 3, h => simp at h
theorem g9_cir : cirS G9 2 0 0 1 1 = 2 := by decide +kernel
theorem g9_txt : txU G9 2 (dnL 2 2) = [46, 46, 10, 62, 94, 10] := by decide +kernel
theorem g9_pts : ptV 2 [0, 1, 3] = [.int .i64 0, .int .i64 0, .int .i64 1, .int .i64 0, .int .i64 1, .int .i64 1] := by rfl
end Go.Proofs.YtmdeooflgkjbbaaDoor

/- The awake of the laws of the fields. -/

namespace Go.Proofs.YtmdeooflgkjbbaaDoor
set_option linter.unusedSimpArgs false
set_option linter.unusedVariables false
open Go.RowKit Go.Shelf
attribute [local go_sem] Oper.semAt_some

set_option maxRecDepth 100000 in
set_option maxHeartbeats 16000000 in
theorem awake08_any (w : World) (hM : Mvs w) : Calls Tryd.prog 9 #[] w fun e w' => e = .returned (.bool true) ∧ Below w.heap.size w w' := by
  have HM := Lib.hid hM
  clear hM
  go_enter Tryd.func9, Tryd.ntmps9
  go_wp2_with fail
  obtain ⟨w2, hw2⟩ : ∃ w2, w2 = (w.alloc (.cells #[.int .i64 1, .int .i64 0, .int .i64 0, .int .i64 0, .int .i64 0, .int .i64 1, .int .i64 0, .int .i64 0, .int .i64 0, .int .i64 0, .int .i64 0, .int .i64 0, .int .i64 0, .int .i64 0, .int .i64 0, .int .i64 0] 62)).alloc (.cells #[.int .i64 2, .int .i64 2, .slice (some ⟨w.heap.size, 0, none⟩) 4 4] 24) := ⟨_, rfl⟩
  have hg : Grd w2 w.heap.size 0 4 G9 := by
    have key : ∀ j v, (#[.int .i64 1, .int .i64 0, .int .i64 0, .int .i64 0, .int .i64 0, .int .i64 1, .int .i64 0, .int .i64 0, .int .i64 0, .int .i64 0, .int .i64 0, .int .i64 0, .int .i64 0, .int .i64 0, .int .i64 0, .int .i64 0] : Array Value)[j]? = some v → w2.cell? ⟨w.heap.size, j, none⟩ = some v := fun j v hv => by
      rw [hw2]
      exact (World.cell?_alloc_past _ _ _ (by simp)).trans ((World.cell?_alloc_at _ _ _ _ (by simp)).trans hv)
    intro i hi
    match i, hi with
    | 0, _ => exact ⟨key 0 _ rfl, key 1 _ rfl, key 2 _ rfl, key 3 _ rfl⟩
    | 1, _ => exact ⟨key 4 _ rfl, key 5 _ rfl, key 6 _ rfl, key 7 _ rfl⟩
    | 2, _ => exact ⟨key 8 _ rfl, key 9 _ rfl, key 10 _ rfl, key 11 _ rfl⟩
    | 3, _ => exact ⟨key 12 _ rfl, key 13 _ rfl, key 14 _ rfl, key 15 _ rfl⟩
  have t3 : Three w2 (w.heap.size + 1) 24 (.int .i64 2) (.int .i64 2) (.slice (some ⟨w.heap.size, 0, none⟩) 4 4) := by
    rw [hw2]
    have := Three.new0 (w.alloc (.cells #[.int .i64 1, .int .i64 0, .int .i64 0, .int .i64 0, .int .i64 0, .int .i64 1, .int .i64 0, .int .i64 0, .int .i64 0, .int .i64 0, .int .i64 0, .int .i64 0, .int .i64 0, .int .i64 0, .int .i64 0, .int .i64 0] 62)) 24 (.int .i64 2) (.int .i64 2) (.slice (some ⟨w.heap.size, 0, none⟩) 4 4)
    rwa [World.size_alloc] at this
  have hb2 : Below w.heap.size w w2 := by rw [hw2]; (repeat' (first | (with_reducible exact Below.refl _ _) | (with_reducible refine Below.setCell ?_ (by first | omega | (simp; done) | (simp; omega)) _) | (with_reducible refine Below.alloc ?_ (by first | omega | (simp; done) | (simp; omega)) _) | (with_reducible refine Below.drew ?_) | (with_reducible refine below_drewN ?_ _) | (with_reducible refine Below.trans ?_ (Below.mono (by assumption) (by first | omega | (simp; done) | (simp; omega))))))
  have s2 : w2.heap.size = w.heap.size + 2 := by rw [hw2]; simp
  rw [← hw2]
  clear hw2
  have HG := Lib.hid hg
  have lb : w.heap.size < w2.heap.size := by omega
  have CC := Lib.hid (fun wx (hx : Below w2.heap.size w2 wx) => (show Calls Tryd.prog 58 #[.agg #[.int .i64 2, .int .i64 2, .slice (some ⟨w.heap.size, 0, none⟩) 4 4], .agg #[.int .i64 0, .int .i64 0], .agg #[.int .i64 1, .int .i64 1]] wx fun e w' => e = .returned (.tuple #[.int .i64 2, .int .i64 0]) ∧ Below wx.heap.size wx w' from by
    have := fCirc_ok 2 2 4 4 w.heap.size 0 G9 0 0 1 1 wx g9_sides g9_ok (Nat.lt_of_lt_of_le lb hx.size) (HG.out.below hx lb) (by omega) (by omega) (by omega) (by omega)
    rw [g9_cir] at this
    exact this))
  have PP := Lib.hid (fun wx (hx : Below w2.heap.size w2 wx) => (show Calls Tryd.prog 59 #[.agg #[.int .i64 2, .int .i64 2, .slice (some ⟨w.heap.size, 0, none⟩) 4 4], .agg #[.int .i64 0, .int .i64 0]] wx fun e w' => ∃ v, e = .returned (.tuple #[v, .bool false, .int .i64 0]) ∧ w'.ownsRow wx.heap.size 26 2 v 3 [.int .i64 0, .int .i64 0, .int .i64 1, .int .i64 0, .int .i64 1, .int .i64 1] ∧ Below wx.heap.size wx w' from by
    have := callsIn_wide.1 (path_in 2 2 4 4 w.heap.size 0 0 0 G9 [0, 1, 3] wx g9_sides g9_ok (Nat.lt_of_lt_of_le lb hx.size) (HG.out.below hx lb) (HM.out.below (hb2.trans (hx.mono (by omega)))) (by omega) (by omega) g9_chn _ g9_ps rfl (by simp))
    rw [g9_pts] at this
    exact this))
  have PC := Lib.hid (fun wx (hx : Below w2.heap.size w2 wx) => (show Calls Tryd.prog 37 #[.agg #[.int .i64 2, .int .i64 2, .slice (some ⟨w.heap.size, 0, none⟩) 4 4]] wx fun e w' => e = .returned (.string ⟨#[46, 46, 10, 62, 94, 10]⟩) ∧ Below wx.heap.size wx w' from by
    have := callsIn_wide.1 (picture_in 2 2 4 4 w.heap.size 0 G9 wx g9_sides g9_ok (Nat.lt_of_lt_of_le lb hx.size) (HG.out.below hx lb) (HM.out.below (hb2.trans (hx.mono (by omega)))))
    rw [g9_txt] at this
    exact this))
  have q0 := t3.c0
  have q1 := t3.c1
  have q2 := t3.c2
  have T3 := Lib.hid t3
  have l3 := t3.lt
  clear hg t3
  (go_at_call 58; (refine (CC.out _ (Below.refl _ _)).mono ?_); rintro e w3 ⟨rfl, hb3⟩)
  have t3 := T3.out.below hb3 l3
  have q0 := t3.c0
  have q1 := t3.c1
  have q2 := t3.c2
  clear t3
  go_wp2_with fail
  (go_at_call 59; (refine (PP.out _ hb3).mono ?_); rintro e w4 ⟨v, rfl, hr, hb4⟩)
  have hb24 : Below w2.heap.size w2 w4 := hb3.trans (hb4.mono hb3.size)
  obtain ⟨g, gc, rfl, lg, hc⟩ : ∃ g gc, v = .slice (some ⟨g, 0, none⟩) 3 gc ∧ g < w4.heap.size ∧ ∀ j u, ([.int .i64 0, .int .i64 0, .int .i64 1, .int .i64 0, .int .i64 1, .int .i64 1] : List Value)[j]? = some u → w4.cell? ⟨g, j, none⟩ = some u := by
    have h' := hr
    rcases hr.2 with ⟨_, h0⟩ | ⟨g, c, cur, rfl, hg, hh, _⟩
    · omega
    · exact ⟨g, c, rfl, (Array.getElem?_eq_some_iff.1 hh).1, fun j u hu => by
        have hj : j < 6 := (List.getElem?_eq_some_iff.1 hu).1
        rw [h'.cellAt j (by omega)]
        exact hu⟩
  have t3 := T3.out.below hb24 l3
  have q0 := t3.c0
  have q1 := t3.c1
  have q2 := t3.c2
  have l34 := t3.lt
  have HC := Lib.hid hc
  clear t3 hr hc
  go_wp2_with fail
  have hw5 : ∀ j u, ([.int .i64 0, .int .i64 0, .int .i64 1, .int .i64 0, .int .i64 1, .int .i64 1] : List Value)[j]? = some u → (w4.alloc (.cells #[.int .i64 0, .int .i64 0, .int .i64 1, .int .i64 0, .int .i64 1, .int .i64 1] 26)).cell? ⟨w4.heap.size, j, none⟩ = some u := fun j u hu => (World.cell?_alloc_at _ _ _ _ (by simp)).trans (by simpa using hu)
  have hg5 : ∀ j u, ([.int .i64 0, .int .i64 0, .int .i64 1, .int .i64 0, .int .i64 1, .int .i64 1] : List Value)[j]? = some u → (w4.alloc (.cells #[.int .i64 0, .int .i64 0, .int .i64 1, .int .i64 0, .int .i64 1, .int .i64 1] 26)).cell? ⟨g, j, none⟩ = some u := fun j u hu => (World.cell?_alloc_past _ _ _ lg).trans (HC.out j u hu)
  have SP := Lib.hid (samePts_yes g w4.heap.size 3 gc 3 (fun i => if i = 0 then 0 else 1) (fun i => if i = 2 then 1 else 0) (w4.alloc (.cells #[.int .i64 0, .int .i64 0, .int .i64 1, .int .i64 0, .int .i64 1, .int .i64 1] 26)) (by omega) (by simp; omega) (by simp)
    (fun i hi => by
      match i, hi with
      | 0, _ => exact ⟨hg5 0 _ rfl, hg5 1 _ rfl⟩
      | 1, _ => exact ⟨hg5 2 _ rfl, hg5 3 _ rfl⟩
      | 2, _ => exact ⟨hg5 4 _ rfl, hg5 5 _ rfl⟩)
    (fun i hi => by
      match i, hi with
      | 0, _ => exact ⟨hw5 0 _ rfl, hw5 1 _ rfl⟩
      | 1, _ => exact ⟨hw5 2 _ rfl, hw5 3 _ rfl⟩
      | 2, _ => exact ⟨hw5 4 _ rfl, hw5 5 _ rfl⟩))
  clear hw5 hg5
  (go_at_call 60; (refine SP.out.mono ?_); rintro e w6 ⟨rfl, hb6⟩)
  have hb46 : Below w2.heap.size w2 w6 := hb24.trans ((((Below.refl w4.heap.size w4).alloc (Nat.le_refl _) _).trans (hb6.mono (by simp))).mono hb24.size)
  have t3 := T3.out.below hb46 l3
  have q0 := t3.c0
  have q1 := t3.c1
  have q2 := t3.c2
  clear t3
  go_wp2_with fail
  (go_at_call 37; (refine (PC.out _ hb46).mono ?_); rintro e w7 ⟨rfl, hb7⟩)
  have hbe : Below w.heap.size w w7 := hb2.trans ((hb46.trans (hb7.mono hb46.size)).mono (by omega))
  go_wp2
  go_ret
  exact ⟨by simp, hbe⟩
end Go.Proofs.YtmdeooflgkjbbaaDoor

/- What the laws of the fields ask of a grid's size and of a cell. -/


namespace Go.Proofs.YtmdeooflgkjbbaaDoor
set_option linter.unusedSimpArgs false
set_option linter.unusedVariables false
open Go.RowKit Go.Shelf
attribute [local go_sem] Oper.semAt_some

section
variable (W H : Int) (ao : Option Addr) (n cap : Nat) (w : World)
set_option maxRecDepth 100000 in
set_option maxHeartbeats 2000000 in
theorem fbig_small (hn : n ≤ 100) : Calls Tryd.prog 10 #[.agg #[.int .i64 W, .int .i64 H, .slice (ao) n cap]] w fun e w' => e = .returned (.bool false) ∧ Below w.heap.size w w' := by
  have d1 : decide ((100 : Int) < (n : Int)) = false := by simp; omega
  have d2 : decide ((1100 : Int) < (n : Int)) = false := by simp; omega
  have d3 : decide (100 < n) = false := by simp; omega
  have d4 : decide (1100 < n) = false := by simp; omega
  go_enter Tryd.func10, Tryd.ntmps10
  go_wp2
  refine bodyPost_ret (v := .bool false) (by simp [results, Tryd.results10, go_sem, d1, d2, d3, d4]) rfl ⟨rfl, ?_⟩
  (repeat' (first | (with_reducible exact Below.refl _ _) | (with_reducible refine Below.setCell ?_ (by first | omega | (simp; done) | (simp; omega)) _) | (with_reducible refine Below.alloc ?_ (by first | omega | (simp; done) | (simp; omega)) _) | (with_reducible refine Below.drew ?_) | (with_reducible refine below_drewN ?_ _) | (with_reducible refine Below.trans ?_ (Below.mono (by assumption) (by first | omega | (simp; done) | (simp; omega))))))
set_option maxRecDepth 100000 in
set_option maxHeartbeats 2000000 in
theorem fbig_mid (hn : 100 < n) (hn2 : n ≤ 1024) : Calls Tryd.prog 10 #[.agg #[.int .i64 W, .int .i64 H, .slice (ao) n cap]] w fun e w' => e = .returned (.bool true) ∧ Below w.heap.size w w' := by
  have d1 : decide ((100 : Int) < (n : Int)) = true := by simp; omega
  have d2 : decide ((n : Int) ≤ (1024 : Int)) = true := by simp; omega
  have d3 : decide (100 < n) = true := by simp; omega
  have d4 : decide (n ≤ 1024) = true := by simp; omega
  have p1 : (100 : Int) < (n : Int) := by omega
  go_enter Tryd.func10, Tryd.ntmps10
  go_wp2
  refine bodyPost_ret (v := .bool true) (by simp [results, Tryd.results10, go_sem, d1, d2, d3, d4]) rfl ⟨rfl, ?_⟩
  (repeat' (first | (with_reducible exact Below.refl _ _) | (with_reducible refine Below.setCell ?_ (by first | omega | (simp; done) | (simp; omega)) _) | (with_reducible refine Below.alloc ?_ (by first | omega | (simp; done) | (simp; omega)) _) | (with_reducible refine Below.drew ?_) | (with_reducible refine below_drewN ?_ _) | (with_reducible refine Below.trans ?_ (Below.mono (by assumption) (by first | omega | (simp; done) | (simp; omega))))))
set_option maxRecDepth 100000 in
set_option maxHeartbeats 2000000 in
theorem fbig_odd (hn : 1024 < n) (hn2 : n ≤ 1100) : Calls Tryd.prog 10 #[.agg #[.int .i64 W, .int .i64 H, .slice (ao) n cap]] w fun e w' => e = .returned (.bool false) ∧ Below w.heap.size w w' := by
  have d1 : decide ((100 : Int) < (n : Int)) = true := by simp; omega
  have d2 : decide ((n : Int) ≤ (1024 : Int)) = false := by simp; omega
  have d5 : decide ((1100 : Int) < (n : Int)) = false := by simp; omega
  have d3 : decide (100 < n) = true := by simp; omega
  have d4 : decide (n ≤ 1024) = false := by simp; omega
  have d6 : decide (1100 < n) = false := by simp; omega
  have p1 : (100 : Int) < (n : Int) := by omega
  go_enter Tryd.func10, Tryd.ntmps10
  go_wp2
  refine bodyPost_ret (v := .bool false) (by simp [results, Tryd.results10, go_sem, d1, d2, d3, d4, d5, d6]) rfl ⟨rfl, ?_⟩
  (repeat' (first | (with_reducible exact Below.refl _ _) | (with_reducible refine Below.setCell ?_ (by first | omega | (simp; done) | (simp; omega)) _) | (with_reducible refine Below.alloc ?_ (by first | omega | (simp; done) | (simp; omega)) _) | (with_reducible refine Below.drew ?_) | (with_reducible refine below_drewN ?_ _) | (with_reducible refine Below.trans ?_ (Below.mono (by assumption) (by first | omega | (simp; done) | (simp; omega))))))
set_option maxRecDepth 100000 in
set_option maxHeartbeats 2000000 in
theorem fbig_huge (hn : 1100 < n) : Calls Tryd.prog 10 #[.agg #[.int .i64 W, .int .i64 H, .slice (ao) n cap]] w fun e w' => e = .returned (.bool true) ∧ Below w.heap.size w w' := by
  have d1 : decide ((100 : Int) < (n : Int)) = true := by simp; omega
  have d2 : decide ((n : Int) ≤ (1024 : Int)) = false := by simp; omega
  have d5 : decide ((1100 : Int) < (n : Int)) = true := by simp; omega
  have d3 : decide (100 < n) = true := by simp; omega
  have d4 : decide (n ≤ 1024) = false := by simp; omega
  have d6 : decide (1100 < n) = true := by simp; omega
  have p1 : (100 : Int) < (n : Int) := by omega
  go_enter Tryd.func10, Tryd.ntmps10
  go_wp2
  refine bodyPost_ret (v := .bool true) (by simp [results, Tryd.results10, go_sem, d1, d2, d3, d4, d5, d6]) rfl ⟨rfl, ?_⟩
  (repeat' (first | (with_reducible exact Below.refl _ _) | (with_reducible refine Below.setCell ?_ (by first | omega | (simp; done) | (simp; omega)) _) | (with_reducible refine Below.alloc ?_ (by first | omega | (simp; done) | (simp; omega)) _) | (with_reducible refine Below.drew ?_) | (with_reducible refine below_drewN ?_ _) | (with_reducible refine Below.trans ?_ (Below.mono (by assumption) (by first | omega | (simp; done) | (simp; omega))))))
end
theorem cirS_bd {G : Nat → Nat → Int} {N : Nat} (hb : (∀ q, q < N → -1000000000 ≤ msC G q ∧ msC G q ≤ 1000000000) ∧ (∀ q, q < N → -1000000000 ≤ eaC G q ∧ eaC G q ≤ 1000000000) ∧ (∀ q, q < N → -1000000000 ≤ noC G q ∧ noC G q ≤ 1000000000)) {W H : Nat} (s : Sides W H N) (ax ay bx yb : Nat) (h1 : ax ≤ bx) (h2 : bx < W) (h3 : ay ≤ yb) (h4 : yb < H) : -10000000000000 ≤ cirS G W ax ay bx yb ∧ cirS G W ax ay bx yb ≤ 10000000000000 := by
  have e1 := blS_bd hb.2.1 s.n0 s.n1 s.w1 s.h1 h1 h2 (Nat.le_refl ay) (by omega)
  have e2 := blS_bd hb.2.2 s.n0 s.n1 s.w1 s.h1 (Nat.le_refl bx) h2 h3 h4
  have e3 := blS_bd hb.2.1 s.n0 s.n1 s.w1 s.h1 h1 h2 (Nat.le_refl yb) h4
  have e4 := blS_bd hb.2.2 s.n0 s.n1 s.w1 s.h1 (Nat.le_refl ax) (by omega) h3 h4
  unfold cirS
  omega
/-- Whether a law of the fields looks at a grid. -/
theorem fbig_any (W H : Int) (ao : Option Addr) (n cap : Nat) (w : World) : ∃ bb : Bool, (bb = false → n ≤ 100 ∨ 1024 < n) ∧ ∀ wx, Calls Tryd.prog 10 #[.agg #[.int .i64 W, .int .i64 H, .slice (ao) n cap]] wx fun e w' => e = .returned (.bool bb) ∧ Below wx.heap.size wx w' := by
  rcases Nat.lt_or_ge 100 n with h | h
  · rcases Nat.lt_or_ge 1024 n with h2 | h2
    · rcases Nat.lt_or_ge 1100 n with h3 | h3
      · exact ⟨true, (fun h => by cases h), fun wx => fbig_huge W H ao n cap wx h3⟩
      · exact ⟨false, fun _ => .inr h2, fun wx => fbig_odd W H ao n cap wx h2 h3⟩
    · exact ⟨true, (fun h => by cases h), fun wx => fbig_mid W H ao n cap wx h h2⟩
  · exact ⟨false, fun _ => .inl h, fun wx => fbig_small W H ao n cap wx h⟩

section
variable (W H n cap b off x y : Nat) (G : Nat → Nat → Int) (w : World) (s : Sides W H n) (hO : OkG n G) (lb : b < w.heap.size) (hG : Grd w b off n G) (hx : x < W) (hy : y < H)
include s hO lb hG hx hy
end
end Go.Proofs.YtmdeooflgkjbbaaDoor
