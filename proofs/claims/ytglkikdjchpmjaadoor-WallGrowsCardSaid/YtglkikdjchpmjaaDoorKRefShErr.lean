/- A point on a grid: by the reference. -/
import Derived.Test.YtglkikdjchpmjaaDoorKRefG4
import Derived.Test.YtglkikdjchpmjaaDoorKChecks
import Derived.Test.YtglkikdjchpmjaaDoorKShpP
import Derived.BigQuiet
import Derived.Deep.RegionHeld3
namespace Go.Proofs.YtglkikdjchpmjaaDoor
set_option linter.unusedSimpArgs false
set_option linter.unusedVariables false
open Go.RowKit

set_option maxHeartbeats 1000000 in
theorem rOnG_yes (W H px py : Int) (ao : Option Addr) (n cap : Nat) (w : World) (w0 : 1 ≤ W) (w1 : W ≤ 64) (h0 : 1 ≤ H) (h1 : H ≤ 64) (h : OnG W H px py) :
    Calls Tryd.prog 82 #[.agg #[.int .i64 W, .int .i64 H, .slice (ao) n cap], .agg #[.int .i64 px, .int .i64 py]] w fun e w' => e = .returned (.bool true) ∧ Below w.heap.size w w' := by
  obtain ⟨⟨k0, k1⟩, k2, k3⟩ := h
  go_enter Tryd.func82, Tryd.ntmps82
  go_wp2_with (go_at_call 151; (with_reducible refine (within2_yes _ _ _ _ (by omega) (by omega)).mono ?_); rintro e w1 ⟨rfl, rfl⟩)
  go_ret
  refine ⟨by simp, ?_⟩
  (repeat' (first | (with_reducible exact Below.refl _ _) | (with_reducible refine Below.setCell ?_ (by first | omega | (simp; done) | (simp; omega)) _) | (with_reducible refine Below.alloc ?_ (by first | omega | (simp; done) | (simp; omega)) _) | (with_reducible refine Below.drew ?_) | (with_reducible refine below_drewN ?_ _) | (with_reducible refine Below.trans ?_ (Below.mono (by assumption) (by first | omega | (simp; done) | (simp; omega))))))
set_option maxHeartbeats 2000000 in
theorem rOnG_no (W H px py : Int) (ao : Option Addr) (n cap : Nat) (w : World) (w0 : 1 ≤ W) (w1 : W ≤ 64) (h0 : 1 ≤ H) (h1 : H ≤ 64) (h : ¬ OnG W H px py) :
    Calls Tryd.prog 82 #[.agg #[.int .i64 W, .int .i64 H, .slice (ao) n cap], .agg #[.int .i64 px, .int .i64 py]] w fun e w' => e = .returned (.bool false) ∧ Below w.heap.size w w' := by
  unfold OnG at h
  by_cases hx : 0 ≤ px ∧ px < W
  · have hy : py < 0 ∨ H - 1 < py := by omega
    obtain ⟨x0, x1⟩ := hx
    clear h
    go_enter Tryd.func82, Tryd.ntmps82
    go_wp2_with (first | (go_at_call 151; (with_reducible refine (within2_yes px 0 (W - 1) _ (by omega) (by omega)).mono ?_); rintro e w1 ⟨rfl, rfl⟩) | (go_at_call 151; (with_reducible refine (within2_no py 0 (H - 1) _ hy).mono ?_); rintro e w1 ⟨rfl, rfl⟩))
    go_ret
    refine ⟨by simp, ?_⟩
    (repeat' (first | (with_reducible exact Below.refl _ _) | (with_reducible refine Below.setCell ?_ (by first | omega | (simp; done) | (simp; omega)) _) | (with_reducible refine Below.alloc ?_ (by first | omega | (simp; done) | (simp; omega)) _) | (with_reducible refine Below.drew ?_) | (with_reducible refine below_drewN ?_ _) | (with_reducible refine Below.trans ?_ (Below.mono (by assumption) (by first | omega | (simp; done) | (simp; omega))))))
  · have hy : px < 0 ∨ W - 1 < px := by omega
    clear h hx
    go_enter Tryd.func82, Tryd.ntmps82
    go_wp2_with (go_at_call 151; (with_reducible refine (within2_no px 0 (W - 1) _ hy).mono ?_); rintro e w1 ⟨rfl, rfl⟩)
    go_ret
    refine ⟨by simp, ?_⟩
    (repeat' (first | (with_reducible exact Below.refl _ _) | (with_reducible refine Below.setCell ?_ (by first | omega | (simp; done) | (simp; omega)) _) | (with_reducible refine Below.alloc ?_ (by first | omega | (simp; done) | (simp; omega)) _) | (with_reducible refine Below.drew ?_) | (with_reducible refine below_drewN ?_ _) | (with_reducible refine Below.trans ?_ (Below.mono (by assumption) (by first | omega | (simp; done) | (simp; omega))))))
end Go.Proofs.YtglkikdjchpmjaaDoor

/- Discs, mirrors, boxes: places, by the reference. -/




namespace Go.Proofs.YtglkikdjchpmjaaDoor
set_option linter.unusedSimpArgs false
set_option linter.unusedVariables false
open Go.RowKit

set_option maxRecDepth 100000 in
set_option maxHeartbeats 4000000 in
theorem rInDisc_any (W H px py q x y : Int) (ao : Option Addr) (n cap : Nat) (w : World) (w0 : 1 ≤ W) (w1 : W ≤ 64) (h0 : 1 ≤ H) (h1 : H ≤ 64) (p0 : 0 ≤ px) (p1 : px ≤ 64) (r0 : 0 ≤ py) (r1 : py ≤ 64) :
    Calls Tryd.prog 141 #[.agg #[.int .i64 W, .int .i64 H, .slice (ao) n cap], .agg #[.int .i64 px, .int .i64 py], .int .i64 q, .int .i64 x, .int .i64 y] w fun e w' => e = .returned (.bool (!(misS W H (inD px py q) x y))) ∧ Below w.heap.size w w' := by
  by_cases h : OnG W H x y
  · have e1 : (!(misS W H (inD px py q) x y)) = inD px py q x y := by unfold misS; rw [decide_eq_true h]; simp
    rw [e1]
    have HO := Lib.hid h
    obtain ⟨⟨k0, k1⟩, k2, k3⟩ := h
    have b1 := sq_bd (u := x - px) (by omega) (by omega)
    have b2 := sq_bd (u := y - py) (by omega) (by omega)
    have s0 : IntKind.i64.wrap (x - px) = x - px := IntWalk.i64_in _ ⟨by omega, by omega⟩
    have s1 : IntKind.i64.wrap (y - py) = y - py := IntWalk.i64_in _ ⟨by omega, by omega⟩
    have s2 : IntKind.i64.wrap ((x - px) * (x - px)) = (x - px) * (x - px) := IntWalk.i64_in _ ⟨by omega, by omega⟩
    have s3 : IntKind.i64.wrap ((y - py) * (y - py)) = (y - py) * (y - py) := IntWalk.i64_in _ ⟨by omega, by omega⟩
    have s4 : IntKind.i64.wrap ((x - px) * (x - px) + (y - py) * (y - py)) = (x - px) * (x - px) + (y - py) * (y - py) := IntWalk.i64_in _ ⟨by omega, by omega⟩
    have ON := Lib.hid (fun wx => rOnG_yes W H x y ao n cap wx w0 w1 h0 h1 HO.out)
    clear b1 b2 k0 k1 k2 k3 p0 p1 r0 r1 w0 w1 h0 h1 e1
    go_enter Tryd.func141, Tryd.ntmps141
    go_wp2_with (go_at_call 82; (with_reducible refine (ON.out _).mono ?_); rintro e w1 ⟨rfl, hb⟩; obtain ⟨hc, hf, hz⟩ := bcall hb; (try simp at hc hf hz))
    go_ret
    refine ⟨rfl, ?_⟩
    (repeat' (first | (with_reducible exact Below.refl _ _) | (with_reducible refine Below.setCell ?_ (by first | omega | (simp; done) | (simp; omega)) _) | (with_reducible refine Below.alloc ?_ (by first | omega | (simp; done) | (simp; omega)) _) | (with_reducible refine Below.drew ?_) | (with_reducible refine below_drewN ?_ _) | (with_reducible refine Below.trans ?_ (Below.mono (by assumption) (by first | omega | (simp; done) | (simp; omega))))))
  · have e1 : (!(misS W H (inD px py q) x y)) = false := by unfold misS; rw [decide_eq_false h]; rfl
    rw [e1]
    have ON := Lib.hid (fun wx => rOnG_no W H x y ao n cap wx w0 w1 h0 h1 h)
    clear p0 p1 r0 r1 w0 w1 h0 h1 e1 h
    go_enter Tryd.func141, Tryd.ntmps141
    go_wp2_with (go_at_call 82; (with_reducible refine (ON.out _).mono ?_); rintro e w1 ⟨rfl, hb⟩; obtain ⟨hc, hf, hz⟩ := bcall hb; (try simp at hc hf hz))
    go_ret
    refine ⟨rfl, ?_⟩
    (repeat' (first | (with_reducible exact Below.refl _ _) | (with_reducible refine Below.setCell ?_ (by first | omega | (simp; done) | (simp; omega)) _) | (with_reducible refine Below.alloc ?_ (by first | omega | (simp; done) | (simp; omega)) _) | (with_reducible refine Below.drew ?_) | (with_reducible refine below_drewN ?_ _) | (with_reducible refine Below.trans ?_ (Below.mono (by assumption) (by first | omega | (simp; done) | (simp; omega))))))

set_option maxRecDepth 100000 in
set_option maxHeartbeats 8000000 in
theorem rMirror_any (W H px py q x y : Int) (ao : Option Addr) (n cap : Nat) (w : World) (w0 : 1 ≤ W) (w1 : W ≤ 64) (h0 : 1 ≤ H) (h1 : H ≤ 64) (p0 : 0 ≤ px) (p1 : px ≤ 64) (r0 : 0 ≤ py) (r1 : py ≤ 64) (x0 : -1 ≤ x) (x1 : x ≤ 1100) (y0 : -1 ≤ y) (y1 : y ≤ 1100) :
    Calls Tryd.prog 142 #[.agg #[.int .i64 W, .int .i64 H, .slice (ao) n cap], .agg #[.int .i64 px, .int .i64 py], .int .i64 q, .int .i64 x, .int .i64 y] w fun e w' => e = .returned (.int .i64 (smoK W H (inD px py q) x y)) ∧ Below w.heap.size w w' := by
  have s1 : IntKind.i64.wrap (x + 1) = x + 1 := IntWalk.i64_in _ ⟨by omega, by omega⟩
  have s2 : IntKind.i64.wrap (x - 1) = x - 1 := IntWalk.i64_in _ ⟨by omega, by omega⟩
  have s3 : IntKind.i64.wrap (y + 1) = y + 1 := IntWalk.i64_in _ ⟨by omega, by omega⟩
  have s4 : IntKind.i64.wrap (y - 1) = y - 1 := IntWalk.i64_in _ ⟨by omega, by omega⟩
  have hk : smoK W H (inD px py q) x y = if misS W H (inD px py q) (x + 1) y = misS W H (inD px py q) (x - 1) y ∨ misS W H (inD px py q) x (y + 1) = misS W H (inD px py q) x (y - 1) then 1 else if misS W H (inD px py q) (x - 1) y = misS W H (inD px py q) x (y + 1) then 2 else 3 := rfl
  have M1 := Lib.hid (fun wx => rInDisc_any W H px py q (x + 1) y ao n cap wx w0 w1 h0 h1 p0 p1 r0 r1)
  have M2 := Lib.hid (fun wx => rInDisc_any W H px py q (x - 1) y ao n cap wx w0 w1 h0 h1 p0 p1 r0 r1)
  have M3 := Lib.hid (fun wx => rInDisc_any W H px py q x (y + 1) ao n cap wx w0 w1 h0 h1 p0 p1 r0 r1)
  have M4 := Lib.hid (fun wx => rInDisc_any W H px py q x (y - 1) ao n cap wx w0 w1 h0 h1 p0 p1 r0 r1)
  obtain ⟨a, ha⟩ : ∃ a, a = misS W H (inD px py q) (x + 1) y := ⟨_, rfl⟩
  obtain ⟨b, hb'⟩ : ∃ a, a = misS W H (inD px py q) (x - 1) y := ⟨_, rfl⟩
  obtain ⟨c, hc'⟩ : ∃ a, a = misS W H (inD px py q) x (y + 1) := ⟨_, rfl⟩
  obtain ⟨d, hd'⟩ : ∃ a, a = misS W H (inD px py q) x (y - 1) := ⟨_, rfl⟩
  rw [← ha] at M1 hk
  rw [← hb'] at M2 hk
  rw [← hc'] at M3 hk
  rw [← hd'] at M4 hk
  rw [hk]
  clear hk ha hb' hc' hd' x0 x1 y0 y1 w0 w1 h0 h1 p0 p1 r0 r1
  go_enter Tryd.func142, Tryd.ntmps142
  go_wp2
  have g0 : ((w.alloc (.cells #[.int .i64 W, .int .i64 H, .slice ao n cap] 24)).alloc (.cells #[.int .i64 px, .int .i64 py] 31)).cell? ⟨w.heap.size, 0, none⟩ = some (.int .i64 W) := by simp [go_sem, ↓IntWalk.iteOmega]
  have g1 : ((w.alloc (.cells #[.int .i64 W, .int .i64 H, .slice ao n cap] 24)).alloc (.cells #[.int .i64 px, .int .i64 py] 31)).cell? ⟨w.heap.size, 1, none⟩ = some (.int .i64 H) := by simp [go_sem, ↓IntWalk.iteOmega]
  have g2 : ((w.alloc (.cells #[.int .i64 W, .int .i64 H, .slice ao n cap] 24)).alloc (.cells #[.int .i64 px, .int .i64 py] 31)).cell? ⟨w.heap.size, 2, none⟩ = some (.slice ao n cap) := by simp [go_sem, ↓IntWalk.iteOmega]
  have k0 : ((w.alloc (.cells #[.int .i64 W, .int .i64 H, .slice ao n cap] 24)).alloc (.cells #[.int .i64 px, .int .i64 py] 31)).cell? ⟨w.heap.size + 1, 0, none⟩ = some (.int .i64 px) := by simp [go_sem, ↓IntWalk.iteOmega]
  have k1 : ((w.alloc (.cells #[.int .i64 W, .int .i64 H, .slice ao n cap] 24)).alloc (.cells #[.int .i64 px, .int .i64 py] 31)).cell? ⟨w.heap.size + 1, 1, none⟩ = some (.int .i64 py) := by simp [go_sem, ↓IntWalk.iteOmega]
  have hbw : Below w.heap.size w ((w.alloc (.cells #[.int .i64 W, .int .i64 H, .slice ao n cap] 24)).alloc (.cells #[.int .i64 px, .int .i64 py] 31)) := by (repeat' (first | (with_reducible exact Below.refl _ _) | (with_reducible refine Below.setCell ?_ (by first | omega | (simp; done) | (simp; omega)) _) | (with_reducible refine Below.alloc ?_ (by first | omega | (simp; done) | (simp; omega)) _) | (with_reducible refine Below.drew ?_) | (with_reducible refine below_drewN ?_ _) | (with_reducible refine Below.trans ?_ (Below.mono (by assumption) (by first | omega | (simp; done) | (simp; omega))))))
  have hs1 : ((w.alloc (.cells #[.int .i64 W, .int .i64 H, .slice ao n cap] 24)).alloc (.cells #[.int .i64 px, .int .i64 py] 31)).heap.size = w.heap.size + 2 := by simp
  obtain ⟨w1, hw1⟩ : ∃ w1, w1 = (w.alloc (.cells #[.int .i64 W, .int .i64 H, .slice ao n cap] 24)).alloc (.cells #[.int .i64 px, .int .i64 py] 31) := ⟨_, rfl⟩
  rw [← hw1] at g0 g1 g2 k0 k1 hbw hs1 ⊢
  clear hw1
  go_region_held3 (fun w' => w'.cell? ⟨w.heap.size, 0, none⟩ = some (.int .i64 W) ∧ w'.cell? ⟨w.heap.size, 1, none⟩ = some (.int .i64 H) ∧ w'.cell? ⟨w.heap.size, 2, none⟩ = some (.slice ao n cap) ∧ w'.cell? ⟨w.heap.size + 1, 0, none⟩ = some (.int .i64 px) ∧ w'.cell? ⟨w.heap.size + 1, 1, none⟩ = some (.int .i64 py)) (first | (go_split_ands; (try dsimp only); refine ⟨?_, ?_, ?_, ?_, ?_⟩ <;> (first | (with_reducible assumption) | (with_reducible exact keep_cell (by assumption) (by first | omega | (simp; done) | (simp; omega)) (by assumption)) | (with_reducible exact (World.cell?_alloc_past _ _ _ (by show _ < _; omega)).trans (by assumption)) | (with_reducible exact (World.cell?_alloc_past _ _ _ (by show _ < _; omega)).trans ((World.cell?_alloc_past _ _ _ (by show _ < _; omega)).symm.trans (by assumption))) | (simp [go_sem]; with_reducible assumption))) | (simp [go_sem, ↓IntWalk.iteOmega, *]; done)) (first | (go_at_call 141; (with_reducible refine (M1.out _).mono ?_); rintro e w1 ⟨rfl, hb⟩; obtain ⟨hc, hf, hz⟩ := bcall hb; (try simp at hc hf hz)) | (go_at_call 141; (with_reducible refine (M3.out _).mono ?_); rintro e w1 ⟨rfl, hb⟩; obtain ⟨hc, hf, hz⟩ := bcall hb; (try simp at hc hf hz)))
  all_goals
    rename_i hX9
    obtain ⟨g0', g1', g2', k0', k1'⟩ := hX9
    clear g0 g1 g2 k0 k1
    go_wp2
    go_region_held3 (fun w' => w'.cell? ⟨w.heap.size, 0, none⟩ = some (.int .i64 W) ∧ w'.cell? ⟨w.heap.size, 1, none⟩ = some (.int .i64 H) ∧ w'.cell? ⟨w.heap.size, 2, none⟩ = some (.slice ao n cap) ∧ w'.cell? ⟨w.heap.size + 1, 0, none⟩ = some (.int .i64 px) ∧ w'.cell? ⟨w.heap.size + 1, 1, none⟩ = some (.int .i64 py)) (first | (go_split_ands; (try dsimp only); refine ⟨?_, ?_, ?_, ?_, ?_⟩ <;> (first | (with_reducible assumption) | (with_reducible exact keep_cell (by assumption) (by first | omega | (simp; done) | (simp; omega)) (by assumption)) | (with_reducible exact (World.cell?_alloc_past _ _ _ (by show _ < _; omega)).trans (by assumption)) | (with_reducible exact (World.cell?_alloc_past _ _ _ (by show _ < _; omega)).trans ((World.cell?_alloc_past _ _ _ (by show _ < _; omega)).symm.trans (by assumption))) | (simp [go_sem]; with_reducible assumption))) | (simp [go_sem, ↓IntWalk.iteOmega, *]; done)) (first | (go_at_call 141; (with_reducible refine (M2.out _).mono ?_); rintro e w1 ⟨rfl, hb⟩; obtain ⟨hc, hf, hz⟩ := bcall hb; (try simp at hc hf hz)) | (go_at_call 141; (with_reducible refine (M4.out _).mono ?_); rintro e w1 ⟨rfl, hb⟩; obtain ⟨hc, hf, hz⟩ := bcall hb; (try simp at hc hf hz)))
    all_goals
      rename_i hX9
      clear hX9
      cases a <;> cases b <;> cases c <;> cases d
      all_goals
        go_wp2
        go_ret
        refine ⟨by simp, ?_⟩
        (repeat' (first | (with_reducible exact Below.refl _ _) | (with_reducible refine Below.setCell ?_ (by first | omega | (simp; done) | (simp; omega)) _) | (with_reducible refine Below.alloc ?_ (by first | omega | (simp; done) | (simp; omega)) _) | (with_reducible refine Below.drew ?_) | (with_reducible refine below_drewN ?_ _) | (with_reducible refine Below.trans ?_ (Below.mono (by assumption) (by first | omega | (simp; done) | (simp; omega))))))
/-- Between two numbers, both included. -/
theorem rBetween_any (n a b : Int) (w : World) : Calls Tryd.prog 79 #[.int .i64 n, .int .i64 a, .int .i64 b] w fun e w' => e = .returned (.bool (decide (min a b ≤ n ∧ n ≤ max a b))) ∧ w = w' := by
  by_cases h : a ≤ n ∧ n ≤ b
  · have e1 : decide (min a b ≤ n ∧ n ≤ max a b) = true := decide_eq_true (by omega)
    rw [e1]
    go_enter Tryd.func79, Tryd.ntmps79
    go_wp2_with (go_at_call 78; (with_reducible refine (within3_yes n a b _ h.1 h.2).mono ?_); rintro e w1 ⟨rfl, rfl⟩)
    go_ret
    exact ⟨rfl, rfl⟩
  · have h' : n < a ∨ b < n := by omega
    by_cases h2 : b ≤ n ∧ n ≤ a
    · have e1 : decide (min a b ≤ n ∧ n ≤ max a b) = true := decide_eq_true (by omega)
      rw [e1]
      clear h
      go_enter Tryd.func79, Tryd.ntmps79
      go_wp2_with (first | (go_at_call 78; (with_reducible refine (within3_no n a b _ h').mono ?_); rintro e w1 ⟨rfl, rfl⟩) | (go_at_call 78; (with_reducible refine (within3_yes n b a _ h2.1 h2.2).mono ?_); rintro e w1 ⟨rfl, rfl⟩))
      go_ret
      exact ⟨rfl, rfl⟩
    · have e1 : decide (min a b ≤ n ∧ n ≤ max a b) = false := decide_eq_false (by omega)
      have h3 : n < b ∨ a < n := by omega
      rw [e1]
      clear h h2
      go_enter Tryd.func79, Tryd.ntmps79
      go_wp2_with (first | (go_at_call 78; (with_reducible refine (within3_no n a b _ h').mono ?_); rintro e w1 ⟨rfl, rfl⟩) | (go_at_call 78; (with_reducible refine (within3_no n b a _ h3).mono ?_); rintro e w1 ⟨rfl, rfl⟩))
      go_ret
      exact ⟨rfl, rfl⟩
end Go.Proofs.YtglkikdjchpmjaaDoor

/- The first error of a shape: by the reference. -/

namespace Go.Proofs.YtglkikdjchpmjaaDoor
set_option linter.unusedSimpArgs false
set_option linter.unusedVariables false
open Go.RowKit

/-- Points in memory, one after another. -/
def PtsAt (w : World) (b m : Nat) (X Y : Nat → Int) : Prop := ∀ j, j < m → w.cell? ⟨b, j * 2, none⟩ = some (.int .i64 (X j)) ∧ w.cell? ⟨b, j * 2 + 1, none⟩ = some (.int .i64 (Y j))
/-- The first k points lie on the grid. -/
def onA (W H : Int) (X Y : Nat → Int) : Nat → Bool
  | 0 => true
  | k + 1 => onA W H X Y k && decide (OnG W H (X k) (Y k))
def rErr (t r : Bool) (b : Int) : Int := if t = true then (if r = true ∧ 1 ≤ b ∧ b ≤ 9 then 0 else 7) else 1

set_option maxRecDepth 100000 in
set_option maxHeartbeats 8000000 in
theorem rShErr_any (W H : Int) (ao : Option Addr) (n cap : Nat) (ak : Option Addr) (nk ck : Nat) (ab : Option Addr) (nb cb : Nat) (X Y : Nat → Int) (b : Int) (bp m cp : Nat) (t r : Bool) (w : World) (hm : m ≤ 2) (lp : bp < w.heap.size) (hP : PtsAt w bp m X Y)
    (hs : t = true → 1 ≤ W ∧ W ≤ 64 ∧ 1 ≤ H ∧ H ≤ 64)
    (V : ∀ wx, Below w.heap.size w wx → Calls Tryd.prog 147 #[.agg #[.int .i64 W, .int .i64 H, .slice (ao) n cap], .agg #[.slice (ak) nk ck, .slice (ab) nb cb]] wx fun e w' => e = .returned (.bool t) ∧ Below wx.heap.size wx w') :
    Calls Tryd.prog 77 #[.agg #[.int .i64 W, .int .i64 H, .slice (ao) n cap], .agg #[.slice (ak) nk ck, .slice (ab) nb cb], .slice (some ⟨bp, 0, none⟩) m cp, .int .i64 b, .bool r] w fun e w' => e = .returned (.int .i64 (rErr t (r && onA W H X Y m) b)) ∧ Below w.heap.size w w' := by
  have V := Lib.hid V
  have HP := Lib.hid hP
  clear hP
  cases t
  · have e0 : rErr false (r && onA W H X Y m) b = 1 := by simp [rErr]
    rw [e0]
    go_enter Tryd.func77, Tryd.ntmps77
    go_wp2_with (go_at_call 147; (with_reducible refine (V.out _ (by (repeat' (first | (with_reducible exact Below.refl _ _) | (with_reducible refine Below.setCell ?_ (by first | omega | (simp; done) | (simp; omega)) _) | (with_reducible refine Below.alloc ?_ (by first | omega | (simp; done) | (simp; omega)) _) | (with_reducible refine Below.drew ?_) | (with_reducible refine below_drewN ?_ _) | (with_reducible refine Below.trans ?_ (Below.mono (by assumption) (by first | omega | (simp; done) | (simp; omega)))))))).mono ?_); rintro e w1 ⟨rfl, hb⟩; obtain ⟨hc, hf, hz⟩ := bcall hb; (try simp at hc hf hz))
    go_ret
    refine ⟨rfl, ?_⟩
    (repeat' (first | (with_reducible exact Below.refl _ _) | (with_reducible refine Below.setCell ?_ (by first | omega | (simp; done) | (simp; omega)) _) | (with_reducible refine Below.alloc ?_ (by first | omega | (simp; done) | (simp; omega)) _) | (with_reducible refine Below.drew ?_) | (with_reducible refine below_drewN ?_ _) | (with_reducible refine Below.trans ?_ (Below.mono (by assumption) (by first | omega | (simp; done) | (simp; omega))))))
  · obtain ⟨s0, s1, s2, s3⟩ := hs rfl
    have ONY := Lib.hid (fun k wx (h : OnG W H (X k) (Y k)) => rOnG_yes W H (X k) (Y k) ao n cap wx s0 s1 s2 s3 h)
    have ONN := Lib.hid (fun k wx (h : ¬ OnG W H (X k) (Y k)) => rOnG_no W H (X k) (Y k) ao n cap wx s0 s1 s2 s3 h)
    clear s0 s1 s2 s3 hs
    go_enter Tryd.func77, Tryd.ntmps77
    go_wp2_with fail
    go_at_call 147
    refine (V.out _ (by (repeat' (first | (with_reducible exact Below.refl _ _) | (with_reducible refine Below.setCell ?_ (by first | omega | (simp; done) | (simp; omega)) _) | (with_reducible refine Below.alloc ?_ (by first | omega | (simp; done) | (simp; omega)) _) | (with_reducible refine Below.drew ?_) | (with_reducible refine below_drewN ?_ _) | (with_reducible refine Below.trans ?_ (Below.mono (by assumption) (by first | omega | (simp; done) | (simp; omega)))))))).mono ?_
    rintro e w1 ⟨rfl, hb⟩
    have t0 := (Three.new2 w 24 (.int .i64 W) (.int .i64 H) (.slice ao n cap) (.cells #[.slice ak nk ck, .slice ab nb cb] 27)).below hb (by simp; omega)
    have hB : Below w.heap.size w w1 := by (repeat' (first | (with_reducible exact Below.refl _ _) | (with_reducible refine Below.setCell ?_ (by first | omega | (simp; done) | (simp; omega)) _) | (with_reducible refine Below.alloc ?_ (by first | omega | (simp; done) | (simp; omega)) _) | (with_reducible refine Below.drew ?_) | (with_reducible refine below_drewN ?_ _) | (with_reducible refine Below.trans ?_ (Below.mono (by assumption) (by first | omega | (simp; done) | (simp; omega))))))
    have HB := Lib.hid hB
    have T0 := Lib.hid t0
    have lw : w.heap.size < w1.heap.size := t0.lt
    clear hb t0 hB V
    go_wp2_with fail
    go_loopw [4, 11] (fun rr i wr => ∃ k : Nat, k ≤ m ∧ i = .int .i64 k ∧ rr = .bool (r && onA W H X Y k) ∧ Hid (Below w1.heap.size w1 wr)) (fun _ i _ => m - (intOf i).toNat)
    case atStart => exact ⟨0, Nat.zero_le _, rfl, by simp [onA], Lib.hid (Below.refl _ _)⟩
    case round =>
      obtain ⟨k, hk, rfl, rfl, HH⟩ := hrel
      have hBr := HH.out
      have hW := HB.out.trans (hBr.mono HB.out.size)
      have lwr : w.heap.size < wr.heap.size := Nat.lt_of_lt_of_le lw hBr.size
      have t0 := T0.out.below hBr lw
      have c0 := t0.c0
      have c1 := t0.c1
      have c2 := t0.c2
      obtain ⟨R, hR⟩ : ∃ R, R = (r && onA W H X Y k) := ⟨_, rfl⟩
      rw [← hR]
      have HR := Lib.hid hR
      have HWr := Lib.hid hW
      clear hR t0 hW hBr
      by_cases hlk : k < m
      · have p0 : (0 : Int) ≤ (k : Int) := by omega
        have p1 : (k : Int) < (m : Int) := by omega
        have d0 := (HWr.out.cell (p := ⟨bp, k * 2, none⟩) lp).trans (HP.out k hlk).1
        have d1 := (HWr.out.cell (p := ⟨bp, k * 2 + 1, none⟩) lp).trans (HP.out k hlk).2
        have lp2 : bp < wr.heap.size := Nat.lt_of_lt_of_le lp HWr.out.size
        obtain ⟨x, hx⟩ : ∃ x, x = X k := ⟨_, rfl⟩
        obtain ⟨y, hy⟩ : ∃ y, y = Y k := ⟨_, rfl⟩
        rw [← hx] at d0
        rw [← hy] at d1
        have hnx : (r && onA W H X Y (k + 1)) = (R && decide (OnG W H x y)) := by rw [HR.out, hx, hy]; simp [onA, Bool.and_assoc]
        have HNX := Lib.hid hnx
        have OY := Lib.hid (fun wx => ONY.out k wx)
        have ON := Lib.hid (fun wx => ONN.out k wx)
        rw [← hx, ← hy] at OY ON
        clear hx hy hnx
        cases R
        · go_wp2
          go_quiet (fail)
          go_wp2
          go_roundw
          case rel => exact ⟨k + 1, by omega, by go_num, by rw [HNX.out]; rfl, Lib.hid (below_drewN HH.out _)⟩
          case measure => simp [intOf]; omega
        · by_cases ho : OnG W H x y
          · have HO := Lib.hid ho
            have en : (true && decide (OnG W H x y)) = true := by rw [decide_eq_true ho]; rfl
            rw [en] at HNX
            clear ho en
            go_wp2
            go_region_held3 (fun w' => w'.cell? ⟨w.heap.size, 0, none⟩ = some (.int .i64 W) ∧ w'.cell? ⟨w.heap.size, 1, none⟩ = some (.int .i64 H) ∧ w'.cell? ⟨w.heap.size, 2, none⟩ = some (.slice ao n cap) ∧ w'.cell? ⟨bp, k * 2, none⟩ = some (.int .i64 x) ∧ w'.cell? ⟨bp, k * 2 + 1, none⟩ = some (.int .i64 y)) (first | (go_split_ands; (try dsimp only); refine ⟨?_, ?_, ?_, ?_, ?_⟩ <;> (first | (with_reducible assumption) | (with_reducible exact keep_cell (by assumption) (by first | omega | (simp; done) | (simp; omega)) (by assumption)) | (with_reducible exact (World.cell?_alloc_past _ _ _ (by show _ < _; omega)).trans (by assumption)) | (with_reducible exact (World.cell?_alloc_past _ _ _ (by show _ < _; omega)).trans ((World.cell?_alloc_past _ _ _ (by show _ < _; omega)).symm.trans (by assumption))) | (simp [go_sem]; with_reducible assumption))) | (simp [go_sem, ↓IntWalk.iteOmega, *]; done)) ((go_at_call 82; (with_reducible refine (OY.out _ HO.out).mono ?_); rintro e w1 ⟨rfl, hb⟩; obtain ⟨hc, hf, hz⟩ := bcall hb; (try simp at hc hf hz)))
            all_goals
              rename_i hX9
              clear hX9
              have HX := Lib.hid (show Below wr.heap.size wr w1 from by (repeat' (first | (with_reducible exact Below.refl _ _) | (with_reducible refine Below.setCell ?_ (by first | omega | (simp; done) | (simp; omega)) _) | (with_reducible refine Below.alloc ?_ (by first | omega | (simp; done) | (simp; omega)) _) | (with_reducible refine Below.drew ?_) | (with_reducible refine below_drewN ?_ _) | (with_reducible refine Below.trans ?_ (Below.mono (by assumption) (by first | omega | (simp; done) | (simp; omega)))))))
              go_wp2
              go_roundw
              case rel => exact ⟨k + 1, by omega, by go_num, by rw [HNX.out], Lib.hid (HH.out.trans (HX.out.mono HH.out.size))⟩
              case measure => simp [intOf]; omega
          · have HO := Lib.hid ho
            have en : (true && decide (OnG W H x y)) = false := by rw [decide_eq_false ho]; rfl
            rw [en] at HNX
            clear ho en
            go_wp2
            go_region_held3 (fun w' => w'.cell? ⟨w.heap.size, 0, none⟩ = some (.int .i64 W) ∧ w'.cell? ⟨w.heap.size, 1, none⟩ = some (.int .i64 H) ∧ w'.cell? ⟨w.heap.size, 2, none⟩ = some (.slice ao n cap) ∧ w'.cell? ⟨bp, k * 2, none⟩ = some (.int .i64 x) ∧ w'.cell? ⟨bp, k * 2 + 1, none⟩ = some (.int .i64 y)) (first | (go_split_ands; (try dsimp only); refine ⟨?_, ?_, ?_, ?_, ?_⟩ <;> (first | (with_reducible assumption) | (with_reducible exact keep_cell (by assumption) (by first | omega | (simp; done) | (simp; omega)) (by assumption)) | (with_reducible exact (World.cell?_alloc_past _ _ _ (by show _ < _; omega)).trans (by assumption)) | (with_reducible exact (World.cell?_alloc_past _ _ _ (by show _ < _; omega)).trans ((World.cell?_alloc_past _ _ _ (by show _ < _; omega)).symm.trans (by assumption))) | (simp [go_sem]; with_reducible assumption))) | (simp [go_sem, ↓IntWalk.iteOmega, *]; done)) ((go_at_call 82; (with_reducible refine (ON.out _ HO.out).mono ?_); rintro e w1 ⟨rfl, hb⟩; obtain ⟨hc, hf, hz⟩ := bcall hb; (try simp at hc hf hz)))
            all_goals
              rename_i hX9
              clear hX9
              have HX := Lib.hid (show Below wr.heap.size wr w1 from by (repeat' (first | (with_reducible exact Below.refl _ _) | (with_reducible refine Below.setCell ?_ (by first | omega | (simp; done) | (simp; omega)) _) | (with_reducible refine Below.alloc ?_ (by first | omega | (simp; done) | (simp; omega)) _) | (with_reducible refine Below.drew ?_) | (with_reducible refine below_drewN ?_ _) | (with_reducible refine Below.trans ?_ (Below.mono (by assumption) (by first | omega | (simp; done) | (simp; omega)))))))
              go_wp2
              go_roundw
              case rel => exact ⟨k + 1, by omega, by go_num, by rw [HNX.out], Lib.hid (HH.out.trans (HX.out.mono HH.out.size))⟩
              case measure => simp [intOf]; omega
      · obtain rfl : m = k := by omega
        clear c0 c1 c2
        cases R
        · go_wp2
          go_ret
          refine ⟨by rw [← HR.out]; simp [rErr], ?_⟩
          have := HWr.out
          (repeat' (first | (with_reducible exact Below.refl _ _) | (with_reducible refine Below.setCell ?_ (by first | omega | (simp; done) | (simp; omega)) _) | (with_reducible refine Below.alloc ?_ (by first | omega | (simp; done) | (simp; omega)) _) | (with_reducible refine Below.drew ?_) | (with_reducible refine below_drewN ?_ _) | (with_reducible refine Below.trans ?_ (Below.mono (by assumption) (by first | omega | (simp; done) | (simp; omega))))))
        · by_cases hb9 : 1 ≤ b ∧ b ≤ 9
          · have HB9 := Lib.hid hb9
            go_wp2_with (go_at_call 148; (with_reducible refine (rIsBody_yes b _ hb9.1 hb9.2).mono ?_); rintro e w1 ⟨rfl, rfl⟩)
            go_ret
            refine ⟨by rw [← HR.out]; simp [rErr, HB9.out], ?_⟩
            have := HWr.out
            (repeat' (first | (with_reducible exact Below.refl _ _) | (with_reducible refine Below.setCell ?_ (by first | omega | (simp; done) | (simp; omega)) _) | (with_reducible refine Below.alloc ?_ (by first | omega | (simp; done) | (simp; omega)) _) | (with_reducible refine Below.drew ?_) | (with_reducible refine below_drewN ?_ _) | (with_reducible refine Below.trans ?_ (Below.mono (by assumption) (by first | omega | (simp; done) | (simp; omega))))))
          · have HB9 := Lib.hid hb9
            have hb8 := Lib.hid (show b < 1 ∨ 9 < b by omega)
            clear hb9
            go_wp2_with (go_at_call 148; (with_reducible refine (rIsBody_no b _ hb8.out).mono ?_); rintro e w1 ⟨rfl, rfl⟩)
            go_ret
            refine ⟨by rw [← HR.out]; simp [rErr, HB9.out], ?_⟩
            have := HWr.out
            (repeat' (first | (with_reducible exact Below.refl _ _) | (with_reducible refine Below.setCell ?_ (by first | omega | (simp; done) | (simp; omega)) _) | (with_reducible refine Below.alloc ?_ (by first | omega | (simp; done) | (simp; omega)) _) | (with_reducible refine Below.drew ?_) | (with_reducible refine below_drewN ?_ _) | (with_reducible refine Below.trans ?_ (Below.mono (by assumption) (by first | omega | (simp; done) | (simp; omega))))))
end Go.Proofs.YtglkikdjchpmjaaDoor
