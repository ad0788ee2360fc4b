/- The law TopCells: the walk. -/
import Derived.Test.YtmkhbkkhoemkoaaTop5
import Derived.Test.YtmkhbkkhoemkoaaStepU
namespace Go.Proofs.Ytmkhbkkhoemkoaa
set_option linter.unusedSimpArgs false
set_option linter.unusedVariables false
open Go.RowKit

set_option maxRecDepth 100000 in
set_option maxHeartbeats 8000000 in
theorem topCells_ok (W H n cap : Nat) (ao : Option Addr) (G : Nat → Nat → Int) (ro : Option Addr) (len rc : Nat) (R : Nat → Int × Int) (t : Nat) (w : World) (s : Sides W H n) (hG : OkG n G) (hC : CellsIn w ao n G) (hR : RulesIn w ro len R) (hk : OkRs len R) (ht : t ≤ 1000000) (hn : n ≤ 300) :
    Calls Try.prog 4 #[.agg #[.int .i64 W, .int .i64 H, .slice (ao) n cap], .slice ro len rc, .int .i64 t] w fun e w' => e = .returned (.bool true) ∧ Below w.heap.size w w' := by
  obtain ⟨b, off, rfl, hlt, hGr⟩ := cells_of s hC
  have h1 := row_of s
  have hl := hk.2.1
  have hr := hk.2.2 (t % len) (Nat.mod_lt _ hk.1)
  obtain ⟨r0, hr0⟩ : ∃ r0, r0 = (R (t % len)).1 := ⟨_, rfl⟩
  obtain ⟨r1, hr1⟩ : ∃ r1, r1 = (R (t % len)).2 := ⟨_, rfl⟩
  have AC := Lib.hid (fun w' (hb : Below w.heap.size w w') => by
    have := at_ok ro len rc t R w' (hR.below hb) hk (by omega) (by omega)
    rw [Int.toNat_natCast, ← hr0, ← hr1] at this
    exact this)
  rw [← hr0, ← hr1] at hr
  have ST := Lib.hid (fun w' (hb : Below w.heap.size w w') => by
    have := gStep_ok W H n cap (some ⟨b, off, none⟩) G ro len rc R t w' s hG (hC.below hb) (hR.below hb) hk ht
    rw [show fwd W H len R t G = pull W H 1 (colG r0 r1 G) from by rw [hr0, hr1]; rfl] at this
    exact this)
  clear hr0 hr1 hk hR hC
  obtain ⟨i0, hi, hz0, hz1, hz2⟩ := info_parts info_cell
  have HS := Lib.hid s; clear s
  have HO := Lib.hid hG; clear hG
  have HG := Lib.hid hGr; clear hGr
  have HR := Lib.hid hr; clear hr
  go_enter Try.func4, Try.ntmps4
  go_wp2_with fail
  (go_at_call 12; (with_reducible refine (ST.out _ (by (repeat' (first | (with_reducible exact Below.refl _ _) | (with_reducible refine Below.setCell ?_ (by first | omega | (simp; done) | (simp; omega)) _) | (with_reducible refine Below.alloc ?_ (by first | omega | (simp; done) | (simp; omega)) _) | (with_reducible refine Below.drew ?_) | (with_reducible refine below_drewN ?_ _) | (with_reducible refine Below.trans ?_ (Below.mono (by assumption) (by first | omega | (simp; done) | (simp; omega)))))))).mono ?_); rintro e wa ⟨a, ca, rfl, ha, loa, hb⟩; have Ca := Lib.hid ha; clear ha loa; obtain ⟨hc, hf, hz⟩ := bcall hb; (try simp at hc hf hz))
  go_wp2_with (go_at_call 13; (with_reducible refine (AC.out _ (by (repeat' (first | (with_reducible exact Below.refl _ _) | (with_reducible refine Below.setCell ?_ (by first | omega | (simp; done) | (simp; omega)) _) | (with_reducible refine Below.alloc ?_ (by first | omega | (simp; done) | (simp; omega)) _) | (with_reducible refine Below.drew ?_) | (with_reducible refine below_drewN ?_ _) | (with_reducible refine Below.trans ?_ (Below.mono (by assumption) (by first | omega | (simp; done) | (simp; omega)))))))).mono ?_); rintro e w1 ⟨rfl, hb⟩; obtain ⟨hc, hf, hz⟩ := bcall hb; (try simp at hc hf hz))
  have lb0 : b < w.heap.size := hlt
  have w0b := Lib.hid (show Below w.heap.size w (w1.alloc (.cells #[.int .i64 r0, .int .i64 r1] 36)) from by (repeat' (first | (with_reducible exact Below.refl _ _) | (with_reducible refine Below.setCell ?_ (by first | omega | (simp; done) | (simp; omega)) _) | (with_reducible refine Below.alloc ?_ (by first | omega | (simp; done) | (simp; omega)) _) | (with_reducible refine Below.drew ?_) | (with_reducible refine below_drewN ?_ _) | (with_reducible refine Below.trans ?_ (Below.mono (by assumption) (by first | omega | (simp; done) | (simp; omega)))))))
  have g2 : (w1.alloc (.cells #[.int .i64 r0, .int .i64 r1] 36)).cell? ⟨w.heap.size, 2, none⟩ = some (.slice (some ⟨b, off, none⟩) n cap) := by simp [go_sem, ↓IntWalk.iteOmega, *]
  have q0 : (w1.alloc (.cells #[.int .i64 r0, .int .i64 r1] 36)).cell? ⟨w1.heap.size, 0, none⟩ = some (.int .i64 r0) := by simp [go_sem, ↓IntWalk.iteOmega, *]
  have q1 : (w1.alloc (.cells #[.int .i64 r0, .int .i64 r1] 36)).cell? ⟨w1.heap.size, 1, none⟩ = some (.int .i64 r1) := by simp [go_sem, ↓IntWalk.iteOmega, *]
  have y0 : (w1.alloc (.cells #[.int .i64 r0, .int .i64 r1] 36)).cell? ⟨wa.heap.size, 0, none⟩ = some (.int .i64 W) := by simp [go_sem, ↓IntWalk.iteOmega, *]
  have y1 : (w1.alloc (.cells #[.int .i64 r0, .int .i64 r1] 36)).cell? ⟨wa.heap.size, 1, none⟩ = some (.int .i64 H) := by simp [go_sem, ↓IntWalk.iteOmega, *]
  have y2 : (w1.alloc (.cells #[.int .i64 r0, .int .i64 r1] 36)).cell? ⟨wa.heap.size, 2, none⟩ = some (.slice (some ⟨a, 0, none⟩) n ca) := by simp [go_sem, ↓IntWalk.iteOmega, *]
  have Cx := Lib.hid (show CellsIn (w1.alloc (.cells #[.int .i64 r0, .int .i64 r1] 36)) (some ⟨a, 0, none⟩) n (pull W H 1 (colG r0 r1 G)) from Ca.out.below (by (repeat' (first | (with_reducible exact Below.refl _ _) | (with_reducible refine Below.setCell ?_ (by first | omega | (simp; done) | (simp; omega)) _) | (with_reducible refine Below.alloc ?_ (by first | omega | (simp; done) | (simp; omega)) _) | (with_reducible refine Below.drew ?_) | (with_reducible refine below_drewN ?_ _) | (with_reducible refine Below.trans ?_ (Below.mono (by assumption) (by first | omega | (simp; done) | (simp; omega))))))))
  have sa : w.heap.size < wa.heap.size := by omega
  have s1 : wa.heap.size < w1.heap.size := by omega
  have hT := Three.new0 (w1.alloc (.cells #[.int .i64 r0, .int .i64 r1] 36)) 24 (.int .i64 W) (.int .i64 H) (.slice none 0 0)
  have hsz : (w1.alloc (.cells #[.int .i64 r0, .int .i64 r1] 36)).heap.size = w1.heap.size + 1 := by simp
  obtain ⟨w0, hw0⟩ : ∃ w0, w0 = w1.alloc (.cells #[.int .i64 r0, .int .i64 r1] 36) := ⟨_, rfl⟩
  rw [← hw0] at g2 q0 q1 y0 y1 y2 Cx w0b hT hsz
  rw [← hw0]
  rw [hsz] at hT
  clear hc hf hz hb hw0
  obtain ⟨m, hm⟩ : ∃ m, m = w1.heap.size := ⟨_, rfl⟩
  rw [← hm] at q0 q1 s1 hsz hT
  rw [← hm]
  have HI := Lib.hid (show TopH (m + 1) w0 W H 0 (colG r0 r1 G) (.slice none 0 0) (w0.alloc (.cells #[.int .i64 W, .int .i64 H, .slice none 0 0] 24)) from ⟨World.ownsRow_nil _ _ _ _, hT, (Below.refl _ _).alloc (by omega) _⟩)
  clear hT hm
  go_loopw [12] (fun i wr => ∃ (k : Nat) (v : Value), k ≤ n ∧ i = .int .i64 k ∧ Hid (TopH (m + 1) w0 W H k (colG r0 r1 G) v wr)) (fun i _ => n - (intOf i).toNat)
  case atStart => exact ⟨0, _, Nat.zero_le _, rfl, HI⟩
  case round =>
    obtain ⟨k, v, hk, rfl, HH⟩ := hrel
    have hb := HH.out.2.2
    have t3 := HH.out.2.1
    have l3 := t3.lt
    have hsr := hb.size
    have z0 := t3.c0
    have z1 := t3.c1
    have z2 := t3.c2
    have z3 := t3.free 2
    have g2' := (hb.cell (p := ⟨w.heap.size, 2, none⟩) (by first | omega | (simp; done) | (simp; omega))).trans g2
    have q0' := (hb.cell (p := ⟨m, 0, none⟩) (by first | omega | (simp; done) | (simp; omega))).trans q0
    have q1' := (hb.cell (p := ⟨m, 1, none⟩) (by first | omega | (simp; done) | (simp; omega))).trans q1
    by_cases hlk : k < n
    · obtain ⟨e0, e1, e2, e3⟩ := HG.out.get (w0b.out.trans (hb.mono (by omega))) hlt hlk
      have CL := Lib.hid (fun wx => collide_ok (G k 0) (G k 1) (G k 2) (G k 3) r0 r1 wx (HO.out.1 k hlk) HR.out)
      rw [show more (G k 0) (G k 1) (G k 2) (G k 3) r0 r1 = moreG r0 r1 G k from rfl, ← colG0 r0 r1 G k, ← colG1 r0 r1 G k, ← colG2 r0 r1 G k, ← colG3 r0 r1 G k] at CL
      have p0 : (0 : Int) ≤ (k : Int) := by omega
      have p1 : (k : Int) < (n : Int) := by omega
      have HBb := Lib.hid hb
      have HT := Lib.hid t3
      clear hb t3
      go_wp2
      go_region_held3 (fun w' => w'.cell? ⟨w.heap.size, 2, none⟩ = some (.slice (some ⟨b, off, none⟩) n cap) ∧ w'.cell? ⟨m, 0, none⟩ = some (.int .i64 r0) ∧ w'.cell? ⟨m, 1, none⟩ = some (.int .i64 r1) ∧ w'.cell? ⟨b, off + k * 4, none⟩ = some (.int .i64 (G k 0)) ∧ w'.cell? ⟨b, off + k * 4 + 1, none⟩ = some (.int .i64 (G k 1)) ∧ w'.cell? ⟨b, off + k * 4 + 2, none⟩ = some (.int .i64 (G k 2)) ∧ w'.cell? ⟨b, off + k * 4 + 3, none⟩ = some (.int .i64 (G k 3))) (first | (go_split_ands; (try dsimp only); refine ⟨?_, ?_, ?_, ?_, ?_, ?_, ?_⟩ <;> (first | (with_reducible assumption) | (with_reducible exact keep_cell (by assumption) (by first | omega | (simp; done) | (simp; omega)) (by assumption)) | (with_reducible exact (World.cell?_alloc_past _ _ _ (by show _ < _; omega)).trans (by assumption)) | (with_reducible exact (World.cell?_alloc_past _ _ _ (by show _ < _; omega)).trans ((World.cell?_alloc_past _ _ _ (by show _ < _; omega)).symm.trans (by assumption))) | (simp [go_sem]; with_reducible assumption))) | (simp [go_sem, ↓IntWalk.iteOmega, *]; done)) ((go_at_call 14; (with_reducible refine (CL.out _).mono ?_); rintro e w1 ⟨rfl, hb⟩; obtain ⟨hc, hf, hz⟩ := bcall hb; (try simp at hc hf hz)))
      all_goals (rename_i hX; clear hX)
      · obtain ⟨X, eX⟩ : ∃ X, X = w1.alloc (.cells #[.int .i64 (colG r0 r1 G k 0), .int .i64 (colG r0 r1 G k 1), .int .i64 (colG r0 r1 G k 2), .int .i64 (colG r0 r1 G k 3)] 40) := ⟨_, rfl⟩
        have XB := Lib.hid (show Below wr.heap.size wr X from by rw [eX]; (repeat' (first | (with_reducible exact Below.refl _ _) | (with_reducible refine Below.setCell ?_ (by first | omega | (simp; done) | (simp; omega)) _) | (with_reducible refine Below.alloc ?_ (by first | omega | (simp; done) | (simp; omega)) _) | (with_reducible refine Below.drew ?_) | (with_reducible refine below_drewN ?_ _) | (with_reducible refine Below.trans ?_ (Below.mono (by assumption) (by first | omega | (simp; done) | (simp; omega)))))))
        have x0 : X.cell? ⟨w1.heap.size, 0, none⟩ = some (.int .i64 (colG r0 r1 G k 0)) := by rw [eX]; simp [go_sem, ↓IntWalk.iteOmega, hc, hz]
        have x1 : X.cell? ⟨w1.heap.size, 1, none⟩ = some (.int .i64 (colG r0 r1 G k 1)) := by rw [eX]; simp [go_sem, ↓IntWalk.iteOmega, hc, hz]
        have x2 : X.cell? ⟨w1.heap.size, 2, none⟩ = some (.int .i64 (colG r0 r1 G k 2)) := by rw [eX]; simp [go_sem, ↓IntWalk.iteOmega, hc, hz]
        have x3 : X.cell? ⟨w1.heap.size, 3, none⟩ = some (.int .i64 (colG r0 r1 G k 3)) := by rw [eX]; simp [go_sem, ↓IntWalk.iteOmega, hc, hz]
        have xv : X.cell? ⟨m + 1, 2, none⟩ = some v := (XB.out.cell (p := ⟨m + 1, 2, none⟩) l3).trans z2
        rw [← eX]
        have ls := XB.out.size
        clear hc hf hz hb eX g2' q0' q1' z0 z1 z2 z3
        go_wp2_with (at_builtin; refine wpList_append_own _ rfl _ _ 22 rfl (m + 2) 40 i0 (.agg #[.int .i64 0, .int .i64 0, .int .i64 0, .int .i64 0]) 4 32 Try.underlying22 hi hz0 hz1 hz2 rfl (by omega) _ _ _ rfl (owns_below HH.out.1 (XB.out.alloc ls _)) _ 1 1 [.int .i64 (colG r0 r1 G k 0), .int .i64 (colG r0 r1 G k 1), .int .i64 (colG r0 r1 G k 2), .int .i64 (colG r0 r1 G k 3)] rfl rfl (four_new _ _ _ _ _ _) (four_one _ _ _ _) (by unfold maxLen; omega) (by omega) (by simp; omega) ?_; intro v' w6 hown hgrow _; obtain ⟨ao', c', rfl⟩ := owns_form hown; have t6 := HH.out.three6 (XB.out.alloc ls _) hgrow; have t7 := t6.c2; have t8 := t6.free 2; clear t6)
        go_roundw
        case rel => exact ⟨k + 1, _, by omega, by go_num, Lib.hid (HH.out.app (by omega) (XB.out.alloc ls _) hown hgrow)⟩
        case measure => simp [intOf]; omega
      · obtain ⟨X, eX⟩ : ∃ X, X = (((w1.setCell ⟨wr.heap.size, 0, none⟩ (.int .i64 (colG r0 r1 G k 0))).setCell ⟨wr.heap.size, 1, none⟩ (.int .i64 (colG r0 r1 G k 1))).setCell ⟨wr.heap.size, 2, none⟩ (.int .i64 (colG r0 r1 G k 2))).setCell ⟨wr.heap.size, 3, none⟩ (.int .i64 (colG r0 r1 G k 3)) := ⟨_, rfl⟩
        have XB := Lib.hid (show Below wr.heap.size wr X from by rw [eX]; (repeat' (first | (with_reducible exact Below.refl _ _) | (with_reducible refine Below.setCell ?_ (by first | omega | (simp; done) | (simp; omega)) _) | (with_reducible refine Below.alloc ?_ (by first | omega | (simp; done) | (simp; omega)) _) | (with_reducible refine Below.drew ?_) | (with_reducible refine below_drewN ?_ _) | (with_reducible refine Below.trans ?_ (Below.mono (by assumption) (by first | omega | (simp; done) | (simp; omega)))))))
        have x0 : X.cell? ⟨wr.heap.size, 0, none⟩ = some (.int .i64 (colG r0 r1 G k 0)) := by rw [eX]; simp [go_sem, ↓IntWalk.iteOmega, hc, hz]
        have x1 : X.cell? ⟨wr.heap.size, 1, none⟩ = some (.int .i64 (colG r0 r1 G k 1)) := by rw [eX]; simp [go_sem, ↓IntWalk.iteOmega, hc, hz]
        have x2 : X.cell? ⟨wr.heap.size, 2, none⟩ = some (.int .i64 (colG r0 r1 G k 2)) := by rw [eX]; simp [go_sem, ↓IntWalk.iteOmega, hc, hz]
        have x3 : X.cell? ⟨wr.heap.size, 3, none⟩ = some (.int .i64 (colG r0 r1 G k 3)) := by rw [eX]; simp [go_sem, ↓IntWalk.iteOmega, hc, hz]
        have xv : X.cell? ⟨m + 1, 2, none⟩ = some v := (XB.out.cell (p := ⟨m + 1, 2, none⟩) l3).trans z2
        rw [← eX]
        have ls := XB.out.size
        clear hc hf hz hb eX g2' q0' q1' z0 z1 z2 z3
        go_wp2_with (at_builtin; refine wpList_append_own _ rfl _ _ 22 rfl (m + 2) 40 i0 (.agg #[.int .i64 0, .int .i64 0, .int .i64 0, .int .i64 0]) 4 32 Try.underlying22 hi hz0 hz1 hz2 rfl (by omega) _ _ _ rfl (owns_below HH.out.1 (XB.out.alloc ls _)) _ 1 1 [.int .i64 (colG r0 r1 G k 0), .int .i64 (colG r0 r1 G k 1), .int .i64 (colG r0 r1 G k 2), .int .i64 (colG r0 r1 G k 3)] rfl rfl (four_new _ _ _ _ _ _) (four_one _ _ _ _) (by unfold maxLen; omega) (by omega) (by simp; omega) ?_; intro v' w6 hown hgrow _; obtain ⟨ao', c', rfl⟩ := owns_form hown; have t6 := HH.out.three6 (XB.out.alloc ls _) hgrow; have t7 := t6.c2; have t8 := t6.free 2; clear t6)
        go_roundw
        case rel => exact ⟨k + 1, _, by omega, by go_num, Lib.hid (HH.out.app (by omega) (XB.out.alloc ls _) hown hgrow)⟩
        case measure => simp [intOf]; omega
    · obtain rfl : n = k := by omega
      obtain ⟨g, c, rfl, hrow, hgB, _, _⟩ := row_of_owned HH.out.1 h1
      have hbw : Below w.heap.size w wr := w0b.out.trans (hb.mono (by omega))
      have SR := Lib.hid (fun wx (hx : Below wr.heap.size wr wx) => gStreamR_ok W H g 0 n c (colG r0 r1 G) wx HS.out (okG_col HO.out) (Nat.lt_of_lt_of_le hrow.1 hx.size) (hrow.grd.below hx hrow.1))
      have Cy := Lib.hid (show CellsIn wr (some ⟨a, 0, none⟩) n (pull W H 1 (colG r0 r1 G)) from by
        rcases Cx.out with h | ⟨b', o, e, l, hg⟩
        · exact .inl h
        · exact .inr ⟨b', o, e, by omega, hg.below hb (by omega)⟩)
      have Hbw := Lib.hid hbw
      have y0' := (hb.cell (p := ⟨wa.heap.size, 0, none⟩) (by first | omega | (simp; done) | (simp; omega))).trans y0
      have y1' := (hb.cell (p := ⟨wa.heap.size, 1, none⟩) (by first | omega | (simp; done) | (simp; omega))).trans y1
      have y2' := (hb.cell (p := ⟨wa.heap.size, 2, none⟩) (by first | omega | (simp; done) | (simp; omega))).trans y2
      clear hb hbw hrow t3
      go_wp2_with fail
      (go_at_call 15; (with_reducible refine (SR.out _ (by (repeat' (first | (with_reducible exact Below.refl _ _) | (with_reducible refine Below.setCell ?_ (by first | omega | (simp; done) | (simp; omega)) _) | (with_reducible refine Below.alloc ?_ (by first | omega | (simp; done) | (simp; omega)) _) | (with_reducible refine Below.drew ?_) | (with_reducible refine below_drewN ?_ _) | (with_reducible refine Below.trans ?_ (Below.mono (by assumption) (by first | omega | (simp; done) | (simp; omega)))))))).mono ?_); rintro e w5 ⟨d, cd, rfl, hrd, hld, hb⟩; have Cd := Lib.hid hrd; clear hrd; obtain ⟨hc, hf, hz⟩ := bcall hb; (try simp at hc hf hz hld))
      go_wp2_with (first | (go_at_call 16; (with_reducible refine (gSame_yes W H (some ⟨a, 0, none⟩) (some ⟨d, 0, none⟩) n ca cd _ _ _ (by omega) (Cy.out.below (by (repeat' (first | (with_reducible exact Below.refl _ _) | (with_reducible refine Below.setCell ?_ (by first | omega | (simp; done) | (simp; omega)) _) | (with_reducible refine Below.alloc ?_ (by first | omega | (simp; done) | (simp; omega)) _) | (with_reducible refine Below.drew ?_) | (with_reducible refine below_drewN ?_ _) | (with_reducible refine Below.trans ?_ (Below.mono (by assumption) (by first | omega | (simp; done) | (simp; omega)))))))) (Cd.out.cellsIn.below (by (repeat' (first | (with_reducible exact Below.refl _ _) | (with_reducible refine Below.setCell ?_ (by first | omega | (simp; done) | (simp; omega)) _) | (with_reducible refine Below.alloc ?_ (by first | omega | (simp; done) | (simp; omega)) _) | (with_reducible refine Below.drew ?_) | (with_reducible refine below_drewN ?_ _) | (with_reducible refine Below.trans ?_ (Below.mono (by assumption) (by first | omega | (simp; done) | (simp; omega)))))))) (EqG.refl _ _)).mono ?_); rintro e w1 ⟨rfl, hb⟩; obtain ⟨hc, hf, hz⟩ := bcall hb; (try simp at hc hf hz)) | (go_at_call 11; (with_reducible refine (awake5_any _).mono ?_); rintro e w1 ⟨rfl, hb⟩; obtain ⟨hc, hf, hz⟩ := bcall hb; (try simp at hc hf hz)))
      go_ret
      refine ⟨by simp, ?_⟩
      have hbw := Hbw.out
      (repeat' (first | (with_reducible exact Below.refl _ _) | (with_reducible refine Below.setCell ?_ (by first | omega | (simp; done) | (simp; omega)) _) | (with_reducible refine Below.alloc ?_ (by first | omega | (simp; done) | (simp; omega)) _) | (with_reducible refine Below.drew ?_) | (with_reducible refine below_drewN ?_ _) | (with_reducible refine Below.trans ?_ (Below.mono (by assumption) (by first | omega | (simp; done) | (simp; omega))))))

set_option maxRecDepth 100000 in
set_option maxHeartbeats 2000000 in
theorem topCells_inv (W H : Int) (ao : Option Addr) (n cap : Nat) (G : Nat → Nat → Int) (ro : Option Addr) (len rc : Nat) (R : Nat → Int × Int) (t : Int) (w : World) (hn : n ≤ 300) (hl : len ≤ 20) (hC : CellsIn w ao n G) (hR : RulesIn w ro len R) (hk : ¬ (VG W H n G ∧ OkRs len R)) :
    Calls Try.prog 4 #[.agg #[.int .i64 W, .int .i64 H, .slice (ao) n cap], .slice ro len rc, .int .i64 t] w fun e w' => e = .returned (.bool true) ∧ Below w.heap.size w w' := by
  have HC := Lib.hid hC; clear hC
  have HR := Lib.hid hR; clear hR
  have HK := Lib.hid hk; clear hk
  go_enter Try.func4, Try.ntmps4
  go_wp2_with (first | (go_at_call 12; (with_reducible refine (gStep_inv W H n cap ao G ro len rc R t _ (HC.out.below (by (repeat' (first | (with_reducible exact Below.refl _ _) | (with_reducible refine Below.setCell ?_ (by first | omega | (simp; done) | (simp; omega)) _) | (with_reducible refine Below.alloc ?_ (by first | omega | (simp; done) | (simp; omega)) _) | (with_reducible refine Below.drew ?_) | (with_reducible refine below_drewN ?_ _) | (with_reducible refine Below.trans ?_ (Below.mono (by assumption) (by first | omega | (simp; done) | (simp; omega)))))))) (by omega) (HR.out.below (by (repeat' (first | (with_reducible exact Below.refl _ _) | (with_reducible refine Below.setCell ?_ (by first | omega | (simp; done) | (simp; omega)) _) | (with_reducible refine Below.alloc ?_ (by first | omega | (simp; done) | (simp; omega)) _) | (with_reducible refine Below.drew ?_) | (with_reducible refine below_drewN ?_ _) | (with_reducible refine Below.trans ?_ (Below.mono (by assumption) (by first | omega | (simp; done) | (simp; omega)))))))) HK.out).mono ?_); rintro e w1 ⟨rfl, hb⟩; obtain ⟨hc, hf, hz⟩ := bcall hb; (try simp at hc hf hz)) | (go_at_call 11; (with_reducible refine (awake5_any _).mono ?_); rintro e w1 ⟨rfl, hb⟩; obtain ⟨hc, hf, hz⟩ := bcall hb; (try simp at hc hf hz)))
  go_ret
  refine ⟨rfl, ?_⟩
  (repeat' (first | (with_reducible exact Below.refl _ _) | (with_reducible refine Below.setCell ?_ (by first | omega | (simp; done) | (simp; omega)) _) | (with_reducible refine Below.alloc ?_ (by first | omega | (simp; done) | (simp; omega)) _) | (with_reducible refine Below.drew ?_) | (with_reducible refine below_drewN ?_ _) | (with_reducible refine Below.trans ?_ (Below.mono (by assumption) (by first | omega | (simp; done) | (simp; omega))))))

set_option maxRecDepth 100000 in
set_option maxHeartbeats 2000000 in
theorem topCells_range (W H : Int) (ao : Option Addr) (n cap : Nat) (G : Nat → Nat → Int) (ro : Option Addr) (len rc : Nat) (R : Nat → Int × Int) (t : Int) (w : World) (hn : n ≤ 300) (hl : len ≤ 20) (hC : CellsIn w ao n G) (hR : RulesIn w ro len R) (hv : VG W H n G) (hk : OkRs len R) (ht : ¬ (0 ≤ t ∧ t ≤ 1000000)) :
    Calls Try.prog 4 #[.agg #[.int .i64 W, .int .i64 H, .slice (ao) n cap], .slice ro len rc, .int .i64 t] w fun e w' => e = .returned (.bool true) ∧ Below w.heap.size w w' := by
  have HC := Lib.hid hC; clear hC
  have HR := Lib.hid hR; clear hR
  have HV := Lib.hid hv; clear hv
  have HK := Lib.hid hk; clear hk
  have HT := Lib.hid ht; clear ht
  go_enter Try.func4, Try.ntmps4
  go_wp2_with (first | (go_at_call 12; (with_reducible refine (gStep_range W H n cap ao G ro len rc R t _ HV.out (HC.out.below (by (repeat' (first | (with_reducible exact Below.refl _ _) | (with_reducible refine Below.setCell ?_ (by first | omega | (simp; done) | (simp; omega)) _) | (with_reducible refine Below.alloc ?_ (by first | omega | (simp; done) | (simp; omega)) _) | (with_reducible refine Below.drew ?_) | (with_reducible refine below_drewN ?_ _) | (with_reducible refine Below.trans ?_ (Below.mono (by assumption) (by first | omega | (simp; done) | (simp; omega)))))))) (by omega) (HR.out.below (by (repeat' (first | (with_reducible exact Below.refl _ _) | (with_reducible refine Below.setCell ?_ (by first | omega | (simp; done) | (simp; omega)) _) | (with_reducible refine Below.alloc ?_ (by first | omega | (simp; done) | (simp; omega)) _) | (with_reducible refine Below.drew ?_) | (with_reducible refine below_drewN ?_ _) | (with_reducible refine Below.trans ?_ (Below.mono (by assumption) (by first | omega | (simp; done) | (simp; omega)))))))) HK.out HT.out).mono ?_); rintro e w1 ⟨rfl, hb⟩; obtain ⟨hc, hf, hz⟩ := bcall hb; (try simp at hc hf hz)) | (go_at_call 11; (with_reducible refine (awake5_any _).mono ?_); rintro e w1 ⟨rfl, hb⟩; obtain ⟨hc, hf, hz⟩ := bcall hb; (try simp at hc hf hz)))
  go_ret
  refine ⟨rfl, ?_⟩
  (repeat' (first | (with_reducible exact Below.refl _ _) | (with_reducible refine Below.setCell ?_ (by first | omega | (simp; done) | (simp; omega)) _) | (with_reducible refine Below.alloc ?_ (by first | omega | (simp; done) | (simp; omega)) _) | (with_reducible refine Below.drew ?_) | (with_reducible refine below_drewN ?_ _) | (with_reducible refine Below.trans ?_ (Below.mono (by assumption) (by first | omega | (simp; done) | (simp; omega))))))

set_option maxRecDepth 100000 in
set_option maxHeartbeats 2000000 in
theorem topCells_big (W H : Int) (ao : Option Addr) (n cap : Nat) (ro : Option Addr) (len rc : Nat) (t : Int) (w : World) (hn : n ≤ 9223372036854775807) (hl : len ≤ 9223372036854775807) (h : ¬ (n ≤ 300 ∧ len ≤ 20)) :
    Calls Try.prog 4 #[.agg #[.int .i64 W, .int .i64 H, .slice (ao) n cap], .slice ro len rc, .int .i64 t] w fun e w' => e = .returned (.bool true) ∧ Below w.heap.size w w' := by
  by_cases h1 : n ≤ 300
  · have h2 : 20 < len := by omega
    clear h
    go_enter Try.func4, Try.ntmps4
    go_wp2_with (go_at_call 11; (with_reducible refine (awake5_any _).mono ?_); rintro e w1 ⟨rfl, hb⟩; obtain ⟨hc, hf, hz⟩ := bcall hb; (try simp at hc hf hz))
    go_ret
    refine ⟨rfl, ?_⟩
    (repeat' (first | (with_reducible exact Below.refl _ _) | (with_reducible refine Below.setCell ?_ (by first | omega | (simp; done) | (simp; omega)) _) | (with_reducible refine Below.alloc ?_ (by first | omega | (simp; done) | (simp; omega)) _) | (with_reducible refine Below.drew ?_) | (with_reducible refine below_drewN ?_ _) | (with_reducible refine Below.trans ?_ (Below.mono (by assumption) (by first | omega | (simp; done) | (simp; omega))))))
  · clear h
    go_enter Try.func4, Try.ntmps4
    go_wp2_with (go_at_call 11; (with_reducible refine (awake5_any _).mono ?_); rintro e w1 ⟨rfl, hb⟩; obtain ⟨hc, hf, hz⟩ := bcall hb; (try simp at hc hf hz))
    go_ret
    refine ⟨rfl, ?_⟩
    (repeat' (first | (with_reducible exact Below.refl _ _) | (with_reducible refine Below.setCell ?_ (by first | omega | (simp; done) | (simp; omega)) _) | (with_reducible refine Below.alloc ?_ (by first | omega | (simp; done) | (simp; omega)) _) | (with_reducible refine Below.drew ?_) | (with_reducible refine below_drewN ?_ _) | (with_reducible refine Below.trans ?_ (Below.mono (by assumption) (by first | omega | (simp; done) | (simp; omega))))))

theorem topCells_row (W H : Int) (ao : Option Addr) (n cap : Nat) (G : Nat → Nat → Int) (ro : Option Addr) (len rc : Nat) (R : Nat → Int × Int) (t : Int) (w : World) (_ : Wf W) (_ : Wf H) (hn : n ≤ cap) (hm : cap ≤ maxLen) (hC : CellsIn w ao n G) (hl : len ≤ rc) (hm' : rc ≤ maxLen) (hR : RulesIn w ro len R) (_ : Wf t) :
    Calls Try.prog 4 #[.agg #[.int .i64 W, .int .i64 H, .slice (ao) n cap], .slice ro len rc, .int .i64 t] w fun e w' => e = .returned (.bool true) ∧ Below w.heap.size w w' := by
  unfold maxLen at hm hm'
  by_cases hs : n ≤ 300 ∧ len ≤ 20
  · by_cases hk : VG W H n G ∧ OkRs len R
    · obtain ⟨hv, hk⟩ := hk
      by_cases ht : 0 ≤ t ∧ t ≤ 1000000
      · obtain ⟨W', H', rfl, rfl, s, hG⟩ := Sides.vg hv
        obtain ⟨t', rfl⟩ := Int.eq_ofNat_of_zero_le ht.1
        exact topCells_ok W' H' n cap ao G ro len rc R t' w s hG hC hR hk (by omega) hs.1
      · exact topCells_range W H ao n cap G ro len rc R t w hs.1 hs.2 hC hR hv hk ht
    · exact topCells_inv W H ao n cap G ro len rc R t w hs.1 hs.2 hC hR hk
  · exact topCells_big W H ao n cap ro len rc t w (by omega) (by omega) hs
end Go.Proofs.Ytmkhbkkhoemkoaa
