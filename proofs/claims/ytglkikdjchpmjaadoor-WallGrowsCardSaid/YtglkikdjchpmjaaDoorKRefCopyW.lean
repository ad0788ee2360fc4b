/- A shape put into a wall: by the reference (the copy's contract is a premise). -/
import Derived.Test.YtglkikdjchpmjaaDoorKRefShapes
import Derived.Deep.RegionHeld3
import Derived.Deep.RegionLawGrows
namespace Go.Proofs.YtglkikdjchpmjaaDoor
set_option linter.unusedSimpArgs false
set_option linter.unusedVariables false
open Go.RowKit
attribute [local go_sem] Oper.semAt_some

/-- What putting in gives. -/
def PutR (n : Nat) (S K B : Nat → Int) (b : Int) (w : World) (e : Ending) (w' : World) : Prop :=
  (freeS S B b n ∧ ∃ bk bb ck cb : Nat, e = .returned (.tuple #[.agg #[.slice (some ⟨bk, 0, none⟩) n ck, .slice (some ⟨bb, 0, none⟩) n cb], .int .i64 0]) ∧ Hid (RowI w' bk n (putK S K n) ∧ RowI w' bb n (putB S B b n) ∧ bk ≠ bb) ∧ w.heap.size ≤ bk ∧ w.heap.size ≤ bb ∧ Below w.heap.size w w') ∨
  (¬ freeS S B b n ∧ e = .returned (.tuple #[.agg #[.slice (none) 0 0, .slice (none) 0 0], .int .i64 11]) ∧ Below w.heap.size w w')

/-- While a shape is put in. -/
def PutL (w : World) (P gK cK gB cB n : Nat) (S K B : Nat → Int) (b : Int) (k : Nat) (wr : World) : Prop :=
  Two wr P 27 (.slice (some ⟨gK, 0, none⟩) n cK) (.slice (some ⟨gB, 0, none⟩) n cB) ∧ Two wr (P + 1) 27 (.slice none 0 0) (.slice none 0 0) ∧ RowI wr gK n (putK S K k) ∧ RowI wr gB n (putB S B b k) ∧ freeS S B b k ∧ Below w.heap.size w wr ∧ w.heap.size + 2 ≤ wr.heap.size

theorem RowI.setOther {w : World} {b n g i : Nat} {K : Nat → Int} {v : Value} (h : RowI w b n K) (hne : g ≠ b) : RowI (w.setCell ⟨g, i, none⟩ v) b n K := by
  have x : Ex (fun k => k = g) w (w.setCell ⟨g, i, none⟩ v) := by
    refine Ex.setCell (Ex.refl _ w) ?_ _
    rfl
  exact h.ex x (by omega)
theorem RowI.setHere {w : World} {b n k : Nat} {K K' : Nat → Int} {x : Int} (h : RowI w b n K) (hk : k < n) (h' : ∀ i, K' i = if i = k then x else K i) : RowI (w.setCell ⟨b, k, none⟩ (.int .i64 x)) b n K' := by
  refine ⟨by simpa using h.1, fun j hj => ⟨?_, ?_⟩⟩
  · have := set_cell w b k b j (.int .i64 x)
    rw [this, if_pos rfl, h' j]
    by_cases e : j = k
    · subst e
      rw [if_pos rfl, if_pos rfl, (h.2 j hj).1]
      rfl
    · rw [if_neg (Ne.symm e), if_neg e]
      exact (h.2 j hj).1
  · have := (h.2 j hj).2
    simpa using this

theorem Two.drew {w : World} {B : Nat} {t : TypeId} {x y : Value} (h : Two w B t x y) : Two w.drew B t x y := h
theorem RowI.drew {w : World} {b n : Nat} {K : Nat → Int} (h : RowI w b n K) : RowI w.drew b n K := h
theorem putL_step {w wr : World} {P gK cK gB cB n k : Nat} {S K B : Nat → Int} {b x : Int} (h : PutL w P gK cK gB cB n S K B b k wr) (hk : k < n) (hs : S k ≠ 0) (hx : x = S k) (hf : B k = 0 ∨ B k = b) (n1 : gK ≠ gB) (hP : P + 1 < gK) (hP' : P + 1 < gB) (hw : w.heap.size ≤ P) :
    PutL w P gK cK gB cB n S K B b (k + 1) (((wr.setCell ⟨gK, k, none⟩ (.int .i64 x)).setCell ⟨gB, k, none⟩ (.int .i64 b)).drew) := by
  obtain ⟨t0, t1, rK, rB, fr, hb, hz⟩ := h
  subst hx
  refine ⟨((t0.other (by omega) _ _).other (by omega) _ _).drew, ((t1.other (by omega) _ _).other (by omega) _ _).drew, ?_, ?_, freeS_step fr (fun _ => hf), ?_, by simpa [World.drew] using hz⟩
  · exact ((rK.setHere hk (fun i => putK_step hs)).setOther (Ne.symm n1)).drew
  · exact ((rB.setOther n1).setHere hk (fun i => putB_step hs)).drew
  · exact ((hb.setCell (p := ⟨gK, k, none⟩) (by simp; omega) _).setCell (by simp; omega) _).drew

set_option maxRecDepth 100000 in
set_option maxHeartbeats 4000000 in
theorem rput_any (n bs os cs : Nat) (S : Nat → Int) (bk ok ck : Nat) (K : Nat → Int) (bb ob cb : Nat) (B : Nat → Int) (b : Int) (w : World) (h1 : 1 ≤ n) (h2 : n ≤ 100000) (LS : bs < w.heap.size) (LK : bk < w.heap.size) (LB : bb < w.heap.size) (hS : NumsAt w bs os n S)
    (C : ∀ wx, Below w.heap.size w wx → Calls Tryd.prog 149 #[.agg #[.slice (some ⟨bk, ok, none⟩) n ck, .slice (some ⟨bb, ob, none⟩) n cb]] wx (OwnW n K B wx)) :
    Calls Tryd.prog 80 #[.agg #[.slice (some ⟨bk, ok, none⟩) n ck, .slice (some ⟨bb, ob, none⟩) n cb], .slice (some ⟨bs, os, none⟩) n cs, .int .i64 b] w (PutR n S K B b w) := by
  have CC := Lib.hid C; clear C
  have HS := Lib.hid hS; clear hS
  go_enter Tryd.func80, Tryd.ntmps80
  go_wp2_with (go_at_call 149; (with_reducible refine (CC.out _ (by (repeat' (first | (with_reducible exact Below.refl _ _) | (with_reducible refine Below.setCell ?_ (by first | omega | (simp; done) | (simp; omega)) _) | (with_reducible refine Below.alloc ?_ (by first | omega | (simp; done) | (simp; omega)) _) | (with_reducible refine Below.drew ?_) | (with_reducible refine below_drewN ?_ _) | (with_reducible refine Below.trans ?_ (Below.mono (by assumption) (by first | omega | (simp; done) | (simp; omega)))))))).mono ?_); rintro e wc ⟨gK, gB, cK, cB, rfl, HO, loK, loB, hbc⟩; obtain ⟨hcc, hfc, hzc⟩ := bcall hbc; (try simp at hcc hfc hzc loK loB))
  go_loopw [8] (fun i wr => ∃ k : Nat, k ≤ n ∧ i = .int .i64 k ∧ Hid (PutL w w.heap.size gK cK gB cB n S K B b k wr)) (fun i _ => n - (intOf i).toNat)
  case atStart =>
    refine ⟨0, Nat.zero_le _, rfl, Lib.hid ⟨?_, ?_, ?_, ?_, fun i hi => by omega, ?_, by simp; omega⟩⟩
    · exact (((Two.new w 27 _ _).alloc _).below hbc (by simp; omega)).set2 _ _
    · refine Two.other (Two.other ?_ (by omega) _ _) (by omega) _ _
      have := (Two.new (w.alloc (.cells #[.slice (some ⟨bk, ok, none⟩) n ck, .slice (some ⟨bb, ob, none⟩) n cb] 27)) 27 (.slice none 0 0) (.slice none 0 0)).below hbc (by simp)
      rw [World.size_alloc] at this
      exact this
    · rw [putK_zero]; exact HO.out.1.two (by omega)
    · rw [putB_zero]; exact HO.out.2.1.two (by omega)
    · (repeat' (first | (with_reducible exact Below.refl _ _) | (with_reducible refine Below.setCell ?_ (by first | omega | (simp; done) | (simp; omega)) _) | (with_reducible refine Below.alloc ?_ (by first | omega | (simp; done) | (simp; omega)) _) | (with_reducible refine Below.drew ?_) | (with_reducible refine below_drewN ?_ _) | (with_reducible refine Below.trans ?_ (Below.mono (by assumption) (by first | omega | (simp; done) | (simp; omega))))))
  case round =>
    obtain ⟨k, hk, rfl, HH⟩ := hrel
    have tP := HH.out.1
    have p0 := tP.c0
    have p1 := tP.c1
    have tR := HH.out.2.1
    have r0 := tR.c0
    have r1 := tR.c1
    have g0 := tR.f0 0
    have g1 := tR.f0 1
    clear tR
    have hbw := HH.out.2.2.2.2.2.1
    by_cases hlk : k < n
    · have cS := HS.out.get hbw LS hlk
      have cB' := (HH.out.2.2.2.1.2 k hlk).1
      rw [putB_here] at cB'
      have fB := (HH.out.2.2.2.1.2 k hlk).2
      have cK' := (HH.out.2.2.1.2 k hlk).1
      have fK := (HH.out.2.2.1.2 k hlk).2
      have q0 : (0 : Int) ≤ (k : Int) := by omega
      have q1 : (k : Int) < (n : Int) := by omega
      clear tP
      obtain ⟨x, hx⟩ : ∃ x, x = S k := ⟨_, rfl⟩
      obtain ⟨y, hy⟩ : ∃ y, y = B k := ⟨_, rfl⟩
      rw [← hx] at cS
      rw [← hy] at cB'
      by_cases hs : x = 0
      · subst hs
        have HX := Lib.hid hx.symm
        clear hx hy
        go_wp2
        go_roundw
        case rel => exact ⟨k + 1, by omega, by go_num, Lib.hid ⟨HH.out.1, HH.out.2.1, by rw [putK_skip HX.out]; exact HH.out.2.2.1, by rw [putB_skip HX.out]; exact HH.out.2.2.2.1, freeS_step HH.out.2.2.2.2.1 (fun h => absurd HX.out h), hbw, HH.out.2.2.2.2.2.2⟩⟩
        case measure => simp [intOf]; omega
      · have e0 : (x == 0) = false := beq_eq_false_iff_ne.2 hs
        have HX := Lib.hid (show S k ≠ 0 from by rw [← hx]; exact hs)
        by_cases hf : y = 0 ∨ y = b
        · have HY := Lib.hid (show B k = 0 ∨ B k = b from by rw [← hy]; exact hf)
          have HXE := Lib.hid hx
          have hP := HH.out.2.2.2.2.2.2
          have l0 := HH.out.1.lt
          have n1 : gK ≠ gB := HO.out.2.2
          have n2 : gB ≠ gK := Ne.symm n1
          have n3 : gK ≠ w.heap.size := by omega
          have n4 : gB ≠ w.heap.size := by omega
          have n5 : bs ≠ gK := by omega
          have n6 : bs ≠ gB := by omega
          clear hx hy hs
          rcases hf with rfl | rfl
          · go_wp2
            go_region_held3 (fun w' => w'.cell? ⟨w.heap.size, 0, none⟩ = some (.slice (some ⟨gK, 0, none⟩) n cK) ∧ w'.cell? ⟨w.heap.size, 1, none⟩ = some (.slice (some ⟨gB, 0, none⟩) n cB) ∧ w'.cell? ⟨bs, os + k, none⟩ = some (.int .i64 x)) (first | (go_split_ands; (try dsimp only); refine ⟨?_, ?_, ?_⟩ <;> (first | (with_reducible assumption) | (with_reducible exact keep_cell (by assumption) (by first | omega | (simp; done) | (simp; omega)) (by assumption)) | (with_reducible exact (World.cell?_alloc_past _ _ _ (by show _ < _; omega)).trans (by assumption)) | (with_reducible exact (World.cell?_alloc_past _ _ _ (by show _ < _; omega)).trans ((World.cell?_alloc_past _ _ _ (by show _ < _; omega)).symm.trans (by assumption))) | (simp [go_sem]; with_reducible assumption))) | (simp [go_sem, ↓IntWalk.iteOmega, *]; done)) (fail)
            go_wp2
            go_roundw
            case rel => exact ⟨k + 1, by omega, by go_num, Lib.hid (putL_step HH.out hlk HX.out HXE.out HY.out n1 (by omega) (by omega) (Nat.le_refl _))⟩
            case measure => simp [intOf]; omega
          · have e1 : (y == 0) = true ∨ (y == 0) = false := by cases (y == 0) <;> simp
            rcases e1 with e1 | e1
            · obtain rfl : y = 0 := by simpa using e1
              go_wp2
              go_region_held3 (fun w' => w'.cell? ⟨w.heap.size, 0, none⟩ = some (.slice (some ⟨gK, 0, none⟩) n cK) ∧ w'.cell? ⟨w.heap.size, 1, none⟩ = some (.slice (some ⟨gB, 0, none⟩) n cB) ∧ w'.cell? ⟨bs, os + k, none⟩ = some (.int .i64 x)) (first | (go_split_ands; (try dsimp only); refine ⟨?_, ?_, ?_⟩ <;> (first | (with_reducible assumption) | (with_reducible exact keep_cell (by assumption) (by first | omega | (simp; done) | (simp; omega)) (by assumption)) | (with_reducible exact (World.cell?_alloc_past _ _ _ (by show _ < _; omega)).trans (by assumption)) | (with_reducible exact (World.cell?_alloc_past _ _ _ (by show _ < _; omega)).trans ((World.cell?_alloc_past _ _ _ (by show _ < _; omega)).symm.trans (by assumption))) | (simp [go_sem]; with_reducible assumption))) | (simp [go_sem, ↓IntWalk.iteOmega, *]; done)) (fail)
              go_wp2
              go_roundw
              case rel => exact ⟨k + 1, by omega, by go_num, Lib.hid (putL_step HH.out hlk HX.out HXE.out HY.out n1 (by omega) (by omega) (Nat.le_refl _))⟩
              case measure => simp [intOf]; omega
            · have e3 : (y != 0) = true := by simp [bne, e1]
              go_wp2
              go_region_held3 (fun w' => w'.cell? ⟨w.heap.size, 0, none⟩ = some (.slice (some ⟨gK, 0, none⟩) n cK) ∧ w'.cell? ⟨w.heap.size, 1, none⟩ = some (.slice (some ⟨gB, 0, none⟩) n cB) ∧ w'.cell? ⟨bs, os + k, none⟩ = some (.int .i64 x)) (first | (go_split_ands; (try dsimp only); refine ⟨?_, ?_, ?_⟩ <;> (first | (with_reducible assumption) | (with_reducible exact keep_cell (by assumption) (by first | omega | (simp; done) | (simp; omega)) (by assumption)) | (with_reducible exact (World.cell?_alloc_past _ _ _ (by show _ < _; omega)).trans (by assumption)) | (with_reducible exact (World.cell?_alloc_past _ _ _ (by show _ < _; omega)).trans ((World.cell?_alloc_past _ _ _ (by show _ < _; omega)).symm.trans (by assumption))) | (simp [go_sem]; with_reducible assumption))) | (simp [go_sem, ↓IntWalk.iteOmega, *]; done)) (fail)
              go_wp2
              go_roundw
              case rel => exact ⟨k + 1, by omega, by go_num, Lib.hid (putL_step HH.out hlk HX.out HXE.out HY.out n1 (by omega) (by omega) (Nat.le_refl _))⟩
              case measure => simp [intOf]; omega
        · have e1 : (y == 0) = false := beq_eq_false_iff_ne.2 (by omega)
          have e2 : (y == b) = false := beq_eq_false_iff_ne.2 (by omega)
          have HY := Lib.hid (show ¬ (B k = 0 ∨ B k = b) from by rw [← hy]; exact hf)
          have y0 : y ≠ 0 := by omega
          have y1 : y ≠ b := by omega
          have e3 : (y != 0) = true := by simp [bne, e1]
          have e4 : (y != b) = true := by simp [bne, e2]
          have hP := HH.out.2.2.2.2.2.2
          clear hx hy hs hf
          go_wp2
          refine bodyPost_ret (v := .tuple #[.agg #[.slice (none) 0 0, .slice (none) 0 0], .int .i64 11]) (by simp [results, Tryd.results80, go_sem, ↓IntWalk.iteOmega, *]) rfl ?_
          refine Or.inr ⟨fun h => HY.out (h k hlk HX.out), rfl, ?_⟩
          (repeat' (first | (with_reducible exact Below.refl _ _) | (with_reducible refine Below.setCell ?_ (by first | omega | (simp; done) | (simp; omega)) _) | (with_reducible refine Below.alloc ?_ (by first | omega | (simp; done) | (simp; omega)) _) | (with_reducible refine Below.drew ?_) | (with_reducible refine below_drewN ?_ _) | (with_reducible refine Below.trans ?_ (Below.mono (by assumption) (by first | omega | (simp; done) | (simp; omega))))))
    · obtain rfl : n = k := by omega
      go_wp2
      refine bodyPost_ret (v := .tuple #[.agg #[.slice (some ⟨gK, 0, none⟩) n cK, .slice (some ⟨gB, 0, none⟩) n cB], .int .i64 0]) (by simp [results, Tryd.results80, go_sem, ↓IntWalk.iteOmega, *]) rfl ?_
      refine Or.inl ⟨HH.out.2.2.2.2.1, gK, gB, cK, cB, rfl, Lib.hid ⟨RowI.two HH.out.2.2.1 (by omega), RowI.two HH.out.2.2.2.1 (by omega), HO.out.2.2⟩, by omega, by omega, ?_⟩
      (repeat' (first | (with_reducible exact Below.refl _ _) | (with_reducible refine Below.setCell ?_ (by first | omega | (simp; done) | (simp; omega)) _) | (with_reducible refine Below.alloc ?_ (by first | omega | (simp; done) | (simp; omega)) _) | (with_reducible refine Below.drew ?_) | (with_reducible refine below_drewN ?_ _) | (with_reducible refine Below.trans ?_ (Below.mono (by assumption) (by first | omega | (simp; done) | (simp; omega))))))
end Go.Proofs.YtglkikdjchpmjaaDoor

/- A wall in new memory: by the reference. -/



namespace Go.Proofs.YtglkikdjchpmjaaDoor
set_option linter.unusedSimpArgs false
set_option linter.unusedVariables false
open Go.RowKit

set_option maxRecDepth 100000 in
set_option maxHeartbeats 4000000 in
theorem rwCopy_any (n bk ok ck : Nat) (K : Nat → Int) (bb ob cb : Nat) (B : Nat → Int) (w : World) (h1 : 1 ≤ n) (h2 : n ≤ 100000) (LK : bk < w.heap.size) (LB : bb < w.heap.size) (hK : NumsAt w bk ok n K) (hB : NumsAt w bb ob n B) :
    Calls Tryd.prog 149 #[.agg #[.slice (some ⟨bk, ok, none⟩) n ck, .slice (some ⟨bb, ob, none⟩) n cb]] w (OwnW n K B w) := by
  obtain ⟨i0, hi, hz0, hz1, hz2⟩ := info_parts info_int3
  have HK := Lib.hid (fun w' (hb : Below w.heap.size w w') => numsL_at (hK.below hb LK))
  have HB := Lib.hid (fun w' (hb : Below w.heap.size w w') => numsL_at (hB.below hb LB))
  clear hK hB
  go_enter Tryd.func149, Tryd.ntmps149
  go_wp2
  go_region_held3 (fun w' => w'.cell? ⟨w.heap.size, 0, none⟩ = some (.slice (some ⟨bk, ok, none⟩) n ck) ∧ w'.cell? ⟨w.heap.size, 1, none⟩ = some (.slice (some ⟨bb, ob, none⟩) n cb)) (first | (go_split_ands; (try dsimp only); refine ⟨?_, ?_⟩ <;> (first | (with_reducible assumption) | (with_reducible exact keep_cell (by assumption) (by first | omega | (simp; done) | (simp; omega)) (by assumption)) | (with_reducible exact (World.cell?_alloc_past _ _ _ (by show _ < _; omega)).trans (by assumption)) | (with_reducible exact (World.cell?_alloc_past _ _ _ (by show _ < _; omega)).trans ((World.cell?_alloc_past _ _ _ (by show _ < _; omega)).symm.trans (by assumption))) | (simp [go_sem]; with_reducible assumption))) | (simp [go_sem, ↓IntWalk.iteOmega, *]; done)) (first | (refine step_append_grows (by rfl) _ _ _ (by rfl) 3 i0 (.int .i64 0) 1 8 Tryd.underlying25 hi hz0 hz1 hz2 rfl (by omega) _ 0 0 [] rfl (by simp) rfl (by simp) ⟨bk, ok, none⟩ n ck (numsL K n) (by rfl) (by rw [numsL_length, Nat.mul_one]) (HK.out _ (by (repeat' (first | (with_reducible exact Below.refl _ _) | (with_reducible refine Below.setCell ?_ (by first | omega | (simp; done) | (simp; omega)) _) | (with_reducible refine Below.alloc ?_ (by first | omega | (simp; done) | (simp; omega)) _) | (with_reducible refine Below.drew ?_) | (with_reducible refine below_drewN ?_ _) | (with_reducible refine Below.trans ?_ (Below.mono (by assumption) (by first | omega | (simp; done) | (simp; omega)))))))) (numsL_one K n) (by omega) (by unfold maxLen; omega) (by omega) ?_; intro vK wK hownK hgrowK; rw [Nat.zero_add, List.nil_append] at hownK; obtain ⟨gK, cK, rfl, hrK, loK, uK, mK⟩ := rowI_of_owned hownK h1; have CK := Lib.hid hrK; clear hrK; have hbK := (Below.refl _ _).grown hgrowK (Nat.le_refl _) (by simp); clear hownK; obtain ⟨hcK, hfK, hzK⟩ := bcall hbK; (try simp at hcK hfK hzK loK)) | (refine step_append_grows (by rfl) _ _ _ (by rfl) 3 i0 (.int .i64 0) 1 8 Tryd.underlying25 hi hz0 hz1 hz2 rfl (by omega) _ 0 0 [] rfl (by simp) rfl (by simp) ⟨bb, ob, none⟩ n cb (numsL B n) (by rfl) (by rw [numsL_length, Nat.mul_one]) (HB.out _ (by (repeat' (first | (with_reducible exact Below.refl _ _) | (with_reducible refine Below.setCell ?_ (by first | omega | (simp; done) | (simp; omega)) _) | (with_reducible refine Below.alloc ?_ (by first | omega | (simp; done) | (simp; omega)) _) | (with_reducible refine Below.drew ?_) | (with_reducible refine below_drewN ?_ _) | (with_reducible refine Below.trans ?_ (Below.mono (by assumption) (by first | omega | (simp; done) | (simp; omega)))))))) (numsL_one B n) (by omega) (by unfold maxLen; omega) (by omega) ?_; intro vB wB hownB hgrowB; rw [Nat.zero_add, List.nil_append] at hownB; obtain ⟨gB, cB, rfl, hrB, loB, uB, mB⟩ := rowI_of_owned hownB h1; have CB := Lib.hid hrB; clear hrB; have hbB := (Below.refl _ _).grown hgrowB (Nat.le_refl _) (by simp); clear hownB; obtain ⟨hcB, hfB, hzB⟩ := bcall hbB; (try simp at hcB hfB hzB loB)))
  all_goals
    rename_i hX
    clear hX
    go_wp2
    refine bodyPost_ret (v := .agg #[.slice (some ⟨gK, 0, none⟩) n cK, .slice (some ⟨gB, 0, none⟩) n cB]) (by simp [results, Tryd.results149, go_sem, ↓IntWalk.iteOmega, *]) rfl ?_
    have lK := CK.out.1
    have lB := CB.out.1
    refine ⟨gK, gB, cK, cB, rfl, ?_, by omega, by omega, ?_⟩
    · first
      | exact Lib.hid ⟨RowI.two (CK.out.below (show Below wK.heap.size wK wB from by (repeat' (first | (with_reducible exact Below.refl _ _) | (with_reducible refine Below.setCell ?_ (by first | omega | (simp; done) | (simp; omega)) _) | (with_reducible refine Below.alloc ?_ (by first | omega | (simp; done) | (simp; omega)) _) | (with_reducible refine Below.drew ?_) | (with_reducible refine below_drewN ?_ _) | (with_reducible refine Below.trans ?_ (Below.mono (by assumption) (by first | omega | (simp; done) | (simp; omega))))))) lK) (by omega), RowI.two CB.out (by omega), by omega⟩
      | exact Lib.hid ⟨RowI.two CK.out (by omega), RowI.two (CB.out.below (show Below wB.heap.size wB wK from by (repeat' (first | (with_reducible exact Below.refl _ _) | (with_reducible refine Below.setCell ?_ (by first | omega | (simp; done) | (simp; omega)) _) | (with_reducible refine Below.alloc ?_ (by first | omega | (simp; done) | (simp; omega)) _) | (with_reducible refine Below.drew ?_) | (with_reducible refine below_drewN ?_ _) | (with_reducible refine Below.trans ?_ (Below.mono (by assumption) (by first | omega | (simp; done) | (simp; omega))))))) lB) (by omega), by omega⟩
    · (repeat' (first | (with_reducible exact Below.refl _ _) | (with_reducible refine Below.setCell ?_ (by first | omega | (simp; done) | (simp; omega)) _) | (with_reducible refine Below.alloc ?_ (by first | omega | (simp; done) | (simp; omega)) _) | (with_reducible refine Below.drew ?_) | (with_reducible refine below_drewN ?_ _) | (with_reducible refine Below.trans ?_ (Below.mono (by assumption) (by first | omega | (simp; done) | (simp; omega))))))
end Go.Proofs.YtglkikdjchpmjaaDoor
