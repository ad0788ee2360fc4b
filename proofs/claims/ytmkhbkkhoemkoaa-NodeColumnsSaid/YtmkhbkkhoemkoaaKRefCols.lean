/- Columns of nodes: by the reference. -/
import Derived.Test.YtmkhbkkhoemkoaaKCols
import Derived.Test.YtmkhbkkhoemkoaaKChartD
import Derived.Test.YtmkhbkkhoemkoaaKRefG4
import Derived.Test.YtmkhbkkhoemkoaaKDiff
import Derived.StillTactics
namespace Go.Proofs.Ytmkhbkkhoemkoaa
set_option linter.unusedSimpArgs false
set_option linter.unusedVariables false
open Go.RowKit
attribute [local go_sem] Oper.semAt_some
attribute [local irreducible] wpStill

theorem within5_yes (n lo hi : Int) (w : World) (h1 : lo ≤ n) (h2 : n ≤ hi) :
    Calls Try.prog 22 #[.int .i64 n, .int .i64 lo, .int .i64 hi] w fun e w' => e = .returned (.bool true) ∧ w = w' := by
  go_enter Try.func22, Try.ntmps22
  go_wp2
  go_ret
  exact ⟨rfl, rfl⟩
theorem within5_no (n lo hi : Int) (w : World) (h : n < lo ∨ hi < n) :
    Calls Try.prog 22 #[.int .i64 n, .int .i64 lo, .int .i64 hi] w fun e w' => e = .returned (.bool false) ∧ w = w' := by
  by_cases h1 : lo ≤ n
  · have h2 : ¬ n ≤ hi := by omega
    clear h
    go_enter Try.func22, Try.ntmps22
    go_wp2
    go_ret
    exact ⟨rfl, rfl⟩
  · clear h
    go_enter Try.func22, Try.ntmps22
    go_wp2
    go_ret
    exact ⟨rfl, rfl⟩

set_option maxRecDepth 100000 in
set_option maxHeartbeats 4000000 in
theorem rcolumns_bad (W H : Int) (n cap : Nat) (ao : Option Addr) (G : Nat → Nat → Int) (zo : Option Addr) (m zc : Nat) (w : World) (hv : ¬ VG W H n G) (hC : CellsIn w ao n G) :
    Calls Try.prog 8 #[.agg #[.int .i64 W, .int .i64 H, .slice (ao) n cap], .slice zo m zc] w fun e w' => e = .returned (.tuple #[.slice none 0 0, .int .i64 1]) ∧ Below w.heap.size w w' := by
  have HV := Lib.hid hv; clear hv
  have HC := Lib.hid hC; clear hC
  go_enter Try.func8, Try.ntmps8
  go_wp2_with (go_at_call 21; (with_reducible refine (rValid_bad W H ao n cap G _ HV.out (HC.out.below (by (repeat' (first | (with_reducible exact Below.refl _ _) | (with_reducible refine Below.setCell ?_ (by first | omega | (simp; done) | (simp; omega)) _) | (with_reducible refine Below.alloc ?_ (by first | omega | (simp; done) | (simp; omega)) _) | (with_reducible refine Below.drew ?_) | (with_reducible refine below_drewN ?_ _) | (with_reducible refine Below.trans ?_ (Below.mono (by assumption) (by first | omega | (simp; done) | (simp; omega))))))))).mono ?_); rintro e w1 ⟨rfl, hb⟩; obtain ⟨hc, hf, hz⟩ := bcall hb; (try simp at hc hf hz))
  go_ret2
  refine ⟨rfl, ?_⟩
  (repeat' (first | (with_reducible exact Below.refl _ _) | (with_reducible refine Below.setCell ?_ (by first | omega | (simp; done) | (simp; omega)) _) | (with_reducible refine Below.alloc ?_ (by first | omega | (simp; done) | (simp; omega)) _) | (with_reducible refine Below.drew ?_) | (with_reducible refine below_drewN ?_ _) | (with_reducible refine Below.trans ?_ (Below.mono (by assumption) (by first | omega | (simp; done) | (simp; omega))))))
set_option maxRecDepth 100000 in
set_option maxHeartbeats 4000000 in
theorem rcolumns_many (W H : Int) (n cap : Nat) (ao : Option Addr) (G : Nat → Nat → Int) (zo : Option Addr) (m zc : Nat) (w : World) (hv : VG W H n G) (hC : CellsIn w ao n G) (hm : 7 < m) (hm1 : m ≤ 9223372036854775807) :
    Calls Try.prog 8 #[.agg #[.int .i64 W, .int .i64 H, .slice (ao) n cap], .slice zo m zc] w fun e w' => e = .returned (.tuple #[.slice none 0 0, .int .i64 7]) ∧ Below w.heap.size w w' := by
  have HV := Lib.hid hv; clear hv
  have HC := Lib.hid hC; clear hC
  go_enter Try.func8, Try.ntmps8
  go_wp2_with (go_at_call 21; (with_reducible refine (rValid_ok W H ao n cap G _ HV.out (HC.out.below (by (repeat' (first | (with_reducible exact Below.refl _ _) | (with_reducible refine Below.setCell ?_ (by first | omega | (simp; done) | (simp; omega)) _) | (with_reducible refine Below.alloc ?_ (by first | omega | (simp; done) | (simp; omega)) _) | (with_reducible refine Below.drew ?_) | (with_reducible refine below_drewN ?_ _) | (with_reducible refine Below.trans ?_ (Below.mono (by assumption) (by first | omega | (simp; done) | (simp; omega))))))))).mono ?_); rintro e w1 ⟨rfl, hb⟩; obtain ⟨hc, hf, hz⟩ := bcall hb; (try simp at hc hf hz))
  go_ret2
  refine ⟨rfl, ?_⟩
  (repeat' (first | (with_reducible exact Below.refl _ _) | (with_reducible refine Below.setCell ?_ (by first | omega | (simp; done) | (simp; omega)) _) | (with_reducible refine Below.alloc ?_ (by first | omega | (simp; done) | (simp; omega)) _) | (with_reducible refine Below.drew ?_) | (with_reducible refine below_drewN ?_ _) | (with_reducible refine Below.trans ?_ (Below.mono (by assumption) (by first | omega | (simp; done) | (simp; omega))))))

/-- The owners of the first i cells. -/
def colsL (Z : Nat → Int) (W : Int) (m : Nat) : Nat → List Nat
  | 0 => []
  | i + 1 => colsL Z W m i ++ [colN Z ((i : Int) % W) m]
theorem colsL_len (Z : Nat → Int) (W : Int) (m i : Nat) : (colsL Z W m i).length = i := by
  induction i with
  | zero => rfl
  | succ i ih => simp [colsL, ih]
theorem colsL_get (Z : Nat → Int) (W : Int) (m i j : Nat) (h : j < i) : (colsL Z W m i).getD j 0 = colN Z ((j : Int) % W) m := by
  induction i with
  | zero => omega
  | succ i ih =>
    simp only [colsL, List.getD_eq_getElem?_getD]
    by_cases e : j < i
    · rw [List.getElem?_append_left (by rw [colsL_len]; exact e), ← List.getD_eq_getElem?_getD]
      exact ih e
    · obtain rfl : j = i := by omega
      rw [List.getElem?_append_right (by rw [colsL_len]; exact Nat.le_refl _), colsL_len]
      simp
/-- What the reference's Columns gives. -/
def RCols (n : Nat) (K : Nat → Int) (w : World) (e : Ending) (w' : World) : Prop :=
  ∃ (ao : Option Addr) (c : Nat), e = .returned (.tuple #[.slice ao n c, .int .i64 0]) ∧ Hid (NumsIn w' ao n K) ∧ Below w.heap.size w w'

theorem rcols_end {w wr : World} {base n : Nat} {v : Value} {Z : Nat → Int} {W : Int} {m : Nat} (h : OwnNums wr base v (colsL Z W m n)) (hb : Below w.heap.size w wr) : RCols n (fun i => (colN Z ((i : Int) % W) m : Nat)) w (.returned (.tuple #[v, .int .i64 0])) wr := by
  obtain ⟨ao, c, rfl, hf⟩ := h.form
  refine ⟨ao, c, by rw [colsL_len], Lib.hid ?_, hb⟩
  by_cases hn : n = 0
  · exact .inl hn
  · have hne : colsL Z W m n ≠ [] := fun e => hn (by rw [← colsL_len Z W m n, e]; rfl)
    obtain ⟨g, rfl, hg, hc⟩ := hf hne
    refine .inr ⟨g, 0, rfl, hg, fun i hi => ?_⟩
    rw [Nat.zero_add]
    refine hc i _ ?_
    have e := colsL_get Z W m n i hi
    have hl : i < (colsL Z W m n).length := by rw [colsL_len]; exact hi
    rw [List.getElem?_eq_getElem hl]
    rw [List.getD_eq_getElem?_getD, List.getElem?_eq_getElem hl] at e
    exact congrArg some e

set_option maxRecDepth 100000 in
set_option maxHeartbeats 8000000 in
theorem rcolumns_in (W H n cap : Nat) (ao : Option Addr) (G : Nat → Nat → Int) (zo : Option Addr) (m zc : Nat) (Z : Nat → Int) (w : World) (s : Sides W H n) (hG : OkG n G) (hC : CellsIn w ao n G) (hm : m ≤ 7) (hZ : NumsIn w zo m Z) :
    Calls Try.prog 8 #[.agg #[.int .i64 W, .int .i64 H, .slice (ao) n cap], .slice zo m zc] w fun e w' => (OkCuts Z W m ∧ RCols n (fun i => (colN Z ((i : Int) % (W : Int)) m : Nat)) w e w') ∨ (¬ OkCuts Z W m ∧ e = .returned (.tuple #[.slice none 0 0, .int .i64 7]) ∧ Below w.heap.size w w') := by
  have hn1 := s.n1
  have hw0 := s.w0
  have hw1 := s.w1
  have GV := Lib.hid (fun w' (hb : Below w.heap.size w w') => rValid_ok W H ao n cap G w' (vg_of s hG) (hC.below hb))
  have HZ := Lib.hid hZ
  obtain ⟨i0, hi, hz0, hz1, hz2⟩ := info_parts info_intZ
  clear s hG hC hZ
  go_enter Try.func8, Try.ntmps8
  go_wp2_with (go_at_call 21; (with_reducible refine (GV.out _ (by (repeat' (first | (with_reducible exact Below.refl _ _) | (with_reducible refine Below.setCell ?_ (by first | omega | (simp; done) | (simp; omega)) _) | (with_reducible refine Below.alloc ?_ (by first | omega | (simp; done) | (simp; omega)) _) | (with_reducible refine Below.drew ?_) | (with_reducible refine below_drewN ?_ _) | (with_reducible refine Below.trans ?_ (Below.mono (by assumption) (by first | omega | (simp; done) | (simp; omega)))))))).mono ?_); rintro e w1 ⟨rfl, hb⟩; obtain ⟨hc, hf, hz⟩ := bcall hb; (try simp at hc hf hz))
  have c0 : w1.cell? ⟨w.heap.size, 0, none⟩ = some (.int .i64 W) := by simp [go_sem, ↓IntWalk.iteOmega, *]
  have c2 : w1.cell? ⟨w.heap.size, 2, none⟩ = some (.slice ao n cap) := by simp [go_sem, ↓IntWalk.iteOmega, *]
  have lw : w.heap.size < w1.heap.size := by omega
  have B1 := Lib.hid (show Below w.heap.size w w1 from by (repeat' (first | (with_reducible exact Below.refl _ _) | (with_reducible refine Below.setCell ?_ (by first | omega | (simp; done) | (simp; omega)) _) | (with_reducible refine Below.alloc ?_ (by first | omega | (simp; done) | (simp; omega)) _) | (with_reducible refine Below.drew ?_) | (with_reducible refine below_drewN ?_ _) | (with_reducible refine Below.trans ?_ (Below.mono (by assumption) (by first | omega | (simp; done) | (simp; omega)))))))
  clear hc hf hz hb GV
  go_loopw [6] (fun i wr => ∃ k : Nat, k ≤ m ∧ i = .int .i64 k ∧ Hid (OkCuts Z W k) ∧ Hid (Below w1.heap.size w1 wr)) (fun i _ => m - (intOf i).toNat)
  case atStart => exact ⟨0, Nat.zero_le _, rfl, Lib.hid (fun i hi => by omega), Lib.hid (Below.refl _ _)⟩
  case round =>
    obtain ⟨k, hk, rfl, HK, HB⟩ := hrel
    have k0 := (HB.out.cell (p := ⟨w.heap.size, 0, none⟩) lw).trans c0
    have k2 := (HB.out.cell (p := ⟨w.heap.size, 2, none⟩) lw).trans c2
    have lr := HB.out.size
    have hbw := B1.out.trans (HB.out.mono B1.out.size)
    by_cases hlk : k < m
    · obtain ⟨bz, oz, rfl, lz, hz⟩ := numsAt_of HZ.out (by omega)
      have e0 := hz.get hbw lz hlk
      have p0 : (0 : Int) ≤ (k : Int) := by omega
      have p1 : (k : Int) < (m : Int) := by omega
      have HBW := Lib.hid hbw; clear hbw
      have ew : IntKind.i64.wrap ((W : Int) - 1) = (W : Int) - 1 := IntWalk.i64_in _ ⟨by omega, by omega⟩
      obtain ⟨x, hx⟩ : ∃ x, x = Z k := ⟨_, rfl⟩
      rw [← hx] at e0
      by_cases h1 : 1 ≤ x ∧ x ≤ (W : Int) - 1
      · obtain ⟨h1, h2⟩ := h1
        by_cases h3 : k = 0
        · subst h3
          have HX := Lib.hid (okCuts_succ HK.out (show OkCut Z W 0 from ⟨by rw [← hx]; exact ⟨h1, h2⟩, .inl rfl⟩))
          rw [Nat.add_zero] at e0
          clear hz hx
          go_wp2
          refine still_tail 24 (by kernel_rfl) (by kernel_rfl) ?_
          simp only [List.take_succ_cons, List.take_zero, List.drop_succ_cons, List.drop_zero]
          (iterate 7 still_step)
          still_call ((within5_yes x 1 ((W : Int) - 1) _ h1 h2).mono fun _ _ h => ⟨h.1, h.2.symm⟩)
          (iterate 16 still_step)
          refine wpStill_nil ?_
          go_wp2
          go_roundw
          case rel => exact ⟨1, by omega, by go_num, HX, Lib.hid HB.out.drew⟩
          case measure => simp [intOf]; omega
        · obtain ⟨j, hj⟩ : ∃ j, k = j + 1 := ⟨k - 1, by omega⟩
          have e1 := hz.get HBW.out lz (show j < m by omega)
          obtain ⟨y, hy⟩ : ∃ y, y = Z j := ⟨_, rfl⟩
          rw [← hy] at e1
          have q0 : (0 : Int) ≤ (j : Int) := by omega
          have q1 : (j : Int) < (m : Int) := by omega
          have ek : (k : Int) - 1 = (j : Int) := by omega
          have ej : IntKind.i64.wrap (j : Int) = (j : Int) := IntWalk.i64_in _ ⟨by omega, by omega⟩
          have ek2 : IntKind.i64.wrap ((k : Int) - 1) = (j : Int) := by rw [ek]; exact IntWalk.i64_in _ ⟨by omega, by omega⟩
          have q2 : (0 : Int) < (k : Int) := by omega
          have q3 : 0 < k := by omega
          have HJ := Lib.hid hj
          by_cases h4 : x ≤ y
          · have HX := Lib.hid (show ¬ OkCuts Z W m from fun h => by have := (h k hlk).2; rw [hj, Nat.add_sub_cancel, ← hj] at this; omega)
            clear hz hx hy hj
            go_wp2
            refine still_tail 24 (by kernel_rfl) (by kernel_rfl) ?_
            simp only [List.take_succ_cons, List.take_zero, List.drop_succ_cons, List.drop_zero]
            (iterate 7 still_step)
            still_call ((within5_yes x 1 ((W : Int) - 1) _ h1 h2).mono fun _ _ h => ⟨h.1, h.2.symm⟩)
            (iterate 16 still_step)
            refine wpStill_nil ?_
            go_wp2
            go_ret2
            exact .inr ⟨HX.out, rfl, HBW.out.drew⟩
          · have HX := Lib.hid (okCuts_succ HK.out (show OkCut Z W k from ⟨by rw [← hx]; exact ⟨h1, h2⟩, .inr (by rw [show k - 1 = j by omega]; omega)⟩))
            clear hz hx hy hj
            go_wp2
            refine still_tail 24 (by kernel_rfl) (by kernel_rfl) ?_
            simp only [List.take_succ_cons, List.take_zero, List.drop_succ_cons, List.drop_zero]
            (iterate 7 still_step)
            still_call ((within5_yes x 1 ((W : Int) - 1) _ h1 h2).mono fun _ _ h => ⟨h.1, h.2.symm⟩)
            (iterate 16 still_step)
            refine wpStill_nil ?_
            go_wp2
            go_roundw
            case rel => exact ⟨k + 1, by omega, by go_num, HX, Lib.hid HB.out.drew⟩
            case measure => simp [intOf]; omega
      · have HX := Lib.hid (show ¬ OkCuts Z W m from fun h => by have := (h k hlk).1; omega)
        have hno : x < 1 ∨ (W : Int) - 1 < x := by omega
        clear hz hx h1
        go_wp2
        refine still_tail 24 (by kernel_rfl) (by kernel_rfl) ?_
        simp only [List.take_succ_cons, List.take_zero, List.drop_succ_cons, List.drop_zero]
        (iterate 7 still_step)
        still_call ((within5_no x 1 ((W : Int) - 1) _ hno).mono fun _ _ h => ⟨h.1, h.2.symm⟩)
        (iterate 16 still_step)
        refine wpStill_nil ?_
        go_wp2
        go_ret2
        exact .inr ⟨HX.out, rfl, HBW.out.drew⟩
    · obtain rfl : k = m := by omega
      go_wp2
      obtain ⟨wx, hwx⟩ : ∃ wx, wx = wr := ⟨_, rfl⟩
      subst hwx
      have lx : w.heap.size < wx.heap.size := by omega
      have HBW := Lib.hid hbw
      clear hbw HB
      go_loopw [7, 8, 9, 10] (fun l i _ _ wr => ∃ j : Nat, j ≤ n ∧ i = .int .i64 j ∧ Hid (OwnNums wr wx.heap.size l (colsL Z W k j) ∧ Below wx.heap.size wx wr)) (fun _ i _ _ _ => n - (intOf i).toNat)
      case atStart => exact ⟨0, Nat.zero_le _, rfl, Lib.hid ⟨OwnNums.nil _ _, Below.refl _ _⟩⟩
      case round =>
        obtain ⟨j, hj, rfl, HH⟩ := hrel
        obtain ⟨wo, hwo⟩ : ∃ wo, wo = wr := ⟨_, rfl⟩
        subst hwo
        have BO := Lib.hid (HBW.out.trans (HH.out.2.mono HBW.out.size))
        have k2 := (HH.out.2.cell (p := ⟨w.heap.size, 2, none⟩) lx).trans k2
        have k0 := (HH.out.2.cell (p := ⟨w.heap.size, 0, none⟩) lx).trans k0
        have lo : w.heap.size < wo.heap.size := by have := HH.out.2.size; omega
        by_cases hlj : j < n
        · go_wp2
          go_loopw [9, 10] (fun c i wr => ∃ (t : Nat), t ≤ k ∧ c = .int .i64 (colN Z ((j : Int) % (W : Int)) t : Nat) ∧ i = .int .i64 t ∧ Hid (Below wo.heap.size wo wr)) (fun _ i _ => k - (intOf i).toNat)
          case atStart => exact ⟨0, Nat.zero_le _, rfl, rfl, Lib.hid (Below.refl _ _)⟩
          case round =>
            obtain ⟨t, ht, rfl, rfl, QQ⟩ := hrel
            by_cases hlt : t < k
            · obtain ⟨bz, oz, rfl, lz, hz⟩ := numsAt_of HZ.out (by omega)
              have e0 := hz.get (BO.out.trans (QQ.out.mono BO.out.size)) lz hlt
              have e1 := (QQ.out.cell (p := ⟨w.heap.size, 0, none⟩) lo).trans k0
              have p0 : (0 : Int) ≤ (t : Int) := by omega
              have p1 : (t : Int) < (k : Int) := by omega
              have tm : (j : Int).tmod (W : Int) = (j : Int) % (W : Int) := Int.tmod_eq_emod_of_nonneg (by omega)
              have wz : ¬ W = 0 := by omega
              have hx0 : 0 ≤ (j : Int) % (W : Int) := Int.emod_nonneg _ (by omega)
              have hx1 : (j : Int) % (W : Int) < (W : Int) := Int.emod_lt_of_pos _ (by omega)
              have hcl := colN_le Z ((j : Int) % (W : Int)) t
              obtain ⟨x, hx⟩ : ∃ x, x = (j : Int) % (W : Int) := ⟨_, rfl⟩
              rw [← hx] at tm hx0 hx1 hcl
              obtain ⟨c, hc⟩ : ∃ c, c = colN Z ((j : Int) % (W : Int)) t := ⟨_, rfl⟩
              rw [← hc]
              rw [← hx] at hc
              rw [← hc] at hcl
              obtain ⟨y, hy⟩ : ∃ y, y = Z t := ⟨_, rfl⟩
              rw [← hy] at e0
              have wx1 : IntKind.i64.wrap x = x := IntWalk.i64_in _ ⟨by omega, by omega⟩
              by_cases hzx : y ≤ x
              · have HN := Lib.hid (show c + 1 = colN Z ((j : Int) % (W : Int)) (t + 1) from by simp only [colN]; rw [← hx, ← hy, if_pos hzx, ← hc])
                clear hz hx hc hy
                go_wp2
                go_quiet (fail)
                go_wp2
                go_roundw
                case rel => exact ⟨t + 1, by omega, by rw [← HN.out]; go_num, by go_num, Lib.hid (by have := QQ.out; (repeat' (first | (with_reducible exact Below.refl _ _) | (with_reducible refine Below.setCell ?_ (by first | omega | (simp; done) | (simp; omega)) _) | (with_reducible refine Below.alloc ?_ (by first | omega | (simp; done) | (simp; omega)) _) | (with_reducible refine Below.drew ?_) | (with_reducible refine below_drewN ?_ _) | (with_reducible refine Below.trans ?_ (Below.mono (by assumption) (by first | omega | (simp; done) | (simp; omega)))))))⟩
                case measure => simp [intOf]; omega
              · have HN := Lib.hid (show c = colN Z ((j : Int) % (W : Int)) (t + 1) from by simp only [colN]; rw [← hx, ← hy, if_neg hzx, ← hc])
                clear hz hx hc hy
                go_wp2
                go_quiet (fail)
                go_wp2
                go_roundw
                case rel => exact ⟨t + 1, by omega, by rw [← HN.out], by go_num, Lib.hid (by have := QQ.out; (repeat' (first | (with_reducible exact Below.refl _ _) | (with_reducible refine Below.setCell ?_ (by first | omega | (simp; done) | (simp; omega)) _) | (with_reducible refine Below.alloc ?_ (by first | omega | (simp; done) | (simp; omega)) _) | (with_reducible refine Below.drew ?_) | (with_reducible refine below_drewN ?_ _) | (with_reducible refine Below.trans ?_ (Below.mono (by assumption) (by first | omega | (simp; done) | (simp; omega)))))))⟩
                case measure => simp [intOf]; omega
            · obtain rfl : t = k := by omega
              have HK2 := Lib.hid (own_keep HH.out QQ.out)
              have hlen := colsL_len Z W t j
              have HD := Lib.hid (show colsL Z W t (j + 1) = colsL Z W t j ++ [colN Z ((j : Int) % (W : Int)) t] from rfl)
              obtain ⟨c, hc⟩ : ∃ c, c = colN Z ((j : Int) % (W : Int)) t := ⟨_, rfl⟩
              rw [← hc] at HD
              rw [← hc]
              have hcl := colN_le Z ((j : Int) % (W : Int)) t
              rw [← hc] at hcl
              obtain ⟨L, hL⟩ : ∃ L, L = colsL Z W t j := ⟨_, rfl⟩
              rw [← hL] at HK2 HD hlen
              clear hc hL
              have hW5 := HK2.out.2.size
              go_wp2_with (at_builtin; refine wpList_append_own _ rfl _ _ 25 rfl wx.heap.size 3 i0 (.int .i64 0) 1 8 Try.underlying25 hi hz0 hz1 hz2 rfl (by omega) _ _ _ rfl (HK2.out.1.below (by (repeat' (first | (with_reducible exact Below.refl _ _) | (with_reducible refine Below.setCell ?_ (by first | omega | (simp; done) | (simp; omega)) _) | (with_reducible refine Below.alloc ?_ (by first | omega | (simp; done) | (simp; omega)) _) | (with_reducible refine Below.drew ?_) | (with_reducible refine below_drewN ?_ _) | (with_reducible refine Below.trans ?_ (Below.mono (by assumption) (by first | omega | (simp; done) | (simp; omega)))))))) _ 1 1 [.int .i64 c] rfl rfl (by intro j u hu; match j with | 0 => (simp at hu; subst hu; simp only [Addr.add, Nat.zero_add]; exact (World.cell?_alloc_at _ _ _ _ (by simp)).trans rfl) | _ + 1 => simp at hu) (by intro u hu; simp at hu; subst hu; rfl) (by unfold maxLen; omega) (by omega) (by simp; omega) ?_; intro v' w6 hown hgrow _)
              have HN := Lib.hid (own_app HK2.out (by (repeat' (first | (with_reducible exact Below.refl _ _) | (with_reducible refine Below.setCell ?_ (by first | omega | (simp; done) | (simp; omega)) _) | (with_reducible refine Below.alloc ?_ (by first | omega | (simp; done) | (simp; omega)) _) | (with_reducible refine Below.drew ?_) | (with_reducible refine below_drewN ?_ _) | (with_reducible refine Below.trans ?_ (Below.mono (by assumption) (by first | omega | (simp; done) | (simp; omega))))))) hown hgrow)
              clear hown hgrow
              go_roundw
              case rel => exact ⟨j + 1, by omega, by go_num, Lib.hid (by rw [HD.out]; exact HN.out)⟩
              case measure => simp [intOf]; omega
        · obtain rfl : j = n := by omega
          go_wp2
          go_ret2
          exact .inl ⟨HK.out, rcols_end HH.out.1 BO.out⟩
end Go.Proofs.Ytmkhbkkhoemkoaa
