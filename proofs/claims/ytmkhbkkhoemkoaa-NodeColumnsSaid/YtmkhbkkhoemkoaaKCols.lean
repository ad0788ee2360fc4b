/- Columns of nodes: by the program. -/
import Derived.Test.YtmkhbkkhoemkoaaKColsM
import Derived.Test.YtmkhbkkhoemkoaaKMach
import Derived.Test.YtmkhbkkhoemkoaaKWays
namespace Go.Proofs.Ytmkhbkkhoemkoaa
set_option linter.unusedSimpArgs false
set_option linter.unusedVariables false
open Go.RowKit

set_option maxRecDepth 100000 in
set_option maxHeartbeats 4000000 in
theorem columns_bad (W H : Int) (n cap : Nat) (ao : Option Addr) (G : Nat → Nat → Int) (zo : Option Addr) (m zc : Nat) (w : World) (hv : ¬ VG W H n G) (hC : CellsIn w ao n G) :
    Calls Try.prog 7 #[.agg #[.int .i64 W, .int .i64 H, .slice (ao) n cap], .slice zo m zc] w fun e w' => e = .returned (.tuple #[.slice none 0 0, .int .i64 1]) ∧ Below w.heap.size w w' := by
  have HV := Lib.hid hv; clear hv
  have HC := Lib.hid hC; clear hC
  go_enter Try.func7, Try.ntmps7
  go_wp2_with (go_at_call 20; (with_reducible refine (gValid_bad W H ao n cap G _ HV.out (HC.out.below (by (repeat' (first | (with_reducible exact Below.refl _ _) | (with_reducible refine Below.setCell ?_ (by first | omega | (simp; done) | (simp; omega)) _) | (with_reducible refine Below.alloc ?_ (by first | omega | (simp; done) | (simp; omega)) _) | (with_reducible refine Below.drew ?_) | (with_reducible refine below_drewN ?_ _) | (with_reducible refine Below.trans ?_ (Below.mono (by assumption) (by first | omega | (simp; done) | (simp; omega))))))))).mono ?_); rintro e w1 ⟨rfl, hb⟩; obtain ⟨hc, hf, hz⟩ := bcall hb; (try simp at hc hf hz))
  go_ret2
  refine ⟨rfl, ?_⟩
  (repeat' (first | (with_reducible exact Below.refl _ _) | (with_reducible refine Below.setCell ?_ (by first | omega | (simp; done) | (simp; omega)) _) | (with_reducible refine Below.alloc ?_ (by first | omega | (simp; done) | (simp; omega)) _) | (with_reducible refine Below.drew ?_) | (with_reducible refine below_drewN ?_ _) | (with_reducible refine Below.trans ?_ (Below.mono (by assumption) (by first | omega | (simp; done) | (simp; omega))))))
set_option maxRecDepth 100000 in
set_option maxHeartbeats 4000000 in
theorem columns_many (W H : Int) (n cap : Nat) (ao : Option Addr) (G : Nat → Nat → Int) (zo : Option Addr) (m zc : Nat) (w : World) (hv : VG W H n G) (hC : CellsIn w ao n G) (hm : 7 < m) (hm1 : m ≤ 9223372036854775807) :
    Calls Try.prog 7 #[.agg #[.int .i64 W, .int .i64 H, .slice (ao) n cap], .slice zo m zc] w fun e w' => e = .returned (.tuple #[.slice none 0 0, .int .i64 7]) ∧ Below w.heap.size w w' := by
  have HV := Lib.hid hv; clear hv
  have HC := Lib.hid hC; clear hC
  go_enter Try.func7, Try.ntmps7
  go_wp2_with (go_at_call 20; (with_reducible refine (gValid_ok W H ao n cap G _ HV.out (HC.out.below (by (repeat' (first | (with_reducible exact Below.refl _ _) | (with_reducible refine Below.setCell ?_ (by first | omega | (simp; done) | (simp; omega)) _) | (with_reducible refine Below.alloc ?_ (by first | omega | (simp; done) | (simp; omega)) _) | (with_reducible refine Below.drew ?_) | (with_reducible refine below_drewN ?_ _) | (with_reducible refine Below.trans ?_ (Below.mono (by assumption) (by first | omega | (simp; done) | (simp; omega))))))))).mono ?_); rintro e w1 ⟨rfl, hb⟩; obtain ⟨hc, hf, hz⟩ := bcall hb; (try simp at hc hf hz))
  go_ret2
  refine ⟨rfl, ?_⟩
  (repeat' (first | (with_reducible exact Below.refl _ _) | (with_reducible refine Below.setCell ?_ (by first | omega | (simp; done) | (simp; omega)) _) | (with_reducible refine Below.alloc ?_ (by first | omega | (simp; done) | (simp; omega)) _) | (with_reducible refine Below.drew ?_) | (with_reducible refine below_drewN ?_ _) | (with_reducible refine Below.trans ?_ (Below.mono (by assumption) (by first | omega | (simp; done) | (simp; omega))))))

/-- A row of one's own numbers. -/
def RowZ (w : World) (b n : Nat) (K : Nat → Int) : Prop := b < w.heap.size ∧ ∀ j, j < n → w.cell? ⟨b, j, none⟩ = some (.int .i64 (K j)) ∧ w.frozen? ⟨b, j, none⟩ = false
def updZ (K : Nat → Int) (i : Nat) (v : Int) : Nat → Int := fun j => if j = i then v else K j
theorem RowZ.set {w : World} {b n : Nat} {K : Nat → Int} (h : RowZ w b n K) {i : Nat} (hi : i < n) (v : Int) : RowZ (w.setCell ⟨b, i, none⟩ (.int .i64 v)) b n (updZ K i v) := by
  refine ⟨by simpa [World.setCell] using h.1, fun j hj => ⟨?_, ?_⟩⟩
  · unfold updZ
    by_cases e : j = i
    · subst e
      rw [if_pos rfl]
      exact World.cell?_setCell_same _ _ _ (h.2 j hj).1
    · rw [if_neg e, World.cell?_setCell_other _ _ _ _ (by intro e2; cases e2; exact e rfl)]
      exact (h.2 j hj).1
  · rw [World.frozen?_setCell]
    exact (h.2 j hj).2
theorem RowZ.ex {S : Nat → Prop} {w w' : World} {b n : Nat} {K : Nat → Int} (h : RowZ w b n K) (hx : Ex S w w') (hs : ¬ S b) : RowZ w' b n K :=
  ⟨Nat.lt_of_lt_of_le h.1 hx.size, fun j hj => ⟨(hx.cell h.1 hs).trans (h.2 j hj).1, (hx.frozen h.1 hs).trans (h.2 j hj).2⟩⟩
theorem RowZ.nums {w : World} {b n : Nat} {K : Nat → Int} (h : RowZ w b n K) : NumsAt w b 0 n K := fun i hi => by rw [Nat.zero_add]; exact (h.2 i hi).1

/-- What Columns gives. -/
def Colsd (n : Nat) (K : Nat → Int) (w : World) (e : Ending) (w' : World) : Prop :=
  ∃ g c : Nat, e = .returned (.tuple #[.slice (some ⟨g, 0, none⟩) n c, .int .i64 0]) ∧ Hid (NumsAt w' g 0 n K ∧ g < w'.heap.size) ∧ w.heap.size ≤ g ∧ Below w.heap.size w w'

theorem info_intZ : (Try.prog.info? 3).map (fun i => (i.zero, i.size, i.bytes)) = some (some (.int .i64 0), 1, 8) := by kernel_rfl
def zerosI (n : Nat) : Array Value := madeCells (Value.cells (.int .i64 0)) (n * 1)
theorem zerosI_get (n j : Nat) (h : j < n) : (zerosI n)[j]? = some (.int .i64 0) := by
  unfold zerosI madeCells
  have hs : (Value.cells (.int .i64 0)) = #[.int .i64 0] := rfl
  rw [hs]
  simp [h, Nat.mod_one]
theorem run_zerosI (n : Nat) (hn : n ≤ 100000) (w : World) : (Instr.makeSlice 25 (.int .i64 n) (.int .i64 n)).run Try.prog w = .ok (.slice (some ⟨w.heap.size, 0, none⟩) n n) (w.alloc (.cells (zerosI n) 3)) := by
  obtain ⟨i0, hi, hz0, hz1, hz2⟩ := info_parts info_intZ
  have := run_make (P := Try.prog) (w := w) 25 3 i0 _ Try.underlying25 hi hz0 .i64 .i64 n n (by omega) (by omega) (by rw [hz2]; omega) (by omega)
  rw [hz1, Int.toNat_natCast] at this
  exact this
theorem rowZ_zeros (w : World) (n : Nat) : RowZ (w.alloc (.cells (zerosI n) 3)) w.heap.size n (fun _ => 0) := by
  have hh : (w.alloc (.cells (zerosI n) 3)).heap[w.heap.size]? = some (.cells (zerosI n) 3 (0, 0)) := World.alloc_heap_new w _
  refine ⟨(Array.getElem?_eq_some_iff.1 hh).1, fun j hj => ⟨?_, ?_⟩⟩
  · simp only [World.cell?, hh]
    exact zerosI_get n j hj
  · exact frozen_of_row _ _ j _ _ hh

set_option maxRecDepth 100000 in
set_option maxHeartbeats 8000000 in
theorem columns_in (W H n cap : Nat) (ao : Option Addr) (G : Nat → Nat → Int) (zo : Option Addr) (m zc : Nat) (Z : Nat → Int) (w : World) (s : Sides W H n) (hG : OkG n G) (hC : CellsIn w ao n G) (hm : m ≤ 7) (hZ : NumsIn w zo m Z) :
    Calls Try.prog 7 #[.agg #[.int .i64 W, .int .i64 H, .slice (ao) n cap], .slice zo m zc] w fun e w' => (OkCuts Z W m ∧ Colsd n (fun i => (colN Z ((i : Int) % (W : Int)) m : Nat)) w e w') ∨ (¬ OkCuts Z W m ∧ e = .returned (.tuple #[.slice none 0 0, .int .i64 7]) ∧ Below w.heap.size w w') := by
  have hn1 := s.n1
  have hw0 := s.w0
  have hw1 := s.w1
  have GV := Lib.hid (fun w' (hb : Below w.heap.size w w') => gValid_ok W H ao n cap G w' (vg_of s hG) (hC.below hb))
  have HZ := Lib.hid hZ
  have hmk := fun wx => run_zerosI n (by omega) wx
  clear s hG hC hZ
  go_enter Try.func7, Try.ntmps7
  go_wp2_with (go_at_call 20; (with_reducible refine (GV.out _ (by (repeat' (first | (with_reducible exact Below.refl _ _) | (with_reducible refine Below.setCell ?_ (by first | omega | (simp; done) | (simp; omega)) _) | (with_reducible refine Below.alloc ?_ (by first | omega | (simp; done) | (simp; omega)) _) | (with_reducible refine Below.drew ?_) | (with_reducible refine below_drewN ?_ _) | (with_reducible refine Below.trans ?_ (Below.mono (by assumption) (by first | omega | (simp; done) | (simp; omega)))))))).mono ?_); rintro e w1 ⟨rfl, hb⟩; obtain ⟨hc, hf, hz⟩ := bcall hb; (try simp at hc hf hz))
  have c0 : w1.cell? ⟨w.heap.size, 0, none⟩ = some (.int .i64 W) := by simp [go_sem, ↓IntWalk.iteOmega, *]
  have c2 : w1.cell? ⟨w.heap.size, 2, none⟩ = some (.slice ao n cap) := by simp [go_sem, ↓IntWalk.iteOmega, *]
  have lw : w.heap.size < w1.heap.size := by omega
  have B1 := Lib.hid (show Below w.heap.size w w1 from by (repeat' (first | (with_reducible exact Below.refl _ _) | (with_reducible refine Below.setCell ?_ (by first | omega | (simp; done) | (simp; omega)) _) | (with_reducible refine Below.alloc ?_ (by first | omega | (simp; done) | (simp; omega)) _) | (with_reducible refine Below.drew ?_) | (with_reducible refine below_drewN ?_ _) | (with_reducible refine Below.trans ?_ (Below.mono (by assumption) (by first | omega | (simp; done) | (simp; omega)))))))
  clear hc hf hz hb GV
  go_loopw [21, 6, 8] (fun i l _ wr => ∃ k : Nat, k ≤ m ∧ i = .int .i64 k ∧ l = .int .i64 (lastZ Z k) ∧ Hid (OkCuts Z W k) ∧ wr = w1) (fun i _ _ _ => m - (intOf i).toNat)
  case atStart => exact ⟨0, Nat.zero_le _, rfl, rfl, Lib.hid (fun i hi => by omega), rfl⟩
  case round =>
    obtain ⟨k, hk, rfl, rfl, HK, hwr⟩ := hrel
    obtain rfl := hwr.symm
    by_cases hlk : k < m
    · obtain ⟨bz, oz, rfl, lz, hz⟩ := numsAt_of HZ.out (by omega)
      have e0 := hz.get B1.out lz hlk
      have p0 : (0 : Int) ≤ (k : Int) := by omega
      have p1 : (k : Int) < (m : Int) := by omega
      by_cases h1 : Z k ≤ lastZ Z k
      · have HB := Lib.hid (show ¬ OkCuts Z W m from fun h => by have := (okCut_step HK.out).1 (h k hlk); omega)
        clear hz
        go_wp2
        go_ret2
        exact .inr ⟨HB.out, rfl, B1.out⟩
      · by_cases h2 : (W : Int) ≤ Z k
        · have HB := Lib.hid (show ¬ OkCuts Z W m from fun h => by have := (okCut_step HK.out).1 (h k hlk); omega)
          clear hz
          go_wp2
          go_ret2
          exact .inr ⟨HB.out, rfl, B1.out⟩
        · have HB := Lib.hid (okCuts_succ HK.out ((okCut_step HK.out).2 ⟨by omega, by omega⟩))
          clear hz
          go_wp2
          go_roundw
          case rel => exact ⟨k + 1, by omega, by go_num, rfl, HB, by first | rfl | trivial⟩
          case measure => simp [intOf]; omega
    · obtain rfl : k = m := by omega
      go_wp2
      have R0 := Lib.hid (rowZ_zeros w1 n)
      have B2 := Lib.hid (show Below w.heap.size w (w1.alloc (.cells (zerosI n) 3)) from B1.out.alloc (by omega) _)
      have k0 : (w1.alloc (.cells (zerosI n) 3)).cell? ⟨w.heap.size, 0, none⟩ = some (.int .i64 W) := (World.cell?_alloc_past _ _ _ lw).trans c0
      have s2 : (w1.alloc (.cells (zerosI n) 3)).heap.size = w1.heap.size + 1 := by simp
      obtain ⟨w2, hw2⟩ : ∃ w2, w2 = w1.alloc (.cells (zerosI n) 3) := ⟨_, rfl⟩
      rw [← hw2] at R0 B2 k0 s2
      rw [← hw2]
      clear hw2
      obtain ⟨g, hg⟩ : ∃ g, g = w1.heap.size := ⟨_, rfl⟩
      rw [← hg] at R0 s2 lw
      rw [← hg]
      clear hg hwr hmk
      go_loopw [42, 10, 47, 12] (fun i _ _ _ wr => ∃ (j : Nat) (K : Nat → Int), j ≤ n ∧ i = .int .i64 j ∧ Hid (Ex (fun z => z = g) w2 wr ∧ RowZ wr g n K ∧ ∀ a, a < n → K a = if a < j then ((colN Z ((a : Int) % (W : Int)) k : Nat) : Int) else 0)) (fun i _ _ _ _ => n - (intOf i).toNat)
      case atStart => exact ⟨0, _, Nat.zero_le _, rfl, Lib.hid ⟨Ex.refl _ _, R0.out, fun a ha => by simp⟩⟩
      case round =>
        obtain ⟨j, K, hj, rfl, HH⟩ := hrel
        obtain ⟨wo, hwo⟩ : ∃ wo, wo = wr := ⟨_, rfl⟩
        subst hwo
        by_cases hlj : j < n
        · have LW := HH.out.1.size
          go_wp2
          have HS := Lib.hid (show RowZ wo g n (updZ K j (0 : Nat)) from ⟨HH.out.2.1.1, fun a ha => by
            unfold updZ
            by_cases e : a = j
            · subst e
              rw [if_pos rfl]
              have := HH.out.2.2 a hlj
              rw [if_neg (Nat.lt_irrefl _)] at this
              exact ⟨by rw [(HH.out.2.1.2 a ha).1, this]; rfl, (HH.out.2.1.2 a ha).2⟩
            · rw [if_neg e]
              exact HH.out.2.1.2 a ha⟩)
          go_loopw [47, 12] (fun i _ wr => ∃ (t : Nat), t ≤ k ∧ i = .int .i64 t ∧ Hid (Ex (fun z => z = g) wo wr ∧ RowZ wr g n (updZ K j (colN Z ((j : Int) % (W : Int)) t : Nat)))) (fun i _ _ => k - (intOf i).toNat)
          case atStart => exact ⟨0, Nat.zero_le _, rfl, Lib.hid ⟨Ex.refl _ _, HS.out⟩⟩
          case round =>
            obtain ⟨t, ht, rfl, QQ⟩ := hrel
            by_cases hlt : t < k
            · obtain ⟨bz, oz, rfl, lz, hz⟩ := numsAt_of HZ.out (by omega)
              have LQ := QQ.out.1.size
              have e0 : wr.cell? ⟨bz, oz + t, none⟩ = some (.int .i64 (Z t)) := by
                rw [QQ.out.1.cell (k := bz) (by have := B2.out.size; omega) (by omega), HH.out.1.cell (k := bz) (by have := B2.out.size; omega) (by omega)]
                exact hz.get B2.out lz hlt
              have e1 : wr.cell? ⟨w.heap.size, 0, none⟩ = some (.int .i64 W) := by
                rw [QQ.out.1.cell (k := w.heap.size) (by omega) (by omega), HH.out.1.cell (k := w.heap.size) (by omega) (by omega)]
                exact k0
              have e2 := (QQ.out.2.2 j hlj).1
              have e3 := (QQ.out.2.2 j hlj).2
              simp only [updZ, if_true] at e2
              have lr := QQ.out.2.1
              have p0 : (0 : Int) ≤ (t : Int) := by omega
              have p1 : (t : Int) < (k : Int) := by omega
              have q0 : (0 : Int) ≤ (j : Int) := by omega
              have q1 : (j : Int) < (n : Int) := by omega
              have tm : (j : Int).tmod (W : Int) = (j : Int) % (W : Int) := Int.tmod_eq_emod_of_nonneg (by omega)
              have wz : ¬ W = 0 := by omega
              have hx0 : 0 ≤ (j : Int) % (W : Int) := Int.emod_nonneg _ (by omega)
              have hx1 : (j : Int) % (W : Int) < (W : Int) := Int.emod_lt_of_pos _ (by omega)
              have hcl := colN_le Z ((j : Int) % (W : Int)) t
              obtain ⟨x, hx⟩ : ∃ x, x = (j : Int) % (W : Int) := ⟨_, rfl⟩
              rw [← hx] at tm hx0 hx1 hcl e2
              have HXE := Lib.hid hx
              clear hz hx
              by_cases hzx : Z t ≤ x
              · go_wp2
                go_roundw
                case rel =>
                  refine ⟨t + 1, by omega, by go_num, Lib.hid ⟨QQ.out.1.trans (Ex.setCell (S := fun z => z = g) (Ex.refl _ _) (show g = g from rfl) _), ?_⟩⟩
                  have := QQ.out.2.set hlj ((colN Z x t : Nat) + 1)
                  rw [← HXE.out] at this ⊢
                  simp only [colN, if_pos hzx]
                  have e : updZ (updZ K j (colN Z x t : Nat)) j ((colN Z x t : Nat) + 1) = updZ K j ((colN Z x t + 1 : Nat) : Int) := by
                    funext a
                    unfold updZ
                    split <;> simp
                  rw [e] at this
                  exact this
                case measure => simp [intOf]; omega
              · go_wp2
                go_roundw
                case rel =>
                  refine ⟨t + 1, by omega, by go_num, Lib.hid ⟨QQ.out.1, ?_⟩⟩
                  have := QQ.out.2
                  rw [← HXE.out] at this ⊢
                  simp only [colN, if_neg hzx]
                  exact this
                case measure => simp [intOf]; omega
            · obtain rfl : t = k := by omega
              go_wp2
              go_roundw
              case rel =>
                refine ⟨j + 1, _, by omega, by go_num, Lib.hid ⟨HH.out.1.trans QQ.out.1, QQ.out.2, fun a ha => ?_⟩⟩
                unfold updZ
                by_cases e : a = j
                · subst e
                  rw [if_pos rfl, if_pos (by omega)]
                · rw [if_neg e, HH.out.2.2 a ha]
                  by_cases e2 : a < j
                  · rw [if_pos e2, if_pos (by omega)]
                  · rw [if_neg e2, if_neg (by omega)]
              case measure => simp [intOf]; omega
        · obtain rfl : j = n := by omega
          go_wp2
          go_ret2
          have hx := HH.out.1
          have hb := B2.out
          refine .inl ⟨HK.out, g, j, rfl, Lib.hid ⟨fun a ha => ?_, HH.out.2.1.1⟩, by omega, hb.trans (hx.below hb.size (fun z hz => by omega))⟩
          rw [Nat.zero_add, (HH.out.2.1.2 a ha).1, HH.out.2.2 a ha, if_pos ha]
end Go.Proofs.Ytmkhbkkhoemkoaa
