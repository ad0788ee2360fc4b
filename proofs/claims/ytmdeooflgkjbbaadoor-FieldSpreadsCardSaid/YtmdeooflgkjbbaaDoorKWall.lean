/- Walls: whether they are valid, the wall without walls, whether two are the same: by the program and by the reference. -/
import Derived.Test.YtmdeooflgkjbbaaDoorKSent
import Derived.Test.YtmdeooflgkjbbaaDoorKRefG4
namespace Go.Proofs.YtmdeooflgkjbbaaDoor
set_option linter.unusedSimpArgs false
set_option linter.unusedVariables false
open Go.RowKit
attribute [local go_sem] Oper.semAt_some

/-- A cell may be of a kind and belong to a body. -/
def OkP (k b : Int) : Prop := (k = 0 ∧ b = 0) ∨ ((1 ≤ k ∧ k ≤ 3) ∧ 1 ≤ b ∧ b ≤ 9)
instance (k b : Int) : Decidable (OkP k b) := by unfold OkP; exact inferInstance
/-- The wall is valid for the valid grid. -/
def WV (W H : Int) (n : Nat) (G : Nat → Nat → Int) (nk : Nat) (K : Nat → Int) (nb : Nat) (B : Nat → Int) : Prop := VG W H n G ∧ nk = n ∧ nb = n ∧ ∀ i, i < n → OkP (K i) (B i)

theorem isBody_yes (n : Int) (w : World) (h1 : 1 ≤ n) (h2 : n ≤ 9) : Calls Tryd.prog 152 #[.int .i64 n] w fun e w' => e = .returned (.bool true) ∧ w = w' := by
  go_enter Tryd.func152, Tryd.ntmps152
  go_wp2
  go_ret
  exact ⟨rfl, rfl⟩
theorem isBody_no (n : Int) (w : World) (h : n < 1 ∨ 9 < n) : Calls Tryd.prog 152 #[.int .i64 n] w fun e w' => e = .returned (.bool false) ∧ w = w' := by
  by_cases h1 : 1 ≤ n
  · have h2 : ¬ n ≤ 9 := by omega
    clear h
    go_enter Tryd.func152, Tryd.ntmps152
    go_wp2
    go_ret
    exact ⟨rfl, rfl⟩
  · clear h
    go_enter Tryd.func152, Tryd.ntmps152
    go_wp2
    go_ret
    exact ⟨rfl, rfl⟩

set_option maxHeartbeats 1000000 in
theorem isPlace_yes (k b : Int) (w : World) (h : OkP k b) : Calls Tryd.prog 157 #[.int .i64 k, .int .i64 b] w fun e w' => e = .returned (.bool true) ∧ w = w' := by
  rcases h with ⟨rfl, rfl⟩ | ⟨⟨h1, h2⟩, h3, h4⟩
  · go_enter Tryd.func157, Tryd.ntmps157
    go_wp2
    go_ret
    exact ⟨rfl, rfl⟩
  · go_enter Tryd.func157, Tryd.ntmps157
    go_wp2_with (first | (go_at_call 150; (with_reducible refine (isWall_yes _ _ h1 h2).mono ?_); rintro e w1 ⟨rfl, rfl⟩) | (go_at_call 152; (with_reducible refine (isBody_yes _ _ h3 h4).mono ?_); rintro e w1 ⟨rfl, rfl⟩))
    go_ret
    exact ⟨rfl, rfl⟩
set_option maxHeartbeats 1000000 in
theorem isPlace_no (k b : Int) (w : World) (h : ¬ OkP k b) : Calls Tryd.prog 157 #[.int .i64 k, .int .i64 b] w fun e w' => e = .returned (.bool false) ∧ w = w' := by
  unfold OkP at h
  by_cases h0 : k = 0
  · subst h0
    have hb : (b == 0) = false := beq_eq_false_iff_ne.2 (by omega)
    clear h
    go_enter Tryd.func157, Tryd.ntmps157
    go_wp2
    go_ret
    exact ⟨by simp [hb], rfl⟩
  · by_cases h1 : 1 ≤ k ∧ k ≤ 3
    · have hb : b < 1 ∨ 9 < b := by omega
      have HB := Lib.hid hb
      obtain ⟨h1, h2⟩ := h1
      clear h hb
      go_enter Tryd.func157, Tryd.ntmps157
      go_wp2_with (first | (go_at_call 150; (with_reducible refine (isWall_yes _ _ h1 h2).mono ?_); rintro e w1 ⟨rfl, rfl⟩) | (go_at_call 152; (with_reducible refine (isBody_no _ _ HB.out).mono ?_); rintro e w1 ⟨rfl, rfl⟩))
      go_ret
      exact ⟨rfl, rfl⟩
    · have hb : k < 1 ∨ 3 < k := by omega
      have HB := Lib.hid hb
      clear h hb h1
      go_enter Tryd.func157, Tryd.ntmps157
      go_wp2_with (first | (go_at_call 150; (with_reducible refine (isWall_no _ _ HB.out).mono ?_); rintro e w1 ⟨rfl, rfl⟩))
      go_ret
      exact ⟨rfl, rfl⟩

set_option maxHeartbeats 4000000 in
theorem wValid_in (W H : Int) (ao : Option Addr) (n cap : Nat) (G : Nat → Nat → Int) (bk ok ck : Nat) (K : Nat → Int) (bb ob cb : Nat) (B : Nat → Int) (w : World) (hv : VG W H n G) (hG : CellsIn w ao n G) (h1 : bk < w.heap.size) (h2 : bb < w.heap.size) (hK : NumsAt w bk ok n K) (hB : NumsAt w bb ob n B) :
    Calls Tryd.prog 109 #[.agg #[.int .i64 W, .int .i64 H, .slice (ao) n cap], .agg #[.slice (some ⟨bk, ok, none⟩) n ck, .slice (some ⟨bb, ob, none⟩) n cb]] w fun e w' => ∃ t : Bool, e = .returned (.bool t) ∧ Hid (t = true ↔ ∀ i, i < n → OkP (K i) (B i)) ∧ Below w.heap.size w w' := by
  have hn2 : (n : Int) ≤ 1024 := by have := hv.1.bd; have := hv.2.1; omega
  have HV := Lib.hid hv; clear hv
  have HG := Lib.hid hG; clear hG
  have HK := Lib.hid hK; clear hK
  have HB := Lib.hid hB; clear hB
  go_enter Tryd.func109, Tryd.ntmps109
  go_wp2_with (go_at_call 89; (with_reducible refine (gValid_ok W H ao n cap G _ HV.out (HG.out.below (by (repeat' (first | (with_reducible exact Below.refl _ _) | (with_reducible refine Below.setCell ?_ (by first | omega | (simp; done) | (simp; omega)) _) | (with_reducible refine Below.alloc ?_ (by first | omega | (simp; done) | (simp; omega)) _) | (with_reducible refine Below.drew ?_) | (with_reducible refine below_drewN ?_ _) | (with_reducible refine Below.trans ?_ (Below.mono (by assumption) (by first | omega | (simp; done) | (simp; omega))))))))).mono ?_); rintro e w1 ⟨rfl, hb⟩; obtain ⟨hc, hf, hz⟩ := bcall hb; (try simp at hc hf hz))
  have hB0 : Below w.heap.size w w1 := by (repeat' (first | (with_reducible exact Below.refl _ _) | (with_reducible refine Below.setCell ?_ (by first | omega | (simp; done) | (simp; omega)) _) | (with_reducible refine Below.alloc ?_ (by first | omega | (simp; done) | (simp; omega)) _) | (with_reducible refine Below.drew ?_) | (with_reducible refine below_drewN ?_ _) | (with_reducible refine Below.trans ?_ (Below.mono (by assumption) (by first | omega | (simp; done) | (simp; omega))))))
  have hz0 := hB0.size
  have hs0 : w1.cell? ⟨w.heap.size + 1, 1, none⟩ = some (.slice (some ⟨bb, ob, none⟩) n cb) := by first | (with_reducible assumption) | (simp [*])
  have hs1 : w.heap.size + 1 < w1.heap.size := by omega
  go_loopw [31, 5, 6] (fun i x y wr => ∃ k : Nat, k ≤ n ∧ i = .int .i64 k ∧ Below w1.heap.size w1 wr ∧ Hid (∀ j, j < k → OkP (K j) (B j))) (fun i _ _ _ => n - (intOf i).toNat)
  case atStart => exact ⟨0, Nat.zero_le _, rfl, Below.refl _ _, Lib.hid (by omega)⟩
  case round =>
    obtain ⟨k, hk, rfl, hBr, HO⟩ := hrel
    have hBw : Below w.heap.size w wr := hB0.trans (hBr.mono hz0)
    have sB := (hBr.cell (p := ⟨w.heap.size + 1, 1, none⟩) hs1).trans hs0
    by_cases hlk : k < n
    · have c0 := HK.out.get hBw h1 hlk
      have c1 := HB.out.get hBw h2 hlk
      by_cases hx : OkP (K k) (B k)
      · have HX := Lib.hid hx; clear hx
        go_wp2_with (go_at_call 157; (with_reducible refine (isPlace_yes _ _ _ HX.out).mono ?_); rintro e w1 ⟨rfl, rfl⟩)
        go_roundw
        case rel => exact ⟨k + 1, by omega, by go_num, hBr, Lib.hid (fun j hj => by
          by_cases e : j = k
          · subst e; exact HX.out
          · exact HO.out j (by omega))⟩
        case measure => simp [intOf]; omega
      · have HX := Lib.hid hx; clear hx
        go_wp2_with (go_at_call 157; (with_reducible refine (isPlace_no _ _ _ HX.out).mono ?_); rintro e w1 ⟨rfl, rfl⟩)
        go_ret
        exact ⟨false, rfl, Lib.hid ⟨(fun h => by cases h), fun h => absurd (h k hlk) HX.out⟩, hBw⟩
    · obtain rfl : n = k := by omega
      go_wp2
      go_ret
      exact ⟨true, rfl, Lib.hid ⟨fun _ => HO.out, fun _ => rfl⟩, hBw⟩

set_option maxHeartbeats 1000000 in
theorem wValid_vg (W H : Int) (ao : Option Addr) (n cap : Nat) (G : Nat → Nat → Int) (ak : Option Addr) (nk ck : Nat) (ab : Option Addr) (nb cb : Nat) (w : World) (hv : ¬ VG W H n G) (hG : CellsIn w ao n G) :
    Calls Tryd.prog 109 #[.agg #[.int .i64 W, .int .i64 H, .slice (ao) n cap], .agg #[.slice (ak) nk ck, .slice (ab) nb cb]] w fun e w' => e = .returned (.bool false) ∧ Below w.heap.size w w' := by
  have HV := Lib.hid hv; clear hv
  have HG := Lib.hid hG; clear hG
  go_enter Tryd.func109, Tryd.ntmps109
  go_wp2_with (go_at_call 89; (with_reducible refine (gValid_bad W H ao n cap G _ HV.out (HG.out.below (by (repeat' (first | (with_reducible exact Below.refl _ _) | (with_reducible refine Below.setCell ?_ (by first | omega | (simp; done) | (simp; omega)) _) | (with_reducible refine Below.alloc ?_ (by first | omega | (simp; done) | (simp; omega)) _) | (with_reducible refine Below.drew ?_) | (with_reducible refine below_drewN ?_ _) | (with_reducible refine Below.trans ?_ (Below.mono (by assumption) (by first | omega | (simp; done) | (simp; omega))))))))).mono ?_); rintro e w1 ⟨rfl, hb⟩; obtain ⟨hc, hf, hz⟩ := bcall hb; (try simp at hc hf hz))
  go_ret
  refine ⟨rfl, ?_⟩
  (repeat' (first | (with_reducible exact Below.refl _ _) | (with_reducible refine Below.setCell ?_ (by first | omega | (simp; done) | (simp; omega)) _) | (with_reducible refine Below.alloc ?_ (by first | omega | (simp; done) | (simp; omega)) _) | (with_reducible refine Below.drew ?_) | (with_reducible refine below_drewN ?_ _) | (with_reducible refine Below.trans ?_ (Below.mono (by assumption) (by first | omega | (simp; done) | (simp; omega))))))
set_option maxHeartbeats 1000000 in
theorem wValid_len (W H : Int) (ao : Option Addr) (n cap : Nat) (G : Nat → Nat → Int) (ak : Option Addr) (nk ck : Nat) (ab : Option Addr) (nb cb : Nat) (w : World) (hv : VG W H n G) (hG : CellsIn w ao n G) (h : nk ≠ n ∨ nb ≠ n) :
    Calls Tryd.prog 109 #[.agg #[.int .i64 W, .int .i64 H, .slice (ao) n cap], .agg #[.slice (ak) nk ck, .slice (ab) nb cb]] w fun e w' => e = .returned (.bool false) ∧ Below w.heap.size w w' := by
  have HV := Lib.hid hv; clear hv
  have HG := Lib.hid hG; clear hG
  by_cases h1 : nk = n
  · have h2 : nb ≠ n := by omega
    subst h1
    have e0 : ((nb : Int) == (nk : Int)) = false := beq_eq_false_iff_ne.2 (by omega)
    have e1 : ((nb : Int) != (nk : Int)) = true := by simp [bne, e0]
    clear h h2
    go_enter Tryd.func109, Tryd.ntmps109
    go_wp2_with (go_at_call 89; (with_reducible refine (gValid_ok W H ao nk cap G _ HV.out (HG.out.below (by (repeat' (first | (with_reducible exact Below.refl _ _) | (with_reducible refine Below.setCell ?_ (by first | omega | (simp; done) | (simp; omega)) _) | (with_reducible refine Below.alloc ?_ (by first | omega | (simp; done) | (simp; omega)) _) | (with_reducible refine Below.drew ?_) | (with_reducible refine below_drewN ?_ _) | (with_reducible refine Below.trans ?_ (Below.mono (by assumption) (by first | omega | (simp; done) | (simp; omega))))))))).mono ?_); rintro e w1 ⟨rfl, hb⟩; obtain ⟨hc, hf, hz⟩ := bcall hb; (try simp at hc hf hz))
    go_ret
    refine ⟨rfl, ?_⟩
    (repeat' (first | (with_reducible exact Below.refl _ _) | (with_reducible refine Below.setCell ?_ (by first | omega | (simp; done) | (simp; omega)) _) | (with_reducible refine Below.alloc ?_ (by first | omega | (simp; done) | (simp; omega)) _) | (with_reducible refine Below.drew ?_) | (with_reducible refine below_drewN ?_ _) | (with_reducible refine Below.trans ?_ (Below.mono (by assumption) (by first | omega | (simp; done) | (simp; omega))))))
  · have e0 : ((nk : Int) == (n : Int)) = false := beq_eq_false_iff_ne.2 (by omega)
    have e1 : ((nk : Int) != (n : Int)) = true := by simp [bne, e0]
    clear h h1
    go_enter Tryd.func109, Tryd.ntmps109
    go_wp2_with (go_at_call 89; (with_reducible refine (gValid_ok W H ao n cap G _ HV.out (HG.out.below (by (repeat' (first | (with_reducible exact Below.refl _ _) | (with_reducible refine Below.setCell ?_ (by first | omega | (simp; done) | (simp; omega)) _) | (with_reducible refine Below.alloc ?_ (by first | omega | (simp; done) | (simp; omega)) _) | (with_reducible refine Below.drew ?_) | (with_reducible refine below_drewN ?_ _) | (with_reducible refine Below.trans ?_ (Below.mono (by assumption) (by first | omega | (simp; done) | (simp; omega))))))))).mono ?_); rintro e w1 ⟨rfl, hb⟩; obtain ⟨hc, hf, hz⟩ := bcall hb; (try simp at hc hf hz))
    go_ret
    refine ⟨rfl, ?_⟩
    (repeat' (first | (with_reducible exact Below.refl _ _) | (with_reducible refine Below.setCell ?_ (by first | omega | (simp; done) | (simp; omega)) _) | (with_reducible refine Below.alloc ?_ (by first | omega | (simp; done) | (simp; omega)) _) | (with_reducible refine Below.drew ?_) | (with_reducible refine below_drewN ?_ _) | (with_reducible refine Below.trans ?_ (Below.mono (by assumption) (by first | omega | (simp; done) | (simp; omega))))))

theorem not_wv {W H : Int} {n : Nat} {G : Nat → Nat → Int} {nk : Nat} {K : Nat → Int} {nb : Nat} {B : Nat → Int} (h : ¬ WV W H n G nk K nb B) : ¬ VG W H n G ∨ (VG W H n G ∧ (nk ≠ n ∨ nb ≠ n)) ∨ (VG W H n G ∧ nk = n ∧ nb = n ∧ ¬ ∀ i, i < n → OkP (K i) (B i)) := by
  by_cases h1 : VG W H n G
  · by_cases h2 : nk = n
    · by_cases h3 : nb = n
      · exact .inr (.inr ⟨h1, h2, h3, fun h4 => h ⟨h1, h2, h3, h4⟩⟩)
      · exact .inr (.inl ⟨h1, .inr h3⟩)
    · exact .inr (.inl ⟨h1, .inl h2⟩)
  · exact .inl h1
theorem vg_pos {W H : Int} {n : Nat} {G : Nat → Nat → Int} (h : VG W H n G) : 1 ≤ n ∧ n ≤ 1024 := by
  have := h.1.bd
  have := h.2.1
  omega
theorem wValid_yes (W H : Int) (ao : Option Addr) (n cap : Nat) (G : Nat → Nat → Int) (ak : Option Addr) (nk ck : Nat) (K : Nat → Int) (ab : Option Addr) (nb cb : Nat) (B : Nat → Int) (w : World) (hv : WV W H n G nk K nb B) (hG : CellsIn w ao n G) (hK : NumsIn w ak nk K) (hB : NumsIn w ab nb B) :
    Calls Tryd.prog 109 #[.agg #[.int .i64 W, .int .i64 H, .slice (ao) n cap], .agg #[.slice (ak) nk ck, .slice (ab) nb cb]] w fun e w' => e = .returned (.bool true) ∧ Below w.heap.size w w' := by
  obtain ⟨h1, rfl, rfl, h2⟩ := hv
  have hp := vg_pos h1
  obtain ⟨bk, ok, rfl, lk, hk⟩ := numsAt_of hK hp.1
  obtain ⟨bb, ob, rfl, lb, hb⟩ := numsAt_of hB hp.1
  exact (wValid_in W H ao _ cap G bk ok ck K bb ob cb B w h1 hG lk lb hk hb).mono fun e w' ⟨t, he, ht, hB⟩ => ⟨by rw [he, ht.out.2 h2], hB⟩
theorem wValid_no (W H : Int) (ao : Option Addr) (n cap : Nat) (G : Nat → Nat → Int) (ak : Option Addr) (nk ck : Nat) (K : Nat → Int) (ab : Option Addr) (nb cb : Nat) (B : Nat → Int) (w : World) (hv : ¬ WV W H n G nk K nb B) (hG : CellsIn w ao n G) (hK : NumsIn w ak nk K) (hB : NumsIn w ab nb B) :
    Calls Tryd.prog 109 #[.agg #[.int .i64 W, .int .i64 H, .slice (ao) n cap], .agg #[.slice (ak) nk ck, .slice (ab) nb cb]] w fun e w' => e = .returned (.bool false) ∧ Below w.heap.size w w' := by
  rcases not_wv hv with h | ⟨h, h'⟩ | ⟨h1, rfl, rfl, h2⟩
  · exact wValid_vg W H ao n cap G ak nk ck ab nb cb w h hG
  · exact wValid_len W H ao n cap G ak nk ck ab nb cb w h hG h'
  · have hp := vg_pos h1
    obtain ⟨bk, ok, rfl, lk, hk⟩ := numsAt_of hK hp.1
    obtain ⟨bb, ob, rfl, lb, hb⟩ := numsAt_of hB hp.1
    refine (wValid_in W H ao _ cap G bk ok ck K bb ob cb B w h1 hG lk lb hk hb).mono fun e w' ⟨t, he, ht, hB⟩ => ⟨?_, hB⟩
    cases t
    · exact he
    · exact absurd (ht.out.1 rfl) h2

/-- Numbers without value, one after another. -/
def zerosI (n : Nat) : Array Value := madeCells (Value.cells (.int .i64 0)) (n * 1)
theorem info_int3 : (Tryd.prog.info? 3).map (fun i => (i.zero, i.size, i.bytes)) = some (some (.int .i64 0), 1, 8) := by kernel_rfl
theorem zerosI_get (n j : Nat) (h : j < n) : (zerosI n)[j]? = some (.int .i64 0) := by
  unfold zerosI madeCells
  have hs : (Value.cells (.int .i64 0)) = #[.int .i64 0] := rfl
  rw [hs]
  simp [h, Nat.mod_one]
theorem run_zerosI (n : Nat) (hn : n ≤ 100000) (w : World) : (Instr.makeSlice 40 (.int .i64 n) (.int .i64 n)).run Tryd.prog w = .ok (.slice (some ⟨w.heap.size, 0, none⟩) n n) (w.alloc (.cells (zerosI n) 3)) := by
  obtain ⟨i0, hi, hz0, hz1, hz2⟩ := info_parts info_int3
  have := run_make (P := Tryd.prog) (w := w) 40 3 i0 _ Tryd.underlying40 hi hz0 .i64 .i64 n n (by omega) (by omega) (by rw [hz2]; omega) (by omega)
  rw [hz1, Int.toNat_natCast] at this
  exact this
theorem nums_zeros (w : World) (n : Nat) : NumsAt (w.alloc (.cells (zerosI n) 3)) w.heap.size 0 n (fun _ => 0) := by
  have hh : (w.alloc (.cells (zerosI n) 3)).heap[w.heap.size]? = some (.cells (zerosI n) 3 (0, 0)) := World.alloc_heap_new w _
  intro j hj
  simp only [World.cell?, hh, Nat.zero_add]
  exact zerosI_get n j hj
/-- A wall in memory of its own. -/
def GaveW (n : Nat) (K B : Nat → Int) (w : World) (e : Ending) (w' : World) : Prop := ∃ bk bb ck cb : Nat, e = .returned (.agg #[.slice (some ⟨bk, 0, none⟩) n ck, .slice (some ⟨bb, 0, none⟩) n cb]) ∧ Hid (NumsIn w' (some ⟨bk, 0, none⟩) n K ∧ NumsIn w' (some ⟨bb, 0, none⟩) n B) ∧ w.heap.size ≤ bk ∧ w.heap.size ≤ bb ∧ Below w.heap.size w w'
def GaveWE (n : Nat) (K B : Nat → Int) (w : World) (e : Ending) (w' : World) : Prop := ∃ bk bb ck cb : Nat, e = .returned (.tuple #[.agg #[.slice (some ⟨bk, 0, none⟩) n ck, .slice (some ⟨bb, 0, none⟩) n cb], .int .i64 0]) ∧ Hid (NumsIn w' (some ⟨bk, 0, none⟩) n K ∧ NumsIn w' (some ⟨bb, 0, none⟩) n B) ∧ w.heap.size ≤ bk ∧ w.heap.size ≤ bb ∧ Below w.heap.size w w'

theorem two_zeros (w0 : World) (n s : Nat) (hs : w0.heap.size = s) : NumsIn (((w0.alloc (.cells (zerosI n) 3)).alloc (.cells (zerosI n) 3)).drew) (some ⟨s, 0, none⟩) n (fun _ => 0) ∧ NumsIn (((w0.alloc (.cells (zerosI n) 3)).alloc (.cells (zerosI n) 3)).drew) (some ⟨s + 1, 0, none⟩) n (fun _ => 0) := by
  subst hs
  have h1 := nums_zeros w0 n
  have h2 := nums_zeros (w0.alloc (.cells (zerosI n) 3)) n
  rw [World.size_alloc] at h2
  refine ⟨.inr ⟨_, 0, rfl, by simp [World.drew]; omega, ?_⟩, .inr ⟨_, 0, rfl, by simp [World.drew], ?_⟩⟩
  · exact h1.below (m := w0.heap.size + 1) (((Below.refl _ _).alloc (by simp) _).drew) (by omega)
  · exact h2.below (m := w0.heap.size + 1 + 1) ((Below.refl _ _).drew) (by omega)

set_option maxHeartbeats 2000000 in
theorem wopen_any (W H : Int) (ao : Option Addr) (n cap : Nat) (w : World) (hn : n ≤ 100000) : Calls Tryd.prog 110 #[.agg #[.int .i64 W, .int .i64 H, .slice (ao) n cap]] w (GaveW n (fun _ => 0) (fun _ => 0) w) := by
  have hmk := fun wx => run_zerosI n hn wx
  go_enter Tryd.func110, Tryd.ntmps110
  go_wp2
  go_region
  all_goals (rename_i Q9 K9 a9; refine a9 _ _ ?_; dsimp +zetaDelta only; go_wp2)
  · refine bodyPost_ret (v := .agg #[.slice (some ⟨w.heap.size + 1 + 1, 0, none⟩) n n, .slice (some ⟨w.heap.size + 1 + 1 + 1, 0, none⟩) n n]) (by simp [results, Tryd.results110, go_sem, ↓IntWalk.iteOmega, *]) rfl ?_
    have tz := two_zeros ((w.alloc (.cells #[.int .i64 W, .int .i64 H, .slice ao n cap] 24)).alloc (.cells #[.slice (some ⟨w.heap.size + 1 + 1, 0, none⟩) n n, .slice (some ⟨w.heap.size + 1 + 1 + 1, 0, none⟩) n n] 64)) n (w.heap.size + 1 + 1) (by simp)
    exact ⟨_, _, n, n, rfl, Lib.hid ⟨tz.1, tz.2⟩, by omega, by omega, by (repeat' (first | (with_reducible exact Below.refl _ _) | (with_reducible refine Below.setCell ?_ (by first | omega | (simp; done) | (simp; omega)) _) | (with_reducible refine Below.alloc ?_ (by first | omega | (simp; done) | (simp; omega)) _) | (with_reducible refine Below.drew ?_) | (with_reducible refine below_drewN ?_ _) | (with_reducible refine Below.trans ?_ (Below.mono (by assumption) (by first | omega | (simp; done) | (simp; omega))))))⟩
  · refine bodyPost_ret (v := .agg #[.slice (some ⟨w.heap.size + 1 + 1 + 1, 0, none⟩) n n, .slice (some ⟨w.heap.size + 1 + 1, 0, none⟩) n n]) (by simp [results, Tryd.results110, go_sem, ↓IntWalk.iteOmega, *]) rfl ?_
    have tz := two_zeros ((w.alloc (.cells #[.int .i64 W, .int .i64 H, .slice ao n cap] 24)).alloc (.cells #[.slice (some ⟨w.heap.size + 1 + 1 + 1, 0, none⟩) n n, .slice (some ⟨w.heap.size + 1 + 1, 0, none⟩) n n] 64)) n (w.heap.size + 1 + 1) (by simp)
    exact ⟨_, _, n, n, rfl, Lib.hid ⟨tz.2, tz.1⟩, by omega, by omega, by (repeat' (first | (with_reducible exact Below.refl _ _) | (with_reducible refine Below.setCell ?_ (by first | omega | (simp; done) | (simp; omega)) _) | (with_reducible refine Below.alloc ?_ (by first | omega | (simp; done) | (simp; omega)) _) | (with_reducible refine Below.drew ?_) | (with_reducible refine below_drewN ?_ _) | (with_reducible refine Below.trans ?_ (Below.mono (by assumption) (by first | omega | (simp; done) | (simp; omega))))))⟩

theorem NumsIn.two {w : World} {P b n : Nat} {K : Nat → Int} {v0 v1 : Value} (h : NumsIn w (some ⟨b, 0, none⟩) n K) (hne : P ≠ b) : NumsIn ((w.setCell ⟨P, 0, none⟩ v0).setCell ⟨P, 1, none⟩ v1) (some ⟨b, 0, none⟩) n K := by
  rcases h with h | ⟨b', off, e, hlt, hK⟩
  · exact .inl h
  · cases e
    refine .inr ⟨b, 0, rfl, by simpa using hlt, fun i hi => ?_⟩
    have x : Below (P + 1) w w := Below.refl _ _
    have e1 : ((w.setCell ⟨P, 0, none⟩ v0).setCell ⟨P, 1, none⟩ v1).heap[b]? = w.heap[b]? := (Below.heap_setCell _ ⟨P, 1, none⟩ v1 b (Ne.symm hne)).trans (Below.heap_setCell w ⟨P, 0, none⟩ v0 b (Ne.symm hne))
    simp only [World.cell?, e1]
    exact hK i hi

set_option maxHeartbeats 1000000 in
theorem rwValid_vg (W H : Int) (ao : Option Addr) (n cap : Nat) (G : Nat → Nat → Int) (ak : Option Addr) (nk ck : Nat) (ab : Option Addr) (nb cb : Nat) (w : World) (hv : ¬ VG W H n G) (hG : CellsIn w ao n G) :
    Calls Tryd.prog 105 #[.agg #[.int .i64 W, .int .i64 H, .slice (ao) n cap], .agg #[.slice (ak) nk ck, .slice (ab) nb cb]] w fun e w' => e = .returned (.bool false) ∧ Below w.heap.size w w' := by
  have HV := Lib.hid hv; clear hv
  have HG := Lib.hid hG; clear hG
  go_enter Tryd.func105, Tryd.ntmps105
  go_wp2_with (go_at_call 87; (with_reducible refine (rValid_bad W H ao n cap G _ HV.out (HG.out.below (by (repeat' (first | (with_reducible exact Below.refl _ _) | (with_reducible refine Below.setCell ?_ (by first | omega | (simp; done) | (simp; omega)) _) | (with_reducible refine Below.alloc ?_ (by first | omega | (simp; done) | (simp; omega)) _) | (with_reducible refine Below.drew ?_) | (with_reducible refine below_drewN ?_ _) | (with_reducible refine Below.trans ?_ (Below.mono (by assumption) (by first | omega | (simp; done) | (simp; omega))))))))).mono ?_); rintro e w1 ⟨rfl, hb⟩; obtain ⟨hc, hf, hz⟩ := bcall hb; (try simp at hc hf hz))
  go_ret
  refine ⟨rfl, ?_⟩
  (repeat' (first | (with_reducible exact Below.refl _ _) | (with_reducible refine Below.setCell ?_ (by first | omega | (simp; done) | (simp; omega)) _) | (with_reducible refine Below.alloc ?_ (by first | omega | (simp; done) | (simp; omega)) _) | (with_reducible refine Below.drew ?_) | (with_reducible refine below_drewN ?_ _) | (with_reducible refine Below.trans ?_ (Below.mono (by assumption) (by first | omega | (simp; done) | (simp; omega))))))
set_option maxHeartbeats 1000000 in
theorem rwValid_len (W H : Int) (ao : Option Addr) (n cap : Nat) (G : Nat → Nat → Int) (ak : Option Addr) (nk ck : Nat) (ab : Option Addr) (nb cb : Nat) (w : World) (hv : VG W H n G) (hG : CellsIn w ao n G) (h : nk ≠ n ∨ nb ≠ n) :
    Calls Tryd.prog 105 #[.agg #[.int .i64 W, .int .i64 H, .slice (ao) n cap], .agg #[.slice (ak) nk ck, .slice (ab) nb cb]] w fun e w' => e = .returned (.bool false) ∧ Below w.heap.size w w' := by
  have HV := Lib.hid hv; clear hv
  have HG := Lib.hid hG; clear hG
  by_cases h1 : nk = n
  · have h2 : nb ≠ n := by omega
    subst h1
    have e0 : ((nb : Int) == (nk : Int)) = false := beq_eq_false_iff_ne.2 (by omega)
    have e1 : ((nb : Int) != (nk : Int)) = true := by simp [bne, e0]
    clear h h2
    go_enter Tryd.func105, Tryd.ntmps105
    go_wp2_with (go_at_call 87; (with_reducible refine (rValid_ok W H ao nk cap G _ HV.out (HG.out.below (by (repeat' (first | (with_reducible exact Below.refl _ _) | (with_reducible refine Below.setCell ?_ (by first | omega | (simp; done) | (simp; omega)) _) | (with_reducible refine Below.alloc ?_ (by first | omega | (simp; done) | (simp; omega)) _) | (with_reducible refine Below.drew ?_) | (with_reducible refine below_drewN ?_ _) | (with_reducible refine Below.trans ?_ (Below.mono (by assumption) (by first | omega | (simp; done) | (simp; omega))))))))).mono ?_); rintro e w1 ⟨rfl, hb⟩; obtain ⟨hc, hf, hz⟩ := bcall hb; (try simp at hc hf hz))
    go_ret
    refine ⟨rfl, ?_⟩
    (repeat' (first | (with_reducible exact Below.refl _ _) | (with_reducible refine Below.setCell ?_ (by first | omega | (simp; done) | (simp; omega)) _) | (with_reducible refine Below.alloc ?_ (by first | omega | (simp; done) | (simp; omega)) _) | (with_reducible refine Below.drew ?_) | (with_reducible refine below_drewN ?_ _) | (with_reducible refine Below.trans ?_ (Below.mono (by assumption) (by first | omega | (simp; done) | (simp; omega))))))
  · have e0 : ((nk : Int) == (n : Int)) = false := beq_eq_false_iff_ne.2 (by omega)
    have e1 : ((nk : Int) != (n : Int)) = true := by simp [bne, e0]
    clear h h1
    go_enter Tryd.func105, Tryd.ntmps105
    go_wp2_with (go_at_call 87; (with_reducible refine (rValid_ok W H ao n cap G _ HV.out (HG.out.below (by (repeat' (first | (with_reducible exact Below.refl _ _) | (with_reducible refine Below.setCell ?_ (by first | omega | (simp; done) | (simp; omega)) _) | (with_reducible refine Below.alloc ?_ (by first | omega | (simp; done) | (simp; omega)) _) | (with_reducible refine Below.drew ?_) | (with_reducible refine below_drewN ?_ _) | (with_reducible refine Below.trans ?_ (Below.mono (by assumption) (by first | omega | (simp; done) | (simp; omega))))))))).mono ?_); rintro e w1 ⟨rfl, hb⟩; obtain ⟨hc, hf, hz⟩ := bcall hb; (try simp at hc hf hz))
    go_ret
    refine ⟨rfl, ?_⟩
    (repeat' (first | (with_reducible exact Below.refl _ _) | (with_reducible refine Below.setCell ?_ (by first | omega | (simp; done) | (simp; omega)) _) | (with_reducible refine Below.alloc ?_ (by first | omega | (simp; done) | (simp; omega)) _) | (with_reducible refine Below.drew ?_) | (with_reducible refine below_drewN ?_ _) | (with_reducible refine Below.trans ?_ (Below.mono (by assumption) (by first | omega | (simp; done) | (simp; omega))))))
end Go.Proofs.YtmdeooflgkjbbaaDoor
