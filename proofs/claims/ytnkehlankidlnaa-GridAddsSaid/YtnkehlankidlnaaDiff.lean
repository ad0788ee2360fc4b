/- Differ: by the program and by the reference. -/
import Derived.Test.YtnkehlankidlnaaInts
import Derived.Test.YtnkehlankidlnaaRefG1
namespace Go.Proofs.Ytnkehlankidlnaa
set_option linter.unusedSimpArgs false
set_option linter.unusedVariables false
open Go.RowKit

theorem neq_cell (w : World) (a b c e a' b' c' e' : Int) : a = a' ∧ b = b' ∧ c = c' ∧ e = e' ∨ ¬ (a = a' ∧ b = b' ∧ c = c' ∧ e = e') := by
  by_cases h : a = a' ∧ b = b' ∧ c = c' ∧ e = e'
  · exact .inl h
  · exact .inr h
theorem beq4 (a b c e a' b' c' e' : Int) (h : ¬ (a = a' ∧ b = b' ∧ c = c' ∧ e = e')) : (a == a' && (b == b' && (c == c' && e == e'))) = false := by
  by_cases h0 : a = a' <;> by_cases h1 : b = b' <;> by_cases h2 : c = c' <;> by_cases h3 : e = e' <;> simp_all

set_option maxHeartbeats 1000000 in
theorem sides_ok (W H : Int) (n m c c' : Nat) (ao ao' : Option Addr) (A B : Nat → Nat → Int) (w : World) (ha : VG W H n A) (hb' : VG W H m B) (hA : CellsIn w ao n A) (hB : CellsIn w ao' m B) :
    Calls Try.prog 86 #[.agg #[.int .i64 W, .int .i64 H, .slice (ao) n c], .agg #[.int .i64 W, .int .i64 H, .slice (ao') m c']] w fun e w' => e = .returned (.int .i64 0) ∧ Below w.heap.size w w' := by
  have VA := Lib.hid (fun w' (hb : Below w.heap.size w w') => gValid_ok W H ao n c A w' ha (hA.below hb))
  have VB := Lib.hid (fun w' (hb : Below w.heap.size w w') => gValid_ok W H ao' m c' B w' hb' (hB.below hb))
  clear ha hb' hA hB
  go_enter Try.func86, Try.ntmps86
  go_wp2_with fail
  (go_at_call 63; (with_reducible refine (VA.out _ (by (repeat' (first | (with_reducible exact Below.refl _ _) | (with_reducible refine Below.setCell ?_ (by first | omega | (simp; done) | (simp; omega)) _) | (with_reducible refine Below.alloc ?_ (by first | omega | (simp; done) | (simp; omega)) _) | (with_reducible refine Below.drew ?_) | (with_reducible refine below_drewN ?_ _) | (with_reducible refine Below.trans ?_ (Below.mono (by assumption) (by first | omega | (simp; done) | (simp; omega)))))))).mono ?_); rintro e w1 ⟨rfl, hb⟩; obtain ⟨hc, hf, hz⟩ := bcall hb; (try simp at hc hf hz))
  go_wp2_with (go_at_call 63; (with_reducible refine (VB.out _ (by (repeat' (first | (with_reducible exact Below.refl _ _) | (with_reducible refine Below.setCell ?_ (by first | omega | (simp; done) | (simp; omega)) _) | (with_reducible refine Below.alloc ?_ (by first | omega | (simp; done) | (simp; omega)) _) | (with_reducible refine Below.drew ?_) | (with_reducible refine below_drewN ?_ _) | (with_reducible refine Below.trans ?_ (Below.mono (by assumption) (by first | omega | (simp; done) | (simp; omega)))))))).mono ?_); rintro e w1 ⟨rfl, hb⟩; obtain ⟨hc, hf, hz⟩ := bcall hb; (try simp at hc hf hz))
  go_ret
  refine ⟨by simp, ?_⟩
  (repeat' (first | (with_reducible exact Below.refl _ _) | (with_reducible refine Below.setCell ?_ (by first | omega | (simp; done) | (simp; omega)) _) | (with_reducible refine Below.alloc ?_ (by first | omega | (simp; done) | (simp; omega)) _) | (with_reducible refine Below.drew ?_) | (with_reducible refine below_drewN ?_ _) | (with_reducible refine Below.trans ?_ (Below.mono (by assumption) (by first | omega | (simp; done) | (simp; omega))))))
set_option maxHeartbeats 1000000 in
theorem sides_inv1 (W H W' H' : Int) (n m c c' : Nat) (ao ao' : Option Addr) (A : Nat → Nat → Int) (w : World) (ha : ¬ VG W H n A) (hA : CellsIn w ao n A) :
    Calls Try.prog 86 #[.agg #[.int .i64 W, .int .i64 H, .slice (ao) n c], .agg #[.int .i64 W', .int .i64 H', .slice (ao') m c']] w fun e w' => e = .returned (.int .i64 1) ∧ Below w.heap.size w w' := by
  have VA := Lib.hid (fun w' (hb : Below w.heap.size w w') => gValid_bad W H ao n c A w' ha (hA.below hb))
  clear ha hA
  go_enter Try.func86, Try.ntmps86
  go_wp2_with fail
  (go_at_call 63; (with_reducible refine (VA.out _ (by (repeat' (first | (with_reducible exact Below.refl _ _) | (with_reducible refine Below.setCell ?_ (by first | omega | (simp; done) | (simp; omega)) _) | (with_reducible refine Below.alloc ?_ (by first | omega | (simp; done) | (simp; omega)) _) | (with_reducible refine Below.drew ?_) | (with_reducible refine below_drewN ?_ _) | (with_reducible refine Below.trans ?_ (Below.mono (by assumption) (by first | omega | (simp; done) | (simp; omega)))))))).mono ?_); rintro e w1 ⟨rfl, hb⟩; obtain ⟨hc, hf, hz⟩ := bcall hb; (try simp at hc hf hz))
  go_wp2
  go_ret
  refine ⟨by simp, ?_⟩
  (repeat' (first | (with_reducible exact Below.refl _ _) | (with_reducible refine Below.setCell ?_ (by first | omega | (simp; done) | (simp; omega)) _) | (with_reducible refine Below.alloc ?_ (by first | omega | (simp; done) | (simp; omega)) _) | (with_reducible refine Below.drew ?_) | (with_reducible refine below_drewN ?_ _) | (with_reducible refine Below.trans ?_ (Below.mono (by assumption) (by first | omega | (simp; done) | (simp; omega))))))
set_option maxHeartbeats 1000000 in
theorem sides_inv2 (W H W' H' : Int) (n m c c' : Nat) (ao ao' : Option Addr) (A B : Nat → Nat → Int) (w : World) (ha : VG W H n A) (hb' : ¬ VG W' H' m B) (hA : CellsIn w ao n A) (hB : CellsIn w ao' m B) :
    Calls Try.prog 86 #[.agg #[.int .i64 W, .int .i64 H, .slice (ao) n c], .agg #[.int .i64 W', .int .i64 H', .slice (ao') m c']] w fun e w' => e = .returned (.int .i64 1) ∧ Below w.heap.size w w' := by
  have VA := Lib.hid (fun w' (hb : Below w.heap.size w w') => gValid_ok W H ao n c A w' ha (hA.below hb))
  have VB := Lib.hid (fun w' (hb : Below w.heap.size w w') => gValid_bad W' H' ao' m c' B w' hb' (hB.below hb))
  clear ha hb' hA hB
  go_enter Try.func86, Try.ntmps86
  go_wp2_with fail
  (go_at_call 63; (with_reducible refine (VA.out _ (by (repeat' (first | (with_reducible exact Below.refl _ _) | (with_reducible refine Below.setCell ?_ (by first | omega | (simp; done) | (simp; omega)) _) | (with_reducible refine Below.alloc ?_ (by first | omega | (simp; done) | (simp; omega)) _) | (with_reducible refine Below.drew ?_) | (with_reducible refine below_drewN ?_ _) | (with_reducible refine Below.trans ?_ (Below.mono (by assumption) (by first | omega | (simp; done) | (simp; omega)))))))).mono ?_); rintro e w1 ⟨rfl, hb⟩; obtain ⟨hc, hf, hz⟩ := bcall hb; (try simp at hc hf hz))
  go_wp2_with (go_at_call 63; (with_reducible refine (VB.out _ (by (repeat' (first | (with_reducible exact Below.refl _ _) | (with_reducible refine Below.setCell ?_ (by first | omega | (simp; done) | (simp; omega)) _) | (with_reducible refine Below.alloc ?_ (by first | omega | (simp; done) | (simp; omega)) _) | (with_reducible refine Below.drew ?_) | (with_reducible refine below_drewN ?_ _) | (with_reducible refine Below.trans ?_ (Below.mono (by assumption) (by first | omega | (simp; done) | (simp; omega)))))))).mono ?_); rintro e w1 ⟨rfl, hb⟩; obtain ⟨hc, hf, hz⟩ := bcall hb; (try simp at hc hf hz))
  go_ret
  refine ⟨by simp, ?_⟩
  (repeat' (first | (with_reducible exact Below.refl _ _) | (with_reducible refine Below.setCell ?_ (by first | omega | (simp; done) | (simp; omega)) _) | (with_reducible refine Below.alloc ?_ (by first | omega | (simp; done) | (simp; omega)) _) | (with_reducible refine Below.drew ?_) | (with_reducible refine below_drewN ?_ _) | (with_reducible refine Below.trans ?_ (Below.mono (by assumption) (by first | omega | (simp; done) | (simp; omega))))))
set_option maxHeartbeats 1000000 in
theorem sides_size (W H W' H' : Int) (n m c c' : Nat) (ao ao' : Option Addr) (A B : Nat → Nat → Int) (w : World) (ha : VG W H n A) (hb' : VG W' H' m B) (hA : CellsIn w ao n A) (hB : CellsIn w ao' m B) (hne : ¬ (W = W' ∧ H = H')) :
    Calls Try.prog 86 #[.agg #[.int .i64 W, .int .i64 H, .slice (ao) n c], .agg #[.int .i64 W', .int .i64 H', .slice (ao') m c']] w fun e w' => e = .returned (.int .i64 9) ∧ Below w.heap.size w w' := by
  have VA := Lib.hid (fun w' (hb : Below w.heap.size w w') => gValid_ok W H ao n c A w' ha (hA.below hb))
  have VB := Lib.hid (fun w' (hb : Below w.heap.size w w') => gValid_ok W' H' ao' m c' B w' hb' (hB.below hb))
  clear ha hb' hA hB
  by_cases hW : W = W'
  · have hH : ((H : Int) == H') = false := by simp; exact fun h => hne ⟨hW, h⟩
    have hH2 : ((H : Int) != H') = true := by simp [bne, hH]
    subst hW
    clear hne
    go_enter Try.func86, Try.ntmps86
    go_wp2_with fail
    (go_at_call 63; (with_reducible refine (VA.out _ (by (repeat' (first | (with_reducible exact Below.refl _ _) | (with_reducible refine Below.setCell ?_ (by first | omega | (simp; done) | (simp; omega)) _) | (with_reducible refine Below.alloc ?_ (by first | omega | (simp; done) | (simp; omega)) _) | (with_reducible refine Below.drew ?_) | (with_reducible refine below_drewN ?_ _) | (with_reducible refine Below.trans ?_ (Below.mono (by assumption) (by first | omega | (simp; done) | (simp; omega)))))))).mono ?_); rintro e w1 ⟨rfl, hb⟩; obtain ⟨hc, hf, hz⟩ := bcall hb; (try simp at hc hf hz))
    go_wp2_with (go_at_call 63; (with_reducible refine (VB.out _ (by (repeat' (first | (with_reducible exact Below.refl _ _) | (with_reducible refine Below.setCell ?_ (by first | omega | (simp; done) | (simp; omega)) _) | (with_reducible refine Below.alloc ?_ (by first | omega | (simp; done) | (simp; omega)) _) | (with_reducible refine Below.drew ?_) | (with_reducible refine below_drewN ?_ _) | (with_reducible refine Below.trans ?_ (Below.mono (by assumption) (by first | omega | (simp; done) | (simp; omega)))))))).mono ?_); rintro e w1 ⟨rfl, hb⟩; obtain ⟨hc, hf, hz⟩ := bcall hb; (try simp at hc hf hz))
    go_ret
    refine ⟨by simp, ?_⟩
    (repeat' (first | (with_reducible exact Below.refl _ _) | (with_reducible refine Below.setCell ?_ (by first | omega | (simp; done) | (simp; omega)) _) | (with_reducible refine Below.alloc ?_ (by first | omega | (simp; done) | (simp; omega)) _) | (with_reducible refine Below.drew ?_) | (with_reducible refine below_drewN ?_ _) | (with_reducible refine Below.trans ?_ (Below.mono (by assumption) (by first | omega | (simp; done) | (simp; omega))))))
  · have hH : ((W : Int) == W') = false := by simp [hW]
    have hH2 : ((W : Int) != W') = true := by simp [bne, hH]
    clear hne hW
    go_enter Try.func86, Try.ntmps86
    go_wp2_with fail
    (go_at_call 63; (with_reducible refine (VA.out _ (by (repeat' (first | (with_reducible exact Below.refl _ _) | (with_reducible refine Below.setCell ?_ (by first | omega | (simp; done) | (simp; omega)) _) | (with_reducible refine Below.alloc ?_ (by first | omega | (simp; done) | (simp; omega)) _) | (with_reducible refine Below.drew ?_) | (with_reducible refine below_drewN ?_ _) | (with_reducible refine Below.trans ?_ (Below.mono (by assumption) (by first | omega | (simp; done) | (simp; omega)))))))).mono ?_); rintro e w1 ⟨rfl, hb⟩; obtain ⟨hc, hf, hz⟩ := bcall hb; (try simp at hc hf hz))
    go_wp2_with (go_at_call 63; (with_reducible refine (VB.out _ (by (repeat' (first | (with_reducible exact Below.refl _ _) | (with_reducible refine Below.setCell ?_ (by first | omega | (simp; done) | (simp; omega)) _) | (with_reducible refine Below.alloc ?_ (by first | omega | (simp; done) | (simp; omega)) _) | (with_reducible refine Below.drew ?_) | (with_reducible refine below_drewN ?_ _) | (with_reducible refine Below.trans ?_ (Below.mono (by assumption) (by first | omega | (simp; done) | (simp; omega)))))))).mono ?_); rintro e w1 ⟨rfl, hb⟩; obtain ⟨hc, hf, hz⟩ := bcall hb; (try simp at hc hf hz))
    go_ret
    refine ⟨by simp, ?_⟩
    (repeat' (first | (with_reducible exact Below.refl _ _) | (with_reducible refine Below.setCell ?_ (by first | omega | (simp; done) | (simp; omega)) _) | (with_reducible refine Below.alloc ?_ (by first | omega | (simp; done) | (simp; omega)) _) | (with_reducible refine Below.drew ?_) | (with_reducible refine below_drewN ?_ _) | (with_reducible refine Below.trans ?_ (Below.mono (by assumption) (by first | omega | (simp; done) | (simp; omega))))))

theorem own_keep {w0 wr wr' : World} {v : Value} {L : List Nat} (h : OwnNums wr w0.heap.size v L ∧ Below w0.heap.size w0 wr) (hX : Below wr.heap.size wr wr') : OwnNums wr' w0.heap.size v L ∧ Below w0.heap.size w0 wr' :=
  ⟨h.1.below hX, h.2.trans (hX.mono h.2.size)⟩
theorem own_app {w0 wr X w6 : World} {v v' : Value} {L : List Nat} {k : Nat} (h : OwnNums wr w0.heap.size v L ∧ Below w0.heap.size w0 wr) (hX : Below wr.heap.size wr X) (hown : w6.ownsRow w0.heap.size 3 1 v' (L.length + 1) (nums L ++ [.int .i64 k])) (hgrow : X.grownBy w6 v.ownBlock) :
    OwnNums w6 w0.heap.size v' (L ++ [k]) ∧ Below w0.heap.size w0 w6 := by
  refine ⟨?_, ?_⟩
  · have e : nums (L ++ [k]) = nums L ++ [.int .i64 k] := by simp [nums]
    unfold OwnNums
    rw [e]
    simpa using hown
  · have b1 : Below w0.heap.size w0 X := h.2.trans (hX.mono h.2.size)
    exact b1.grown hgrow b1.size (fun j hj => ((h.1.below hX : OwnNums X w0.heap.size v L).lt j hj).1)
theorem own_low {w wr : World} {base : Nat} {v : Value} {L : List Nat} (h : OwnNums wr base v L) (hb : w.heap.size ≤ base) : OwnNums wr w.heap.size v L := by
  refine ⟨h.1, ?_⟩
  rcases h.2 with hn | ⟨g, cap, cur, rfl, hg, rest⟩
  · exact .inl hn
  · exact .inr ⟨g, cap, cur, rfl, Nat.le_trans hb hg, rest⟩

/-- What Differ gives. -/
def Dif (A B : Nat → Nat → Int) (n : Nat) (w : World) (e : Ending) (w' : World) : Prop := ∃ v, e = .returned (.tuple #[v, .int .i64 0]) ∧ OwnNums w' w.heap.size v (dfL A B n) ∧ Below w.heap.size w w'

set_option maxRecDepth 100000 in
set_option maxHeartbeats 8000000 in
theorem gDiffer_in (W H : Int) (n c c' b off b' off' : Nat) (A B : Nat → Nat → Int) (w : World) (ha : VG W H n A) (hb' : VG W H n B) (hlt : b < w.heap.size) (hlt' : b' < w.heap.size) (hA : Grd w b off n A) (hB : Grd w b' off' n B) :
    Calls Try.prog 40 #[.agg #[.int .i64 W, .int .i64 H, .slice (some ⟨b, off, none⟩) n c], .agg #[.int .i64 W, .int .i64 H, .slice (some ⟨b', off', none⟩) n c']] w (Dif A B n w) := by
  have hn1 : n ≤ 1024 := by have := ha.1.bd; have := ha.2.1; omega
  have CS := Lib.hid (fun w' (hb : Below w.heap.size w w') => sides_ok W H n n c c' (some ⟨b, off, none⟩) (some ⟨b', off', none⟩) A B w' ha hb' ((show CellsIn w _ n A from .inr ⟨b, off, rfl, hlt, hA⟩).below hb) ((show CellsIn w _ n B from .inr ⟨b', off', rfl, hlt', hB⟩).below hb))
  obtain ⟨i0, hi, hz0, hz1, hz2⟩ := info_parts info_int
  have HA := Lib.hid hA
  have HB := Lib.hid hB
  clear ha hb' hA hB
  go_enter Try.func40, Try.ntmps40
  go_wp2_with (go_at_call 86; (with_reducible refine (CS.out _ (by (repeat' (first | (with_reducible exact Below.refl _ _) | (with_reducible refine Below.setCell ?_ (by first | omega | (simp; done) | (simp; omega)) _) | (with_reducible refine Below.alloc ?_ (by first | omega | (simp; done) | (simp; omega)) _) | (with_reducible refine Below.drew ?_) | (with_reducible refine below_drewN ?_ _) | (with_reducible refine Below.trans ?_ (Below.mono (by assumption) (by first | omega | (simp; done) | (simp; omega)))))))).mono ?_); rintro e w1 ⟨rfl, hb⟩; obtain ⟨hc, hf, hz⟩ := bcall hb; (try simp at hc hf hz))
  have H0 := Lib.hid (show Below w.heap.size w w1 from by (repeat' (first | (with_reducible exact Below.refl _ _) | (with_reducible refine Below.setCell ?_ (by first | omega | (simp; done) | (simp; omega)) _) | (with_reducible refine Below.alloc ?_ (by first | omega | (simp; done) | (simp; omega)) _) | (with_reducible refine Below.drew ?_) | (with_reducible refine below_drewN ?_ _) | (with_reducible refine Below.trans ?_ (Below.mono (by assumption) (by first | omega | (simp; done) | (simp; omega)))))))
  have h3 := Lib.hid (show w1.cell? ⟨w.heap.size + 1, 2, none⟩ = some (.slice (some ⟨b', off', none⟩) n c') from by simp [hc, go_sem])
  have l3 : w.heap.size + 1 < w1.heap.size := by omega
  clear hc hf hz hb CS
  go_loopw [7, 19] (fun l i wr => ∃ k : Nat, k ≤ n ∧ i = .int .i64 k ∧ Hid (OwnNums wr w1.heap.size l (dfL A B k) ∧ Below w1.heap.size w1 wr)) (fun _ i _ => n - (intOf i).toNat)
  case atStart => exact ⟨0, Nat.zero_le _, rfl, Lib.hid ⟨OwnNums.nil _ _, Below.refl _ _⟩⟩
  case round =>
    obtain ⟨k, hk, rfl, HH⟩ := hrel
    have hBw := H0.out.trans (HH.out.2.mono H0.out.size)
    have k2 := (HH.out.2.cell (p := ⟨w.heap.size + 1, 2, none⟩) l3).trans h3.out
    have l4 : w.heap.size + 1 < wr.heap.size := Nat.lt_of_lt_of_le l3 HH.out.2.size
    by_cases hlk : k < n
    · obtain ⟨e0, e1, e2, e3⟩ := HA.out.get hBw hlt hlk
      obtain ⟨g0, g1, g2, g3⟩ := HB.out.get hBw hlt' hlk
      have hsz := hBw.size
      have HW := Lib.hid hBw
      have p0 : (0 : Int) ≤ (k : Int) := by omega
      have p1 : (k : Int) < (n : Int) := by omega
      clear hBw
      by_cases hs : same4 A B k
      · obtain ⟨s0, s1, s2, s3⟩ := hs
        rw [← s0] at g0; rw [← s1] at g1; rw [← s2] at g2; rw [← s3] at g3
        have HD := Lib.hid (show dfL A B (k + 1) = dfL A B k from by simp only [dfL]; rw [if_pos ⟨s0, s1, s2, s3⟩])
        clear s0 s1 s2 s3
        go_wp2
        go_quiet (fail)
        go_wp2
        go_roundw
        case rel => exact ⟨k + 1, by omega, by go_num, Lib.hid (by rw [HD.out]; exact own_keep HH.out (by (repeat' (first | (with_reducible exact Below.refl _ _) | (with_reducible refine Below.setCell ?_ (by first | omega | (simp; done) | (simp; omega)) _) | (with_reducible refine Below.alloc ?_ (by first | omega | (simp; done) | (simp; omega)) _) | (with_reducible refine Below.drew ?_) | (with_reducible refine below_drewN ?_ _) | (with_reducible refine Below.trans ?_ (Below.mono (by assumption) (by first | omega | (simp; done) | (simp; omega))))))))⟩
        case measure => simp [intOf]; omega
      · have hq := beq4 (A k 0) (A k 1) (A k 2) (A k 3) (B k 0) (B k 1) (B k 2) (B k 3) hs
        have HD := Lib.hid (show dfL A B (k + 1) = dfL A B k ++ [k] from by simp only [dfL]; rw [if_neg hs])
        have hlen := dfL_len A B k
        clear hs
        go_wp2
        go_quiet (fail)
        have hW5 := HH.out.2.size
        go_wp2_with (at_builtin; refine wpList_append_own _ rfl _ _ 57 rfl w1.heap.size 3 i0 (.int .i64 0) 1 8 Try.underlying57 hi hz0 hz1 hz2 rfl (by omega) _ _ _ rfl (HH.out.1.below (by (repeat' (first | (with_reducible exact Below.refl _ _) | (with_reducible refine Below.setCell ?_ (by first | omega | (simp; done) | (simp; omega)) _) | (with_reducible refine Below.alloc ?_ (by first | omega | (simp; done) | (simp; omega)) _) | (with_reducible refine Below.drew ?_) | (with_reducible refine below_drewN ?_ _) | (with_reducible refine Below.trans ?_ (Below.mono (by assumption) (by first | omega | (simp; done) | (simp; omega)))))))) _ 1 1 [.int .i64 k] rfl rfl (by intro j u hu; match j with | 0 => (simp at hu; subst hu; simp only [Addr.add, Nat.zero_add]; exact (World.cell?_alloc_at _ _ _ _ (by simp)).trans rfl) | _ + 1 => simp at hu) (by intro u hu; simp at hu; subst hu; rfl) (by unfold maxLen; omega) (by omega) (by simp; omega) ?_; intro v' w6 hown hgrow _)
        have HN := Lib.hid (own_app HH.out (by (repeat' (first | (with_reducible exact Below.refl _ _) | (with_reducible refine Below.setCell ?_ (by first | omega | (simp; done) | (simp; omega)) _) | (with_reducible refine Below.alloc ?_ (by first | omega | (simp; done) | (simp; omega)) _) | (with_reducible refine Below.drew ?_) | (with_reducible refine below_drewN ?_ _) | (with_reducible refine Below.trans ?_ (Below.mono (by assumption) (by first | omega | (simp; done) | (simp; omega))))))) hown hgrow)
        clear hown hgrow
        go_roundw
        case rel => exact ⟨k + 1, by omega, by go_num, Lib.hid (by rw [HD.out]; exact HN.out)⟩
        case measure => simp [intOf]; omega
    · obtain rfl : n = k := by omega
      have HW := Lib.hid hBw
      clear hBw
      go_wp2
      go_ret2
      exact ⟨_, rfl, own_low HH.out.1 H0.out.size, HW.out⟩

set_option maxRecDepth 100000 in
set_option maxHeartbeats 8000000 in
theorem rDiffer_in (W H : Int) (n c c' b off b' off' : Nat) (A B : Nat → Nat → Int) (w : World) (ha : VG W H n A) (hb' : VG W H n B) (hlt : b < w.heap.size) (hlt' : b' < w.heap.size) (hA : Grd w b off n A) (hB : Grd w b' off' n B) :
    Calls Try.prog 41 #[.agg #[.int .i64 W, .int .i64 H, .slice (some ⟨b, off, none⟩) n c], .agg #[.int .i64 W, .int .i64 H, .slice (some ⟨b', off', none⟩) n c']] w (Dif A B n w) := by
  have hn1 : n ≤ 1024 := by have := ha.1.bd; have := ha.2.1; omega
  have VA := Lib.hid (fun w' (hb : Below w.heap.size w w') => rValid_ok W H (some ⟨b, off, none⟩) n c A w' ha ((show CellsIn w _ n A from .inr ⟨b, off, rfl, hlt, hA⟩).below hb))
  have VB := Lib.hid (fun w' (hb : Below w.heap.size w w') => rValid_ok W H (some ⟨b', off', none⟩) n c' B w' hb' ((show CellsIn w _ n B from .inr ⟨b', off', rfl, hlt', hB⟩).below hb))
  obtain ⟨i0, hi, hz0, hz1, hz2⟩ := info_parts info_int
  have HA := Lib.hid hA
  have HB := Lib.hid hB
  clear ha hb' hA hB
  go_enter Try.func41, Try.ntmps41
  go_wp2_with fail
  (go_at_call 59; (with_reducible refine (VA.out _ (by (repeat' (first | (with_reducible exact Below.refl _ _) | (with_reducible refine Below.setCell ?_ (by first | omega | (simp; done) | (simp; omega)) _) | (with_reducible refine Below.alloc ?_ (by first | omega | (simp; done) | (simp; omega)) _) | (with_reducible refine Below.drew ?_) | (with_reducible refine below_drewN ?_ _) | (with_reducible refine Below.trans ?_ (Below.mono (by assumption) (by first | omega | (simp; done) | (simp; omega)))))))).mono ?_); rintro e w9 ⟨rfl, hb9⟩; obtain ⟨hc9, hf9, hz9⟩ := bcall hb9; (try simp at hc9 hf9 hz9))
  go_wp2_with (go_at_call 59; (with_reducible refine (VB.out _ (by (repeat' (first | (with_reducible exact Below.refl _ _) | (with_reducible refine Below.setCell ?_ (by first | omega | (simp; done) | (simp; omega)) _) | (with_reducible refine Below.alloc ?_ (by first | omega | (simp; done) | (simp; omega)) _) | (with_reducible refine Below.drew ?_) | (with_reducible refine below_drewN ?_ _) | (with_reducible refine Below.trans ?_ (Below.mono (by assumption) (by first | omega | (simp; done) | (simp; omega)))))))).mono ?_); rintro e w1 ⟨rfl, hb⟩; obtain ⟨hc, hf, hz⟩ := bcall hb; (try simp at hc hf hz))
  have H0 := Lib.hid (show Below w.heap.size w w1 from by (repeat' (first | (with_reducible exact Below.refl _ _) | (with_reducible refine Below.setCell ?_ (by first | omega | (simp; done) | (simp; omega)) _) | (with_reducible refine Below.alloc ?_ (by first | omega | (simp; done) | (simp; omega)) _) | (with_reducible refine Below.drew ?_) | (with_reducible refine below_drewN ?_ _) | (with_reducible refine Below.trans ?_ (Below.mono (by assumption) (by first | omega | (simp; done) | (simp; omega)))))))
  have h3 := Lib.hid (show w1.cell? ⟨w.heap.size + 1, 2, none⟩ = some (.slice (some ⟨b', off', none⟩) n c') from by simp [hc, hc9, go_sem, ↓IntWalk.iteOmega, *])
  have h2 := Lib.hid (show w1.cell? ⟨w.heap.size, 2, none⟩ = some (.slice (some ⟨b, off, none⟩) n c) from by simp [hc, hc9, go_sem, ↓IntWalk.iteOmega, *])
  have l3 : w.heap.size + 1 < w1.heap.size := by omega
  clear hc hf hz hb hc9 hf9 hz9 hb9 VA VB
  go_loopw [6, 7] (fun l i wr => ∃ k : Nat, k ≤ n ∧ i = .int .i64 k ∧ Hid (OwnNums wr w1.heap.size l (dfL A B k) ∧ Below w1.heap.size w1 wr)) (fun _ i _ => n - (intOf i).toNat)
  case atStart => exact ⟨0, Nat.zero_le _, rfl, Lib.hid ⟨OwnNums.nil _ _, Below.refl _ _⟩⟩
  case round =>
    obtain ⟨k, hk, rfl, HH⟩ := hrel
    have hBw := H0.out.trans (HH.out.2.mono H0.out.size)
    have k2 := (HH.out.2.cell (p := ⟨w.heap.size + 1, 2, none⟩) l3).trans h3.out
    have k1 := (HH.out.2.cell (p := ⟨w.heap.size, 2, none⟩) (show w.heap.size < w1.heap.size by omega)).trans h2.out
    have l4 : w.heap.size + 1 < wr.heap.size := Nat.lt_of_lt_of_le l3 HH.out.2.size
    by_cases hlk : k < n
    · obtain ⟨e0, e1, e2, e3⟩ := HA.out.get hBw hlt hlk
      obtain ⟨g0, g1, g2, g3⟩ := HB.out.get hBw hlt' hlk
      have hsz := hBw.size
      have HW := Lib.hid hBw
      have p0 : (0 : Int) ≤ (k : Int) := by omega
      have p1 : (k : Int) < (n : Int) := by omega
      clear hBw
      by_cases hs : same4 A B k
      · obtain ⟨s0, s1, s2, s3⟩ := hs
        rw [← s0] at g0; rw [← s1] at g1; rw [← s2] at g2; rw [← s3] at g3
        have HD := Lib.hid (show dfL A B (k + 1) = dfL A B k from by simp only [dfL]; rw [if_pos ⟨s0, s1, s2, s3⟩])
        clear s0 s1 s2 s3
        go_wp2
        go_quiet (fail)
        go_wp2
        go_roundw
        case rel => exact ⟨k + 1, by omega, by go_num, Lib.hid (by rw [HD.out]; exact own_keep HH.out (by (repeat' (first | (with_reducible exact Below.refl _ _) | (with_reducible refine Below.setCell ?_ (by first | omega | (simp; done) | (simp; omega)) _) | (with_reducible refine Below.alloc ?_ (by first | omega | (simp; done) | (simp; omega)) _) | (with_reducible refine Below.drew ?_) | (with_reducible refine below_drewN ?_ _) | (with_reducible refine Below.trans ?_ (Below.mono (by assumption) (by first | omega | (simp; done) | (simp; omega))))))))⟩
        case measure => simp [intOf]; omega
      · have hq := beq4 (A k 0) (A k 1) (A k 2) (A k 3) (B k 0) (B k 1) (B k 2) (B k 3) hs
        have HD := Lib.hid (show dfL A B (k + 1) = dfL A B k ++ [k] from by simp only [dfL]; rw [if_neg hs])
        have hlen := dfL_len A B k
        clear hs
        go_wp2
        go_quiet (fail)
        have hW5 := HH.out.2.size
        go_wp2_with (at_builtin; refine wpList_append_own _ rfl _ _ 57 rfl w1.heap.size 3 i0 (.int .i64 0) 1 8 Try.underlying57 hi hz0 hz1 hz2 rfl (by omega) _ _ _ rfl (HH.out.1.below (by (repeat' (first | (with_reducible exact Below.refl _ _) | (with_reducible refine Below.setCell ?_ (by first | omega | (simp; done) | (simp; omega)) _) | (with_reducible refine Below.alloc ?_ (by first | omega | (simp; done) | (simp; omega)) _) | (with_reducible refine Below.drew ?_) | (with_reducible refine below_drewN ?_ _) | (with_reducible refine Below.trans ?_ (Below.mono (by assumption) (by first | omega | (simp; done) | (simp; omega)))))))) _ 1 1 [.int .i64 k] rfl rfl (by intro j u hu; match j with | 0 => (simp at hu; subst hu; simp only [Addr.add, Nat.zero_add]; exact (World.cell?_alloc_at _ _ _ _ (by simp)).trans rfl) | _ + 1 => simp at hu) (by intro u hu; simp at hu; subst hu; rfl) (by unfold maxLen; omega) (by omega) (by simp; omega) ?_; intro v' w6 hown hgrow _)
        have HN := Lib.hid (own_app HH.out (by (repeat' (first | (with_reducible exact Below.refl _ _) | (with_reducible refine Below.setCell ?_ (by first | omega | (simp; done) | (simp; omega)) _) | (with_reducible refine Below.alloc ?_ (by first | omega | (simp; done) | (simp; omega)) _) | (with_reducible refine Below.drew ?_) | (with_reducible refine below_drewN ?_ _) | (with_reducible refine Below.trans ?_ (Below.mono (by assumption) (by first | omega | (simp; done) | (simp; omega))))))) hown hgrow)
        clear hown hgrow
        go_roundw
        case rel => exact ⟨k + 1, by omega, by go_num, Lib.hid (by rw [HD.out]; exact HN.out)⟩
        case measure => simp [intOf]; omega
    · obtain rfl : n = k := by omega
      have HW := Lib.hid hBw
      clear hBw
      go_wp2
      go_ret2
      exact ⟨_, rfl, own_low HH.out.1 H0.out.size, HW.out⟩

theorem gDiffer_ok (W H : Int) (n c c' : Nat) (ao ao' : Option Addr) (A B : Nat → Nat → Int) (w : World) (ha : VG W H n A) (hb' : VG W H n B) (hA : CellsIn w ao n A) (hB : CellsIn w ao' n B) :
    Calls Try.prog 40 #[.agg #[.int .i64 W, .int .i64 H, .slice (ao) n c], .agg #[.int .i64 W, .int .i64 H, .slice (ao') n c']] w (Dif A B n w) := by
  obtain ⟨W', H', rfl, rfl, s, _⟩ := Sides.vg ha
  obtain ⟨b, off, rfl, hlt, hA⟩ := cells_of s hA
  obtain ⟨b', off', rfl, hlt', hB⟩ := cells_of s hB
  exact gDiffer_in _ _ n c c' b off b' off' A B w ha hb' hlt hlt' hA hB
theorem rDiffer_ok (W H : Int) (n c c' : Nat) (ao ao' : Option Addr) (A B : Nat → Nat → Int) (w : World) (ha : VG W H n A) (hb' : VG W H n B) (hA : CellsIn w ao n A) (hB : CellsIn w ao' n B) :
    Calls Try.prog 41 #[.agg #[.int .i64 W, .int .i64 H, .slice (ao) n c], .agg #[.int .i64 W, .int .i64 H, .slice (ao') n c']] w (Dif A B n w) := by
  obtain ⟨W', H', rfl, rfl, s, _⟩ := Sides.vg ha
  obtain ⟨b, off, rfl, hlt, hA⟩ := cells_of s hA
  obtain ⟨b', off', rfl, hlt', hB⟩ := cells_of s hB
  exact rDiffer_in _ _ n c c' b off b' off' A B w ha hb' hlt hlt' hA hB

/-- Two grids that are not both valid; two of other sides. -/
def Odd1 (W H W' H' : Int) (n m : Nat) (A B : Nat → Nat → Int) : Prop := ¬ (VG W H n A ∧ VG W' H' m B)
def Odd9 (W H W' H' : Int) (n m : Nat) (A B : Nat → Nat → Int) : Prop := (VG W H n A ∧ VG W' H' m B) ∧ ¬ (W = W' ∧ H = H')

theorem sides_err1 (W H W' H' : Int) (n m c c' : Nat) (ao ao' : Option Addr) (A B : Nat → Nat → Int) (w : World) (hA : CellsIn w ao n A) (hB : CellsIn w ao' m B) (h : Odd1 W H W' H' n m A B) : Calls Try.prog 86 #[.agg #[.int .i64 W, .int .i64 H, .slice (ao) n c], .agg #[.int .i64 W', .int .i64 H', .slice (ao') m c']] w fun e w' => e = .returned (.int .i64 1) ∧ Below w.heap.size w w' := by
  by_cases ha : VG W H n A
  · exact sides_inv2 W H W' H' n m c c' ao ao' A B w ha (fun k => h ⟨ha, k⟩) hA hB
  · exact sides_inv1 W H W' H' n m c c' ao ao' A w ha hA

set_option maxHeartbeats 1000000 in
theorem gDiffer_err1 (W H W' H' : Int) (n m c c' : Nat) (ao ao' : Option Addr) (A B : Nat → Nat → Int) (w : World) (hA : CellsIn w ao n A) (hB : CellsIn w ao' m B) (h : Odd1 W H W' H' n m A B) : Calls Try.prog 40 #[.agg #[.int .i64 W, .int .i64 H, .slice (ao) n c], .agg #[.int .i64 W', .int .i64 H', .slice (ao') m c']] w fun e w' => e = .returned (.tuple #[.slice none 0 0, .int .i64 1]) ∧ Below w.heap.size w w' := by
  have CS := Lib.hid (fun w' (hb : Below w.heap.size w w') => sides_err1 W H W' H' n m c c' ao ao' A B w' (hA.below hb) (hB.below hb) h)
  clear h hA hB
  go_enter Try.func40, Try.ntmps40
  go_wp2_with (go_at_call 86; (with_reducible refine (CS.out _ (by (repeat' (first | (with_reducible exact Below.refl _ _) | (with_reducible refine Below.setCell ?_ (by first | omega | (simp; done) | (simp; omega)) _) | (with_reducible refine Below.alloc ?_ (by first | omega | (simp; done) | (simp; omega)) _) | (with_reducible refine Below.drew ?_) | (with_reducible refine below_drewN ?_ _) | (with_reducible refine Below.trans ?_ (Below.mono (by assumption) (by first | omega | (simp; done) | (simp; omega)))))))).mono ?_); rintro e w1 ⟨rfl, hb⟩; obtain ⟨hc, hf, hz⟩ := bcall hb; (try simp at hc hf hz))
  go_ret2
  refine ⟨rfl, ?_⟩
  (repeat' (first | (with_reducible exact Below.refl _ _) | (with_reducible refine Below.setCell ?_ (by first | omega | (simp; done) | (simp; omega)) _) | (with_reducible refine Below.alloc ?_ (by first | omega | (simp; done) | (simp; omega)) _) | (with_reducible refine Below.drew ?_) | (with_reducible refine below_drewN ?_ _) | (with_reducible refine Below.trans ?_ (Below.mono (by assumption) (by first | omega | (simp; done) | (simp; omega))))))

set_option maxHeartbeats 1000000 in
theorem rDiffer_err1 (W H W' H' : Int) (n m c c' : Nat) (ao ao' : Option Addr) (A B : Nat → Nat → Int) (w : World) (hA : CellsIn w ao n A) (hB : CellsIn w ao' m B) (h : Odd1 W H W' H' n m A B) : Calls Try.prog 41 #[.agg #[.int .i64 W, .int .i64 H, .slice (ao) n c], .agg #[.int .i64 W', .int .i64 H', .slice (ao') m c']] w fun e w' => e = .returned (.tuple #[.slice none 0 0, .int .i64 1]) ∧ Below w.heap.size w w' := by
  by_cases ha : VG W H n A
  · have VA := Lib.hid (fun w' (hb : Below w.heap.size w w') => rValid_ok W H ao n c A w' ha (hA.below hb))
    have VB := Lib.hid (fun w' (hb : Below w.heap.size w w') => rValid_bad W' H' ao' m c' B w' (fun k => h ⟨ha, k⟩) (hB.below hb))
    clear h hA hB ha
    go_enter Try.func41, Try.ntmps41
    go_wp2_with fail
    (go_at_call 59; (with_reducible refine (VA.out _ (by (repeat' (first | (with_reducible exact Below.refl _ _) | (with_reducible refine Below.setCell ?_ (by first | omega | (simp; done) | (simp; omega)) _) | (with_reducible refine Below.alloc ?_ (by first | omega | (simp; done) | (simp; omega)) _) | (with_reducible refine Below.drew ?_) | (with_reducible refine below_drewN ?_ _) | (with_reducible refine Below.trans ?_ (Below.mono (by assumption) (by first | omega | (simp; done) | (simp; omega)))))))).mono ?_); rintro e w9 ⟨rfl, hb9⟩; obtain ⟨hc9, hf9, hz9⟩ := bcall hb9; (try simp at hc9 hf9 hz9))
    go_wp2_with (go_at_call 59; (with_reducible refine (VB.out _ (by (repeat' (first | (with_reducible exact Below.refl _ _) | (with_reducible refine Below.setCell ?_ (by first | omega | (simp; done) | (simp; omega)) _) | (with_reducible refine Below.alloc ?_ (by first | omega | (simp; done) | (simp; omega)) _) | (with_reducible refine Below.drew ?_) | (with_reducible refine below_drewN ?_ _) | (with_reducible refine Below.trans ?_ (Below.mono (by assumption) (by first | omega | (simp; done) | (simp; omega)))))))).mono ?_); rintro e w1 ⟨rfl, hb⟩; obtain ⟨hc, hf, hz⟩ := bcall hb; (try simp at hc hf hz))
    go_ret2
    refine ⟨rfl, ?_⟩
    (repeat' (first | (with_reducible exact Below.refl _ _) | (with_reducible refine Below.setCell ?_ (by first | omega | (simp; done) | (simp; omega)) _) | (with_reducible refine Below.alloc ?_ (by first | omega | (simp; done) | (simp; omega)) _) | (with_reducible refine Below.drew ?_) | (with_reducible refine below_drewN ?_ _) | (with_reducible refine Below.trans ?_ (Below.mono (by assumption) (by first | omega | (simp; done) | (simp; omega))))))

  · have VA := Lib.hid (fun w' (hb : Below w.heap.size w w') => rValid_bad W H ao n c A w' ha (hA.below hb))
    clear h hA hB ha
    go_enter Try.func41, Try.ntmps41
    go_wp2_with (go_at_call 59; (with_reducible refine (VA.out _ (by (repeat' (first | (with_reducible exact Below.refl _ _) | (with_reducible refine Below.setCell ?_ (by first | omega | (simp; done) | (simp; omega)) _) | (with_reducible refine Below.alloc ?_ (by first | omega | (simp; done) | (simp; omega)) _) | (with_reducible refine Below.drew ?_) | (with_reducible refine below_drewN ?_ _) | (with_reducible refine Below.trans ?_ (Below.mono (by assumption) (by first | omega | (simp; done) | (simp; omega)))))))).mono ?_); rintro e w1 ⟨rfl, hb⟩; obtain ⟨hc, hf, hz⟩ := bcall hb; (try simp at hc hf hz))
    go_ret2
    refine ⟨rfl, ?_⟩
    (repeat' (first | (with_reducible exact Below.refl _ _) | (with_reducible refine Below.setCell ?_ (by first | omega | (simp; done) | (simp; omega)) _) | (with_reducible refine Below.alloc ?_ (by first | omega | (simp; done) | (simp; omega)) _) | (with_reducible refine Below.drew ?_) | (with_reducible refine below_drewN ?_ _) | (with_reducible refine Below.trans ?_ (Below.mono (by assumption) (by first | omega | (simp; done) | (simp; omega))))))

set_option maxHeartbeats 1000000 in
theorem gAdded_err1 (W H W' H' : Int) (n m c c' : Nat) (ao ao' : Option Addr) (A B : Nat → Nat → Int) (w : World) (hA : CellsIn w ao n A) (hB : CellsIn w ao' m B) (h : Odd1 W H W' H' n m A B) : Calls Try.prog 38 #[.agg #[.int .i64 W, .int .i64 H, .slice (ao) n c], .agg #[.int .i64 W', .int .i64 H', .slice (ao') m c']] w fun e w' => e = .returned (.tuple #[.agg #[.int .i64 0, .int .i64 0, .slice (none) 0 0], .int .i64 1]) ∧ Below w.heap.size w w' := by
  have CS := Lib.hid (fun w' (hb : Below w.heap.size w w') => sides_err1 W H W' H' n m c c' ao ao' A B w' (hA.below hb) (hB.below hb) h)
  clear h hA hB
  go_enter Try.func38, Try.ntmps38
  go_wp2_with (go_at_call 86; (with_reducible refine (CS.out _ (by (repeat' (first | (with_reducible exact Below.refl _ _) | (with_reducible refine Below.setCell ?_ (by first | omega | (simp; done) | (simp; omega)) _) | (with_reducible refine Below.alloc ?_ (by first | omega | (simp; done) | (simp; omega)) _) | (with_reducible refine Below.drew ?_) | (with_reducible refine below_drewN ?_ _) | (with_reducible refine Below.trans ?_ (Below.mono (by assumption) (by first | omega | (simp; done) | (simp; omega)))))))).mono ?_); rintro e w1 ⟨rfl, hb⟩; obtain ⟨hc, hf, hz⟩ := bcall hb; (try simp at hc hf hz))
  refine bodyPost_ret (v := .tuple #[.agg #[.int .i64 0, .int .i64 0, .slice (none) 0 0], .int .i64 1]) (by simp [results, Try.results38, go_sem, ↓IntWalk.iteOmega, *]) rfl ⟨rfl, ?_⟩
  (repeat' (first | (with_reducible exact Below.refl _ _) | (with_reducible refine Below.setCell ?_ (by first | omega | (simp; done) | (simp; omega)) _) | (with_reducible refine Below.alloc ?_ (by first | omega | (simp; done) | (simp; omega)) _) | (with_reducible refine Below.drew ?_) | (with_reducible refine below_drewN ?_ _) | (with_reducible refine Below.trans ?_ (Below.mono (by assumption) (by first | omega | (simp; done) | (simp; omega))))))

set_option maxHeartbeats 1000000 in
theorem rAdded_err1 (W H W' H' : Int) (n m c c' : Nat) (ao ao' : Option Addr) (A B : Nat → Nat → Int) (w : World) (hA : CellsIn w ao n A) (hB : CellsIn w ao' m B) (h : Odd1 W H W' H' n m A B) : Calls Try.prog 39 #[.agg #[.int .i64 W, .int .i64 H, .slice (ao) n c], .agg #[.int .i64 W', .int .i64 H', .slice (ao') m c']] w fun e w' => e = .returned (.tuple #[.agg #[.int .i64 0, .int .i64 0, .slice (none) 0 0], .int .i64 1]) ∧ Below w.heap.size w w' := by
  by_cases ha : VG W H n A
  · have VA := Lib.hid (fun w' (hb : Below w.heap.size w w') => rValid_ok W H ao n c A w' ha (hA.below hb))
    have VB := Lib.hid (fun w' (hb : Below w.heap.size w w') => rValid_bad W' H' ao' m c' B w' (fun k => h ⟨ha, k⟩) (hB.below hb))
    clear h hA hB ha
    go_enter Try.func39, Try.ntmps39
    go_wp2_with fail
    (go_at_call 59; (with_reducible refine (VA.out _ (by (repeat' (first | (with_reducible exact Below.refl _ _) | (with_reducible refine Below.setCell ?_ (by first | omega | (simp; done) | (simp; omega)) _) | (with_reducible refine Below.alloc ?_ (by first | omega | (simp; done) | (simp; omega)) _) | (with_reducible refine Below.drew ?_) | (with_reducible refine below_drewN ?_ _) | (with_reducible refine Below.trans ?_ (Below.mono (by assumption) (by first | omega | (simp; done) | (simp; omega)))))))).mono ?_); rintro e w9 ⟨rfl, hb9⟩; obtain ⟨hc9, hf9, hz9⟩ := bcall hb9; (try simp at hc9 hf9 hz9))
    go_wp2_with (go_at_call 59; (with_reducible refine (VB.out _ (by (repeat' (first | (with_reducible exact Below.refl _ _) | (with_reducible refine Below.setCell ?_ (by first | omega | (simp; done) | (simp; omega)) _) | (with_reducible refine Below.alloc ?_ (by first | omega | (simp; done) | (simp; omega)) _) | (with_reducible refine Below.drew ?_) | (with_reducible refine below_drewN ?_ _) | (with_reducible refine Below.trans ?_ (Below.mono (by assumption) (by first | omega | (simp; done) | (simp; omega)))))))).mono ?_); rintro e w1 ⟨rfl, hb⟩; obtain ⟨hc, hf, hz⟩ := bcall hb; (try simp at hc hf hz))
    refine bodyPost_ret (v := .tuple #[.agg #[.int .i64 0, .int .i64 0, .slice (none) 0 0], .int .i64 1]) (by simp [results, Try.results39, go_sem, ↓IntWalk.iteOmega, *]) rfl ⟨rfl, ?_⟩
    (repeat' (first | (with_reducible exact Below.refl _ _) | (with_reducible refine Below.setCell ?_ (by first | omega | (simp; done) | (simp; omega)) _) | (with_reducible refine Below.alloc ?_ (by first | omega | (simp; done) | (simp; omega)) _) | (with_reducible refine Below.drew ?_) | (with_reducible refine below_drewN ?_ _) | (with_reducible refine Below.trans ?_ (Below.mono (by assumption) (by first | omega | (simp; done) | (simp; omega))))))

  · have VA := Lib.hid (fun w' (hb : Below w.heap.size w w') => rValid_bad W H ao n c A w' ha (hA.below hb))
    clear h hA hB ha
    go_enter Try.func39, Try.ntmps39
    go_wp2_with (go_at_call 59; (with_reducible refine (VA.out _ (by (repeat' (first | (with_reducible exact Below.refl _ _) | (with_reducible refine Below.setCell ?_ (by first | omega | (simp; done) | (simp; omega)) _) | (with_reducible refine Below.alloc ?_ (by first | omega | (simp; done) | (simp; omega)) _) | (with_reducible refine Below.drew ?_) | (with_reducible refine below_drewN ?_ _) | (with_reducible refine Below.trans ?_ (Below.mono (by assumption) (by first | omega | (simp; done) | (simp; omega)))))))).mono ?_); rintro e w1 ⟨rfl, hb⟩; obtain ⟨hc, hf, hz⟩ := bcall hb; (try simp at hc hf hz))
    refine bodyPost_ret (v := .tuple #[.agg #[.int .i64 0, .int .i64 0, .slice (none) 0 0], .int .i64 1]) (by simp [results, Try.results39, go_sem, ↓IntWalk.iteOmega, *]) rfl ⟨rfl, ?_⟩
    (repeat' (first | (with_reducible exact Below.refl _ _) | (with_reducible refine Below.setCell ?_ (by first | omega | (simp; done) | (simp; omega)) _) | (with_reducible refine Below.alloc ?_ (by first | omega | (simp; done) | (simp; omega)) _) | (with_reducible refine Below.drew ?_) | (with_reducible refine below_drewN ?_ _) | (with_reducible refine Below.trans ?_ (Below.mono (by assumption) (by first | omega | (simp; done) | (simp; omega))))))

theorem sides_err9 (W H W' H' : Int) (n m c c' : Nat) (ao ao' : Option Addr) (A B : Nat → Nat → Int) (w : World) (hA : CellsIn w ao n A) (hB : CellsIn w ao' m B) (h : Odd9 W H W' H' n m A B) : Calls Try.prog 86 #[.agg #[.int .i64 W, .int .i64 H, .slice (ao) n c], .agg #[.int .i64 W', .int .i64 H', .slice (ao') m c']] w fun e w' => e = .returned (.int .i64 9) ∧ Below w.heap.size w w' := by
  exact sides_size W H W' H' n m c c' ao ao' A B w h.1.1 h.1.2 hA hB h.2

set_option maxHeartbeats 1000000 in
theorem gDiffer_err9 (W H W' H' : Int) (n m c c' : Nat) (ao ao' : Option Addr) (A B : Nat → Nat → Int) (w : World) (hA : CellsIn w ao n A) (hB : CellsIn w ao' m B) (h : Odd9 W H W' H' n m A B) : Calls Try.prog 40 #[.agg #[.int .i64 W, .int .i64 H, .slice (ao) n c], .agg #[.int .i64 W', .int .i64 H', .slice (ao') m c']] w fun e w' => e = .returned (.tuple #[.slice none 0 0, .int .i64 9]) ∧ Below w.heap.size w w' := by
  have CS := Lib.hid (fun w' (hb : Below w.heap.size w w') => sides_err9 W H W' H' n m c c' ao ao' A B w' (hA.below hb) (hB.below hb) h)
  clear h hA hB
  go_enter Try.func40, Try.ntmps40
  go_wp2_with (go_at_call 86; (with_reducible refine (CS.out _ (by (repeat' (first | (with_reducible exact Below.refl _ _) | (with_reducible refine Below.setCell ?_ (by first | omega | (simp; done) | (simp; omega)) _) | (with_reducible refine Below.alloc ?_ (by first | omega | (simp; done) | (simp; omega)) _) | (with_reducible refine Below.drew ?_) | (with_reducible refine below_drewN ?_ _) | (with_reducible refine Below.trans ?_ (Below.mono (by assumption) (by first | omega | (simp; done) | (simp; omega)))))))).mono ?_); rintro e w1 ⟨rfl, hb⟩; obtain ⟨hc, hf, hz⟩ := bcall hb; (try simp at hc hf hz))
  go_ret2
  refine ⟨rfl, ?_⟩
  (repeat' (first | (with_reducible exact Below.refl _ _) | (with_reducible refine Below.setCell ?_ (by first | omega | (simp; done) | (simp; omega)) _) | (with_reducible refine Below.alloc ?_ (by first | omega | (simp; done) | (simp; omega)) _) | (with_reducible refine Below.drew ?_) | (with_reducible refine below_drewN ?_ _) | (with_reducible refine Below.trans ?_ (Below.mono (by assumption) (by first | omega | (simp; done) | (simp; omega))))))

set_option maxHeartbeats 1000000 in
theorem rDiffer_err9 (W H W' H' : Int) (n m c c' : Nat) (ao ao' : Option Addr) (A B : Nat → Nat → Int) (w : World) (hA : CellsIn w ao n A) (hB : CellsIn w ao' m B) (h : Odd9 W H W' H' n m A B) : Calls Try.prog 41 #[.agg #[.int .i64 W, .int .i64 H, .slice (ao) n c], .agg #[.int .i64 W', .int .i64 H', .slice (ao') m c']] w fun e w' => e = .returned (.tuple #[.slice none 0 0, .int .i64 9]) ∧ Below w.heap.size w w' := by
  have VA := Lib.hid (fun w' (hb : Below w.heap.size w w') => rValid_ok W H ao n c A w' h.1.1 (hA.below hb))
  have VB := Lib.hid (fun w' (hb : Below w.heap.size w w') => rValid_ok W' H' ao' m c' B w' h.1.2 (hB.below hb))
  have hne := h.2
  clear h hA hB
  by_cases hW : W = W'
  · have hH : ((H : Int) == H') = false := by simp; exact fun h => hne ⟨hW, h⟩
    have hH2 : ((H : Int) != H') = true := by simp [bne, hH]
    subst hW
    clear hne
    go_enter Try.func41, Try.ntmps41
    go_wp2_with fail
    (go_at_call 59; (with_reducible refine (VA.out _ (by (repeat' (first | (with_reducible exact Below.refl _ _) | (with_reducible refine Below.setCell ?_ (by first | omega | (simp; done) | (simp; omega)) _) | (with_reducible refine Below.alloc ?_ (by first | omega | (simp; done) | (simp; omega)) _) | (with_reducible refine Below.drew ?_) | (with_reducible refine below_drewN ?_ _) | (with_reducible refine Below.trans ?_ (Below.mono (by assumption) (by first | omega | (simp; done) | (simp; omega)))))))).mono ?_); rintro e w9 ⟨rfl, hb9⟩; obtain ⟨hc9, hf9, hz9⟩ := bcall hb9; (try simp at hc9 hf9 hz9))
    go_wp2_with (go_at_call 59; (with_reducible refine (VB.out _ (by (repeat' (first | (with_reducible exact Below.refl _ _) | (with_reducible refine Below.setCell ?_ (by first | omega | (simp; done) | (simp; omega)) _) | (with_reducible refine Below.alloc ?_ (by first | omega | (simp; done) | (simp; omega)) _) | (with_reducible refine Below.drew ?_) | (with_reducible refine below_drewN ?_ _) | (with_reducible refine Below.trans ?_ (Below.mono (by assumption) (by first | omega | (simp; done) | (simp; omega)))))))).mono ?_); rintro e w1 ⟨rfl, hb⟩; obtain ⟨hc, hf, hz⟩ := bcall hb; (try simp at hc hf hz))
    go_ret2
    refine ⟨rfl, ?_⟩
    (repeat' (first | (with_reducible exact Below.refl _ _) | (with_reducible refine Below.setCell ?_ (by first | omega | (simp; done) | (simp; omega)) _) | (with_reducible refine Below.alloc ?_ (by first | omega | (simp; done) | (simp; omega)) _) | (with_reducible refine Below.drew ?_) | (with_reducible refine below_drewN ?_ _) | (with_reducible refine Below.trans ?_ (Below.mono (by assumption) (by first | omega | (simp; done) | (simp; omega))))))

  · have hH : ((W : Int) == W') = false := by simp [hW]
    have hH2 : ((W : Int) != W') = true := by simp [bne, hH]
    clear hne hW
    go_enter Try.func41, Try.ntmps41
    go_wp2_with fail
    (go_at_call 59; (with_reducible refine (VA.out _ (by (repeat' (first | (with_reducible exact Below.refl _ _) | (with_reducible refine Below.setCell ?_ (by first | omega | (simp; done) | (simp; omega)) _) | (with_reducible refine Below.alloc ?_ (by first | omega | (simp; done) | (simp; omega)) _) | (with_reducible refine Below.drew ?_) | (with_reducible refine below_drewN ?_ _) | (with_reducible refine Below.trans ?_ (Below.mono (by assumption) (by first | omega | (simp; done) | (simp; omega)))))))).mono ?_); rintro e w9 ⟨rfl, hb9⟩; obtain ⟨hc9, hf9, hz9⟩ := bcall hb9; (try simp at hc9 hf9 hz9))
    go_wp2_with (go_at_call 59; (with_reducible refine (VB.out _ (by (repeat' (first | (with_reducible exact Below.refl _ _) | (with_reducible refine Below.setCell ?_ (by first | omega | (simp; done) | (simp; omega)) _) | (with_reducible refine Below.alloc ?_ (by first | omega | (simp; done) | (simp; omega)) _) | (with_reducible refine Below.drew ?_) | (with_reducible refine below_drewN ?_ _) | (with_reducible refine Below.trans ?_ (Below.mono (by assumption) (by first | omega | (simp; done) | (simp; omega)))))))).mono ?_); rintro e w1 ⟨rfl, hb⟩; obtain ⟨hc, hf, hz⟩ := bcall hb; (try simp at hc hf hz))
    go_ret2
    refine ⟨rfl, ?_⟩
    (repeat' (first | (with_reducible exact Below.refl _ _) | (with_reducible refine Below.setCell ?_ (by first | omega | (simp; done) | (simp; omega)) _) | (with_reducible refine Below.alloc ?_ (by first | omega | (simp; done) | (simp; omega)) _) | (with_reducible refine Below.drew ?_) | (with_reducible refine below_drewN ?_ _) | (with_reducible refine Below.trans ?_ (Below.mono (by assumption) (by first | omega | (simp; done) | (simp; omega))))))

set_option maxHeartbeats 1000000 in
theorem gAdded_err9 (W H W' H' : Int) (n m c c' : Nat) (ao ao' : Option Addr) (A B : Nat → Nat → Int) (w : World) (hA : CellsIn w ao n A) (hB : CellsIn w ao' m B) (h : Odd9 W H W' H' n m A B) : Calls Try.prog 38 #[.agg #[.int .i64 W, .int .i64 H, .slice (ao) n c], .agg #[.int .i64 W', .int .i64 H', .slice (ao') m c']] w fun e w' => e = .returned (.tuple #[.agg #[.int .i64 0, .int .i64 0, .slice (none) 0 0], .int .i64 9]) ∧ Below w.heap.size w w' := by
  have CS := Lib.hid (fun w' (hb : Below w.heap.size w w') => sides_err9 W H W' H' n m c c' ao ao' A B w' (hA.below hb) (hB.below hb) h)
  clear h hA hB
  go_enter Try.func38, Try.ntmps38
  go_wp2_with (go_at_call 86; (with_reducible refine (CS.out _ (by (repeat' (first | (with_reducible exact Below.refl _ _) | (with_reducible refine Below.setCell ?_ (by first | omega | (simp; done) | (simp; omega)) _) | (with_reducible refine Below.alloc ?_ (by first | omega | (simp; done) | (simp; omega)) _) | (with_reducible refine Below.drew ?_) | (with_reducible refine below_drewN ?_ _) | (with_reducible refine Below.trans ?_ (Below.mono (by assumption) (by first | omega | (simp; done) | (simp; omega)))))))).mono ?_); rintro e w1 ⟨rfl, hb⟩; obtain ⟨hc, hf, hz⟩ := bcall hb; (try simp at hc hf hz))
  refine bodyPost_ret (v := .tuple #[.agg #[.int .i64 0, .int .i64 0, .slice (none) 0 0], .int .i64 9]) (by simp [results, Try.results38, go_sem, ↓IntWalk.iteOmega, *]) rfl ⟨rfl, ?_⟩
  (repeat' (first | (with_reducible exact Below.refl _ _) | (with_reducible refine Below.setCell ?_ (by first | omega | (simp; done) | (simp; omega)) _) | (with_reducible refine Below.alloc ?_ (by first | omega | (simp; done) | (simp; omega)) _) | (with_reducible refine Below.drew ?_) | (with_reducible refine below_drewN ?_ _) | (with_reducible refine Below.trans ?_ (Below.mono (by assumption) (by first | omega | (simp; done) | (simp; omega))))))

set_option maxHeartbeats 1000000 in
theorem rAdded_err9 (W H W' H' : Int) (n m c c' : Nat) (ao ao' : Option Addr) (A B : Nat → Nat → Int) (w : World) (hA : CellsIn w ao n A) (hB : CellsIn w ao' m B) (h : Odd9 W H W' H' n m A B) : Calls Try.prog 39 #[.agg #[.int .i64 W, .int .i64 H, .slice (ao) n c], .agg #[.int .i64 W', .int .i64 H', .slice (ao') m c']] w fun e w' => e = .returned (.tuple #[.agg #[.int .i64 0, .int .i64 0, .slice (none) 0 0], .int .i64 9]) ∧ Below w.heap.size w w' := by
  have VA := Lib.hid (fun w' (hb : Below w.heap.size w w') => rValid_ok W H ao n c A w' h.1.1 (hA.below hb))
  have VB := Lib.hid (fun w' (hb : Below w.heap.size w w') => rValid_ok W' H' ao' m c' B w' h.1.2 (hB.below hb))
  have hne := h.2
  clear h hA hB
  by_cases hW : W = W'
  · have hH : ((H : Int) == H') = false := by simp; exact fun h => hne ⟨hW, h⟩
    have hH2 : ((H : Int) != H') = true := by simp [bne, hH]
    subst hW
    clear hne
    go_enter Try.func39, Try.ntmps39
    go_wp2_with fail
    (go_at_call 59; (with_reducible refine (VA.out _ (by (repeat' (first | (with_reducible exact Below.refl _ _) | (with_reducible refine Below.setCell ?_ (by first | omega | (simp; done) | (simp; omega)) _) | (with_reducible refine Below.alloc ?_ (by first | omega | (simp; done) | (simp; omega)) _) | (with_reducible refine Below.drew ?_) | (with_reducible refine below_drewN ?_ _) | (with_reducible refine Below.trans ?_ (Below.mono (by assumption) (by first | omega | (simp; done) | (simp; omega)))))))).mono ?_); rintro e w9 ⟨rfl, hb9⟩; obtain ⟨hc9, hf9, hz9⟩ := bcall hb9; (try simp at hc9 hf9 hz9))
    go_wp2_with (go_at_call 59; (with_reducible refine (VB.out _ (by (repeat' (first | (with_reducible exact Below.refl _ _) | (with_reducible refine Below.setCell ?_ (by first | omega | (simp; done) | (simp; omega)) _) | (with_reducible refine Below.alloc ?_ (by first | omega | (simp; done) | (simp; omega)) _) | (with_reducible refine Below.drew ?_) | (with_reducible refine below_drewN ?_ _) | (with_reducible refine Below.trans ?_ (Below.mono (by assumption) (by first | omega | (simp; done) | (simp; omega)))))))).mono ?_); rintro e w1 ⟨rfl, hb⟩; obtain ⟨hc, hf, hz⟩ := bcall hb; (try simp at hc hf hz))
    refine bodyPost_ret (v := .tuple #[.agg #[.int .i64 0, .int .i64 0, .slice (none) 0 0], .int .i64 9]) (by simp [results, Try.results39, go_sem, ↓IntWalk.iteOmega, *]) rfl ⟨rfl, ?_⟩
    (repeat' (first | (with_reducible exact Below.refl _ _) | (with_reducible refine Below.setCell ?_ (by first | omega | (simp; done) | (simp; omega)) _) | (with_reducible refine Below.alloc ?_ (by first | omega | (simp; done) | (simp; omega)) _) | (with_reducible refine Below.drew ?_) | (with_reducible refine below_drewN ?_ _) | (with_reducible refine Below.trans ?_ (Below.mono (by assumption) (by first | omega | (simp; done) | (simp; omega))))))

  · have hH : ((W : Int) == W') = false := by simp [hW]
    have hH2 : ((W : Int) != W') = true := by simp [bne, hH]
    clear hne hW
    go_enter Try.func39, Try.ntmps39
    go_wp2_with fail
    (go_at_call 59; (with_reducible refine (VA.out _ (by (repeat' (first | (with_reducible exact Below.refl _ _) | (with_reducible refine Below.setCell ?_ (by first | omega | (simp; done) | (simp; omega)) _) | (with_reducible refine Below.alloc ?_ (by first | omega | (simp; done) | (simp; omega)) _) | (with_reducible refine Below.drew ?_) | (with_reducible refine below_drewN ?_ _) | (with_reducible refine Below.trans ?_ (Below.mono (by assumption) (by first | omega | (simp; done) | (simp; omega)))))))).mono ?_); rintro e w9 ⟨rfl, hb9⟩; obtain ⟨hc9, hf9, hz9⟩ := bcall hb9; (try simp at hc9 hf9 hz9))
    go_wp2_with (go_at_call 59; (with_reducible refine (VB.out _ (by (repeat' (first | (with_reducible exact Below.refl _ _) | (with_reducible refine Below.setCell ?_ (by first | omega | (simp; done) | (simp; omega)) _) | (with_reducible refine Below.alloc ?_ (by first | omega | (simp; done) | (simp; omega)) _) | (with_reducible refine Below.drew ?_) | (with_reducible refine below_drewN ?_ _) | (with_reducible refine Below.trans ?_ (Below.mono (by assumption) (by first | omega | (simp; done) | (simp; omega)))))))).mono ?_); rintro e w1 ⟨rfl, hb⟩; obtain ⟨hc, hf, hz⟩ := bcall hb; (try simp at hc hf hz))
    refine bodyPost_ret (v := .tuple #[.agg #[.int .i64 0, .int .i64 0, .slice (none) 0 0], .int .i64 9]) (by simp [results, Try.results39, go_sem, ↓IntWalk.iteOmega, *]) rfl ⟨rfl, ?_⟩
    (repeat' (first | (with_reducible exact Below.refl _ _) | (with_reducible refine Below.setCell ?_ (by first | omega | (simp; done) | (simp; omega)) _) | (with_reducible refine Below.alloc ?_ (by first | omega | (simp; done) | (simp; omega)) _) | (with_reducible refine Below.drew ?_) | (with_reducible refine below_drewN ?_ _) | (with_reducible refine Below.trans ?_ (Below.mono (by assumption) (by first | omega | (simp; done) | (simp; omega))))))

end Go.Proofs.Ytnkehlankidlnaa
