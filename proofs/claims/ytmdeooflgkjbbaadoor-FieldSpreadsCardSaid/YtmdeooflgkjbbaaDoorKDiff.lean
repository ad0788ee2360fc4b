/- Stream and Unstream: by the program and by the reference. -/
import Derived.Test.YtmdeooflgkjbbaaDoorKRunU
import Derived.Test.YtmdeooflgkjbbaaDoorKRefG4
import Derived.Test.YtmdeooflgkjbbaaDoorKGMath
import Derived.Laws.AppendOwn
namespace Go.Proofs.YtmdeooflgkjbbaaDoor
set_option linter.unusedSimpArgs false
set_option linter.unusedVariables false
open Go.RowKit

theorem row_of {W H n : Nat} (s : Sides W H n) : 1 ≤ n := by
  rw [s.n0]
  exact Nat.mul_le_mul s.w0 s.h0
theorem cells_of {W H n : Nat} {w : World} {ao : Option Addr} {G : Nat → Nat → Int} (s : Sides W H n) (h : CellsIn w ao n G) : ∃ b off, ao = some ⟨b, off, none⟩ ∧ b < w.heap.size ∧ Grd w b off n G := by
  rcases h with h | h
  · have := row_of s
    omega
  · exact h

/-- A new machine, whatever its rules. -/
def NewM (w : World) (W H n : Nat) (rv : Value) (G : Nat → Nat → Int) (e : Ending) (w' : World) : Prop :=
  ∃ m b1 c1 b2 c2 K, e = .returned (.pointer (some ⟨m, 0, none⟩)) ∧ Mch w' m W H n b1 c1 rv b2 c2 ∧ Row w' b1 n G ∧ Row w' b2 n K ∧ m ≠ b1 ∧ m ≠ b2 ∧ b1 ≠ b2 ∧ w.heap.size ≤ m ∧ w.heap.size ≤ b1 ∧ w.heap.size ≤ b2 ∧ Below w.heap.size w w'
theorem newM_end {w w1 wr : World} {W H n g c : Nat} {rv : Value} {G : Nat → Nat → Int} (hr : Row w1 g n G) (hg : w.heap.size ≤ g) (hb : Below w.heap.size w w1)
    (hw : wr = ((w1.alloc (.cells (zeros n) 62)).alloc (.cells #[.int .i64 W, .int .i64 H, .slice (some ⟨g, 0, none⟩) n c, rv, .slice (some ⟨w1.heap.size, 0, none⟩) n n] 177)).drew) :
    NewM w W H n rv G (.returned (.pointer (some ⟨w1.heap.size + 1, 0, none⟩))) wr := by
  subst hw
  have x : Ex (fun _ => False) w1 (((w1.alloc (.cells (zeros n) 62)).alloc (.cells #[.int .i64 W, .int .i64 H, .slice (some ⟨g, 0, none⟩) n c, rv, .slice (some ⟨w1.heap.size, 0, none⟩) n n] 177)).drew) := (((Ex.refl _ w1).alloc _).alloc _).drew
  have hm : Mch (((w1.alloc (.cells (zeros n) 62)).alloc (.cells #[.int .i64 W, .int .i64 H, .slice (some ⟨g, 0, none⟩) n c, rv, .slice (some ⟨w1.heap.size, 0, none⟩) n n] 177)).drew) (w1.heap.size + 1) W H n g c rv w1.heap.size n := by
    have := World.alloc_heap_new (w1.alloc (.cells (zeros n) 62)) (.cells #[.int .i64 W, .int .i64 H, .slice (some ⟨g, 0, none⟩) n c, rv, .slice (some ⟨w1.heap.size, 0, none⟩) n n] 177)
    rw [World.size_alloc] at this
    exact this
  have hlt := hr.1
  have hs := hb.size
  exact ⟨_, g, c, w1.heap.size, n, _, rfl, hm, hr.ex x (fun h => h), ((row_zeros w1 n).alloc _).ex (S := fun _ => False) ((Ex.refl _ _).drew) (fun h => h), by omega, by omega, by omega, by omega, hg, hs, ((hb.alloc hs _).alloc (by simp; omega) _).drew⟩

set_option maxRecDepth 100000 in
set_option maxHeartbeats 2000000 in
theorem newMachine_nil (W H b off n cap : Nat) (G : Nat → Nat → Int) (w : World) (s : Sides W H n) (hlt : b < w.heap.size) (hG : Grd w b off n G) :
    Calls Tryd.prog 142 #[.agg #[.int .i64 W, .int .i64 H, .slice (some ⟨b, off, none⟩) n cap], .slice none 0 0] w (NewM w W H n (.slice none 0 0) G) := by
  have hn : n ≤ 1024 := s.n1
  have h1 : 1 ≤ n := row_of s
  have HG := Lib.hid hG; clear hG
  go_enter Tryd.func142, Tryd.ntmps142
  go_wp2_with fail
  go_at_call 174
  refine (copied_any b off n cap G _ h1 (by omega) (HG.out.below ((Below.refl _ w).alloc (Nat.le_refl _) _) hlt)).mono ?_
  rintro e w1 ⟨g, c, rfl, hr, hg, hc, hm, hb⟩
  have HRow := Lib.hid hr
  have HB := Lib.hid (show Below w.heap.size w w1 from ((Below.refl _ w).alloc (Nat.le_refl _) _).trans (hb.mono (by simp)))
  have b0 : w1.cell? ⟨w.heap.size, 0, none⟩ = some (.int .i64 W) := (hb.cell (p := ⟨w.heap.size, 0, none⟩) (by simp)).trans (by simp)
  have b1 : w1.cell? ⟨w.heap.size, 1, none⟩ = some (.int .i64 H) := (hb.cell (p := ⟨w.heap.size, 1, none⟩) (by simp)).trans (by simp)
  have hsz : w.heap.size < w1.heap.size := by have := hb.size; simp at this; omega
  have hg' : w.heap.size ≤ g := by simp at hg; omega
  have hmk := fun wx => run_zeros n (by omega) wx
  clear hb hr hg
  go_wp2_with fail
  go_region_held3 (fun w' => w'.cell? ⟨w.heap.size, 0, none⟩ = some (.int .i64 W) ∧ w'.cell? ⟨w.heap.size, 1, none⟩ = some (.int .i64 H)) (first | (go_split_ands; (try dsimp only); refine ⟨?_, ?_⟩ <;> (first | (with_reducible assumption) | (with_reducible exact keep_cell (by assumption) (by first | omega | (simp; done) | (simp; omega)) (by assumption)) | (with_reducible exact (World.cell?_alloc_past _ _ _ (by show _ < _; omega)).trans (by assumption)) | (with_reducible exact (World.cell?_alloc_past _ _ _ (by show _ < _; omega)).trans ((World.cell?_alloc_past _ _ _ (by show _ < _; omega)).symm.trans (by assumption))) | (simp [go_sem]; with_reducible assumption))) | (simp [go_sem, ↓IntWalk.iteOmega, *]; done)) (fail)
  go_wp2
  go_ret
  exact newM_end HRow.out hg' HB.out rfl

end Go.Proofs.YtmdeooflgkjbbaaDoor

/- What the laws' walks share: cells behind stores into another block; empty grids. -/



namespace Go.Proofs.YtmdeooflgkjbbaaDoor
set_option linter.unusedSimpArgs false
set_option linter.unusedVariables false
open Go.RowKit

theorem cells_3 {w : World} {r b n : Nat} {G : Nat → Nat → Int} {v0 v1 v2 : Value} (h : CellsIn w (some ⟨b, 0, none⟩) n G) (hne : r ≠ b) : CellsIn (((w.setCell ⟨r, 0, none⟩ v0).setCell ⟨r, 1, none⟩ v1).setCell ⟨r, 2, none⟩ v2) (some ⟨b, 0, none⟩) n G := by
  have x : Ex (fun k => k = r) w (((w.setCell ⟨r, 0, none⟩ v0).setCell ⟨r, 1, none⟩ v1).setCell ⟨r, 2, none⟩ v2) := three_ex
  rcases h with h | ⟨b', o, e, hlt, hG⟩
  · exact .inl h
  · cases e
    exact .inr ⟨b, 0, rfl, Nat.lt_of_lt_of_le hlt x.size, fun i hi => ⟨(x.cell hlt (by omega)).trans (hG i hi).1, (x.cell hlt (by omega)).trans (hG i hi).2.1, (x.cell hlt (by omega)).trans (hG i hi).2.2.1, (x.cell hlt (by omega)).trans (hG i hi).2.2.2⟩⟩

end Go.Proofs.YtmdeooflgkjbbaaDoor

/- Lists of numbers of one's own; in which cells two grids differ. -/



namespace Go.Proofs.YtmdeooflgkjbbaaDoor
set_option linter.unusedSimpArgs false
set_option linter.unusedVariables false
open Go.RowKit

theorem info_int : (Tryd.prog.info? 3).map (fun i => (i.zero, i.size, i.bytes)) = some (some (.int .i64 0), 1, 8) := by kernel_rfl

/-- Numbers, as values. -/
def nums (L : List Nat) : List Value := L.map fun (j : Nat) => .int .i64 ((j : Int))
theorem nums_len (L : List Nat) : (nums L).length = L.length := by simp [nums]
theorem nums_one (L : List Nat) : ∀ u ∈ nums L, u.oneCell' = true := by
  intro u hu
  simp only [nums, List.mem_map] at hu
  obtain ⟨j, _, rfl⟩ := hu
  rfl
/-- A slice of one's own numbers. -/
def OwnNums (w : World) (base : Nat) (v : Value) (L : List Nat) : Prop := w.ownsRow base 3 1 v L.length (nums L)
theorem OwnNums.nil (w : World) (base : Nat) : OwnNums w base (.slice none 0 0) [] := World.ownsRow_nil w base 3 1
theorem OwnNums.below {w w' : World} {base : Nat} {v : Value} {L : List Nat} (h : OwnNums w base v L) (hb : Below w.heap.size w w') : OwnNums w' base v L := by
  refine ⟨h.1, ?_⟩
  rcases h.2 with hn | ⟨g, cap, cur, rfl, hg, hgg, rest⟩
  · exact .inl hn
  · refine .inr ⟨g, cap, cur, rfl, hg, ?_, rest⟩
    rw [hb.block g (Array.getElem?_eq_some_iff.1 hgg).1]
    exact hgg
theorem OwnNums.form {w : World} {base : Nat} {v : Value} {L : List Nat} (h : OwnNums w base v L) : ∃ ao cap, v = .slice ao L.length cap ∧ (L ≠ [] → ∃ g, ao = some ⟨g, 0, none⟩ ∧ g < w.heap.size ∧ ∀ (j x : Nat), L[j]? = some x → w.cell? ⟨g, j, none⟩ = some (.int .i64 ((x : Int)))) := by
  rcases h.2 with ⟨rfl, hn⟩ | ⟨g, cap, cur, rfl, hg, hgg, hc, hm, hs, ht⟩
  · exact ⟨none, 0, by rw [hn], fun hne => absurd (List.length_eq_zero_iff.1 hn) hne⟩
  · refine ⟨_, cap, rfl, fun _ => ⟨g, rfl, (Array.getElem?_eq_some_iff.1 hgg).1, fun j x hx => ?_⟩⟩
    have hj : j < L.length := (List.getElem?_eq_some_iff.1 hx).1
    simp only [World.cell?, hgg]
    have e : (cur.toList.take (L.length * 1))[j]? = (nums L)[j]? := by rw [ht]
    rw [List.getElem?_take, if_pos (by omega)] at e
    rw [← Array.getElem?_toList, e]
    simp [nums, hx]

set_option maxHeartbeats 2000000 in
theorem sameInts_yes (ao ao' : Option Addr) (c c' : Nat) (L : List Nat) (w : World) (hl : L.length ≤ 1000000)
    (h : L ≠ [] → ∃ g, ao = some ⟨g, 0, none⟩ ∧ g < w.heap.size ∧ ∀ (j x : Nat), L[j]? = some x → w.cell? ⟨g, j, none⟩ = some (.int .i64 ((x : Int))))
    (h' : L ≠ [] → ∃ g, ao' = some ⟨g, 0, none⟩ ∧ g < w.heap.size ∧ ∀ (j x : Nat), L[j]? = some x → w.cell? ⟨g, j, none⟩ = some (.int .i64 ((x : Int)))) :
    Calls Tryd.prog 49 #[.slice ao L.length c, .slice ao' L.length c'] w fun e w' => e = .returned (.bool true) ∧ Below w.heap.size w w' := by
  by_cases hL : L = []
  · subst hL
    clear h h'
    go_enter Tryd.func49, Tryd.ntmps49
    go_wp2
    refine wp_loop_rounds 1 ?_
    rw [rounds_succ]
    go_wp2
    go_ret
    refine ⟨rfl, ?_⟩
    (repeat' (first | (with_reducible exact Below.refl _ _) | (with_reducible refine Below.setCell ?_ (by first | omega | (simp; done) | (simp; omega)) _) | (with_reducible refine Below.alloc ?_ (by first | omega | (simp; done) | (simp; omega)) _) | (with_reducible refine Below.drew ?_) | (with_reducible refine below_drewN ?_ _) | (with_reducible refine Below.trans ?_ (Below.mono (by assumption) (by first | omega | (simp; done) | (simp; omega))))))
  · obtain ⟨g, rfl, hg, hc⟩ := h hL
    obtain ⟨g', rfl, hg', hc'⟩ := h' hL
    have HC := Lib.hid hc
    have HC' := Lib.hid hc'
    clear h h' hc hc' hL
    obtain ⟨n, hn⟩ : ∃ n, n = L.length := ⟨_, rfl⟩
    rw [← hn]
    rw [← hn] at hl
    have HN := Lib.hid hn
    clear hn
    go_enter Tryd.func49, Tryd.ntmps49
    go_wp2
    go_loopw [5] (fun i wr => ∃ k : Nat, k ≤ n ∧ i = .int .i64 k ∧ Below w.heap.size w wr) (fun i _ => n - (intOf i).toNat)
    case atStart => exact ⟨0, Nat.zero_le _, rfl, Below.refl _ _⟩
    case round =>
      obtain ⟨k, hk, rfl, hB⟩ := hrel
      by_cases hlk : k < n
      · have hx : L[k]? = some (L[k]'(by rw [← HN.out]; exact hlk)) := List.getElem?_eq_getElem _
        obtain ⟨x, hxe⟩ : ∃ x, x = L[k]'(by rw [← HN.out]; exact hlk) := ⟨_, rfl⟩
        rw [← hxe] at hx
        have c0 := (hB.cell (p := ⟨g, k, none⟩) hg).trans (HC.out k x hx)
        have c1 := (hB.cell (p := ⟨g', k, none⟩) hg').trans (HC'.out k x hx)
        have p0 : (0 : Int) ≤ (k : Int) := by omega
        have p1 : (k : Int) < (n : Int) := by omega
        clear hx hxe
        go_wp2
        go_quiet (fail)
        go_wp2
        go_roundw
        case rel => exact ⟨k + 1, by omega, by go_num, below_drewN hB _⟩
        case measure => simp [intOf]; omega
      · obtain rfl : n = k := by omega
        go_wp2
        go_ret
        exact ⟨rfl, hB⟩

/-- The cells below k in which two grids differ. -/
def same4 (A B : Nat → Nat → Int) (k : Nat) : Prop := A k 0 = B k 0 ∧ A k 1 = B k 1 ∧ A k 2 = B k 2 ∧ A k 3 = B k 3
instance (A B : Nat → Nat → Int) (k : Nat) : Decidable (same4 A B k) := by unfold same4; exact inferInstance
def dfL (A B : Nat → Nat → Int) : Nat → List Nat
  | 0 => []
  | k + 1 => if same4 A B k then dfL A B k else dfL A B k ++ [k]
theorem dfL_len (A B : Nat → Nat → Int) (k : Nat) : (dfL A B k).length ≤ k := by
  induction k with
  | zero => simp [dfL]
  | succ k ih =>
    simp only [dfL]
    split
    · omega
    · simp; omega
theorem dfL_nil (A B : Nat → Nat → Int) (n : Nat) : dfL A B n = [] ↔ EqG n A B := by
  induction n with
  | zero => simp [dfL, EqG]
  | succ k ih =>
    simp only [dfL]
    by_cases h : same4 A B k
    · rw [if_pos h, ih]
      refine ⟨fun e i hi d hd => ?_, fun e i hi d hd => e i (by omega) d hd⟩
      by_cases ei : i = k
      · subst ei
        obtain ⟨h0, h1, h2, h3⟩ := h
        match d, hd with
        | 0, _ => exact h0
        | 1, _ => exact h1
        | 2, _ => exact h2
        | 3, _ => exact h3
      · exact e i (by omega) d hd
    · rw [if_neg h]
      refine ⟨fun e => by simp at e, fun e => absurd ⟨e k (by omega) 0 (by omega), e k (by omega) 1 (by omega), e k (by omega) 2 (by omega), e k (by omega) 3 (by omega)⟩ h⟩


end Go.Proofs.YtmdeooflgkjbbaaDoor
