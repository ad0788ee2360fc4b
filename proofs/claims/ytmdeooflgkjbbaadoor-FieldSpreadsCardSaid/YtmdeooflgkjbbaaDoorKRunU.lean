/- Whether two rows of cells are equal: by the reference and by the library. -/
import Derived.Test.YtmdeooflgkjbbaaDoorKMach
import Derived.Test.YtmdeooflgkjbbaaDoorKBase
import Derived.Test.YtmdeooflgkjbbaaDoorKCopy
import Derived.Test.YtmdeooflgkjbbaaDoorKRules
namespace Go.Proofs.YtmdeooflgkjbbaaDoor
set_option linter.unusedSimpArgs false
set_option linter.unusedVariables false
open Go.RowKit

/-- Whether two grids are the same, as a bool. -/
def SameB (n : Nat) (G K : Nat → Nat → Int) (bb : Bool) : Prop := bb = true ↔ EqG n G K
def Told (n : Nat) (G K : Nat → Nat → Int) (w : World) (e : Ending) (w' : World) : Prop := ∃ bb : Bool, e = .returned (.bool bb) ∧ SameB n G K bb ∧ Below w.heap.size w w'

end Go.Proofs.YtmdeooflgkjbbaaDoor

/- The period of a grid, by the program. -/



namespace Go.Proofs.YtmdeooflgkjbbaaDoor
set_option linter.unusedSimpArgs false
set_option linter.unusedVariables false
open Go.RowKit Go.Shelf
attribute [local go_sem] Oper.semAt_some

/-- A grid after some steps by one rule. -/
def itG (W H : Nat) (k y : Int) (G : Nat → Nat → Int) : Nat → Nat → Nat → Int
  | 0 => G
  | j + 1 => pull W H 1 (colG k y (itG W H k y G j))
theorem okG_it {W H n : Nat} {k y : Int} {G : Nat → Nat → Int} (hn : n = W * H) (h : OkG n G) (j : Nat) : OkG n (itG W H k y G j) := by
  induction j with
  | zero => exact h
  | succ j ih => exact okG_pull hn (okG_col ih)

theorem mchG_own {β : Type} (Bd m W H n rb ro len rc : Nat) (R : Nat → Int × Int) (f : β → Nat → Nat → Int) (B U : Nat) : OwnFrom Bd (fun (s : β) w => MchG w m W H n rb ro len rc R (f s) B U) := fun s X Y row hs hg hr => by
  obtain ⟨⟨b1, c1, b2, c2, K, hM, hr1, hr2, n1, n2, n3, q0, q1, q2, u⟩, hR, hrb, hlow, htop⟩ := hs
  have hr' : ∀ r, row = some r → ∃ o : Obj, X.heap[r]? = some o ∧ o.isCells = false := fun r e => (hr r e).2
  have rowk : ∀ b G, Row X b n G → Row Y b n G := fun b G h => ⟨Nat.lt_of_lt_of_le h.1 hg.size, fun j hj => ⟨cell_kept (h.2 j hj).1 hg hr', (frozen_kept (h.2 j hj).1 hg hr').trans (h.2 j hj).2⟩⟩
  refine ⟨⟨b1, c1, b2, c2, K, ?_, rowk _ _ hr1, rowk _ _ hr2, n1, n2, n3, q0, q1, q2, u⟩, fun i hi => ⟨cell_kept (hR i hi).1 hg hr', cell_kept (hR i hi).2 hg hr'⟩, hrb, Nat.le_trans hlow hg.size, Nat.le_trans htop hg.size⟩
  refine (hg.block m hM.lt (fun e => ?_)).trans hM
  obtain ⟨o, ho, hc⟩ := hr' m e.symm
  rw [show X.heap[m]? = _ from hM] at ho
  cases ho
  cases hc

/-- What Period gives. -/
def PerRes (W H n most : Nat) (k y : Int) (G : Nat → Nat → Int) (w : World) (e : Ending) (w' : World) : Prop :=
  Below w.heap.size w w' ∧ ((∃ j : Nat, 1 ≤ j ∧ j ≤ most ∧ EqG n (itG W H k y G j) G ∧ (∀ i, 1 ≤ i → i < j → ¬ EqG n (itG W H k y G i) G) ∧ e = .returned (.tuple #[.int .i64 j, .int .i64 0])) ∨
    ((∀ i, 1 ≤ i → i ≤ most → ¬ EqG n (itG W H k y G i) G) ∧ e = .returned (.tuple #[.int .i64 0, .int .i64 8])))

theorem keepsFrom_ex {B : Nat} {S : Nat → Prop} {W W' : World} (h : Ex S W W') (hs : ∀ k, S k → k < B) : KeepsFrom B W W' :=
  ⟨h.size, fun k o hk ho _ => (h.block k (Array.getElem?_eq_some_iff.1 ho).1 (fun x => by have := hs k x; omega)).trans ho⟩
theorem kb_ex {S S' : Nat → Prop} {W W' : World} (h : Ex S W W') (hs : ∀ k, S' k → k < W.heap.size ∧ ¬ S k) : KB S' W W' := ⟨h.size, fun k hk => h.block k (hs k hk).1 (hs k hk).2⟩

/-- What stands while Period goes its rounds. -/
structure PerI (W H n : Nat) (k y : Int) (G : Nat → Nat → Int) (m rb B U s8 lo : Nat) (w : World) (sl : Value) (pre : List Stp) (X : World) : Prop where
  mch : MchG X m W H n rb 0 1 1 (fun _ => (k, y)) (itG W H k y G pre.length) B U
  b2 : Boxed X (w.heap.size + 1 + 1) 3 (.int .i64 0)
  b3 : Boxed X (w.heap.size + 1 + 1 + 1) 29 (.int .i64 0)
  b8 : Boxed X s8 171 (.pointer (some ⟨m, 0, none⟩))
  cl : X.cell? ⟨w.heap.size, 2, none⟩ = some sl
  below : Below w.heap.size w X
  size : lo ≤ X.heap.size
  none : ∀ j, 1 ≤ j → j ≤ pre.length → ¬ EqG n (itG W H k y G j) G
theorem perI_own {Bd W H n : Nat} {k y : Int} {G : Nat → Nat → Int} {m rb B U s8 lo : Nat} {w : World} {sl : Value} (hB : w.heap.size ≤ Bd) : OwnFrom Bd (PerI W H n k y G m rb B U s8 lo w sl) := fun s X Y row hs hg hr => by
  have hr' : ∀ r, row = some r → ∃ o : Obj, X.heap[r]? = some o ∧ o.isCells = false := fun r e => (hr r e).2
  exact ⟨mchG_own Bd m W H n rb 0 1 1 _ (fun (_ : Unit) => itG W H k y G s.length) B U () X Y row hs.mch hg hr, boxed_own _ _ (fun (_ : Unit) => .int .i64 0) () X Y row hs.b2 hg hr', boxed_own _ _ (fun (_ : Unit) => .int .i64 0) () X Y row hs.b3 hg hr',
    boxed_own _ _ (fun (_ : Unit) => .pointer (some ⟨m, 0, Option.none⟩)) () X Y row hs.b8 hg hr', cell_kept hs.cl hg hr', ownFrom_below (β := Unit) (Nat.le_refl _) hB () X Y row hs.below hg hr, Nat.le_trans hs.size hg.size, hs.none⟩
structure PerX (W H n : Nat) (k y : Int) (G : Nat → Nat → Int) (w : World) (c : Code) (pre : List Stp) (X : World) : Prop where
  ret : c = .ret
  ex : ∃ (ini : List Stp) (last : Stp), pre = ini ++ [last] ∧ Boxed X (w.heap.size + 1 + 1) 3 (.int .i64 ((last.1 : Int) + 1)) ∧ EqG n (itG W H k y G (ini.length + 1)) G ∧ ∀ j, 1 ≤ j → j ≤ ini.length → ¬ EqG n (itG W H k y G j) G
  b3 : Boxed X (w.heap.size + 1 + 1 + 1) 29 (.int .i64 0)
  below : Below w.heap.size w X
theorem perX_own {Bd W H n : Nat} {k y : Int} {G : Nat → Nat → Int} {w : World} {c : Code} (hB : w.heap.size ≤ Bd) : OwnFrom Bd (PerX W H n k y G w c) := fun s X Y row hs hg hr => by
  have hr' : ∀ r, row = some r → ∃ o : Obj, X.heap[r]? = some o ∧ o.isCells = false := fun r e => (hr r e).2
  obtain ⟨ini, last, h1, h2, h3⟩ := hs.ex
  exact ⟨hs.ret, ⟨ini, last, h1, boxed_own _ _ (fun (_ : Unit) => .int .i64 ((last.1 : Int) + 1)) () X Y row h2 hg hr', h3⟩, boxed_own _ _ (fun (_ : Unit) => .int .i64 0) () X Y row hs.b3 hg hr', ownFrom_below (β := Unit) (Nat.le_refl _) hB () X Y row hs.below hg hr⟩

theorem vg_of {W H n : Nat} {G : Nat → Nat → Int} (s : Sides W H n) (hG : OkG n G) : VG W H n G := by
  obtain ⟨a, b, c, d, e, f⟩ := s
  have e' : (n : Int) = (W : Int) * (H : Int) := by rw [e]; simp
  exact ⟨⟨by omega, by omega, by omega, by omega, by omega⟩, e', hG⟩

/-- What stands behind a round's step. -/
structure PerP (W H n : Nat) (k y : Int) (G : Nat → Nat → Int) (m rb B s8 : Nat) (w : World) (sl : Value) (pre : List Stp) (X X2 : World) : Prop where
  mch : MchG X2 m W H n rb 0 1 1 (fun _ => (k, y)) (itG W H k y G (pre.length + 1)) B s8
  ex : Ex (fun k => B ≤ k ∧ k < s8) X X2
  b2 : Boxed X2 (w.heap.size + 1 + 1) 3 (.int .i64 0)
  b3 : Boxed X2 (w.heap.size + 1 + 1 + 1) 29 (.int .i64 0)
  b8 : Boxed X2 s8 171 (.pointer (some ⟨m, 0, none⟩))
  cl : X2.cell? ⟨w.heap.size, 2, none⟩ = some sl
  below : Below w.heap.size w X2
  old : PerI W H n k y G m rb B s8 s8 (s8 + 4) w sl pre X
  lo : w.heap.size + 4 ≤ B
  hi : B ≤ s8
theorem per_no {W H n : Nat} {k y : Int} {G : Nat → Nat → Int} {m rb B s8 D : Nat} {w : World} {sl : Value} {pre : List Stp} {x : Stp} {X X2 X3 : World} (h : PerP W H n k y G m rb B s8 w sl pre X X2) (hb : Below X2.heap.size X2 X3) (hD : s8 ≤ D) (hs : SameB n (itG W H k y G (pre.length + 1)) G false) :
    KeepsFrom D X X3 ∧ KB (fun k => k = s8 + 1 ∨ k = s8 + 1 + 1) X X3 ∧ PerI W H n k y G m rb B s8 s8 (s8 + 4) w sl (pre ++ [x]) X3 := by
  have lo := h.lo
  have hi := h.hi
  have hX : Ex (fun k => B ≤ k ∧ k < s8) X X3 := h.ex.trans (Ex.of_below hb)
  have hz := h.old.size
  have hno : ¬ EqG n (itG W H k y G (pre.length + 1)) G := fun e => by have := hs.2 e; cases this
  have el : (pre ++ [x]).length = pre.length + 1 := by simp
  have l2 := h.b2.lt
  have l3 := h.b3.lt
  have l8 := h.b8.lt
  refine ⟨keepsFrom_ex hX (fun k hk => by omega), kb_ex hX (fun k hk => ⟨by omega, by omega⟩), ?_⟩
  exact ⟨by rw [el]; exact h.mch.ext hb, (hb.block _ l2).trans h.b2, (hb.block _ l3).trans h.b3, (hb.block _ l8).trans h.b8, (hb.cell (p := ⟨w.heap.size, 2, none⟩) (show w.heap.size < X2.heap.size by omega)).trans h.cl, h.below.trans (hb.mono (by omega)), Nat.le_trans hz hX.size, fun j h1 h2 => by
    rw [el] at h2
    by_cases e : j = pre.length + 1
    · subst e; exact hno
    · exact h.old.none j h1 (by omega)⟩
theorem per_yes {W H n : Nat} {k y : Int} {G : Nat → Nat → Int} {m rb B s8 D : Nat} {w : World} {sl : Value} {pre : List Stp} {x : Stp} {X X2 X3 : World} (h : PerP W H n k y G m rb B s8 w sl pre X X2) (hb : Below X2.heap.size X2 X3) (hD : s8 ≤ D) (hs : EqG n (itG W H k y G (pre.length + 1)) G) :
    KeepsFrom D X ((X3.setCell ⟨w.heap.size + 1 + 1, 0, none⟩ (.int .i64 (x.1 + 1))).setCell ⟨w.heap.size + 1 + 1 + 1, 0, none⟩ (.int .i64 0)) ∧ PerX W H n k y G w .ret (pre ++ [x]) ((X3.setCell ⟨w.heap.size + 1 + 1, 0, none⟩ (.int .i64 (x.1 + 1))).setCell ⟨w.heap.size + 1 + 1 + 1, 0, none⟩ (.int .i64 0)) := by
  have lo := h.lo
  have hi := h.hi
  have hX : Ex (fun k => B ≤ k ∧ k < s8) X X3 := h.ex.trans (Ex.of_below hb)
  have hz := h.old.size
  have b2 : Boxed X3 _ _ _ := (hb.block _ h.b2.lt).trans h.b2
  have b3 : Boxed X3 _ _ _ := (hb.block _ h.b3.lt).trans h.b3
  have l2 := h.b2.lt
  have hbw : Below w.heap.size w X3 := h.below.trans (hb.mono (by omega))
  refine ⟨((keepsFrom_ex hX (fun k hk => by omega)).trans ((KeepsOthers.setCell _ _ _).from _)).trans ((KeepsOthers.setCell _ _ _).from _), rfl, ⟨pre, x, rfl, (b2.set _).other (by omega) _, hs, h.old.none⟩, (b3.other (by omega) _).set _, (hbw.setCell (p := ⟨w.heap.size + 1 + 1, 0, none⟩) (show w.heap.size ≤ w.heap.size + 1 + 1 by omega) _).setCell (p := ⟨w.heap.size + 1 + 1 + 1, 0, none⟩) (show w.heap.size ≤ w.heap.size + 1 + 1 + 1 by omega) _⟩

end Go.Proofs.YtmdeooflgkjbbaaDoor

/- A particle goes round three cells in three steps. -/

namespace Go.Proofs.YtmdeooflgkjbbaaDoor
set_option linter.unusedSimpArgs false
set_option linter.unusedVariables false
open Go.RowKit

def G0 : Nat → Nat → Int := fun i d => if i = 0 ∧ d = 0 then 1 else 0
theorem g0_1 : ¬ EqG 3 (itG 3 1 0 0 G0 1) G0 := by unfold EqG; decide +kernel
theorem g0_2 : ¬ EqG 3 (itG 3 1 0 0 G0 2) G0 := by unfold EqG; decide +kernel
theorem g0_3 : EqG 3 (itG 3 1 0 0 G0 3) G0 := by unfold EqG; decide +kernel
theorem g0_ok : OkG 3 G0 := okG_of (by decide +kernel) (by decide +kernel)

end Go.Proofs.YtmdeooflgkjbbaaDoor

/- Whether a run is one: by the program. -/


namespace Go.Proofs.YtmdeooflgkjbbaaDoor
set_option linter.unusedSimpArgs false
set_option linter.unusedVariables false
open Go.RowKit

/-- The numbers of a run's steps are in their range. -/
def RunOk (t n : Int) : Prop := 0 ≤ t ∧ t ≤ 1000000 ∧ 0 ≤ n ∧ n ≤ 1000 ∧ (n = 0 ∨ t + n - 1 ≤ 1000000)

set_option maxHeartbeats 2000000 in
theorem checkRun_ok (W H : Int) (ao : Option Addr) (n cap : Nat) (G : Nat → Nat → Int) (ro : Option Addr) (len rc : Nat) (R : Nat → Int × Int) (t c : Int) (w : World) (hv : VG W H n G) (hC : CellsIn w ao n G) (hm : len ≤ 1000000000000) (hR : RulesIn w ro len R) (hk : OkRs len R) (hr : RunOk t c) :
    Calls Tryd.prog 141 #[.agg #[.int .i64 W, .int .i64 H, .slice (ao) n cap], .slice ro len rc, .int .i64 t, .int .i64 c] w fun e w' => e = .returned (.int .i64 0) ∧ Below w.heap.size w w' := by
  have HV := Lib.hid hv; clear hv
  have HC := Lib.hid hC; clear hC
  have HR := Lib.hid hR; clear hR
  have HK := Lib.hid hk; clear hk
  obtain ⟨t0, t1, c0, c1, ht⟩ := hr
  by_cases hc : 0 < c
  · have h9 : t + c - 1 ≤ 1000000 := by omega
    clear ht
    go_enter Tryd.func141, Tryd.ntmps141
    go_wp2_with (first | (go_at_call 89; (with_reducible refine (gValid_ok W H ao n cap G _ HV.out (HC.out.below (by (repeat' (first | (with_reducible exact Below.refl _ _) | (with_reducible refine Below.setCell ?_ (by first | omega | (simp; done) | (simp; omega)) _) | (with_reducible refine Below.alloc ?_ (by first | omega | (simp; done) | (simp; omega)) _) | (with_reducible refine Below.drew ?_) | (with_reducible refine below_drewN ?_ _) | (with_reducible refine Below.trans ?_ (Below.mono (by assumption) (by first | omega | (simp; done) | (simp; omega))))))))).mono ?_); rintro e w1 ⟨rfl, hb⟩; obtain ⟨hc, hf, hz⟩ := bcall hb; (try simp at hc hf hz)) | (go_at_call 173; (with_reducible refine (validRules_ok ro len rc R _ hm (HR.out.below (by (repeat' (first | (with_reducible exact Below.refl _ _) | (with_reducible refine Below.setCell ?_ (by first | omega | (simp; done) | (simp; omega)) _) | (with_reducible refine Below.alloc ?_ (by first | omega | (simp; done) | (simp; omega)) _) | (with_reducible refine Below.drew ?_) | (with_reducible refine below_drewN ?_ _) | (with_reducible refine Below.trans ?_ (Below.mono (by assumption) (by first | omega | (simp; done) | (simp; omega)))))))) HK.out).mono ?_); rintro e w1 ⟨rfl, hb⟩; obtain ⟨hc, hf, hz⟩ := bcall hb; (try simp at hc hf hz)))
    go_ret
    refine ⟨rfl, ?_⟩
    (repeat' (first | (with_reducible exact Below.refl _ _) | (with_reducible refine Below.setCell ?_ (by first | omega | (simp; done) | (simp; omega)) _) | (with_reducible refine Below.alloc ?_ (by first | omega | (simp; done) | (simp; omega)) _) | (with_reducible refine Below.drew ?_) | (with_reducible refine below_drewN ?_ _) | (with_reducible refine Below.trans ?_ (Below.mono (by assumption) (by first | omega | (simp; done) | (simp; omega))))))
  · clear ht
    go_enter Tryd.func141, Tryd.ntmps141
    go_wp2_with (first | (go_at_call 89; (with_reducible refine (gValid_ok W H ao n cap G _ HV.out (HC.out.below (by (repeat' (first | (with_reducible exact Below.refl _ _) | (with_reducible refine Below.setCell ?_ (by first | omega | (simp; done) | (simp; omega)) _) | (with_reducible refine Below.alloc ?_ (by first | omega | (simp; done) | (simp; omega)) _) | (with_reducible refine Below.drew ?_) | (with_reducible refine below_drewN ?_ _) | (with_reducible refine Below.trans ?_ (Below.mono (by assumption) (by first | omega | (simp; done) | (simp; omega))))))))).mono ?_); rintro e w1 ⟨rfl, hb⟩; obtain ⟨hc, hf, hz⟩ := bcall hb; (try simp at hc hf hz)) | (go_at_call 173; (with_reducible refine (validRules_ok ro len rc R _ hm (HR.out.below (by (repeat' (first | (with_reducible exact Below.refl _ _) | (with_reducible refine Below.setCell ?_ (by first | omega | (simp; done) | (simp; omega)) _) | (with_reducible refine Below.alloc ?_ (by first | omega | (simp; done) | (simp; omega)) _) | (with_reducible refine Below.drew ?_) | (with_reducible refine below_drewN ?_ _) | (with_reducible refine Below.trans ?_ (Below.mono (by assumption) (by first | omega | (simp; done) | (simp; omega)))))))) HK.out).mono ?_); rintro e w1 ⟨rfl, hb⟩; obtain ⟨hc, hf, hz⟩ := bcall hb; (try simp at hc hf hz)))
    go_ret
    refine ⟨rfl, ?_⟩
    (repeat' (first | (with_reducible exact Below.refl _ _) | (with_reducible refine Below.setCell ?_ (by first | omega | (simp; done) | (simp; omega)) _) | (with_reducible refine Below.alloc ?_ (by first | omega | (simp; done) | (simp; omega)) _) | (with_reducible refine Below.drew ?_) | (with_reducible refine below_drewN ?_ _) | (with_reducible refine Below.trans ?_ (Below.mono (by assumption) (by first | omega | (simp; done) | (simp; omega))))))

set_option maxHeartbeats 2000000 in
theorem checkRun_inv (W H : Int) (ao : Option Addr) (n cap : Nat) (G : Nat → Nat → Int) (ro : Option Addr) (len rc : Nat) (R : Nat → Int × Int) (t c : Int) (w : World) (hC : CellsIn w ao n G) (hm : len ≤ 1000000000000) (hR : RulesIn w ro len R) (hk : ¬ (VG W H n G ∧ OkRs len R)) :
    Calls Tryd.prog 141 #[.agg #[.int .i64 W, .int .i64 H, .slice (ao) n cap], .slice ro len rc, .int .i64 t, .int .i64 c] w fun e w' => e = .returned (.int .i64 1) ∧ Below w.heap.size w w' := by
  have HC := Lib.hid hC; clear hC
  have HR := Lib.hid hR; clear hR
  by_cases hv : VG W H n G
  · have HV := Lib.hid hv
    have HK := Lib.hid (show ¬ OkRs len R from fun h => hk ⟨hv, h⟩)
    clear hk hv
    go_enter Tryd.func141, Tryd.ntmps141
    go_wp2_with (first | (go_at_call 89; (with_reducible refine (gValid_ok W H ao n cap G _ HV.out (HC.out.below (by (repeat' (first | (with_reducible exact Below.refl _ _) | (with_reducible refine Below.setCell ?_ (by first | omega | (simp; done) | (simp; omega)) _) | (with_reducible refine Below.alloc ?_ (by first | omega | (simp; done) | (simp; omega)) _) | (with_reducible refine Below.drew ?_) | (with_reducible refine below_drewN ?_ _) | (with_reducible refine Below.trans ?_ (Below.mono (by assumption) (by first | omega | (simp; done) | (simp; omega))))))))).mono ?_); rintro e w1 ⟨rfl, hb⟩; obtain ⟨hc, hf, hz⟩ := bcall hb; (try simp at hc hf hz)) | (go_at_call 173; (with_reducible refine (validRules_bad ro len rc R _ hm (HR.out.below (by (repeat' (first | (with_reducible exact Below.refl _ _) | (with_reducible refine Below.setCell ?_ (by first | omega | (simp; done) | (simp; omega)) _) | (with_reducible refine Below.alloc ?_ (by first | omega | (simp; done) | (simp; omega)) _) | (with_reducible refine Below.drew ?_) | (with_reducible refine below_drewN ?_ _) | (with_reducible refine Below.trans ?_ (Below.mono (by assumption) (by first | omega | (simp; done) | (simp; omega)))))))) HK.out).mono ?_); rintro e w1 ⟨rfl, hb⟩; obtain ⟨hc, hf, hz⟩ := bcall hb; (try simp at hc hf hz)))
    go_ret
    refine ⟨rfl, ?_⟩
    (repeat' (first | (with_reducible exact Below.refl _ _) | (with_reducible refine Below.setCell ?_ (by first | omega | (simp; done) | (simp; omega)) _) | (with_reducible refine Below.alloc ?_ (by first | omega | (simp; done) | (simp; omega)) _) | (with_reducible refine Below.drew ?_) | (with_reducible refine below_drewN ?_ _) | (with_reducible refine Below.trans ?_ (Below.mono (by assumption) (by first | omega | (simp; done) | (simp; omega))))))
  · have HV := Lib.hid hv
    clear hk hv
    go_enter Tryd.func141, Tryd.ntmps141
    go_wp2_with (first | (go_at_call 89; (with_reducible refine (gValid_bad W H ao n cap G _ HV.out (HC.out.below (by (repeat' (first | (with_reducible exact Below.refl _ _) | (with_reducible refine Below.setCell ?_ (by first | omega | (simp; done) | (simp; omega)) _) | (with_reducible refine Below.alloc ?_ (by first | omega | (simp; done) | (simp; omega)) _) | (with_reducible refine Below.drew ?_) | (with_reducible refine below_drewN ?_ _) | (with_reducible refine Below.trans ?_ (Below.mono (by assumption) (by first | omega | (simp; done) | (simp; omega))))))))).mono ?_); rintro e w1 ⟨rfl, hb⟩; obtain ⟨hc, hf, hz⟩ := bcall hb; (try simp at hc hf hz)))
    go_ret
    refine ⟨rfl, ?_⟩
    (repeat' (first | (with_reducible exact Below.refl _ _) | (with_reducible refine Below.setCell ?_ (by first | omega | (simp; done) | (simp; omega)) _) | (with_reducible refine Below.alloc ?_ (by first | omega | (simp; done) | (simp; omega)) _) | (with_reducible refine Below.drew ?_) | (with_reducible refine below_drewN ?_ _) | (with_reducible refine Below.trans ?_ (Below.mono (by assumption) (by first | omega | (simp; done) | (simp; omega))))))

set_option maxHeartbeats 4000000 in
theorem checkRun_range (W H : Int) (ao : Option Addr) (n cap : Nat) (G : Nat → Nat → Int) (ro : Option Addr) (len rc : Nat) (R : Nat → Int × Int) (t c : Int) (w : World) (hv : VG W H n G) (hC : CellsIn w ao n G) (hm : len ≤ 1000000000000) (hR : RulesIn w ro len R) (hk : OkRs len R) (hr : ¬ RunOk t c) :
    Calls Tryd.prog 141 #[.agg #[.int .i64 W, .int .i64 H, .slice (ao) n cap], .slice ro len rc, .int .i64 t, .int .i64 c] w fun e w' => e = .returned (.int .i64 7) ∧ Below w.heap.size w w' := by
  have HV := Lib.hid hv; clear hv
  have HC := Lib.hid hC; clear hC
  have HR := Lib.hid hR; clear hR
  have HK := Lib.hid hk; clear hk
  have h : t < 0 ∨ (0 ≤ t ∧ 1000000 < t) ∨ (0 ≤ t ∧ t ≤ 1000000 ∧ c < 0) ∨ (0 ≤ t ∧ t ≤ 1000000 ∧ 0 ≤ c ∧ 1000 < c) ∨ (0 ≤ t ∧ t ≤ 1000000 ∧ 0 < c ∧ c ≤ 1000 ∧ 1000000 < t + c - 1) := by
    unfold RunOk at hr
    omega
  clear hr
  rcases h with h | ⟨h1, h2⟩ | ⟨h1, h2, h3⟩ | ⟨h1, h2, h3, h4⟩ | ⟨h1, h2, h3, h4, h5⟩
  all_goals
    go_enter Tryd.func141, Tryd.ntmps141
    go_wp2_with (first | (go_at_call 89; (with_reducible refine (gValid_ok W H ao n cap G _ HV.out (HC.out.below (by (repeat' (first | (with_reducible exact Below.refl _ _) | (with_reducible refine Below.setCell ?_ (by first | omega | (simp; done) | (simp; omega)) _) | (with_reducible refine Below.alloc ?_ (by first | omega | (simp; done) | (simp; omega)) _) | (with_reducible refine Below.drew ?_) | (with_reducible refine below_drewN ?_ _) | (with_reducible refine Below.trans ?_ (Below.mono (by assumption) (by first | omega | (simp; done) | (simp; omega))))))))).mono ?_); rintro e w1 ⟨rfl, hb⟩; obtain ⟨hc, hf, hz⟩ := bcall hb; (try simp at hc hf hz)) | (go_at_call 173; (with_reducible refine (validRules_ok ro len rc R _ hm (HR.out.below (by (repeat' (first | (with_reducible exact Below.refl _ _) | (with_reducible refine Below.setCell ?_ (by first | omega | (simp; done) | (simp; omega)) _) | (with_reducible refine Below.alloc ?_ (by first | omega | (simp; done) | (simp; omega)) _) | (with_reducible refine Below.drew ?_) | (with_reducible refine below_drewN ?_ _) | (with_reducible refine Below.trans ?_ (Below.mono (by assumption) (by first | omega | (simp; done) | (simp; omega)))))))) HK.out).mono ?_); rintro e w1 ⟨rfl, hb⟩; obtain ⟨hc, hf, hz⟩ := bcall hb; (try simp at hc hf hz)))
    go_ret
    refine ⟨rfl, ?_⟩
    (repeat' (first | (with_reducible exact Below.refl _ _) | (with_reducible refine Below.setCell ?_ (by first | omega | (simp; done) | (simp; omega)) _) | (with_reducible refine Below.alloc ?_ (by first | omega | (simp; done) | (simp; omega)) _) | (with_reducible refine Below.drew ?_) | (with_reducible refine below_drewN ?_ _) | (with_reducible refine Below.trans ?_ (Below.mono (by assumption) (by first | omega | (simp; done) | (simp; omega))))))
end Go.Proofs.YtmdeooflgkjbbaaDoor

/- A machine's deed at each number of a step: by the program. -/

namespace Go.Proofs.YtmdeooflgkjbbaaDoor
set_option linter.unusedSimpArgs false
set_option linter.unusedVariables false
open Go.RowKit Go.Shelf
attribute [local go_sem] Oper.semAt_some

/-- One step by the rules, and one step back. -/
def fwd (W H len : Nat) (R : Nat → Int × Int) (t : Nat) (G : Nat → Nat → Int) : Nat → Nat → Int := pull W H 1 (colG (R (t % len)).1 (R (t % len)).2 G)
def bwd (W H len : Nat) (R : Nat → Int × Int) (t : Nat) (G : Nat → Nat → Int) : Nat → Nat → Int := colG (R (t % len)).1 (-(R (t % len)).2) (pull W H (-1) G)
theorem okG_fwd {W H n len : Nat} {R : Nat → Int × Int} {t : Nat} {G : Nat → Nat → Int} (hn : n = W * H) (h : OkG n G) : OkG n (fwd W H len R t G) := okG_pull hn (okG_col h)
theorem okG_bwd {W H n len : Nat} {R : Nat → Int × Int} {t : Nat} {G : Nat → Nat → Int} (hn : n = W * H) (h : OkG n G) : OkG n (bwd W H len R t G) := okG_col (okG_pull hn h)
def foldG (F : Nat → (Nat → Nat → Int) → (Nat → Nat → Int)) (l : List Stp) (G : Nat → Nat → Int) : Nat → Nat → Int := l.foldl (fun K t => F t.1 K) G
theorem foldG_snoc (F : Nat → (Nat → Nat → Int) → (Nat → Nat → Int)) (l : List Stp) (x : Stp) (G : Nat → Nat → Int) : foldG F (l ++ [x]) G = F x.1 (foldG F l G) := by simp [foldG]
theorem okG_fold {n : Nat} {F : Nat → (Nat → Nat → Int) → (Nat → Nat → Int)} (hF : ∀ t K, OkG n K → OkG n (F t K)) (l : List Stp) {G : Nat → Nat → Int} (h : OkG n G) : OkG n (foldG F l G) := by
  induction l generalizing G with
  | nil => exact h
  | cons x l ih => exact ih (hF _ _ h)

theorem ex_own {β : Type} {Bd : Nat} {S : Nat → Prop} {w : World} (hB : w.heap.size ≤ Bd) : OwnFrom Bd (fun (_ : β) W => Ex S w W) := fun s X Y row hs hg hr =>
  ⟨hg.os.trans hs.os, hg.tape.trans hs.tape, hg.output.trans hs.output, Nat.le_trans hs.size hg.size, fun k hk hn => (hg.block k (Nat.lt_of_lt_of_le hk hs.size) (fun e => by have := (hr k e.symm).1; omega)).trans (hs.block k hk hn)⟩

set_option maxRecDepth 100000 in
set_option maxHeartbeats 4000000 in
theorem do_step (m W H n rb ro len rc B U cnt s8 : Nat) (first by' : Int) (f : Nat → Stp) (R : Nat → Int × Int) (G : Nat → Nat → Int) (w : World) (h : MchG w m W H n rb ro len rc R G B U) (s : Sides W H n) (hG : OkG n G) (hk : OkRs len R)
    (hcnt : cnt ≤ 1000) (hf0 : -2000000 ≤ first) (hf1 : first ≤ 2000000) (hb0 : -1 ≤ by') (hb1 : by' ≤ 1) (hf : ∀ j, j < cnt → ((f j).1 : Int) = first + by' * j)
    (hU : U ≤ s8) (b0 : Boxed w s8 3 (.int .i64 first)) (b1 : Boxed w (s8 + 1) 3 (.int .i64 by')) (b2 : Boxed w (s8 + 1 + 1) 3 (.int .i64 cnt)) :
    CallsIn Fence.wide 6 Tryd.prog 143 #[.func (.func 144) #[.pointer (some ⟨m, 0, none⟩)] #[], .func (.func 177) #[] #[.pointer (some ⟨s8 + 1 + 1, 0, none⟩), .pointer (some ⟨s8, 0, none⟩), .pointer (some ⟨s8 + 1, 0, none⟩)]] w fun e w' =>
      e = .returned (.tuple #[]) ∧ MchG w' m W H n rb ro len rc R (foldG (fwd W H len R) (upto f cnt) G) B U ∧ Ex (fun k => B ≤ k ∧ k < U) w w' := by
  have hBU : B ≤ U := by
    obtain ⟨⟨_, _, _, _, _, _, _, _, _, _, _, q0, _, _, u0, _⟩, _⟩ := h
    omega
  refine callsIn_of_wp_marks Tryd.func143 rfl trivial ?_ rfl
  simp only [Tryd.ntmps143, List.size_toArray, List.length_cons, List.length_nil, Nat.reduceAdd, Nat.reduceSub, Array.replicate_succ, Array.replicate_zero, List.push_toArray, List.append_toArray, List.nil_append, List.cons_append]
  gi_wp2
  have l2 := b2.lt
  have bD := Boxed.new w 174 (.func (.func 144) #[.pointer (some ⟨m, 0, none⟩)] #[])
  have x4 : Below w.heap.size w (w.alloc (.cells #[.func (.func 144) #[.pointer (some ⟨m, 0, none⟩)] #[]] 174)) := (Below.refl _ w).alloc (Nat.le_refl _) _
  have hsz : (w.alloc (.cells #[.func (.func 144) #[.pointer (some ⟨m, 0, none⟩)] #[]] 174)).heap.size = w.heap.size + 1 := by simp
  obtain ⟨w4, hw4⟩ : ∃ w4, w4 = w.alloc (.cells #[.func (.func 144) #[.pointer (some ⟨m, 0, none⟩)] #[]] 174) := ⟨_, rfl⟩
  rw [← hw4] at bD x4 hsz ⊢
  clear hw4
  have c0 : Boxed w4 s8 3 (.int .i64 first) := (x4.block _ b0.lt).trans b0
  have c1 : Boxed w4 (s8 + 1) 3 (.int .i64 by') := (x4.block _ b1.lt).trans b1
  have c2 : Boxed w4 (s8 + 1 + 1) 3 (.int .i64 cnt) := (x4.block _ l2).trans b2
  have hM := h.ext x4
  have htop := h.top
  refine wpIn_rangeFunc_ownH (α := Stp) rfl (by omega) (gf := 177) (lb := #[.pointer (some ⟨s8 + 1 + 1, 0, none⟩), .pointer (some ⟨s8, 0, none⟩), .pointer (some ⟨s8 + 1, 0, none⟩)]) rfl trivial (enters_of Tryd.func177 (by kernel_rfl) rfl)
    (nums_stops 5 (by omega) cnt s8 first by' f w4 hcnt hf0 hf1 hb0 hb1 hf c0.cell c1.cell c2.cell (by omega))
    (fun h g => KB.trans h g) (kb_put (fun k hk => by rcases hk with rfl | rfl <;> omega)) (Below.refl _ _) (fun _ => rfl)
    (fun pre X => (MchG X m W H n rb ro len rc R (foldG (fwd W H len R) pre G) B U ∧ Boxed X w.heap.size 174 (.func (.func 144) #[.pointer (some ⟨m, 0, none⟩)] #[])) ∧ Ex (fun k => B ≤ k ∧ k < U) w X ∧ w.heap.size + 1 ≤ X.heap.size)
    (fun _ _ _ => False)
    (OwnFrom.and (OwnFrom.and (mchG_own _ m W H n rb ro len rc R (fun pre => foldG (fwd W H len R) pre G) B U) (Own.from (boxed_own _ _ _) _)) (OwnFrom.and (ex_own (by omega)) (ownFrom_size _ _)))
    (fun _ _ _ _ _ hs _ _ => hs)
    ⟨⟨hM, bD⟩, Ex.of_below x4, by omega⟩
    (fun x a' _ => a' = { tmps := #[.func (.func 144) #[.pointer (some ⟨m, 0, none⟩)] #[], .func (.func 177) #[] #[.pointer (some ⟨s8 + 1 + 1, 0, none⟩), .pointer (some ⟨s8, 0, none⟩), .pointer (some ⟨s8 + 1, 0, none⟩)], .pointer (some ⟨w.heap.size, 0, none⟩), undef, .int .i64 x.1, .func (.func 177) #[] #[.pointer (some ⟨s8 + 1 + 1, 0, none⟩), .pointer (some ⟨s8, 0, none⟩), .pointer (some ⟨s8 + 1, 0, none⟩)], .int .i64 x.1, undef, undef, undef], defers := [] })
    (fun _ _ _ _ _ _ hs _ _ => hs)
    ?assign ?body ?done ?stop
  case assign =>
    rintro l pre x X K hI hK
    gi_wp2
    exact hK _ _ (KeepsFrom.refl _ _) (KB.refl _ _) hI rfl
  case body =>
    rintro l pre x a' X _ _ ⟨⟨hMx, bX⟩, hx, hs1⟩ rfl _
    have cX := bX.cell
    have SA := Lib.hid (step_any m W H n rb ro len rc x.1 B U R _ X hMx s (okG_fold (fun t K h => okG_fwd s.n0 h) pre hG) hk x.2)
    have lX := bX.lt
    clear hMx
    gi_wp2_with fail
    refine ⟨trivial, ?_⟩
    gi_at_call 144
    refine (CallsIn.inRound l (callsIn_wide.2 SA.out)).mono ?_
    rintro e X2 ⟨rfl, hM2, hx2⟩
    have bX2 : Boxed X2 _ _ _ := (hx2.block _ lX (by omega)).trans bX
    have HE := Lib.hid (show KeepsFrom w4.heap.size X X2 ∧ KB (fun k => k = s8 ∨ k = s8 + 1) X X2 ∧ (MchG X2 m W H n rb ro len rc R (foldG (fwd W H len R) (pre ++ [x]) G) B U ∧ Boxed X2 w.heap.size 174 (.func (.func 144) #[.pointer (some ⟨m, 0, none⟩)] #[])) ∧ Ex (fun k => B ≤ k ∧ k < U) w X2 ∧ w.heap.size + 1 ≤ X2.heap.size from
      ⟨keepsFrom_ex hx2 (fun k hk => by omega), kb_ex hx2 (fun k hk => ⟨by omega, by omega⟩), ⟨by rw [foldG_snoc]; exact hM2, bX2⟩, hx.trans hx2, Nat.le_trans hs1 hx2.size⟩)
    clear hM2 hx2 bX2
    gi_wp2
    exact HE.out
  case done =>
    rintro D ys X hD rfl ⟨⟨hMx, bX⟩, hx, hs1⟩ hK
    gi_wp2
    refine ⟨by simp, .inl ⟨_, _, rfl, run_takeDeferred hK, ?_⟩⟩
    have hg := grownBy_putObj' X D (.deferred none)
    have hr' : ∀ r, some D = some r → 0 ≤ r ∧ ∃ o : Obj, X.heap[r]? = some o ∧ o.isCells = false := fun r e => by cases e; exact ⟨Nat.zero_le _, _, hK, rfl⟩
    refine ⟨.tuple #[], by simp [results, Tryd.results143, go_sem], rfl, mchG_own 0 m W H n rb ro len rc R (fun (_ : Unit) => foldG (fwd W H len R) (upto f cnt) G) B U () _ _ _ hMx hg hr', ex_own (β := Unit) (Bd := w.heap.size) (Nat.le_refl _) () _ _ _ hx hg (fun r e => by cases e; exact ⟨by omega, _, hK, rfl⟩)⟩
  case stop =>
    rintro D c pre X _ _ h _
    exact h.elim

end Go.Proofs.YtmdeooflgkjbbaaDoor

/- Runs and their undoing: by the program. -/


namespace Go.Proofs.YtmdeooflgkjbbaaDoor
set_option linter.unusedSimpArgs false
set_option linter.unusedVariables false
open Go.RowKit Go.Shelf
attribute [local go_sem] Oper.semAt_some

abbrev Stepper := Nat → (Nat → Nat → Int) → (Nat → Nat → Int)
/-- A grid after some steps, and one that becomes it. -/
def runG (F : Stepper) (t : Nat) : Nat → (Nat → Nat → Int) → Nat → Nat → Int
  | 0, G => G
  | c + 1, G => F (t + c) (runG F t c G)
def undoR (F : Stepper) (t : Nat) : Nat → (Nat → Nat → Int) → Nat → Nat → Int
  | 0, G => G
  | c + 1, G => undoR F t c (F (t + c) G)
def up (t : Nat) (j : Nat) : Stp := ⟨min (t + j) 1000000, Nat.min_le_right _ _⟩
def down (t c : Nat) (j : Nat) : Stp := ⟨min (t + c - 1 - j) 1000000, Nat.min_le_right _ _⟩
theorem fold_up (F : Stepper) (t c : Nat) (G : Nat → Nat → Int) (h : c = 0 ∨ t + c - 1 ≤ 1000000) : foldG F (upto (up t) c) G = runG F t c G := by
  induction c with
  | zero => rfl
  | succ c ih =>
    rw [upto_succ, foldG_snoc, ih (by omega)]
    show F (min (t + c) 1000000) _ = F (t + c) _
    rw [Nat.min_eq_left (by omega)]
theorem upto_down (t c : Nat) : upto (down t (c + 1)) (c + 1) = down t (c + 1) 0 :: upto (down t c) c := by
  unfold upto
  rw [List.range_succ_eq_map, List.map_cons, List.map_map]
  congr 1
  apply List.map_congr_left
  intro j hj
  have := List.mem_range.1 hj
  simp only [Function.comp, down, Nat.succ_eq_add_one]
  congr 2
  omega
theorem fold_down (F : Stepper) (t c : Nat) (G : Nat → Nat → Int) (h : c = 0 ∨ t + c - 1 ≤ 1000000) : foldG F (upto (down t c) c) G = undoR F t c G := by
  induction c generalizing G with
  | zero => rfl
  | succ c ih =>
    rw [upto_down]
    show foldG F (upto (down t c) c) (F (min (t + (c + 1) - 1 - 0) 1000000) G) = undoR F t c (F (t + c) G)
    rw [ih _ (by omega), Nat.min_eq_left (by omega)]
    rfl

/-- A grid that was made. -/
def Made (W H : Int) (n : Nat) (K : Nat → Nat → Int) (w : World) (e : Ending) (w' : World) : Prop :=
  ∃ b c, e = .returned (.tuple #[.agg #[.int .i64 W, .int .i64 H, .slice (some ⟨b, 0, none⟩) n c], .int .i64 0]) ∧ CellsIn w' (some ⟨b, 0, none⟩) n K ∧ w.heap.size ≤ b ∧ Below w.heap.size w w'

/-- A block of three cells. -/
def Three (W : World) (B : Nat) (t : TypeId) (x y z : Value) : Prop := W.heap[B]? = some (.cells #[x, y, z] t (0, 0))
theorem Three.lt {W : World} {B : Nat} {t : TypeId} {x y z : Value} (h : Three W B t x y z) : B < W.heap.size := (Array.getElem?_eq_some_iff.1 h).1
theorem Three.c0 {W : World} {B : Nat} {t : TypeId} {x y z : Value} (h : Three W B t x y z) : W.cell? ⟨B, 0, none⟩ = some x := by simp [World.cell?, show W.heap[B]? = _ from h]
theorem Three.c1 {W : World} {B : Nat} {t : TypeId} {x y z : Value} (h : Three W B t x y z) : W.cell? ⟨B, 1, none⟩ = some y := by simp [World.cell?, show W.heap[B]? = _ from h]
theorem Three.c2 {W : World} {B : Nat} {t : TypeId} {x y z : Value} (h : Three W B t x y z) : W.cell? ⟨B, 2, none⟩ = some z := by simp [World.cell?, show W.heap[B]? = _ from h]
theorem Three.free {W : World} {B : Nat} {t : TypeId} {x y z : Value} (h : Three W B t x y z) (i : Nat) : W.frozen? ⟨B, i, none⟩ = false := by simp [World.frozen?, show W.heap[B]? = _ from h]
theorem Three.below {n : Nat} {W W' : World} {B : Nat} {t : TypeId} {x y z : Value} (h : Three W B t x y z) (hb : Below n W W') (hB : B < n) : Three W' B t x y z := (hb.block B hB).trans h
theorem Three.ex {S : Nat → Prop} {W W' : World} {B : Nat} {t : TypeId} {x y z : Value} (h : Three W B t x y z) (hx : Ex S W W') (hs : ¬ S B) : Three W' B t x y z := (hx.block B h.lt hs).trans h
theorem Three.new1 (w : World) (o : Obj) (t : TypeId) (x y z : Value) : Three ((w.alloc o).alloc (.cells #[x, y, z] t)) (w.heap.size + 1) t x y z := by
  have := World.alloc_heap_new (w.alloc o) (.cells #[x, y, z] t)
  rw [World.size_alloc] at this
  exact this

theorem made_end {W H : Int} {n b c : Nat} {K : Nat → Nat → Int} {w w5 : World} {v0 v1 v2 : Value} (hr : Row w5 b n K) (hb : Below w.heap.size w w5) (hne : w.heap.size + 1 < b) :
    Made W H n K w (.returned (.tuple #[.agg #[.int .i64 W, .int .i64 H, .slice (some ⟨b, 0, none⟩) n c], .int .i64 0])) (((w5.setCell ⟨w.heap.size + 1, 0, none⟩ v0).setCell ⟨w.heap.size + 1, 1, none⟩ v1).setCell ⟨w.heap.size + 1, 2, none⟩ v2) := by
  have x : Ex (fun k => k = w.heap.size + 1) w5 (((w5.setCell ⟨w.heap.size + 1, 0, none⟩ v0).setCell ⟨w.heap.size + 1, 1, none⟩ v1).setCell ⟨w.heap.size + 1, 2, none⟩ v2) := by
    refine Ex.setCell (Ex.setCell (Ex.setCell (Ex.refl _ w5) ?_ _) ?_ _) ?_ _ <;> rfl
  exact ⟨b, c, rfl, (hr.ex x (by omega)).cellsIn, by omega, hb.trans (x.below hb.size (fun k hk => by omega))⟩

/-- A made grid, handed on through a result's own block. -/
theorem made_pass {W H : Int} {n b c r : Nat} {K : Nat → Nat → Int} {w w5 : World} {v0 v1 v2 : Value} (hr : CellsIn w5 (some ⟨b, 0, none⟩) n K) (hb : Below w.heap.size w w5) (h1 : w.heap.size ≤ r) (h2 : r < b) :
    Made W H n K w (.returned (.tuple #[.agg #[.int .i64 W, .int .i64 H, .slice (some ⟨b, 0, none⟩) n c], .int .i64 0])) (((w5.setCell ⟨r, 0, none⟩ v0).setCell ⟨r, 1, none⟩ v1).setCell ⟨r, 2, none⟩ v2) := by
  have x : Ex (fun k => k = r) w5 (((w5.setCell ⟨r, 0, none⟩ v0).setCell ⟨r, 1, none⟩ v1).setCell ⟨r, 2, none⟩ v2) := by
    refine Ex.setCell (Ex.setCell (Ex.setCell (Ex.refl _ w5) ?_ _) ?_ _) ?_ _ <;> rfl
  refine ⟨b, c, rfl, ?_, by omega, hb.trans (x.below hb.size (fun k hk => by omega))⟩
  rcases hr with h | ⟨b', o, e, hlt, hG⟩
  · exact .inl h
  · cases e
    exact .inr ⟨b, 0, rfl, Nat.lt_of_lt_of_le hlt x.size, fun i hi => ⟨(x.cell hlt (by omega)).trans (hG i hi).1, (x.cell hlt (by omega)).trans (hG i hi).2.1, (x.cell hlt (by omega)).trans (hG i hi).2.2.1, (x.cell hlt (by omega)).trans (hG i hi).2.2.2⟩⟩

set_option maxRecDepth 100000 in
set_option maxHeartbeats 4000000 in
theorem run_in1 (W H b off n cap rb ro len rc t c : Nat) (R : Nat → Int × Int) (G : Nat → Nat → Int) (w : World) (s : Sides W H n) (hG : OkG n G) (hlt : b < w.heap.size) (hC : Grd w b off n G) (hrb : rb < w.heap.size) (hR : RulesAt w rb ro len R) (hk : OkRs len R) (hr : RunOk t c) :
    Calls Tryd.prog 91 #[.agg #[.int .i64 W, .int .i64 H, .slice (some ⟨b, off, none⟩) n cap], .slice (some ⟨rb, ro, none⟩) len rc, .int .i64 t, .int .i64 c] w (Made W H n (foldG (fwd W H len R) (upto (up t) c) G) w) := by
  have HCk := Lib.hid (fun w' (hb : Below w.heap.size w w') => checkRun_ok W H (some ⟨b, off, none⟩) n cap G (some ⟨rb, ro, none⟩) len rc R t c w' (vg_of s hG) ((show CellsIn w _ n G from .inr ⟨b, off, rfl, hlt, hC⟩).below hb) (by have := hk.2.1; omega) ((show RulesIn w _ len R from .inr ⟨rb, ro, rfl, hrb, hR⟩).below hb) hk hr)
  have hc' : c ≤ 1000 := by unfold RunOk at hr; omega
  have ht : t ≤ 1000000 := by unfold RunOk at hr; omega
  have htc : c = 0 ∨ t + c - 1 ≤ 1000000 := by unfold RunOk at hr; omega
  go_enter Tryd.func91, Tryd.ntmps91
  go_wp2_with (go_at_call 141; (with_reducible refine (HCk.out _ (by (repeat' (first | (with_reducible exact Below.refl _ _) | (with_reducible refine Below.setCell ?_ (by first | omega | (simp; done) | (simp; omega)) _) | (with_reducible refine Below.alloc ?_ (by first | omega | (simp; done) | (simp; omega)) _) | (with_reducible refine Below.drew ?_) | (with_reducible refine below_drewN ?_ _) | (with_reducible refine Below.trans ?_ (Below.mono (by assumption) (by first | omega | (simp; done) | (simp; omega)))))))).mono ?_); rintro e w1 ⟨rfl, hb⟩; obtain ⟨hc, hf, hz⟩ := bcall hb; (try simp at hc hf hz))
  have hb0 : Below ((w.alloc (.cells #[.int .i64 W, .int .i64 H, .slice (some ⟨b, off, none⟩) n cap] 24)).alloc (.cells #[.int .i64 0, .int .i64 0, .slice none 0 0] 24)).heap.size ((w.alloc (.cells #[.int .i64 W, .int .i64 H, .slice (some ⟨b, off, none⟩) n cap] 24)).alloc (.cells #[.int .i64 0, .int .i64 0, .slice none 0 0] 24)) w1 := by (repeat' (first | (with_reducible exact Below.refl _ _) | (with_reducible refine Below.setCell ?_ (by first | omega | (simp; done) | (simp; omega)) _) | (with_reducible refine Below.alloc ?_ (by first | omega | (simp; done) | (simp; omega)) _) | (with_reducible refine Below.drew ?_) | (with_reducible refine below_drewN ?_ _) | (with_reducible refine Below.trans ?_ (Below.mono (by assumption) (by first | omega | (simp; done) | (simp; omega))))))
  have hbw : Below w.heap.size w w1 := by (repeat' (first | (with_reducible exact Below.refl _ _) | (with_reducible refine Below.setCell ?_ (by first | omega | (simp; done) | (simp; omega)) _) | (with_reducible refine Below.alloc ?_ (by first | omega | (simp; done) | (simp; omega)) _) | (with_reducible refine Below.drew ?_) | (with_reducible refine below_drewN ?_ _) | (with_reducible refine Below.trans ?_ (Below.mono (by assumption) (by first | omega | (simp; done) | (simp; omega))))))
  have t3 : Three w1 (w.heap.size + 1) 24 (.int .i64 0) (.int .i64 0) (.slice none 0 0) := (Three.new1 w _ _ _ _ _).below hb0 (by simp)
  have hGd : Grd w1 b off n G := hC.below hbw hlt
  have hRl : RulesAt w1 rb ro len R := fun i hi => ⟨(hbw.cell (p := ⟨rb, ro + i * 2, none⟩) hrb).trans (hR i hi).1, (hbw.cell (p := ⟨rb, ro + i * 2 + 1, none⟩) hrb).trans (hR i hi).2⟩
  have hsz : w.heap.size + 2 ≤ w1.heap.size := by omega
  clear hc hf hb hz hb0 HCk
  go_at_call 142
  refine (newMachine_any W H b off n cap rb ro len rc R G w1 s (by omega) hGd (by omega) hRl).mono ?_
  rintro e w3 ⟨m, rfl, hM, hb3⟩
  have t3 := t3.below hb3 t3.lt
  have hbw : Below w.heap.size w w3 := hbw.trans (hb3.mono (by omega))
  have hs3 := hb3.size
  obtain ⟨B, hB⟩ : ∃ B, B = w1.heap.size := ⟨_, rfl⟩
  rw [← hB] at hM hs3 hsz
  have HM := Lib.hid hM
  have HT := Lib.hid t3
  have HB := Lib.hid hbw
  clear hM t3 hbw hb3 hGd hRl hB hC hR
  go_wp2_with (go_at_call 145; refine (callsIn_wide.1 (nums_in 5 _ _ _ _)).mono ?_; rintro e w' ⟨rfl, rfl⟩)
  have x4 : Below w3.heap.size w3 (((w3.alloc (.cells #[.int .i64 t] 3)).alloc (.cells #[.int .i64 1] 3)).alloc (.cells #[.int .i64 c] 3)) := (((Below.refl _ w3).alloc (Nat.le_refl _) _).alloc (by simp) _).alloc (by simp; omega) _
  have bF := ((Boxed.new w3 3 (.int .i64 t)).alloc (.cells #[.int .i64 1] 3)).alloc (.cells #[.int .i64 c] 3)
  have bB := (Boxed.new (w3.alloc (.cells #[.int .i64 t] 3)) 3 (.int .i64 1)).alloc (.cells #[.int .i64 c] 3)
  have bN := Boxed.new ((w3.alloc (.cells #[.int .i64 t] 3)).alloc (.cells #[.int .i64 1] 3)) 3 (.int .i64 c)
  simp only [World.size_alloc] at bB bN
  have DO := Lib.hid (callsIn_wide.1 (do_step m W H n rb ro len rc B w3.heap.size c w3.heap.size t 1 (up t) R G _ (HM.out.ext x4) s hG hk hc' (by omega) (by omega) (by omega) (by omega) (fun j hj => by show ((min (t + j) 1000000 : Nat) : Int) = _; rw [Nat.min_eq_left (by omega)]; omega) (Nat.le_refl _) bF bB bN))
  have HX4 := Lib.hid x4
  clear x4 bF bB bN
  go_at_call 143
  refine DO.out.mono ?_
  rintro e w5 ⟨rfl, hM5, hx5⟩
  have t5 := (HT.out.below HX4.out HT.out.lt).ex hx5 (by omega)
  have hlow : B ≤ w5.heap.size := Nat.le_trans hs3 (Nat.le_trans HX4.out.size hx5.size)
  have hB5 := Lib.hid (show Below w.heap.size w w5 from (HB.out.trans (HX4.out.mono (by omega))).trans (hx5.below (by have := HX4.out.size; omega) (fun k hk => by omega)))
  obtain ⟨⟨b1, c1, b2, c2, K, hMm, hr1, _, _, _, _, _, hq1, _⟩, _⟩ := hM5
  have k0 := hMm.k0
  have k1 := hMm.k1
  have k2 := hMm.k2
  have g0 := t5.free 0
  have g1 := t5.free 1
  have g2 := t5.free 2
  have q0 := t5.c0
  have q1 := t5.c1
  have q2 := t5.c2
  have hne : w.heap.size + 1 < b1 := by omega
  have HRow := Lib.hid hr1
  clear hMm hx5 DO t5 hr1 HX4 HT HM HB
  go_wp2
  refine bodyPost_ret (v := .tuple #[.agg #[.int .i64 W, .int .i64 H, .slice (some ⟨b1, 0, none⟩) n c1], .int .i64 0]) (by simp [results, Tryd.results91, go_sem, ↓IntWalk.iteOmega, *]) rfl ?_
  exact made_end HRow.out hB5.out hne

theorem gRun_ok (W H n cap : Nat) (ao : Option Addr) (G : Nat → Nat → Int) (ro : Option Addr) (len rc : Nat) (R : Nat → Int × Int) (t c : Nat) (w : World) (s : Sides W H n) (hG : OkG n G) (hC : CellsIn w ao n G) (hR : RulesIn w ro len R) (hk : OkRs len R) (hr : RunOk t c) :
    Calls Tryd.prog 91 #[.agg #[.int .i64 W, .int .i64 H, .slice (ao) n cap], .slice ro len rc, .int .i64 t, .int .i64 c] w (Made W H n (runG (fwd W H len R) t c G) w) := by
  rw [← fold_up _ _ _ _ (by unfold RunOk at hr; omega)]
  rcases hC with h | ⟨b, off, rfl, hlt, hC⟩
  · have := s.n0
    have := Nat.mul_le_mul s.w0 s.h0
    omega
  · rcases hR with h | ⟨rb, ro, rfl, hrb, hR⟩
    · have := hk.1
      omega
    · exact run_in1 W H b off n cap rb ro len rc t c R G w s hG hlt hC hrb hR hk hr
set_option maxHeartbeats 1000000 in
theorem gRun_inv (W H : Int) (n cap : Nat) (ao : Option Addr) (G : Nat → Nat → Int) (ro : Option Addr) (len rc : Nat) (R : Nat → Int × Int) (t c : Int) (w : World) (hC : CellsIn w ao n G) (hm : len ≤ 1000000000000) (hR : RulesIn w ro len R) (hk : ¬ (VG W H n G ∧ OkRs len R)) :
    Calls Tryd.prog 91 #[.agg #[.int .i64 W, .int .i64 H, .slice (ao) n cap], .slice ro len rc, .int .i64 t, .int .i64 c] w fun e w' => e = .returned (.tuple #[.agg #[.int .i64 0, .int .i64 0, .slice (none) 0 0], .int .i64 1]) ∧ Below w.heap.size w w' := by
  have HC := Lib.hid hC; clear hC
  have HR := Lib.hid hR; clear hR
  have HK := Lib.hid hk; clear hk
  go_enter Tryd.func91, Tryd.ntmps91
  go_wp2_with (go_at_call 141; (with_reducible refine (checkRun_inv W H ao n cap G ro len rc R t c _ (HC.out.below (by (repeat' (first | (with_reducible exact Below.refl _ _) | (with_reducible refine Below.setCell ?_ (by first | omega | (simp; done) | (simp; omega)) _) | (with_reducible refine Below.alloc ?_ (by first | omega | (simp; done) | (simp; omega)) _) | (with_reducible refine Below.drew ?_) | (with_reducible refine below_drewN ?_ _) | (with_reducible refine Below.trans ?_ (Below.mono (by assumption) (by first | omega | (simp; done) | (simp; omega)))))))) hm (HR.out.below (by (repeat' (first | (with_reducible exact Below.refl _ _) | (with_reducible refine Below.setCell ?_ (by first | omega | (simp; done) | (simp; omega)) _) | (with_reducible refine Below.alloc ?_ (by first | omega | (simp; done) | (simp; omega)) _) | (with_reducible refine Below.drew ?_) | (with_reducible refine below_drewN ?_ _) | (with_reducible refine Below.trans ?_ (Below.mono (by assumption) (by first | omega | (simp; done) | (simp; omega)))))))) HK.out).mono ?_); rintro e w1 ⟨rfl, hb⟩; obtain ⟨hc, hf, hz⟩ := bcall hb; (try simp at hc hf hz))
  refine bodyPost_ret (v := .tuple #[.agg #[.int .i64 0, .int .i64 0, .slice (none) 0 0], .int .i64 1]) (by simp [results, Tryd.results91, go_sem, ↓IntWalk.iteOmega, *]) rfl ⟨rfl, ?_⟩
  (repeat' (first | (with_reducible exact Below.refl _ _) | (with_reducible refine Below.setCell ?_ (by first | omega | (simp; done) | (simp; omega)) _) | (with_reducible refine Below.alloc ?_ (by first | omega | (simp; done) | (simp; omega)) _) | (with_reducible refine Below.drew ?_) | (with_reducible refine below_drewN ?_ _) | (with_reducible refine Below.trans ?_ (Below.mono (by assumption) (by first | omega | (simp; done) | (simp; omega))))))

set_option maxHeartbeats 1000000 in
theorem gRun_range (W H : Int) (n cap : Nat) (ao : Option Addr) (G : Nat → Nat → Int) (ro : Option Addr) (len rc : Nat) (R : Nat → Int × Int) (t c : Int) (w : World) (hv : VG W H n G) (hC : CellsIn w ao n G) (hm : len ≤ 1000000000000) (hR : RulesIn w ro len R) (hk : OkRs len R) (hr : ¬ RunOk t c) :
    Calls Tryd.prog 91 #[.agg #[.int .i64 W, .int .i64 H, .slice (ao) n cap], .slice ro len rc, .int .i64 t, .int .i64 c] w fun e w' => e = .returned (.tuple #[.agg #[.int .i64 0, .int .i64 0, .slice (none) 0 0], .int .i64 7]) ∧ Below w.heap.size w w' := by
  have HV := Lib.hid hv; clear hv
  have HC := Lib.hid hC; clear hC
  have HR := Lib.hid hR; clear hR
  have HK := Lib.hid hk; clear hk
  have HN := Lib.hid hr; clear hr
  go_enter Tryd.func91, Tryd.ntmps91
  go_wp2_with (go_at_call 141; (with_reducible refine (checkRun_range W H ao n cap G ro len rc R t c _ HV.out (HC.out.below (by (repeat' (first | (with_reducible exact Below.refl _ _) | (with_reducible refine Below.setCell ?_ (by first | omega | (simp; done) | (simp; omega)) _) | (with_reducible refine Below.alloc ?_ (by first | omega | (simp; done) | (simp; omega)) _) | (with_reducible refine Below.drew ?_) | (with_reducible refine below_drewN ?_ _) | (with_reducible refine Below.trans ?_ (Below.mono (by assumption) (by first | omega | (simp; done) | (simp; omega)))))))) hm (HR.out.below (by (repeat' (first | (with_reducible exact Below.refl _ _) | (with_reducible refine Below.setCell ?_ (by first | omega | (simp; done) | (simp; omega)) _) | (with_reducible refine Below.alloc ?_ (by first | omega | (simp; done) | (simp; omega)) _) | (with_reducible refine Below.drew ?_) | (with_reducible refine below_drewN ?_ _) | (with_reducible refine Below.trans ?_ (Below.mono (by assumption) (by first | omega | (simp; done) | (simp; omega)))))))) HK.out HN.out).mono ?_); rintro e w1 ⟨rfl, hb⟩; obtain ⟨hc, hf, hz⟩ := bcall hb; (try simp at hc hf hz))
  refine bodyPost_ret (v := .tuple #[.agg #[.int .i64 0, .int .i64 0, .slice (none) 0 0], .int .i64 7]) (by simp [results, Tryd.results91, go_sem, ↓IntWalk.iteOmega, *]) rfl ⟨rfl, ?_⟩
  (repeat' (first | (with_reducible exact Below.refl _ _) | (with_reducible refine Below.setCell ?_ (by first | omega | (simp; done) | (simp; omega)) _) | (with_reducible refine Below.alloc ?_ (by first | omega | (simp; done) | (simp; omega)) _) | (with_reducible refine Below.drew ?_) | (with_reducible refine below_drewN ?_ _) | (with_reducible refine Below.trans ?_ (Below.mono (by assumption) (by first | omega | (simp; done) | (simp; omega))))))

end Go.Proofs.YtmdeooflgkjbbaaDoor

/- One step of a grid, its momentum, and whether two grids are the same. -/


namespace Go.Proofs.YtmdeooflgkjbbaaDoor
set_option linter.unusedSimpArgs false
set_option linter.unusedVariables false
open Go.RowKit

set_option maxHeartbeats 1000000 in
theorem gStep_ok (W H n cap : Nat) (ao : Option Addr) (G : Nat → Nat → Int) (ro : Option Addr) (len rc : Nat) (R : Nat → Int × Int) (t : Nat) (w : World) (s : Sides W H n) (hG : OkG n G) (hC : CellsIn w ao n G) (hR : RulesIn w ro len R) (hk : OkRs len R) (ht : t ≤ 1000000) :
    Calls Tryd.prog 34 #[.agg #[.int .i64 W, .int .i64 H, .slice (ao) n cap], .slice ro len rc, .int .i64 t] w (Made W H n (fwd W H len R t G) w) := by
  have D := Lib.hid (fun w' (hb : Below w.heap.size w w') => gRun_ok W H n cap ao G ro len rc R t 1 w' s hG (hC.below hb) (hR.below hb) hk (by unfold RunOk; omega))
  clear hC hR
  go_enter Tryd.func34, Tryd.ntmps34
  go_wp2_with fail
  go_at_call 91
  refine (D.out _ (by (repeat' (first | (with_reducible exact Below.refl _ _) | (with_reducible refine Below.setCell ?_ (by first | omega | (simp; done) | (simp; omega)) _) | (with_reducible refine Below.alloc ?_ (by first | omega | (simp; done) | (simp; omega)) _) | (with_reducible refine Below.drew ?_) | (with_reducible refine below_drewN ?_ _) | (with_reducible refine Below.trans ?_ (Below.mono (by assumption) (by first | omega | (simp; done) | (simp; omega)))))))).mono ?_
  rintro e w1 ⟨b, c, rfl, hC, hlo, hb⟩
  have hlb : w.heap.size + 2 ≤ w1.heap.size := by have := hb.size; simp at this; omega
  have f0 : w1.frozen? ⟨w.heap.size + 1, 0, none⟩ = false := (hb.frozen (p := ⟨w.heap.size + 1, 0, none⟩) (by simp)).trans (by simp)
  have f1 : w1.frozen? ⟨w.heap.size + 1, 1, none⟩ = false := (hb.frozen (p := ⟨w.heap.size + 1, 1, none⟩) (by simp)).trans (by simp)
  have f2 : w1.frozen? ⟨w.heap.size + 1, 2, none⟩ = false := (hb.frozen (p := ⟨w.heap.size + 1, 2, none⟩) (by simp)).trans (by simp)
  have c0 : w1.cell? ⟨w.heap.size + 1, 0, none⟩ = some (.int .i64 0) := (hb.cell (p := ⟨w.heap.size + 1, 0, none⟩) (by simp)).trans (by simp)
  have c1 : w1.cell? ⟨w.heap.size + 1, 1, none⟩ = some (.int .i64 0) := (hb.cell (p := ⟨w.heap.size + 1, 1, none⟩) (by simp)).trans (by simp)
  have c2 : w1.cell? ⟨w.heap.size + 1, 2, none⟩ = some (.slice none 0 0) := (hb.cell (p := ⟨w.heap.size + 1, 2, none⟩) (by simp)).trans (by simp)
  have HC := Lib.hid hC
  have HB := Lib.hid (show Below w.heap.size w w1 from (((Below.refl _ w).alloc (Nat.le_refl _) _).alloc (by simp) _).trans (hb.mono (by simp; omega)))
  have hlo : w.heap.size + 1 < b := by simp at hlo; omega
  clear hC hb D
  go_wp2
  refine bodyPost_ret (v := .tuple #[.agg #[.int .i64 W, .int .i64 H, .slice (some ⟨b, 0, none⟩) n c], .int .i64 0]) (by simp [results, Tryd.results34, go_sem, ↓IntWalk.iteOmega, *]) rfl ?_
  exact made_pass HC.out HB.out (by omega) hlo

set_option maxHeartbeats 1000000 in
theorem gStep_inv (W H : Int) (n cap : Nat) (ao : Option Addr) (G : Nat → Nat → Int) (ro : Option Addr) (len rc : Nat) (R : Nat → Int × Int) (t : Int) (w : World) (hC : CellsIn w ao n G) (hm : len ≤ 1000000000000) (hR : RulesIn w ro len R) (hk : ¬ (VG W H n G ∧ OkRs len R)) :
    Calls Tryd.prog 34 #[.agg #[.int .i64 W, .int .i64 H, .slice (ao) n cap], .slice ro len rc, .int .i64 t] w fun e w' => e = .returned (.tuple #[.agg #[.int .i64 0, .int .i64 0, .slice (none) 0 0], .int .i64 1]) ∧ Below w.heap.size w w' := by
  have HC := Lib.hid hC; clear hC
  have HR := Lib.hid hR; clear hR
  have HK := Lib.hid hk; clear hk
  go_enter Tryd.func34, Tryd.ntmps34
  go_wp2_with (go_at_call 91; (with_reducible refine (gRun_inv W H n cap ao G ro len rc R t 1 _ (HC.out.below (by (repeat' (first | (with_reducible exact Below.refl _ _) | (with_reducible refine Below.setCell ?_ (by first | omega | (simp; done) | (simp; omega)) _) | (with_reducible refine Below.alloc ?_ (by first | omega | (simp; done) | (simp; omega)) _) | (with_reducible refine Below.drew ?_) | (with_reducible refine below_drewN ?_ _) | (with_reducible refine Below.trans ?_ (Below.mono (by assumption) (by first | omega | (simp; done) | (simp; omega)))))))) hm (HR.out.below (by (repeat' (first | (with_reducible exact Below.refl _ _) | (with_reducible refine Below.setCell ?_ (by first | omega | (simp; done) | (simp; omega)) _) | (with_reducible refine Below.alloc ?_ (by first | omega | (simp; done) | (simp; omega)) _) | (with_reducible refine Below.drew ?_) | (with_reducible refine below_drewN ?_ _) | (with_reducible refine Below.trans ?_ (Below.mono (by assumption) (by first | omega | (simp; done) | (simp; omega)))))))) HK.out).mono ?_); rintro e w1 ⟨rfl, hb⟩; obtain ⟨hc, hf, hz⟩ := bcall hb; (try simp at hc hf hz))
  refine bodyPost_ret (v := .tuple #[.agg #[.int .i64 0, .int .i64 0, .slice (none) 0 0], .int .i64 1]) (by simp [results, Tryd.results34, go_sem, ↓IntWalk.iteOmega, *]) rfl ⟨rfl, ?_⟩
  (repeat' (first | (with_reducible exact Below.refl _ _) | (with_reducible refine Below.setCell ?_ (by first | omega | (simp; done) | (simp; omega)) _) | (with_reducible refine Below.alloc ?_ (by first | omega | (simp; done) | (simp; omega)) _) | (with_reducible refine Below.drew ?_) | (with_reducible refine below_drewN ?_ _) | (with_reducible refine Below.trans ?_ (Below.mono (by assumption) (by first | omega | (simp; done) | (simp; omega))))))

set_option maxHeartbeats 1000000 in
theorem gStep_range (W H : Int) (n cap : Nat) (ao : Option Addr) (G : Nat → Nat → Int) (ro : Option Addr) (len rc : Nat) (R : Nat → Int × Int) (t : Int) (w : World) (hv : VG W H n G) (hC : CellsIn w ao n G) (hm : len ≤ 1000000000000) (hR : RulesIn w ro len R) (hk : OkRs len R) (hr : ¬ (0 ≤ t ∧ t ≤ 1000000)) :
    Calls Tryd.prog 34 #[.agg #[.int .i64 W, .int .i64 H, .slice (ao) n cap], .slice ro len rc, .int .i64 t] w fun e w' => e = .returned (.tuple #[.agg #[.int .i64 0, .int .i64 0, .slice (none) 0 0], .int .i64 7]) ∧ Below w.heap.size w w' := by
  have HV := Lib.hid hv; clear hv
  have HC := Lib.hid hC; clear hC
  have HR := Lib.hid hR; clear hR
  have HK := Lib.hid hk; clear hk
  have HN := Lib.hid (show ¬ RunOk t 1 from fun h => hr (by unfold RunOk at h; omega)); clear hr
  go_enter Tryd.func34, Tryd.ntmps34
  go_wp2_with (go_at_call 91; (with_reducible refine (gRun_range W H n cap ao G ro len rc R t 1 _ HV.out (HC.out.below (by (repeat' (first | (with_reducible exact Below.refl _ _) | (with_reducible refine Below.setCell ?_ (by first | omega | (simp; done) | (simp; omega)) _) | (with_reducible refine Below.alloc ?_ (by first | omega | (simp; done) | (simp; omega)) _) | (with_reducible refine Below.drew ?_) | (with_reducible refine below_drewN ?_ _) | (with_reducible refine Below.trans ?_ (Below.mono (by assumption) (by first | omega | (simp; done) | (simp; omega)))))))) hm (HR.out.below (by (repeat' (first | (with_reducible exact Below.refl _ _) | (with_reducible refine Below.setCell ?_ (by first | omega | (simp; done) | (simp; omega)) _) | (with_reducible refine Below.alloc ?_ (by first | omega | (simp; done) | (simp; omega)) _) | (with_reducible refine Below.drew ?_) | (with_reducible refine below_drewN ?_ _) | (with_reducible refine Below.trans ?_ (Below.mono (by assumption) (by first | omega | (simp; done) | (simp; omega)))))))) HK.out HN.out).mono ?_); rintro e w1 ⟨rfl, hb⟩; obtain ⟨hc, hf, hz⟩ := bcall hb; (try simp at hc hf hz))
  refine bodyPost_ret (v := .tuple #[.agg #[.int .i64 0, .int .i64 0, .slice (none) 0 0], .int .i64 7]) (by simp [results, Tryd.results34, go_sem, ↓IntWalk.iteOmega, *]) rfl ⟨rfl, ?_⟩
  (repeat' (first | (with_reducible exact Below.refl _ _) | (with_reducible refine Below.setCell ?_ (by first | omega | (simp; done) | (simp; omega)) _) | (with_reducible refine Below.alloc ?_ (by first | omega | (simp; done) | (simp; omega)) _) | (with_reducible refine Below.drew ?_) | (with_reducible refine below_drewN ?_ _) | (with_reducible refine Below.trans ?_ (Below.mono (by assumption) (by first | omega | (simp; done) | (simp; omega))))))

theorem fwd_bwd {W H n len : Nat} {R : Nat → Int × Int} {t : Nat} {G : Nat → Nat → Int} (hn : n = W * H) (hk : OkRs len R) (h : OkG n G) : EqG n (bwd W H len R t (fwd W H len R t G)) G := by
  have hr := hk.2.2 (t % len) (Nat.mod_lt _ hk.1)
  unfold fwd bwd
  exact (EqG.col (pull_back (way := 1) hn)).trans (col_back hr h)
theorem bwd_fwd {W H n len : Nat} {R : Nat → Int × Int} {t : Nat} {G : Nat → Nat → Int} (hn : n = W * H) (hk : OkRs len R) (h : OkG n G) : EqG n (fwd W H len R t (bwd W H len R t G)) G := by
  have hr := hk.2.2 (t % len) (Nat.mod_lt _ hk.1)
  have hr' : OkR (R (t % len)).1 (-(R (t % len)).2) := okR_neg hr
  have c := col_back (k := (R (t % len)).1) (y := -(R (t % len)).2) hr' (okG_pull (way := -1) hn h)
  rw [Int.neg_neg] at c
  unfold fwd bwd
  have p := pull_back (W := W) (H := H) (n := n) (way := -1) (G := G) hn
  rw [Int.neg_neg] at p
  exact (EqG.pull hn c).trans p

set_option maxHeartbeats 2000000 in
theorem gMomentum_ok1 (W H : Int) (b off n cap : Nat) (G : Nat → Nat → Int) (w : World) (hv : VG W H n G) (hlt : b < w.heap.size) (hG : Grd w b off n G) :
    Calls Tryd.prog 33 #[.agg #[.int .i64 W, .int .i64 H, .slice (some ⟨b, off, none⟩) n cap]] w fun e w' => e = .returned (.tuple #[.int .i64 (imE G n), .int .i64 (imN G n), .int .i64 0]) ∧ Below w.heap.size w w' := by
  have HV := Lib.hid (fun w' (hb : Below w.heap.size w w') => gValid_ok W H (some ⟨b, off, none⟩) n cap G w' hv ((show CellsIn w _ n G from .inr ⟨b, off, rfl, hlt, hG⟩).below hb))
  obtain ⟨hs, hn, hok, hw⟩ := hv
  have hn2 : (n : Int) ≤ 1024 := by have := hs.bd; omega
  have HO := Lib.hid hok; clear hok
  have HG := Lib.hid hG; clear hG
  clear hw hn hs
  go_enter Tryd.func33, Tryd.ntmps33
  go_wp2_with (go_at_call 89; (with_reducible refine (HV.out _ (by (repeat' (first | (with_reducible exact Below.refl _ _) | (with_reducible refine Below.setCell ?_ (by first | omega | (simp; done) | (simp; omega)) _) | (with_reducible refine Below.alloc ?_ (by first | omega | (simp; done) | (simp; omega)) _) | (with_reducible refine Below.drew ?_) | (with_reducible refine below_drewN ?_ _) | (with_reducible refine Below.trans ?_ (Below.mono (by assumption) (by first | omega | (simp; done) | (simp; omega)))))))).mono ?_); rintro e w1 ⟨rfl, hb⟩; obtain ⟨hc, hf, hz⟩ := bcall hb; (try simp at hc hf hz))
  have HB1 := Lib.hid (show Below w.heap.size w w1 from by (repeat' (first | (with_reducible exact Below.refl _ _) | (with_reducible refine Below.setCell ?_ (by first | omega | (simp; done) | (simp; omega)) _) | (with_reducible refine Below.alloc ?_ (by first | omega | (simp; done) | (simp; omega)) _) | (with_reducible refine Below.drew ?_) | (with_reducible refine below_drewN ?_ _) | (with_reducible refine Below.trans ?_ (Below.mono (by assumption) (by first | omega | (simp; done) | (simp; omega)))))))
  clear hc hf hb HV
  go_loopw [2, 3, 16] (fun x y i wr => ∃ k : Nat, k ≤ n ∧ i = .int .i64 k ∧ x = .int .i64 (imE G k) ∧ y = .int .i64 (imN G k) ∧ Below w.heap.size w wr) (fun _ _ i _ => n - (intOf i).toNat)
  case atStart => exact ⟨0, Nat.zero_le _, rfl, rfl, rfl, HB1.out⟩
  case round =>
    obtain ⟨k, hk, rfl, rfl, rfl, hB⟩ := hrel
    by_cases hlk : k < n
    · obtain ⟨c0, c1, c2, c3⟩ := HG.out.get hB hlt hlk
      have HK := Lib.hid (HO.out k hlk)
      have hs := hB.size
      obtain ⟨m0, m1, m2, m3⟩ := im_bd HO.out k hk
      obtain ⟨m4, m5, m6, m7⟩ := im_bd HO.out (k + 1) hlk
      have e1 : imE G (k + 1) = imE G k + (G k 0 - G k 2) := rfl
      have e2 : imN G (k + 1) = imN G k + (G k 1 - G k 3) := rfl
      rw [e1] at m4 m5
      rw [e2] at m6 m7
      have E1 := Lib.hid e1
      have E2 := Lib.hid e2
      clear e1 e2
      have z0 : (k : Int) ≤ 1024 := by omega
      go_wp2_with (go_at_call 90; (with_reducible refine (momentum_ok _ _ _ _ _ HK.out).mono ?_); rintro e w1 ⟨rfl, hb⟩; obtain ⟨hc, hf, hz⟩ := bcall hb; (try simp at hc hf hz))
      go_roundw
      case rel => exact ⟨k + 1, by omega, by go_num, by rw [E1.out], by rw [E2.out], by (repeat' (first | (with_reducible exact Below.refl _ _) | (with_reducible refine Below.setCell ?_ (by first | omega | (simp; done) | (simp; omega)) _) | (with_reducible refine Below.alloc ?_ (by first | omega | (simp; done) | (simp; omega)) _) | (with_reducible refine Below.drew ?_) | (with_reducible refine below_drewN ?_ _) | (with_reducible refine Below.trans ?_ (Below.mono (by assumption) (by first | omega | (simp; done) | (simp; omega))))))⟩
      case measure => simp [intOf]; omega
    · obtain rfl : n = k := by omega
      go_wp2
      go_ret3
      exact ⟨rfl, hB⟩
theorem gMomentum_ok (W H : Int) (ao : Option Addr) (n cap : Nat) (G : Nat → Nat → Int) (w : World) (hv : VG W H n G) (h : CellsIn w ao n G) :
    Calls Tryd.prog 33 #[.agg #[.int .i64 W, .int .i64 H, .slice (ao) n cap]] w fun e w' => e = .returned (.tuple #[.int .i64 (imE G n), .int .i64 (imN G n), .int .i64 0]) ∧ Below w.heap.size w w' := by
  rcases h with h | ⟨b, off, rfl, hlt, hG⟩
  · have := hv.1.bd
    have := hv.2.1
    omega
  · exact gMomentum_ok1 W H b off n cap G w hv hlt hG

end Go.Proofs.YtmdeooflgkjbbaaDoor
