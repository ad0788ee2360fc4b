/- The period of a grid, by the program. -/
import Derived.Test.YtnkehlankidlnaaDoorCopy
import Derived.Test.YtnkehlankidlnaaDoorNums
import Derived.Test.YtnkehlankidlnaaDoorSameC
namespace Go.Proofs.YtnkehlankidlnaaDoor
set_option linter.unusedSimpArgs false
set_option linter.unusedVariables false
open Go.RowKit Go.Shelf
attribute [local go_sem] Oper.semAt_some

/-- A grid after some steps by one rule. -/
def itG (W H : Nat) (k y : Int) (G : Nat → Nat → Int) : Nat → Nat → Nat → Int
  | 0 => G
  | j + 1 => pull W H 1 (colG k y (itG W H k y G j))
theorem okG_it {W H n : Nat} {k y : Int} {G : Nat → Nat → Int} (hn : n = W * H) (h : OkG n G) (j : Nat) : OkG n (itG W H k y G j) := by
  induction j with
  | zero => exact h
  | succ j ih => exact okG_pull hn (okG_col ih)

theorem mchG_own {β : Type} (Bd m W H n rb ro len rc : Nat) (R : Nat → Int × Int) (f : β → Nat → Nat → Int) (B U : Nat) : OwnFrom Bd (fun (s : β) w => MchG w m W H n rb ro len rc R (f s) B U) := fun s X Y row hs hg hr => by
  obtain ⟨⟨b1, c1, b2, c2, K, hM, hr1, hr2, n1, n2, n3, q0, q1, q2, u⟩, hR, hrb, hlow, htop⟩ := hs
  have hr' : ∀ r, row = some r → ∃ o : Obj, X.heap[r]? = some o ∧ o.isCells = false := fun r e => (hr r e).2
  have rowk : ∀ b G, Row X b n G → Row Y b n G := fun b G h => ⟨Nat.lt_of_lt_of_le h.1 hg.size, fun j hj => ⟨cell_kept (h.2 j hj).1 hg hr', (frozen_kept (h.2 j hj).1 hg hr').trans (h.2 j hj).2⟩⟩
  refine ⟨⟨b1, c1, b2, c2, K, ?_, rowk _ _ hr1, rowk _ _ hr2, n1, n2, n3, q0, q1, q2, u⟩, fun i hi => ⟨cell_kept (hR i hi).1 hg hr', cell_kept (hR i hi).2 hg hr'⟩, hrb, Nat.le_trans hlow hg.size, Nat.le_trans htop hg.size⟩
  refine (hg.block m hM.lt (fun e => ?_)).trans hM
  obtain ⟨o, ho, hc⟩ := hr' m e.symm
  rw [show X.heap[m]? = _ from hM] at ho
  cases ho
  cases hc

/-- What Period gives. -/
def PerRes (W H n most : Nat) (k y : Int) (G : Nat → Nat → Int) (w : World) (e : Ending) (w' : World) : Prop :=
  Below w.heap.size w w' ∧ ((∃ j : Nat, 1 ≤ j ∧ j ≤ most ∧ EqG n (itG W H k y G j) G ∧ (∀ i, 1 ≤ i → i < j → ¬ EqG n (itG W H k y G i) G) ∧ e = .returned (.tuple #[.int .i64 j, .int .i64 0])) ∨
    ((∀ i, 1 ≤ i → i ≤ most → ¬ EqG n (itG W H k y G i) G) ∧ e = .returned (.tuple #[.int .i64 0, .int .i64 8])))

theorem keepsFrom_ex {B : Nat} {S : Nat → Prop} {W W' : World} (h : Ex S W W') (hs : ∀ k, S k → k < B) : KeepsFrom B W W' :=
  ⟨h.size, fun k o hk ho _ => (h.block k (Array.getElem?_eq_some_iff.1 ho).1 (fun x => by have := hs k x; omega)).trans ho⟩
theorem kb_ex {S S' : Nat → Prop} {W W' : World} (h : Ex S W W') (hs : ∀ k, S' k → k < W.heap.size ∧ ¬ S k) : KB S' W W' := ⟨h.size, fun k hk => h.block k (hs k hk).1 (hs k hk).2⟩

/-- What stands while Period goes its rounds. -/
structure PerI (W H n : Nat) (k y : Int) (G : Nat → Nat → Int) (m rb B U s8 lo : Nat) (w : World) (sl : Value) (pre : List Stp) (X : World) : Prop where
  mch : MchG X m W H n rb 0 1 1 (fun _ => (k, y)) (itG W H k y G pre.length) B U
  b2 : Boxed X (w.heap.size + 1 + 1) 3 (.int .i64 0)
  b3 : Boxed X (w.heap.size + 1 + 1 + 1) 27 (.int .i64 0)
  b8 : Boxed X s8 155 (.pointer (some ⟨m, 0, none⟩))
  cl : X.cell? ⟨w.heap.size, 2, none⟩ = some sl
  below : Below w.heap.size w X
  size : lo ≤ X.heap.size
  none : ∀ j, 1 ≤ j → j ≤ pre.length → ¬ EqG n (itG W H k y G j) G
theorem perI_own {Bd W H n : Nat} {k y : Int} {G : Nat → Nat → Int} {m rb B U s8 lo : Nat} {w : World} {sl : Value} (hB : w.heap.size ≤ Bd) : OwnFrom Bd (PerI W H n k y G m rb B U s8 lo w sl) := fun s X Y row hs hg hr => by
  have hr' : ∀ r, row = some r → ∃ o : Obj, X.heap[r]? = some o ∧ o.isCells = false := fun r e => (hr r e).2
  exact ⟨mchG_own Bd m W H n rb 0 1 1 _ (fun (_ : Unit) => itG W H k y G s.length) B U () X Y row hs.mch hg hr, boxed_own _ _ (fun (_ : Unit) => .int .i64 0) () X Y row hs.b2 hg hr', boxed_own _ _ (fun (_ : Unit) => .int .i64 0) () X Y row hs.b3 hg hr',
    boxed_own _ _ (fun (_ : Unit) => .pointer (some ⟨m, 0, Option.none⟩)) () X Y row hs.b8 hg hr', cell_kept hs.cl hg hr', ownFrom_below (β := Unit) (Nat.le_refl _) hB () X Y row hs.below hg hr, Nat.le_trans hs.size hg.size, hs.none⟩
structure PerX (W H n : Nat) (k y : Int) (G : Nat → Nat → Int) (w : World) (c : Code) (pre : List Stp) (X : World) : Prop where
  ret : c = .ret
  ex : ∃ (ini : List Stp) (last : Stp), pre = ini ++ [last] ∧ Boxed X (w.heap.size + 1 + 1) 3 (.int .i64 ((last.1 : Int) + 1)) ∧ EqG n (itG W H k y G (ini.length + 1)) G ∧ ∀ j, 1 ≤ j → j ≤ ini.length → ¬ EqG n (itG W H k y G j) G
  b3 : Boxed X (w.heap.size + 1 + 1 + 1) 27 (.int .i64 0)
  below : Below w.heap.size w X
theorem perX_own {Bd W H n : Nat} {k y : Int} {G : Nat → Nat → Int} {w : World} {c : Code} (hB : w.heap.size ≤ Bd) : OwnFrom Bd (PerX W H n k y G w c) := fun s X Y row hs hg hr => by
  have hr' : ∀ r, row = some r → ∃ o : Obj, X.heap[r]? = some o ∧ o.isCells = false := fun r e => (hr r e).2
  obtain ⟨ini, last, h1, h2, h3⟩ := hs.ex
  exact ⟨hs.ret, ⟨ini, last, h1, boxed_own _ _ (fun (_ : Unit) => .int .i64 ((last.1 : Int) + 1)) () X Y row h2 hg hr', h3⟩, boxed_own _ _ (fun (_ : Unit) => .int .i64 0) () X Y row hs.b3 hg hr', ownFrom_below (β := Unit) (Nat.le_refl _) hB () X Y row hs.below hg hr⟩

theorem vg_of {W H n : Nat} {G : Nat → Nat → Int} (s : Sides W H n) (hG : OkG n G) : VG W H n G := by
  obtain ⟨a, b, c, d, e, f⟩ := s
  have e' : (n : Int) = (W : Int) * (H : Int) := by rw [e]; simp
  exact ⟨⟨by omega, by omega, by omega, by omega, by omega⟩, e', hG⟩

/-- What stands behind a round's step. -/
structure PerP (W H n : Nat) (k y : Int) (G : Nat → Nat → Int) (m rb B s8 : Nat) (w : World) (sl : Value) (pre : List Stp) (X X2 : World) : Prop where
  mch : MchG X2 m W H n rb 0 1 1 (fun _ => (k, y)) (itG W H k y G (pre.length + 1)) B s8
  ex : Ex (fun k => B ≤ k ∧ k < s8) X X2
  b2 : Boxed X2 (w.heap.size + 1 + 1) 3 (.int .i64 0)
  b3 : Boxed X2 (w.heap.size + 1 + 1 + 1) 27 (.int .i64 0)
  b8 : Boxed X2 s8 155 (.pointer (some ⟨m, 0, none⟩))
  cl : X2.cell? ⟨w.heap.size, 2, none⟩ = some sl
  below : Below w.heap.size w X2
  old : PerI W H n k y G m rb B s8 s8 (s8 + 4) w sl pre X
  lo : w.heap.size + 4 ≤ B
  hi : B ≤ s8
theorem per_no {W H n : Nat} {k y : Int} {G : Nat → Nat → Int} {m rb B s8 D : Nat} {w : World} {sl : Value} {pre : List Stp} {x : Stp} {X X2 X3 : World} (h : PerP W H n k y G m rb B s8 w sl pre X X2) (hb : Below X2.heap.size X2 X3) (hD : s8 ≤ D) (hs : SameB n (itG W H k y G (pre.length + 1)) G false) :
    KeepsFrom D X X3 ∧ KB (fun k => k = s8 + 1 ∨ k = s8 + 1 + 1) X X3 ∧ PerI W H n k y G m rb B s8 s8 (s8 + 4) w sl (pre ++ [x]) X3 := by
  have lo := h.lo
  have hi := h.hi
  have hX : Ex (fun k => B ≤ k ∧ k < s8) X X3 := h.ex.trans (Ex.of_below hb)
  have hz := h.old.size
  have hno : ¬ EqG n (itG W H k y G (pre.length + 1)) G := fun e => by have := hs.2 e; cases this
  have el : (pre ++ [x]).length = pre.length + 1 := by simp
  have l2 := h.b2.lt
  have l3 := h.b3.lt
  have l8 := h.b8.lt
  refine ⟨keepsFrom_ex hX (fun k hk => by omega), kb_ex hX (fun k hk => ⟨by omega, by omega⟩), ?_⟩
  exact ⟨by rw [el]; exact h.mch.ext hb, (hb.block _ l2).trans h.b2, (hb.block _ l3).trans h.b3, (hb.block _ l8).trans h.b8, (hb.cell (p := ⟨w.heap.size, 2, none⟩) (show w.heap.size < X2.heap.size by omega)).trans h.cl, h.below.trans (hb.mono (by omega)), Nat.le_trans hz hX.size, fun j h1 h2 => by
    rw [el] at h2
    by_cases e : j = pre.length + 1
    · subst e; exact hno
    · exact h.old.none j h1 (by omega)⟩
theorem per_yes {W H n : Nat} {k y : Int} {G : Nat → Nat → Int} {m rb B s8 D : Nat} {w : World} {sl : Value} {pre : List Stp} {x : Stp} {X X2 X3 : World} (h : PerP W H n k y G m rb B s8 w sl pre X X2) (hb : Below X2.heap.size X2 X3) (hD : s8 ≤ D) (hs : EqG n (itG W H k y G (pre.length + 1)) G) :
    KeepsFrom D X ((X3.setCell ⟨w.heap.size + 1 + 1, 0, none⟩ (.int .i64 (x.1 + 1))).setCell ⟨w.heap.size + 1 + 1 + 1, 0, none⟩ (.int .i64 0)) ∧ PerX W H n k y G w .ret (pre ++ [x]) ((X3.setCell ⟨w.heap.size + 1 + 1, 0, none⟩ (.int .i64 (x.1 + 1))).setCell ⟨w.heap.size + 1 + 1 + 1, 0, none⟩ (.int .i64 0)) := by
  have lo := h.lo
  have hi := h.hi
  have hX : Ex (fun k => B ≤ k ∧ k < s8) X X3 := h.ex.trans (Ex.of_below hb)
  have hz := h.old.size
  have b2 : Boxed X3 _ _ _ := (hb.block _ h.b2.lt).trans h.b2
  have b3 : Boxed X3 _ _ _ := (hb.block _ h.b3.lt).trans h.b3
  have l2 := h.b2.lt
  have hbw : Below w.heap.size w X3 := h.below.trans (hb.mono (by omega))
  refine ⟨((keepsFrom_ex hX (fun k hk => by omega)).trans ((KeepsOthers.setCell _ _ _).from _)).trans ((KeepsOthers.setCell _ _ _).from _), rfl, ⟨pre, x, rfl, (b2.set _).other (by omega) _, hs, h.old.none⟩, (b3.other (by omega) _).set _, (hbw.setCell (p := ⟨w.heap.size + 1 + 1, 0, none⟩) (show w.heap.size ≤ w.heap.size + 1 + 1 by omega) _).setCell (p := ⟨w.heap.size + 1 + 1 + 1, 0, none⟩) (show w.heap.size ≤ w.heap.size + 1 + 1 + 1 by omega) _⟩

set_option maxRecDepth 100000 in
set_option maxHeartbeats 4000000 in
theorem period_in (W H b off n cap most : Nat) (k y : Int) (G : Nat → Nat → Int) (w : World) (s : Sides W H n) (hG : OkG n G) (hlt : b < w.heap.size) (hC : Grd w b off n G) (hr : OkR k y) (h1 : 1 ≤ most) (h2 : most ≤ 1000) :
    CallsIn Fence.wide 6 Tryd.prog 70 #[.agg #[.int .i64 W, .int .i64 H, .slice (some ⟨b, off, none⟩) n cap], .agg #[.int .i64 k, .int .i64 y], .int .i64 most] w (PerRes W H n most k y G w) := by
  have HV := Lib.hid (vg_of s hG)
  have HC := Lib.hid (show CellsIn w (some ⟨b, off, none⟩) n G from .inr ⟨b, off, rfl, hlt, hC⟩)
  have HR := Lib.hid hr
  have s0 : decide ((most : Int) < 1) = false := decide_eq_false (by omega)
  have s1 : decide ((1000 : Int) < (most : Int)) = false := decide_eq_false (by omega)
  refine callsIn_of_wp_marks Tryd.func70 rfl trivial ?_ rfl
  simp only [Tryd.ntmps70, List.size_toArray, List.length_cons, List.length_nil, Nat.reduceAdd, Nat.reduceSub, Array.replicate_succ, Array.replicate_zero, List.push_toArray, List.append_toArray, List.nil_append, List.cons_append]
  gi_wp2_with (first | (refine ⟨trivial, ?_⟩; gi_at_call 19; (with_reducible refine (callsIn_wide.2 (gValid_ok W H _ n cap G _ HV.out (HC.out.below (by (repeat' (first | (with_reducible exact Below.refl _ _) | (with_reducible refine Below.setCell ?_ (by first | omega | (simp; done) | (simp; omega)) _) | (with_reducible refine Below.alloc ?_ (by first | omega | (simp; done) | (simp; omega)) _) | (with_reducible refine Below.drew ?_) | (with_reducible refine below_drewN ?_ _) | (with_reducible refine Below.trans ?_ (Below.mono (by assumption) (by first | omega | (simp; done) | (simp; omega)))))))))).mono ?_); rintro e w1 ⟨rfl, hb⟩; obtain ⟨hc, hf, hz⟩ := bcall hb; (try simp at hc hf hz)) | (refine ⟨trivial, ?_⟩; gi_at_call 134; (with_reducible refine (callsIn_wide.2 (validRule_ok _ _ _ HR.out)).mono ?_); rintro e w1 ⟨rfl, hb⟩; obtain ⟨hc, hf, hz⟩ := bcall hb; (try simp at hc hf hz)))
  have hb0 : Below ((((w.alloc (.cells #[.int .i64 W, .int .i64 H, .slice (some ⟨b, off, none⟩) n cap] 24)).alloc (.cells #[.int .i64 k, .int .i64 y] 87)).alloc (.cells #[.int .i64 0] 3)).alloc (.cells #[.int .i64 0] 27)).heap.size ((((w.alloc (.cells #[.int .i64 W, .int .i64 H, .slice (some ⟨b, off, none⟩) n cap] 24)).alloc (.cells #[.int .i64 k, .int .i64 y] 87)).alloc (.cells #[.int .i64 0] 3)).alloc (.cells #[.int .i64 0] 27)) w1 := by (repeat' (first | (with_reducible exact Below.refl _ _) | (with_reducible refine Below.setCell ?_ (by first | omega | (simp; done) | (simp; omega)) _) | (with_reducible refine Below.alloc ?_ (by first | omega | (simp; done) | (simp; omega)) _) | (with_reducible refine Below.drew ?_) | (with_reducible refine below_drewN ?_ _) | (with_reducible refine Below.trans ?_ (Below.mono (by assumption) (by first | omega | (simp; done) | (simp; omega))))))
  have hbV : Below w.heap.size w w1 := by (repeat' (first | (with_reducible exact Below.refl _ _) | (with_reducible refine Below.setCell ?_ (by first | omega | (simp; done) | (simp; omega)) _) | (with_reducible refine Below.alloc ?_ (by first | omega | (simp; done) | (simp; omega)) _) | (with_reducible refine Below.drew ?_) | (with_reducible refine below_drewN ?_ _) | (with_reducible refine Below.trans ?_ (Below.mono (by assumption) (by first | omega | (simp; done) | (simp; omega))))))
  have b2 := (((Boxed.new ((w.alloc (.cells #[.int .i64 W, .int .i64 H, .slice (some ⟨b, off, none⟩) n cap] 24)).alloc (.cells #[.int .i64 k, .int .i64 y] 87)) 3 (.int .i64 0)).alloc (.cells #[.int .i64 0] 27)))
  have b3 := (Boxed.new (((w.alloc (.cells #[.int .i64 W, .int .i64 H, .slice (some ⟨b, off, none⟩) n cap] 24)).alloc (.cells #[.int .i64 k, .int .i64 y] 87)).alloc (.cells #[.int .i64 0] 3)) 27 (.int .i64 0))
  simp only [World.size_alloc] at b2 b3 hb0
  have b2 : Boxed w1 (w.heap.size + 1 + 1) 3 (.int .i64 0) := (hb0.block _ (by omega)).trans b2
  have b3 : Boxed w1 (w.heap.size + 1 + 1 + 1) 27 (.int .i64 0) := (hb0.block _ (by omega)).trans b3
  have cl : w1.cell? ⟨w.heap.size, 2, none⟩ = some (.slice (some ⟨b, off, none⟩) n cap) := (hb0.cell (p := ⟨w.heap.size, 2, none⟩) (show w.heap.size < _ by omega)).trans ((((((Below.refl (w.heap.size + 1) (w.alloc (.cells #[.int .i64 W, .int .i64 H, .slice (some ⟨b, off, none⟩) n cap] 24))).alloc (by simp) _).alloc (by simp) _).alloc (by simp) _).cell (p := ⟨w.heap.size, 2, none⟩) (Nat.lt_succ_self _)).trans (by simp))
  have hszV : w.heap.size + 4 ≤ w1.heap.size := by have := hb0.size; omega
  have hRl : RulesAt (w1.alloc (.cells #[.int .i64 k, .int .i64 y] 87)) w1.heap.size 0 1 (fun _ => (k, y)) := fun i hi => by
    obtain rfl : i = 0 := by omega
    have t := Two.new w1 87 (.int .i64 k) (.int .i64 y)
    exact ⟨t.c0, t.c1⟩
  have hGd : Grd (w1.alloc (.cells #[.int .i64 k, .int .i64 y] 87)) b off n G := hC.below (hbV.alloc (by omega) _) hlt
  have b2 := b2.alloc (.cells #[.int .i64 k, .int .i64 y] 87)
  have b3 := b3.alloc (.cells #[.int .i64 k, .int .i64 y] 87)
  have cl : (w1.alloc (.cells #[.int .i64 k, .int .i64 y] 87)).cell? ⟨w.heap.size, 2, none⟩ = some (.slice (some ⟨b, off, none⟩) n cap) := (World.cell?_alloc_past _ _ _ (show w.heap.size < w1.heap.size by omega)).trans cl
  have hbW : Below w.heap.size w (w1.alloc (.cells #[.int .i64 k, .int .i64 y] 87)) := hbV.alloc (by omega) _
  have hsw : (w1.alloc (.cells #[.int .i64 k, .int .i64 y] 87)).heap.size = w1.heap.size + 1 := by simp
  obtain ⟨rb, hrb⟩ : ∃ rb, rb = w1.heap.size := ⟨_, rfl⟩
  obtain ⟨w2, hw2⟩ : ∃ w2, w2 = w1.alloc (.cells #[.int .i64 k, .int .i64 y] 87) := ⟨_, rfl⟩
  rw [← hw2, ← hrb] at hRl hsw ⊢
  rw [← hw2] at hGd b2 b3 cl hbW
  rw [← hrb] at hszV
  clear hc hf hb hz hb0 hbV hw2 hrb
  refine ⟨trivial, ?_⟩
  gi_at_call 135
  refine (callsIn_wide.2 (newMachine_any W H b off n cap rb 0 1 1 (fun _ => (k, y)) G w2 s (by omega) hGd (by omega) hRl)).mono ?_
  rintro e w3 ⟨m, rfl, hM, hb3⟩
  have b2 : Boxed w3 (w.heap.size + 1 + 1) 3 (.int .i64 0) := (hb3.block _ b2.lt).trans b2
  have b3 : Boxed w3 (w.heap.size + 1 + 1 + 1) 27 (.int .i64 0) := (hb3.block _ b3.lt).trans b3
  have cl := (hb3.cell (p := ⟨w.heap.size, 2, none⟩) (show w.heap.size < w2.heap.size by omega)).trans cl
  have hbW : Below w.heap.size w w3 := hbW.trans (hb3.mono (by omega))
  have hs3 := hb3.size
  obtain ⟨B, hB⟩ : ∃ B, B = w2.heap.size := ⟨_, rfl⟩
  rw [← hB] at hM hs3 hsw
  clear hb3 hGd hRl hB
  gi_wp2_with (refine ⟨trivial, ?_⟩; gi_at_call 136; refine (nums_in _ _ _ _ _).mono ?_; rintro e w' ⟨rfl, rfl⟩)
  have x4 : Below w3.heap.size w3 ((((w3.alloc (.cells #[.pointer (some ⟨m, 0, none⟩)] 155)).alloc (.cells #[.int .i64 0] 3)).alloc (.cells #[.int .i64 1] 3)).alloc (.cells #[.int .i64 most] 3)) := ((((Below.refl _ w3).alloc (Nat.le_refl _) _).alloc (by simp) _).alloc (by simp; omega) _).alloc (by simp; omega) _
  have b8 := (((Boxed.new w3 155 (.pointer (some ⟨m, 0, none⟩))).alloc (.cells #[.int .i64 0] 3)).alloc (.cells #[.int .i64 1] 3)).alloc (.cells #[.int .i64 most] 3)
  have bF := ((Boxed.new (w3.alloc (.cells #[.pointer (some ⟨m, 0, none⟩)] 155)) 3 (.int .i64 0)).alloc (.cells #[.int .i64 1] 3)).alloc (.cells #[.int .i64 most] 3)
  have bB := (Boxed.new ((w3.alloc (.cells #[.pointer (some ⟨m, 0, none⟩)] 155)).alloc (.cells #[.int .i64 0] 3)) 3 (.int .i64 1)).alloc (.cells #[.int .i64 most] 3)
  have bN := Boxed.new (((w3.alloc (.cells #[.pointer (some ⟨m, 0, none⟩)] 155)).alloc (.cells #[.int .i64 0] 3)).alloc (.cells #[.int .i64 1] 3)) 3 (.int .i64 most)
  have hsz : ((((w3.alloc (.cells #[.pointer (some ⟨m, 0, none⟩)] 155)).alloc (.cells #[.int .i64 0] 3)).alloc (.cells #[.int .i64 1] 3)).alloc (.cells #[.int .i64 most] 3)).heap.size = w3.heap.size + 4 := by simp
  simp only [World.size_alloc] at bF bB bN
  obtain ⟨w4, hw4⟩ : ∃ w4, w4 = (((w3.alloc (.cells #[.pointer (some ⟨m, 0, none⟩)] 155)).alloc (.cells #[.int .i64 0] 3)).alloc (.cells #[.int .i64 1] 3)).alloc (.cells #[.int .i64 most] 3) := ⟨_, rfl⟩
  rw [← hw4] at x4 b8 bF bB bN hsz ⊢
  clear hw4
  have b2 : Boxed w4 (w.heap.size + 1 + 1) 3 (.int .i64 0) := (x4.block _ b2.lt).trans b2
  have b3 : Boxed w4 (w.heap.size + 1 + 1 + 1) 27 (.int .i64 0) := (x4.block _ b3.lt).trans b3
  have cl := (x4.cell (p := ⟨w.heap.size, 2, none⟩) (show w.heap.size < w3.heap.size by omega)).trans cl
  have hbW : Below w.heap.size w w4 := hbW.trans (x4.mono (by omega))
  have hM : MchG w4 m W H n rb 0 1 1 (fun _ => (k, y)) G B w3.heap.size := hM.ext x4
  obtain ⟨s8, hs8⟩ : ∃ s8, s8 = w3.heap.size := ⟨_, rfl⟩
  rw [← hs8] at hM b8 bF bB bN hsz hs3 ⊢
  clear x4 hs8
  refine wpIn_rangeFunc_ownH (α := Stp) rfl (by omega) (gf := 179) (lb := #[.pointer (some ⟨s8 + 1 + 1 + 1, 0, none⟩), .pointer (some ⟨s8 + 1, 0, none⟩), .pointer (some ⟨s8 + 1 + 1, 0, none⟩)]) rfl trivial (enters_of Tryd.func179 (by kernel_rfl) rfl)
    (nums_stops 5 (by omega) most (s8 + 1) 0 1 (fun j => ⟨min j 1000000, Nat.min_le_right _ _⟩) w4 h2 (by omega) (by omega) (by omega) (by omega) (fun j hj => by simp; omega) bF.cell bB.cell bN.cell (by omega))
    (fun h g => KB.trans h g) (kb_put (fun k hk => by rcases hk with rfl | rfl <;> omega)) (Below.refl _ _) (fun _ => rfl)
    (PerI W H n k y G m rb B s8 s8 (s8 + 4) w (.slice (some ⟨b, off, none⟩) n cap)) (PerX W H n k y G w) (perI_own (by omega)) (fun c => perX_own (by omega))
    ⟨hM, b2, b3, b8, cl, hbW, by omega, fun j h1 h2 => by simp at h2; omega⟩
    (fun x a' _ => a' = { tmps := #[.agg #[.int .i64 W, .int .i64 H, .slice (some ⟨b, off, none⟩) n cap], .agg #[.int .i64 k, .int .i64 y], .int .i64 most, .pointer (some ⟨w.heap.size, 0, none⟩), .pointer (some ⟨w.heap.size + 1, 0, none⟩), undef, .pointer (some ⟨w.heap.size + 1 + 1, 0, none⟩), .pointer (some ⟨w.heap.size + 1 + 1 + 1, 0, none⟩), .pointer (some ⟨s8, 0, none⟩), .int .i64 x.1, .agg #[.int .i64 W, .int .i64 H, .slice (some ⟨b, off, none⟩) n cap], .bool true, .bool false, .bool false, .agg #[.int .i64 k, .int .i64 y], .bool true, .bool false, .bool false, .int .i64 most, .bool false, .bool false, .int .i64 most, .bool false, .bool false, .agg #[.int .i64 W, .int .i64 H, .slice (some ⟨b, off, none⟩) n cap], .agg #[.int .i64 k, .int .i64 y], .slice (some ⟨rb, 0, none⟩) 1 1, .pointer (some ⟨m, 0, none⟩), .int .i64 most, .func (.func 179) #[] #[.pointer (some ⟨s8 + 1 + 1 + 1, 0, none⟩), .pointer (some ⟨s8 + 1, 0, none⟩), .pointer (some ⟨s8 + 1 + 1, 0, none⟩)], .int .i64 x.1, undef, undef, undef, undef, undef, undef, undef, undef, undef, undef, undef, undef, undef], defers := [] })
    (fun _ _ _ _ _ _ hs _ _ => hs)
    ?assign ?body ?done ?stop
  case assign =>
    rintro l pre x X K hI hK
    gi_wp2
    exact hK _ _ (KeepsFrom.refl _ _) (KB.refl _ _) hI rfl
  case body =>
    rintro l pre x a' X _ _ hI rfl hlen
    have c8 := hI.b8.cell
    have SA := Lib.hid (step_any m W H n rb 0 1 1 x.1 B s8 (fun _ => (k, y)) _ X hI.mch s (okG_it s.n0 hG pre.length) ⟨by omega, by omega, fun _ _ => hr⟩ x.2)
    gi_wp2_with fail
    refine ⟨trivial, ?_⟩
    gi_at_call 137
    refine (CallsIn.inRound l (callsIn_wide.2 SA.out)).mono ?_
    rintro e X2 ⟨rfl, hM2, hx2⟩
    have b2 : Boxed X2 (w.heap.size + 1 + 1) 3 (.int .i64 0) := (hx2.block _ hI.b2.lt (by omega)).trans hI.b2
    have b3 : Boxed X2 (w.heap.size + 1 + 1 + 1) 27 (.int .i64 0) := (hx2.block _ hI.b3.lt (by omega)).trans hI.b3
    have b8 : Boxed X2 s8 155 (.pointer (some ⟨m, 0, none⟩)) := (hx2.block _ hI.b8.lt (by omega)).trans hI.b8
    have hlw : w.heap.size < X.heap.size := Nat.lt_of_lt_of_le (by omega) hI.size
    have cl := (hx2.cell (o := 2) hlw (by omega)).trans hI.cl
    have hbX := hI.below.trans (hx2.below (B := w.heap.size) (by omega) (fun k hk => by omega))
    have c8 := b8.cell
    have c2 := b2.cell
    have f2 := b2.frozen
    have c3 := b3.cell
    have f3 := b3.frozen
    have l2 := b2.lt
    have l3 := b3.lt
    have l8 := b8.lt
    obtain ⟨b1, d1, k2, hE⟩ : ∃ b1 d1, X2.cell? ⟨m, 2, none⟩ = some (.slice (some ⟨b1, 0, none⟩) n d1) ∧ Hid (∀ X', Below X2.heap.size X2 X' → Calls Tryd.prog 138 #[.slice (some ⟨b1, 0, none⟩) n d1, .slice (some ⟨b, off, none⟩) n cap] X' (Told n (itG W H k y G (pre.length + 1)) G X')) := by
      obtain ⟨⟨b1, d1, _, _, _, hMm, hr1, _⟩, _⟩ := hM2
      exact ⟨b1, d1, hMm.k2, Lib.hid fun X' hb => equalCells_any _ _ n _ _ _ _ X' (by have := s.n1; omega) (hr1.cellsIn.below hb) ((HC.out.below hbX).below hb)⟩
    have hmx : Tryd.prog.follows .mixedOrders = true := by kernel_rfl
    have e9 : (x.1 : Int) ≤ 1000000 := by have := x.2; omega
    have HP := Lib.hid (show PerP W H n k y G m rb B s8 w (.slice (some ⟨b, off, none⟩) n cap) pre X X2 from ⟨hM2, hx2, b2, b3, b8, cl, hbX, hI, by omega, by omega⟩)
    have hlw2 : w.heap.size < X2.heap.size := Nat.lt_of_lt_of_le hlw hx2.size
    have hsB : s8 < w4.heap.size := by omega
    clear hM2 hx2 b2 b3 b8 hbX hI hlw SA bN bB bF hsz hM hsw hszV hs3 hlen s hG hC hr HV HC HR s0 s1 hbW h1 h2 hlt
    gi_wp2_with fail
    gi_region_with_o ((refine ⟨trivial, ?_⟩; gi_at_call 138; refine (CallsIn.inRound l (callsIn_wide.2 (hE.out _ (by (repeat' (first | (with_reducible exact Below.refl _ _) | (with_reducible refine Below.setCell ?_ (by first | omega | (simp; done) | (simp; omega)) _) | (with_reducible refine Below.alloc ?_ (by first | omega | (simp; done) | (simp; omega)) _) | (with_reducible refine Below.drew ?_) | (with_reducible refine below_drewN ?_ _) | (with_reducible refine Below.trans ?_ (Below.mono (by assumption) (by first | omega | (simp; done) | (simp; omega)))))))))).mono ?_; rintro e X3 ⟨bb, rfl, hsm, hb3⟩))
    all_goals
      have hb4 : Below X2.heap.size X2 X3 := by (repeat' (first | (with_reducible exact Below.refl _ _) | (with_reducible refine Below.setCell ?_ (by first | omega | (simp; done) | (simp; omega)) _) | (with_reducible refine Below.alloc ?_ (by first | omega | (simp; done) | (simp; omega)) _) | (with_reducible refine Below.drew ?_) | (with_reducible refine below_drewN ?_ _) | (with_reducible refine Below.trans ?_ (Below.mono (by assumption) (by first | omega | (simp; done) | (simp; omega))))))
      have hx3 : Ex (fun k => B ≤ k ∧ k < s8) X2 X3 := Ex.of_below hb4
      have c2 := (hb4.cell (p := ⟨w.heap.size + 1 + 1, 0, none⟩) l2).trans c2
      have f2 := (hb4.frozen (p := ⟨w.heap.size + 1 + 1, 0, none⟩) l2).trans f2
      have c3 := (hb4.cell (p := ⟨w.heap.size + 1 + 1 + 1, 0, none⟩) l3).trans c3
      have f3 := (hb4.frozen (p := ⟨w.heap.size + 1 + 1 + 1, 0, none⟩) l3).trans f3
      have HX := Lib.hid hx3
      have HB4 := Lib.hid hb4
      clear hx3 hb4 hb3 hmx hE k2 c8 cl
      cases bb
      · gi_wp2
        exact per_no HP.out HB4.out (Nat.le_of_lt hsB) hsm
      · gi_wp2
        exact per_yes HP.out HB4.out (Nat.le_of_lt hsB) (hsm.1 rfl)
  case done =>
    rintro D ys X hD rfl hI hK
    have c2 := hI.b2.cell
    have f2 := hI.b2.frozen
    have c3 := hI.b3.cell
    have f3 := hI.b3.frozen
    have HI := Lib.hid hI
    clear hI
    gi_wp2
    have hK1 := (KeepsOthers.setCell X ⟨w.heap.size + 1 + 1, 0, none⟩ (.int .i64 0)).same D _ hK rfl
    have hK' := (KeepsOthers.setCell (X.setCell ⟨w.heap.size + 1 + 1, 0, none⟩ (.int .i64 0)) ⟨w.heap.size + 1 + 1 + 1, 0, none⟩ (.int .i64 8)).same D _ hK1 rfl
    refine ⟨by simp, .inl ⟨_, _, rfl, run_takeDeferred hK', ?_⟩⟩
    have q2 : Boxed _ _ _ _ := ((HI.out.b2.set (.int .i64 0)).other (B' := w.heap.size + 1 + 1 + 1) (by omega) (.int .i64 8))
    have q3 : Boxed _ _ _ _ := ((HI.out.b3.other (B' := w.heap.size + 1 + 1) (by omega) (.int .i64 0)).set (.int .i64 8))
    have g2 := cell_kept q2.cell (grownBy_putObj' _ D (.deferred none)) (fun r e => by cases e; exact ⟨_, hK', rfl⟩)
    have g3 := cell_kept q3.cell (grownBy_putObj' _ D (.deferred none)) (fun r e => by cases e; exact ⟨_, hK', rfl⟩)
    refine ⟨.tuple #[.int .i64 0, .int .i64 8], by simp [results, Tryd.results70, go_sem, g2, g3], ?_⟩
    have hbl : Below w.heap.size w X := HI.out.below
    have el : (upto (fun j => (⟨min j 1000000, Nat.min_le_right _ _⟩ : Stp)) most).length = most := upto_length _ _
    exact ⟨((hbl.setCell (p := ⟨w.heap.size + 1 + 1, 0, none⟩) (show w.heap.size ≤ w.heap.size + 1 + 1 by omega) _).setCell (p := ⟨w.heap.size + 1 + 1 + 1, 0, none⟩) (show w.heap.size ≤ w.heap.size + 1 + 1 + 1 by omega) _).trans (belowK_b (w := w) (Nat.le_refl _) _ D _ _ (by omega) hK' rfl rfl), .inr ⟨fun i h1 h2 => HI.out.none i h1 (by rw [el]; exact h2), rfl⟩⟩
  case stop =>
    rintro D c pre X hD ⟨j, hj, rfl⟩ hI hK
    obtain ⟨rfl, ⟨ini, last, e1, q2, hy, hno⟩, q3, hbl⟩ := hI
    gi_wp2
    refine ⟨by simp, .inl ⟨_, _, rfl, run_takeDeferred hK, ?_⟩⟩
    have g2 := cell_kept q2.cell (grownBy_putObj' _ D (.deferred none)) (fun r e => by cases e; exact ⟨_, hK, rfl⟩)
    have g3 := cell_kept q3.cell (grownBy_putObj' _ D (.deferred none)) (fun r e => by cases e; exact ⟨_, hK, rfl⟩)
    obtain ⟨j', rfl⟩ : ∃ j', j = j' + 1 := by
      cases j with
      | zero => simp [upto] at e1
      | succ j' => exact ⟨j', rfl⟩
    rw [upto_succ] at e1
    obtain ⟨rfl, e5⟩ := List.append_inj' e1 rfl
    have e6 : last.1 = j' := by
      simp at e5
      rw [← e5]
      simp
      omega
    rw [upto_length] at hy hno
    refine ⟨.tuple #[.int .i64 ((last.1 : Int) + 1), .int .i64 0], by simp [results, Tryd.results70, go_sem, g2, g3], hbl.trans (belowK_b (w := w) (Nat.le_refl _) X D _ _ (by omega) hK rfl rfl), .inl ⟨j' + 1, by omega, hj, hy, fun i h1 h2 => hno i h1 (by omega), by rw [e6]; rfl⟩⟩

theorem period_any (W H : Nat) (ao : Option Addr) (n cap most : Nat) (k y : Int) (G : Nat → Nat → Int) (w : World) (s : Sides W H n) (hG : OkG n G) (hC : CellsIn w ao n G) (hr : OkR k y) (h1 : 1 ≤ most) (h2 : most ≤ 1000) :
    Calls Tryd.prog 70 #[.agg #[.int .i64 W, .int .i64 H, .slice (ao) n cap], .agg #[.int .i64 k, .int .i64 y], .int .i64 most] w (PerRes W H n most k y G w) := by
  rcases hC with h | ⟨b, off, rfl, hlt, hC⟩
  · have := s.n0
    have := Nat.mul_le_mul s.w0 s.h0
    omega
  · exact callsIn_wide.1 (period_in W H b off n cap most k y G w s hG hlt hC hr h1 h2)
end Go.Proofs.YtnkehlankidlnaaDoor
