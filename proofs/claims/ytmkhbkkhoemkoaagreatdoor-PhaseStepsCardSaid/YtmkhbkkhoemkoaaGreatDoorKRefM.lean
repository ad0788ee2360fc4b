/- A step of a mix, by the reference. -/
import Derived.Test.YtmkhbkkhoemkoaaGreatDoorKMixS
import Derived.Test.YtmkhbkkhoemkoaaGreatDoorKRefG4
import Derived.Test.YtmkhbkkhoemkoaaGreatDoorKRefExch
import Derived.Test.YtmkhbkkhoemkoaaGreatDoorKFlow
import Derived.Deep.CutRange
import Derived.Deep.RegionHeld3
namespace Go.Proofs.YtmkhbkkhoemkoaaGreatDoor
set_option linter.unusedSimpArgs false
set_option linter.unusedVariables false
open Go.RowKit

theorem Ex.over {S T : Nat → Prop} {a b c : World} (h : Ex S a b) (g : Ex T b c) (hT : ∀ k, T k → a.heap.size ≤ k ∨ S k) : Ex S a c :=
  ⟨g.os.trans h.os, g.tape.trans h.tape, g.output.trans h.output, Nat.le_trans h.size g.size, fun k hk hs => (g.block k (Nat.lt_of_lt_of_le hk h.size) (fun x => (hT k x).elim (fun y => by omega) hs)).trans (h.block k hk hs)⟩
/-- A grid's three cells, in a block. -/
def GAt (w : World) (b : Nat) (W H : Int) (sl : Value) : Prop := b < w.heap.size ∧ (w.cell? ⟨b, 0, none⟩ = some (.int .i64 W) ∧ w.cell? ⟨b, 1, none⟩ = some (.int .i64 H) ∧ w.cell? ⟨b, 2, none⟩ = some sl)
theorem GAt.ex {S : Nat → Prop} {w w' : World} {b : Nat} {W H : Int} {sl : Value} (h : GAt w b W H sl) (x : Ex S w w') (hs : ¬ S b) : GAt w' b W H sl :=
  ⟨Nat.lt_of_lt_of_le h.1 x.size, (x.cell h.1 hs).trans h.2.1, (x.cell h.1 hs).trans h.2.2.1, (x.cell h.1 hs).trans h.2.2.2⟩
/-- A cell's variable: a block that holds the cell j of G. -/
def CAt (w : World) (b j : Nat) (G : Nat → Nat → Int) : Prop := b < w.heap.size ∧ (w.cell? ⟨b, 0, none⟩ = some (.int .i64 (G j 0)) ∧ w.cell? ⟨b, 1, none⟩ = some (.int .i64 (G j 1)) ∧ w.cell? ⟨b, 2, none⟩ = some (.int .i64 (G j 2)) ∧ w.cell? ⟨b, 3, none⟩ = some (.int .i64 (G j 3))) ∧ (w.frozen? ⟨b, 0, none⟩ = false ∧ w.frozen? ⟨b, 1, none⟩ = false ∧ w.frozen? ⟨b, 2, none⟩ = false ∧ w.frozen? ⟨b, 3, none⟩ = false)
/-- What stands when both phases were copied: the blocks of the two grids, their rows, the rules, the result's block. -/
structure MSt (w : World) (W H : Int) (n : Nat) (k y k' y' : Int) (A B : Nat → Nat → Int) (P Q p cp q cq : Nat) (wx : World) : Prop where
  gA : GAt wx P W H (.slice (some ⟨p, 0, none⟩) n cp)
  gB : GAt wx Q W H (.slice (some ⟨q, 0, none⟩) n cq)
  rA : Row wx p n A
  rB : Row wx q n B
  r : Two wx (w.heap.size + 1) 44 (.int .i64 k) (.int .i64 y)
  s : Two wx (w.heap.size + 1 + 1) 44 (.int .i64 k') (.int .i64 y')
  res : Four wx (w.heap.size + 1 + 1 + 1) 24 (.int .i64 0) (.int .i64 0) (.slice none 0 0) (.slice none 0 0)
  below : Below w.heap.size w wx
  lo : w.heap.size + 4 ≤ P ∧ w.heap.size + 4 ≤ Q ∧ w.heap.size + 4 ≤ p ∧ w.heap.size + 4 ≤ q
  ne : p ≠ q ∧ P ≠ p ∧ P ≠ q ∧ Q ≠ p ∧ Q ≠ q
theorem MSt.rows {w : World} {W H : Int} {n : Nat} {k y k' y' : Int} {A B A' B' : Nat → Nat → Int} {P Q p cp q cq : Nat} {wx wy : World} (h : MSt w W H n k y k' y' A B P Q p cp q cq wx) (x : Ex (fun j => j = p ∨ j = q) wx wy) (rA : Row wy p n A') (rB : Row wy q n B') : MSt w W H n k y k' y' A' B' P Q p cp q cq wy := by
  obtain ⟨l1, l2, l3, l4⟩ := h.lo
  obtain ⟨n1, n2, n3, n4, n5⟩ := h.ne
  exact ⟨h.gA.ex x (by omega), h.gB.ex x (by omega), rA, rB, (x.block _ h.r.lt (by omega)).trans h.r, (x.block _ h.s.lt (by omega)).trans h.s, h.res.ex x (by omega), h.below.trans (x.below h.below.size (fun j hj => by omega)), h.lo, h.ne⟩
theorem afterA (P P1 : MG) (j : Nat) (k y : Int) (w : World) (h : Ok4 (P.1 j 0) (P.1 j 1) (P.1 j 2) (P.1 j 3)) (hr : OkR k y) (e : P1 = colM k y P) :
    Calls Tryz.prog 51 #[.agg #[.int .i64 (P.1 j 0), .int .i64 (P.1 j 1), .int .i64 (P.1 j 2), .int .i64 (P.1 j 3)], .agg #[.int .i64 k, .int .i64 y]] w fun e w' => e = .returned (.agg #[.int .i64 (P1.1 j 0), .int .i64 (P1.1 j 1), .int .i64 (P1.1 j 2), .int .i64 (P1.1 j 3)]) ∧ Below w.heap.size w w' := by
  subst e
  exact afterG P.1 j k y w h hr
theorem afterB (P P1 : MG) (j : Nat) (k y : Int) (w : World) (h : Ok4 (P.2 j 0) (P.2 j 1) (P.2 j 2) (P.2 j 3)) (hr : OkR k y) (e : P1 = colM k y P) :
    Calls Tryz.prog 51 #[.agg #[.int .i64 (P.2 j 0), .int .i64 (P.2 j 1), .int .i64 (P.2 j 2), .int .i64 (P.2 j 3)], .agg #[.int .i64 k, .int .i64 y]] w fun e w' => e = .returned (.agg #[.int .i64 (P1.2 j 0), .int .i64 (P1.2 j 1), .int .i64 (P1.2 j 2), .int .i64 (P1.2 j 3)]) ∧ Below w.heap.size w w' := by
  subst e
  exact afterG P.2 j k y w h hr
theorem rex0G (P P1 : MG) (j : Nat) (k y : Int) (w : World) (h : Ok4 (P.1 j 0) (P.1 j 1) (P.1 j 2) (P.1 j 3)) (g : Ok4 (P.2 j 0) (P.2 j 1) (P.2 j 2) (P.2 j 3)) (hr : OkR k y) (e : P1 = xM 0 k y P) :
    Calls Tryz.prog 52 #[.agg #[.int .i64 (P.1 j 0), .int .i64 (P.1 j 1), .int .i64 (P.1 j 2), .int .i64 (P.1 j 3)], .agg #[.int .i64 (P.2 j 0), .int .i64 (P.2 j 1), .int .i64 (P.2 j 2), .int .i64 (P.2 j 3)], .agg #[.int .i64 k, .int .i64 y], .int .i64 0] w fun e w' => e = .returned (.tuple #[.agg #[.int .i64 (P1.1 j 0), .int .i64 (P1.1 j 1), .int .i64 (P1.1 j 2), .int .i64 (P1.1 j 3)], .agg #[.int .i64 (P1.2 j 0), .int .i64 (P1.2 j 1), .int .i64 (P1.2 j 2), .int .i64 (P1.2 j 3)]]) ∧ Below w.heap.size w w' := by
  subst e
  rw [xA00, xA01, xA02, xA03, xB00, xB01, xB02, xB03]
  exact rexch0 _ _ _ _ _ _ _ _ k y _ w h g hr rfl
theorem rex1G (P P1 : MG) (j : Nat) (k y : Int) (w : World) (h : Ok4 (P.1 j 0) (P.1 j 1) (P.1 j 2) (P.1 j 3)) (g : Ok4 (P.2 j 0) (P.2 j 1) (P.2 j 2) (P.2 j 3)) (hr : OkR k y) (e : P1 = xM 1 k y P) :
    Calls Tryz.prog 52 #[.agg #[.int .i64 (P.1 j 0), .int .i64 (P.1 j 1), .int .i64 (P.1 j 2), .int .i64 (P.1 j 3)], .agg #[.int .i64 (P.2 j 0), .int .i64 (P.2 j 1), .int .i64 (P.2 j 2), .int .i64 (P.2 j 3)], .agg #[.int .i64 k, .int .i64 y], .int .i64 1] w fun e w' => e = .returned (.tuple #[.agg #[.int .i64 (P1.1 j 0), .int .i64 (P1.1 j 1), .int .i64 (P1.1 j 2), .int .i64 (P1.1 j 3)], .agg #[.int .i64 (P1.2 j 0), .int .i64 (P1.2 j 1), .int .i64 (P1.2 j 2), .int .i64 (P1.2 j 3)]]) ∧ Below w.heap.size w w' := by
  subst e
  rw [xA10, xA11, xA12, xA13, xB10, xB11, xB12, xB13]
  exact rexch1 _ _ _ _ _ _ _ _ k y _ w h g hr rfl

set_option maxRecDepth 100000 in
set_option maxHeartbeats 16000000 in
theorem rstep4 (W H n a oa ca b ob cb : Nat) (P0 P1 P2 P3 : MG) (k y k' y' : Int) (w : World) (s : Sides W H n) (hP : OkM n P0) (hr : OkR k y) (hs : OkR k' y') (e1 : P1 = colM k y P0) (e2 : P2 = xM 0 k' y' P1) (e3 : P3 = xM 1 k' y' P2) (LA : a < w.heap.size) (LB : b < w.heap.size) (hA : Grd w a oa n P0.1) (hB : Grd w b ob n P0.2) :
    Calls Tryz.prog 26 #[.agg #[.int .i64 W, .int .i64 H, .slice (some ⟨a, oa, none⟩) n ca, .slice (some ⟨b, ob, none⟩) n cb], .agg #[.int .i64 k, .int .i64 y], .agg #[.int .i64 k', .int .i64 y']] w (OwnM W H n (pull W H 1 P3.1) (pull W H 1 P3.2) w) := by
  have h1 : 1 ≤ n ∧ n ≤ 100000 := ⟨row_of s, by have := s.n1; omega⟩
  have DA := Lib.hid (fun w' (hb : Below w.heap.size w w') => rCopy_any W H a oa n ca P0.1 w' h1.1 h1.2 (Nat.lt_of_lt_of_le LA hb.size) (hA.below hb LA))
  have DB := Lib.hid (fun w' (hb : Below w.heap.size w w') => rCopy_any W H b ob n cb P0.2 w' h1.1 h1.2 (Nat.lt_of_lt_of_le LB hb.size) (hB.below hb LB))
  have HP0 := Lib.hid hP
  have HP1 := Lib.hid (show OkM n P1 from by rw [e1]; exact okM_col hP k y)
  have HP2 := Lib.hid (show OkM n P2 from by rw [e2]; exact okM_x HP1.out 0 (by omega) k' y')
  have E1 := Lib.hid e1
  have E2 := Lib.hid e2
  have E3 := Lib.hid e3
  have HR := Lib.hid hr
  have HS := Lib.hid hs
  have SD := Lib.hid s
  have HF := Lib.hid (show Two ((((w.alloc (.cells #[.int .i64 W, .int .i64 H, .slice (some ⟨a, oa, none⟩) n ca, .slice (some ⟨b, ob, none⟩) n cb] 24)).alloc (.cells #[.int .i64 k, .int .i64 y] 44)).alloc (.cells #[.int .i64 k', .int .i64 y'] 44)).alloc (.cells #[.int .i64 0, .int .i64 0, .slice none 0 0, .slice none 0 0] 24)) (w.heap.size + 1) 44 (.int .i64 k) (.int .i64 y) ∧ Two ((((w.alloc (.cells #[.int .i64 W, .int .i64 H, .slice (some ⟨a, oa, none⟩) n ca, .slice (some ⟨b, ob, none⟩) n cb] 24)).alloc (.cells #[.int .i64 k, .int .i64 y] 44)).alloc (.cells #[.int .i64 k', .int .i64 y'] 44)).alloc (.cells #[.int .i64 0, .int .i64 0, .slice none 0 0, .slice none 0 0] 24)) (w.heap.size + 1 + 1) 44 (.int .i64 k') (.int .i64 y') ∧ Four ((((w.alloc (.cells #[.int .i64 W, .int .i64 H, .slice (some ⟨a, oa, none⟩) n ca, .slice (some ⟨b, ob, none⟩) n cb] 24)).alloc (.cells #[.int .i64 k, .int .i64 y] 44)).alloc (.cells #[.int .i64 k', .int .i64 y'] 44)).alloc (.cells #[.int .i64 0, .int .i64 0, .slice none 0 0, .slice none 0 0] 24)) (w.heap.size + 1 + 1 + 1) 24 (.int .i64 0) (.int .i64 0) (.slice none 0 0) (.slice none 0 0) from by
    refine ⟨?_, ?_, ?_⟩
    · have := ((Two.new (w.alloc (.cells #[.int .i64 W, .int .i64 H, .slice (some ⟨a, oa, none⟩) n ca, .slice (some ⟨b, ob, none⟩) n cb] 24)) 44 (.int .i64 k) (.int .i64 y)).alloc (.cells #[.int .i64 k', .int .i64 y'] 44)).alloc (.cells #[.int .i64 0, .int .i64 0, .slice none 0 0, .slice none 0 0] 24)
      simpa using this
    · have := (Two.new ((w.alloc (.cells #[.int .i64 W, .int .i64 H, .slice (some ⟨a, oa, none⟩) n ca, .slice (some ⟨b, ob, none⟩) n cb] 24)).alloc (.cells #[.int .i64 k, .int .i64 y] 44)) 44 (.int .i64 k') (.int .i64 y')).alloc (.cells #[.int .i64 0, .int .i64 0, .slice none 0 0, .slice none 0 0] 24)
      simpa using this
    · have := Four.new0 (((w.alloc (.cells #[.int .i64 W, .int .i64 H, .slice (some ⟨a, oa, none⟩) n ca, .slice (some ⟨b, ob, none⟩) n cb] 24)).alloc (.cells #[.int .i64 k, .int .i64 y] 44)).alloc (.cells #[.int .i64 k', .int .i64 y'] 44)) 24 (.int .i64 0) (.int .i64 0) (.slice none 0 0) (.slice none 0 0)
      simpa using this)
  clear hA hB hP hr hs s e1 e2 e3
  go_enter Tryz.func26, Tryz.ntmps26
  go_upto_region 1 with fail
  go_cut [7, 8] from 9 (fun s7 s8 wx => ∃ P Q p cp q cq : Nat, s7 = .pointer (some ⟨P, 0, none⟩) ∧ s8 = .pointer (some ⟨Q, 0, none⟩) ∧ Hid (MSt w W H n k y k' y' P0.1 P0.2 P Q p cp q cq wx))
  case first =>
    go_region_held3 (fun w' => w'.cell? ⟨w.heap.size, 0, none⟩ = some (.int .i64 W) ∧ w'.cell? ⟨w.heap.size, 1, none⟩ = some (.int .i64 H) ∧ w'.cell? ⟨w.heap.size, 2, none⟩ = some (.slice (some ⟨a, oa, none⟩) n ca) ∧ w'.cell? ⟨w.heap.size, 3, none⟩ = some (.slice (some ⟨b, ob, none⟩) n cb)) (first | (go_split_ands; (try dsimp only); refine ⟨?_, ?_, ?_, ?_⟩ <;> (first | (with_reducible assumption) | (with_reducible exact keep_cell (by assumption) (by first | omega | (simp; done) | (simp; omega)) (by assumption)) | (with_reducible exact (World.cell?_alloc_past _ _ _ (by show _ < _; omega)).trans (by assumption)) | (with_reducible exact (World.cell?_alloc_past _ _ _ (by show _ < _; omega)).trans ((World.cell?_alloc_past _ _ _ (by show _ < _; omega)).symm.trans (by assumption))) | (simp [go_sem]; with_reducible assumption))) | (simp [go_sem, ↓IntWalk.iteOmega, *]; done)) (first | (go_at_call 49; (with_reducible refine (phaseA_any W H _ n ca _ n cb _).mono ?_); rintro e w1 ⟨rfl, hb⟩; obtain ⟨hc, hf, hz⟩ := bcall hb; (try simp at hc hf hz)) | (go_at_call 50; (with_reducible refine (phaseB_any W H _ n ca _ n cb _).mono ?_); rintro e w1 ⟨rfl, hb⟩; obtain ⟨hc, hf, hz⟩ := bcall hb; (try simp at hc hf hz)) | (go_at_call 48; (with_reducible refine (DA.out _ (by (repeat' (first | (with_reducible exact Below.refl _ _) | (with_reducible refine Below.setCell ?_ (by first | omega | (simp; done) | (simp; omega)) _) | (with_reducible refine Below.alloc ?_ (by first | omega | (simp; done) | (simp; omega)) _) | (with_reducible refine Below.drew ?_) | (with_reducible refine below_drewN ?_ _) | (with_reducible refine Below.trans ?_ (Below.mono (by assumption) (by first | omega | (simp; done) | (simp; omega)))))))).mono ?_); rintro e wp ⟨p, cp, rfl, hp, lop, hb⟩; have Cp := Lib.hid hp; clear hp; obtain ⟨hc, hf, hz⟩ := bcall hb; (try simp at hc hf hz lop)) | (go_at_call 48; (with_reducible refine (DB.out _ (by (repeat' (first | (with_reducible exact Below.refl _ _) | (with_reducible refine Below.setCell ?_ (by first | omega | (simp; done) | (simp; omega)) _) | (with_reducible refine Below.alloc ?_ (by first | omega | (simp; done) | (simp; omega)) _) | (with_reducible refine Below.drew ?_) | (with_reducible refine below_drewN ?_ _) | (with_reducible refine Below.trans ?_ (Below.mono (by assumption) (by first | omega | (simp; done) | (simp; omega)))))))).mono ?_); rintro e wq ⟨q, cq, rfl, hq, loq, hb⟩; have Cq := Lib.hid hq; clear hq; obtain ⟨hc, hf, hz⟩ := bcall hb; (try simp at hc hf hz loq)))
    all_goals
      go_wp2_with fail
      go_meet
      rename_i hX
      clear hX
      have Kp := Cp.out.1
      have Kq := Cq.out.1
      refine ⟨_, _, p, cp, q, cq, rfl, rfl, Lib.hid ⟨⟨?_, ?_, ?_, ?_⟩, ⟨?_, ?_, ?_, ?_⟩, Cp.out.ex (S := fun t => t ≠ p) ?_ (fun h => h rfl), Cq.out.ex (S := fun t => t ≠ q) ?_ (fun h => h rfl), HF.out.1.below (n := w.heap.size + 1 + 1 + 1 + 1) ?_ (by omega), HF.out.2.1.below (n := w.heap.size + 1 + 1 + 1 + 1) ?_ (by omega), HF.out.2.2.below (n := w.heap.size + 1 + 1 + 1 + 1) ?_ (by omega), ?_, ⟨by omega, by omega, by omega, by omega⟩, ⟨by omega, by omega, by omega, by omega, by omega⟩⟩⟩
      · first | omega | (simp; done) | (simp; omega)
      · simp [go_sem, ↓IntWalk.iteOmega, *]
      · simp [go_sem, ↓IntWalk.iteOmega, *]
      · simp [go_sem, ↓IntWalk.iteOmega, *]
      · first | omega | (simp; done) | (simp; omega)
      · simp [go_sem, ↓IntWalk.iteOmega, *]
      · simp [go_sem, ↓IntWalk.iteOmega, *]
      · simp [go_sem, ↓IntWalk.iteOmega, *]
      · repeat' (first | (with_reducible exact Ex.refl _ _) | (with_reducible refine Ex.setCell ?_ (by first | omega | (simp; omega)) _) | (with_reducible refine Ex.alloc ?_ _) | (with_reducible refine Ex.drew ?_) | (with_reducible exact Ex.of_below (by assumption)) | (with_reducible refine Ex.trans ?_ (Ex.of_below (by assumption))))
      · repeat' (first | (with_reducible exact Ex.refl _ _) | (with_reducible refine Ex.setCell ?_ (by first | omega | (simp; omega)) _) | (with_reducible refine Ex.alloc ?_ _) | (with_reducible refine Ex.drew ?_) | (with_reducible exact Ex.of_below (by assumption)) | (with_reducible refine Ex.trans ?_ (Ex.of_below (by assumption))))
      · (repeat' (first | (with_reducible exact Below.refl _ _) | (with_reducible refine Below.setCell ?_ (by first | omega | (simp; done) | (simp; omega)) _) | (with_reducible refine Below.alloc ?_ (by first | omega | (simp; done) | (simp; omega)) _) | (with_reducible refine Below.drew ?_) | (with_reducible refine below_drewN ?_ _) | (with_reducible refine Below.trans ?_ (Below.mono (by assumption) (by first | omega | (simp; done) | (simp; omega))))))
      · (repeat' (first | (with_reducible exact Below.refl _ _) | (with_reducible refine Below.setCell ?_ (by first | omega | (simp; done) | (simp; omega)) _) | (with_reducible refine Below.alloc ?_ (by first | omega | (simp; done) | (simp; omega)) _) | (with_reducible refine Below.drew ?_) | (with_reducible refine below_drewN ?_ _) | (with_reducible refine Below.trans ?_ (Below.mono (by assumption) (by first | omega | (simp; done) | (simp; omega))))))
      · (repeat' (first | (with_reducible exact Below.refl _ _) | (with_reducible refine Below.setCell ?_ (by first | omega | (simp; done) | (simp; omega)) _) | (with_reducible refine Below.alloc ?_ (by first | omega | (simp; done) | (simp; omega)) _) | (with_reducible refine Below.drew ?_) | (with_reducible refine below_drewN ?_ _) | (with_reducible refine Below.trans ?_ (Below.mono (by assumption) (by first | omega | (simp; done) | (simp; omega))))))
      · (repeat' (first | (with_reducible exact Below.refl _ _) | (with_reducible refine Below.setCell ?_ (by first | omega | (simp; done) | (simp; omega)) _) | (with_reducible refine Below.alloc ?_ (by first | omega | (simp; done) | (simp; omega)) _) | (with_reducible refine Below.drew ?_) | (with_reducible refine below_drewN ?_ _) | (with_reducible refine Below.trans ?_ (Below.mono (by assumption) (by first | omega | (simp; done) | (simp; omega))))))
  case rest =>
  obtain ⟨P, Q, p, cp, q, cq, rfl, rfl, M0⟩ := hcut
  have hz0 := M0.out.below.size
  obtain ⟨l1, l2, l3, l4⟩ := M0.out.lo
  obtain ⟨m1, m2, m3, m4, m5⟩ := M0.out.ne
  clear DA DB HF
  go_wp2
  go_loopw [9, 10, 11] (fun i _ _ wr => ∃ (j : Nat) (K L : Nat → Nat → Int), j ≤ n ∧ i = .int .i64 j ∧ Hid (MSt w W H n k y k' y' K L P Q p cp q cq wr ∧ Half n j P3.1 P0.1 K ∧ Half n j P3.2 P0.2 L)) (fun i _ _ _ => n - (intOf i).toNat)
  case atStart => exact ⟨0, _, _, Nat.zero_le _, rfl, Lib.hid ⟨M0.out, half_zero _ _ _, half_zero _ _ _⟩⟩
  case round =>
    obtain ⟨j, K, L, hj, rfl, HH⟩ := hrel
    have hn1 := SD.out.n1
    have hlp := HH.out.1.rA.1
    have hlq := HH.out.1.rB.1
    have hlP := HH.out.1.gA.1
    have hlQ := HH.out.1.gB.1
    have P2c := HH.out.1.gA.2.2.2
    by_cases hlk : j < n
    · have Q2c := HH.out.1.gB.2.2.2
      have r0 := HH.out.1.r.c0
      have r1 := HH.out.1.r.c1
      have hlr := HH.out.1.r.lt
      have hls := HH.out.1.s.lt
      obtain ⟨a0, a1, a2, a3⟩ := HH.out.1.rA.at4 hlk
      rw [HH.out.2.1.2 j (Nat.le_refl _) hlk 0 (by omega)] at a0
      rw [HH.out.2.1.2 j (Nat.le_refl _) hlk 1 (by omega)] at a1
      rw [HH.out.2.1.2 j (Nat.le_refl _) hlk 2 (by omega)] at a2
      rw [HH.out.2.1.2 j (Nat.le_refl _) hlk 3 (by omega)] at a3
      obtain ⟨b0, b1, b2, b3⟩ := HH.out.1.rB.at4 hlk
      rw [HH.out.2.2.2 j (Nat.le_refl _) hlk 0 (by omega)] at b0
      rw [HH.out.2.2.2 j (Nat.le_refl _) hlk 1 (by omega)] at b1
      rw [HH.out.2.2.2 j (Nat.le_refl _) hlk 2 (by omega)] at b2
      rw [HH.out.2.2.2 j (Nat.le_refl _) hlk 3 (by omega)] at b3
      have O0 := Lib.hid (And.intro (HP0.out.1.1.1 j hlk) (HP0.out.1.2.1 j hlk))
      have O1 := Lib.hid (And.intro (HP1.out.1.1.1 j hlk) (HP1.out.1.2.1 j hlk))
      have O2 := Lib.hid (And.intro (HP2.out.1.1.1 j hlk) (HP2.out.1.2.1 j hlk))
      go_upto_region 5 with fail
      go_cut [10, 11] from 18 to 60 (fun s10 s11 wy => ∃ u v : Nat, s10 = .pointer (some ⟨u, 0, none⟩) ∧ s11 = .pointer (some ⟨v, 0, none⟩) ∧ Hid (Ex (fun _ => False) wr wy ∧ CAt wy u j P1.1 ∧ CAt wy v j P1.2) ∧ u ≠ v ∧ wr.heap.size ≤ u ∧ wr.heap.size ≤ v)
      case first =>
        go_region_held3 (fun w' => w'.cell? ⟨P, 2, none⟩ = some (.slice (some ⟨p, 0, none⟩) n cp) ∧ w'.cell? ⟨Q, 2, none⟩ = some (.slice (some ⟨q, 0, none⟩) n cq) ∧ w'.cell? ⟨p, j * 4, none⟩ = some (.int .i64 (P0.1 j 0)) ∧ w'.cell? ⟨p, j * 4 + 1, none⟩ = some (.int .i64 (P0.1 j 1)) ∧ w'.cell? ⟨p, j * 4 + 2, none⟩ = some (.int .i64 (P0.1 j 2)) ∧ w'.cell? ⟨p, j * 4 + 3, none⟩ = some (.int .i64 (P0.1 j 3)) ∧ w'.cell? ⟨q, j * 4, none⟩ = some (.int .i64 (P0.2 j 0)) ∧ w'.cell? ⟨q, j * 4 + 1, none⟩ = some (.int .i64 (P0.2 j 1)) ∧ w'.cell? ⟨q, j * 4 + 2, none⟩ = some (.int .i64 (P0.2 j 2)) ∧ w'.cell? ⟨q, j * 4 + 3, none⟩ = some (.int .i64 (P0.2 j 3)) ∧ w'.cell? ⟨w.heap.size + 1, 0, none⟩ = some (.int .i64 k) ∧ w'.cell? ⟨w.heap.size + 1, 1, none⟩ = some (.int .i64 y)) (first | (go_split_ands; (try dsimp only); refine ⟨?_, ?_, ?_, ?_, ?_, ?_, ?_, ?_, ?_, ?_, ?_, ?_⟩ <;> (first | (with_reducible assumption) | (with_reducible exact keep_cell (by assumption) (by first | omega | (simp; done) | (simp; omega)) (by assumption)) | (with_reducible exact (World.cell?_alloc_past _ _ _ (by show _ < _; omega)).trans (by assumption)) | (with_reducible exact (World.cell?_alloc_past _ _ _ (by show _ < _; omega)).trans ((World.cell?_alloc_past _ _ _ (by show _ < _; omega)).symm.trans (by assumption))) | (simp [go_sem]; with_reducible assumption))) | (simp [go_sem, ↓IntWalk.iteOmega, *]; done)) (first | (go_at_call 51; (with_reducible refine (afterA P0 P1 j k y _ O0.out.1 HR.out E1.out).mono ?_); rintro e w1 ⟨rfl, hb⟩; obtain ⟨hc, hf, hz⟩ := bcall hb; (try simp at hc hf hz)) | (go_at_call 51; (with_reducible refine (afterB P0 P1 j k y _ O0.out.2 HR.out E1.out).mono ?_); rintro e w1 ⟨rfl, hb⟩; obtain ⟨hc, hf, hz⟩ := bcall hb; (try simp at hc hf hz)))
        all_goals
          go_wp2_with fail
          go_meet
          refine ⟨_, _, rfl, rfl, Lib.hid ⟨?_, ⟨?_, ⟨?_, ?_, ?_, ?_⟩, ⟨?_, ?_, ?_, ?_⟩⟩, ⟨?_, ⟨?_, ?_, ?_, ?_⟩, ⟨?_, ?_, ?_, ?_⟩⟩⟩, ?_, ?_, ?_⟩
          · exact Ex.of_below (by (repeat' (first | (with_reducible exact Below.refl _ _) | (with_reducible refine Below.setCell ?_ (by first | omega | (simp; done) | (simp; omega)) _) | (with_reducible refine Below.alloc ?_ (by first | omega | (simp; done) | (simp; omega)) _) | (with_reducible refine Below.drew ?_) | (with_reducible refine below_drewN ?_ _) | (with_reducible refine Below.trans ?_ (Below.mono (by assumption) (by first | omega | (simp; done) | (simp; omega)))))))
          · first | omega | (simp; done) | (simp; omega)
          · simp [go_sem, ↓IntWalk.iteOmega, *]
          · simp [go_sem, ↓IntWalk.iteOmega, *]
          · simp [go_sem, ↓IntWalk.iteOmega, *]
          · simp [go_sem, ↓IntWalk.iteOmega, *]
          · simp [go_sem, ↓IntWalk.iteOmega, *]
          · simp [go_sem, ↓IntWalk.iteOmega, *]
          · simp [go_sem, ↓IntWalk.iteOmega, *]
          · simp [go_sem, ↓IntWalk.iteOmega, *]
          · first | omega | (simp; done) | (simp; omega)
          · simp [go_sem, ↓IntWalk.iteOmega, *]
          · simp [go_sem, ↓IntWalk.iteOmega, *]
          · simp [go_sem, ↓IntWalk.iteOmega, *]
          · simp [go_sem, ↓IntWalk.iteOmega, *]
          · simp [go_sem, ↓IntWalk.iteOmega, *]
          · simp [go_sem, ↓IntWalk.iteOmega, *]
          · simp [go_sem, ↓IntWalk.iteOmega, *]
          · simp [go_sem, ↓IntWalk.iteOmega, *]
          · first | omega | (simp; done) | (simp; omega)
          · first | omega | (simp; done) | (simp; omega)
          · first | omega | (simp; done) | (simp; omega)
      case rest =>
      obtain ⟨u, v, rfl, rfl, CC, uv, lu, lv⟩ := hcut
      rename_i a9
      refine a9 _ _ ?_
      dsimp +zetaDelta only
      have hzc := CC.out.1.size
      have lU := CC.out.2.1.1
      have lV := CC.out.2.2.1
      obtain ⟨c0, c1, c2, c3⟩ := CC.out.2.1.2.1
      obtain ⟨f0, f1, f2, f3⟩ := CC.out.2.1.2.2
      obtain ⟨d0, d1, d2, d3⟩ := CC.out.2.2.2.1
      obtain ⟨g0, g1, g2, g3⟩ := CC.out.2.2.2.2
      have s0 := (CC.out.1.cell hls (fun x => x)).trans HH.out.1.s.c0
      have s1 := (CC.out.1.cell hls (fun x => x)).trans HH.out.1.s.c1
      have X1 := Lib.hid CC.out.1
      clear a0 a1 a2 a3 b0 b1 b2 b3 r0 r1 P2c Q2c CC a9
      go_upto_region 6 with fail
      go_cut [10, 11] from 18 to 60 (fun s10 s11 wz => s10 = .pointer (some ⟨u, 0, none⟩) ∧ s11 = .pointer (some ⟨v, 0, none⟩) ∧ Hid (Ex (fun _ => False) wr wz ∧ CAt wz u j P2.1 ∧ CAt wz v j P2.2))
      case first =>
        go_wp2_with (go_at_call 52; (with_reducible refine (rex0G P1 P2 j k' y' _ O1.out.1 O1.out.2 HS.out E2.out).mono ?_); rintro e w1 ⟨rfl, hb⟩; obtain ⟨hc, hf, hz⟩ := bcall hb; (try simp at hc hf hz))
        go_meet
        refine ⟨rfl, rfl, Lib.hid ⟨X1.out.over (T := fun t => t = u ∨ t = v) ?_ (fun t ht => .inl (by omega)), ⟨?_, ⟨?_, ?_, ?_, ?_⟩, ⟨?_, ?_, ?_, ?_⟩⟩, ⟨?_, ⟨?_, ?_, ?_, ?_⟩, ⟨?_, ?_, ?_, ?_⟩⟩⟩⟩
        · repeat' (first | (refine Ex.setCell ?_ ?_ _) | exact Or.inl rfl | exact Or.inr rfl | exact Ex.of_below hb)
        · first | omega | (simp; done) | (simp; omega)
        · simp [go_sem, ↓IntWalk.iteOmega, *]
        · simp [go_sem, ↓IntWalk.iteOmega, *]
        · simp [go_sem, ↓IntWalk.iteOmega, *]
        · simp [go_sem, ↓IntWalk.iteOmega, *]
        · simp [go_sem, ↓IntWalk.iteOmega, *]
        · simp [go_sem, ↓IntWalk.iteOmega, *]
        · simp [go_sem, ↓IntWalk.iteOmega, *]
        · simp [go_sem, ↓IntWalk.iteOmega, *]
        · first | omega | (simp; done) | (simp; omega)
        · simp [go_sem, ↓IntWalk.iteOmega, *]
        · simp [go_sem, ↓IntWalk.iteOmega, *]
        · simp [go_sem, ↓IntWalk.iteOmega, *]
        · simp [go_sem, ↓IntWalk.iteOmega, *]
        · simp [go_sem, ↓IntWalk.iteOmega, *]
        · simp [go_sem, ↓IntWalk.iteOmega, *]
        · simp [go_sem, ↓IntWalk.iteOmega, *]
        · simp [go_sem, ↓IntWalk.iteOmega, *]
      case rest =>
      obtain ⟨rfl, rfl, CZ⟩ := hcut
      rename_i a9
      refine a9 _ _ ?_
      dsimp +zetaDelta only
      have X2 := Lib.hid CZ.out.1
      have hzz := X2.out.size
      clear c0 c1 c2 c3 d0 d1 d2 d3 f0 f1 f2 f3 g0 g1 g2 g3 s0 s1 lU lV a9 X1
      have lU := CZ.out.2.1.1
      have lV := CZ.out.2.2.1
      obtain ⟨c0, c1, c2, c3⟩ := CZ.out.2.1.2.1
      obtain ⟨d0, d1, d2, d3⟩ := CZ.out.2.2.2.1
      have s0 := (X2.out.cell hls (fun x => x)).trans HH.out.1.s.c0
      have s1 := (X2.out.cell hls (fun x => x)).trans HH.out.1.s.c1
      have P2z := (X2.out.cell hlP (fun x => x)).trans HH.out.1.gA.2.2.2
      have Q2z := (X2.out.cell hlQ (fun x => x)).trans HH.out.1.gB.2.2.2
      have RA := Lib.hid (HH.out.1.rA.ex X2.out (fun x => x))
      have RB := Lib.hid (HH.out.1.rB.ex X2.out (fun x => x))
      obtain ⟨a0, a1, a2, a3⟩ := RA.out.at4 hlk
      obtain ⟨f0, f1, f2, f3⟩ := RA.out.free4 hlk
      obtain ⟨b0, b1, b2, b3⟩ := RB.out.at4 hlk
      obtain ⟨g0, g1, g2, g3⟩ := RB.out.free4 hlk
      go_upto_region 7 with fail
      go_region_held3 (fun w' => w'.cell? ⟨P, 2, none⟩ = some (.slice (some ⟨p, 0, none⟩) n cp) ∧ w'.cell? ⟨Q, 2, none⟩ = some (.slice (some ⟨q, 0, none⟩) n cq) ∧ w'.cell? ⟨u, 0, none⟩ = some (.int .i64 (P2.1 j 0)) ∧ w'.cell? ⟨u, 1, none⟩ = some (.int .i64 (P2.1 j 1)) ∧ w'.cell? ⟨u, 2, none⟩ = some (.int .i64 (P2.1 j 2)) ∧ w'.cell? ⟨u, 3, none⟩ = some (.int .i64 (P2.1 j 3)) ∧ w'.cell? ⟨v, 0, none⟩ = some (.int .i64 (P2.2 j 0)) ∧ w'.cell? ⟨v, 1, none⟩ = some (.int .i64 (P2.2 j 1)) ∧ w'.cell? ⟨v, 2, none⟩ = some (.int .i64 (P2.2 j 2)) ∧ w'.cell? ⟨v, 3, none⟩ = some (.int .i64 (P2.2 j 3)) ∧ w'.cell? ⟨w.heap.size + 1 + 1, 0, none⟩ = some (.int .i64 k') ∧ w'.cell? ⟨w.heap.size + 1 + 1, 1, none⟩ = some (.int .i64 y')) (first | (go_split_ands; (try dsimp only); refine ⟨?_, ?_, ?_, ?_, ?_, ?_, ?_, ?_, ?_, ?_, ?_, ?_⟩ <;> (first | (with_reducible assumption) | (with_reducible exact keep_cell (by assumption) (by first | omega | (simp; done) | (simp; omega)) (by assumption)) | (with_reducible exact (World.cell?_alloc_past _ _ _ (by show _ < _; omega)).trans (by assumption)) | (with_reducible exact (World.cell?_alloc_past _ _ _ (by show _ < _; omega)).trans ((World.cell?_alloc_past _ _ _ (by show _ < _; omega)).symm.trans (by assumption))) | (simp [go_sem]; with_reducible assumption))) | (simp [go_sem, ↓IntWalk.iteOmega, *]; done)) ((go_at_call 52; (with_reducible refine (rex1G P2 P3 j k' y' _ O2.out.1 O2.out.2 HS.out E3.out).mono ?_); rintro e w1 ⟨rfl, hb⟩; obtain ⟨hc, hf, hz⟩ := bcall hb; (try simp at hc hf hz)))
      rename_i hX
      clear hX
      go_wp2
      go_roundw
      case rel =>
        have x3 : Ex (fun _ => False) wc w1 := ((Ex.refl _ wc).drew).trans (Ex.of_below hb)
        obtain ⟨y1, y2⟩ := chain1 (RA.out.ex x3 (fun x => x)) hlk (P3.1 j 0) (P3.1 j 1) (P3.1 j 2) (P3.1 j 3)
        obtain ⟨z1, z2⟩ := chain1 ((RB.out.ex x3 (fun x => x)).ex y1 (Ne.symm m1)) hlk (P3.2 j 0) (P3.2 j 1) (P3.2 j 2) (P3.2 j 3)
        exact ⟨j + 1, _, _, by omega, by go_num, Lib.hid ⟨HH.out.1.rows ((((X2.out.trans x3).mono (fun _ h => h.elim)).trans (y1.mono (fun _ h => Or.inl h))).trans (z1.mono (fun _ h => Or.inr h))) (y2.ex z1 m1) z2, half_step HH.out.2.1 hlk, half_step HH.out.2.2 hlk⟩⟩
      case measure => simp [intOf]; omega
    · obtain rfl : n = j := by omega
      have p0 := HH.out.1.gA.2.1
      have p1 := HH.out.1.gA.2.2.1
      obtain ⟨q0, q1, q2⟩ := HH.out.1.gB.2
      have RA := Lib.hid (HH.out.1.rA.eqG (half_all HH.out.2.1))
      have RB := Lib.hid (HH.out.1.rB.eqG (half_all HH.out.2.2))
      have DF := Lib.hid (fun w' (hb : Below wr.heap.size wr w') => flow1 W H n p 0 cp P3.1 w' SD.out (Nat.lt_of_lt_of_le hlp hb.size) (RA.out.grd.below hb hlp))
      have DG := Lib.hid (fun w' (hb : Below wr.heap.size wr w') => flow1 W H n q 0 cq P3.2 w' SD.out (Nat.lt_of_lt_of_le hlq hb.size) (RB.out.grd.below hb hlq))
      have t0 := HH.out.1.res.free 0
      have t1 := HH.out.1.res.free 1
      have t2 := HH.out.1.res.free 2
      have t3 := HH.out.1.res.free 3
      have u0 := HH.out.1.res.c0
      have u1 := HH.out.1.res.c1
      have u2 := HH.out.1.res.c2
      have u3 := HH.out.1.res.c3
      have hlr := HH.out.1.res.lt
      have HBr := Lib.hid HH.out.1.below
      go_upto_region 8 with fail
      go_region_held3 (fun w' => w'.cell? ⟨P, 0, none⟩ = some (.int .i64 W) ∧ w'.cell? ⟨P, 1, none⟩ = some (.int .i64 H) ∧ w'.cell? ⟨P, 2, none⟩ = some (.slice (some ⟨p, 0, none⟩) n cp) ∧ w'.cell? ⟨Q, 0, none⟩ = some (.int .i64 W) ∧ w'.cell? ⟨Q, 1, none⟩ = some (.int .i64 H) ∧ w'.cell? ⟨Q, 2, none⟩ = some (.slice (some ⟨q, 0, none⟩) n cq)) (first | (go_split_ands; (try dsimp only); refine ⟨?_, ?_, ?_, ?_, ?_, ?_⟩ <;> (first | (with_reducible assumption) | (with_reducible exact keep_cell (by assumption) (by first | omega | (simp; done) | (simp; omega)) (by assumption)) | (with_reducible exact (World.cell?_alloc_past _ _ _ (by show _ < _; omega)).trans (by assumption)) | (with_reducible exact (World.cell?_alloc_past _ _ _ (by show _ < _; omega)).trans ((World.cell?_alloc_past _ _ _ (by show _ < _; omega)).symm.trans (by assumption))) | (simp [go_sem]; with_reducible assumption))) | (simp [go_sem, ↓IntWalk.iteOmega, *]; done)) (first | (go_at_call 53; (with_reducible refine (DF.out _ (by (repeat' (first | (with_reducible exact Below.refl _ _) | (with_reducible refine Below.setCell ?_ (by first | omega | (simp; done) | (simp; omega)) _) | (with_reducible refine Below.alloc ?_ (by first | omega | (simp; done) | (simp; omega)) _) | (with_reducible refine Below.drew ?_) | (with_reducible refine below_drewN ?_ _) | (with_reducible refine Below.trans ?_ (Below.mono (by assumption) (by first | omega | (simp; done) | (simp; omega)))))))).mono ?_); rintro e wg ⟨g, cg, rfl, hg, log, hb⟩; have Cg := Lib.hid hg; clear hg; obtain ⟨hc, hf, hz⟩ := bcall hb; (try simp at hc hf hz log)) | (go_at_call 53; (with_reducible refine (DG.out _ (by (repeat' (first | (with_reducible exact Below.refl _ _) | (with_reducible refine Below.setCell ?_ (by first | omega | (simp; done) | (simp; omega)) _) | (with_reducible refine Below.alloc ?_ (by first | omega | (simp; done) | (simp; omega)) _) | (with_reducible refine Below.drew ?_) | (with_reducible refine below_drewN ?_ _) | (with_reducible refine Below.trans ?_ (Below.mono (by assumption) (by first | omega | (simp; done) | (simp; omega)))))))).mono ?_); rintro e wo ⟨o, co, rfl, ho, loo, hb⟩; have Co := Lib.hid ho; clear ho; obtain ⟨hc, hf, hz⟩ := bcall hb; (try simp at hc hf hz loo)) | (go_at_call 47; (with_reducible refine (mix_any W H _ n _ _ n _ _).mono ?_); rintro e w1 ⟨rfl, hb⟩; obtain ⟨hc, hf, hz⟩ := bcall hb; (try simp at hc hf hz)))
      all_goals
        go_wp2
        refine bodyPost_ret (v := .agg #[.int .i64 W, .int .i64 H, .slice (some ⟨g, 0, none⟩) n cg, .slice (some ⟨o, 0, none⟩) n co]) (by simp [results, Tryz.results26, go_sem, ↓IntWalk.iteOmega, *]) rfl ?_
        have Kg := Cg.out.1
        have Ko := Co.out.1
        have hzs := HBr.out.size
        refine ownM_pass ⟨Cg.out.below (show Below wg.heap.size wg _ from by (repeat' (first | (with_reducible exact Below.refl _ _) | (with_reducible refine Below.setCell ?_ (by first | omega | (simp; done) | (simp; omega)) _) | (with_reducible refine Below.alloc ?_ (by first | omega | (simp; done) | (simp; omega)) _) | (with_reducible refine Below.drew ?_) | (with_reducible refine below_drewN ?_ _) | (with_reducible refine Below.trans ?_ (Below.mono (by assumption) (by first | omega | (simp; done) | (simp; omega))))))) Kg, Co.out.below (show Below wo.heap.size wo _ from by (repeat' (first | (with_reducible exact Below.refl _ _) | (with_reducible refine Below.setCell ?_ (by first | omega | (simp; done) | (simp; omega)) _) | (with_reducible refine Below.alloc ?_ (by first | omega | (simp; done) | (simp; omega)) _) | (with_reducible refine Below.drew ?_) | (with_reducible refine below_drewN ?_ _) | (with_reducible refine Below.trans ?_ (Below.mono (by assumption) (by first | omega | (simp; done) | (simp; omega))))))) Ko, by omega⟩ (HBr.out.trans ((Ex.of_below (S := fun _ => False) (show Below wr.heap.size wr _ from by (repeat' (first | (with_reducible exact Below.refl _ _) | (with_reducible refine Below.setCell ?_ (by first | omega | (simp; done) | (simp; omega)) _) | (with_reducible refine Below.alloc ?_ (by first | omega | (simp; done) | (simp; omega)) _) | (with_reducible refine Below.drew ?_) | (with_reducible refine below_drewN ?_ _) | (with_reducible refine Below.trans ?_ (Below.mono (by assumption) (by first | omega | (simp; done) | (simp; omega)))))))).below hzs (fun _ h => h.elim))) (by omega) (by omega) (by omega)
end Go.Proofs.YtmkhbkkhoemkoaaGreatDoor
