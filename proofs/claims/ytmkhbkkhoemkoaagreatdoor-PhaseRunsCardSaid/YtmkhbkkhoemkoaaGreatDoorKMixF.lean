/- Mixes, by the program: the phases, their sum, whether a mix is valid. -/
import Derived.Test.YtmkhbkkhoemkoaaGreatDoorKAddsI
import Derived.Test.YtmkhbkkhoemkoaaGreatDoorKRunU
import Derived.Test.YtmkhbkkhoemkoaaGreatDoorKCopy
import Derived.WalkSpells
import Derived.Laws.Cover3
import Derived.Deep.RegionLaw
namespace Go.Proofs.YtmkhbkkhoemkoaaGreatDoor
set_option linter.unusedSimpArgs false
set_option linter.unusedVariables false
open Go.RowKit

/-- A valid mix. -/
def VM (W H : Int) (n : Nat) (A : Nat → Nat → Int) (m : Nat) (B : Nat → Nat → Int) : Prop := (VG W H n A ∧ VG W H m B) ∧ wt A n + wt B m ≤ 1000000000
theorem VM.len {W H : Int} {n m : Nat} {A B : Nat → Nat → Int} (h : VM W H n A m B) : m = n := by
  have h1 := h.1.1.2.1
  have h2 := h.1.2.2.1
  omega
theorem VM.n0 {W H : Int} {n m : Nat} {A B : Nat → Nat → Int} (h : VM W H n A m B) : 1 ≤ n ∧ n ≤ 1024 := by
  have h1 := h.1.1.2.1
  have h2 := h.1.1.1.bd
  omega

section
variable (W H : Int) (ao : Option Addr) (n c : Nat) (A : Nat → Nat → Int) (bo : Option Addr) (m d : Nat) (B : Nat → Nat → Int) (w : World)
set_option maxHeartbeats 1000000 in
theorem phases_any : Calls Tryz.prog 73 #[.agg #[.int .i64 W, .int .i64 H, .slice (ao) n c, .slice (bo) m d]] w fun e w' => e = .returned (.tuple #[.agg #[.int .i64 W, .int .i64 H, .slice (ao) n c], .agg #[.int .i64 W, .int .i64 H, .slice (bo) m d]]) ∧ Below w.heap.size w w' := by
  go_enter Tryz.func73, Tryz.ntmps73
  go_wp2
  go_region
  go_wp2
  refine bodyPost_ret (v := .tuple #[.agg #[.int .i64 W, .int .i64 H, .slice (ao) n c], .agg #[.int .i64 W, .int .i64 H, .slice (bo) m d]]) (by simp [results, Tryz.results73, go_sem, ↓IntWalk.iteOmega, *]) rfl ⟨rfl, ?_⟩
  (repeat' (first | (with_reducible exact Below.refl _ _) | (with_reducible refine Below.setCell ?_ (by first | omega | (simp; done) | (simp; omega)) _) | (with_reducible refine Below.alloc ?_ (by first | omega | (simp; done) | (simp; omega)) _) | (with_reducible refine Below.drew ?_) | (with_reducible refine below_drewN ?_ _) | (with_reducible refine Below.trans ?_ (Below.mono (by assumption) (by first | omega | (simp; done) | (simp; omega))))))

set_option maxHeartbeats 1000000 in
theorem both_ok (hv : VM W H n A m B) (hA : CellsIn w ao n A) (hB : CellsIn w bo m B) : Calls Tryz.prog 69 #[.agg #[.int .i64 W, .int .i64 H, .slice (ao) n c, .slice (bo) m d]] w (Made W H n (adG A B) w) := by
  obtain rfl := hv.len
  have H1 := Lib.hid hv.1.1
  have H2 := Lib.hid hv.1.2
  have H3 := Lib.hid hv.2
  clear hv
  have HA := Lib.hid hA; clear hA
  have HB := Lib.hid hB; clear hB
  go_enter Tryz.func69, Tryz.ntmps69
  go_wp2_with ((go_at_call 73; (with_reducible refine (phases_any W H ao m c bo m d _).mono ?_); rintro e w1 ⟨rfl, hb⟩; obtain ⟨hc, hf, hz⟩ := bcall hb; (try simp at hc hf hz)))
  (go_at_call 93; (with_reducible refine (gAddedI_ok W H m c d ao bo A B _ H1.out H2.out (HA.out.below (by (repeat' (first | (with_reducible exact Below.refl _ _) | (with_reducible refine Below.setCell ?_ (by first | omega | (simp; done) | (simp; omega)) _) | (with_reducible refine Below.alloc ?_ (by first | omega | (simp; done) | (simp; omega)) _) | (with_reducible refine Below.drew ?_) | (with_reducible refine below_drewN ?_ _) | (with_reducible refine Below.trans ?_ (Below.mono (by assumption) (by first | omega | (simp; done) | (simp; omega)))))))) (HB.out.below (by (repeat' (first | (with_reducible exact Below.refl _ _) | (with_reducible refine Below.setCell ?_ (by first | omega | (simp; done) | (simp; omega)) _) | (with_reducible refine Below.alloc ?_ (by first | omega | (simp; done) | (simp; omega)) _) | (with_reducible refine Below.drew ?_) | (with_reducible refine below_drewN ?_ _) | (with_reducible refine Below.trans ?_ (Below.mono (by assumption) (by first | omega | (simp; done) | (simp; omega)))))))) H3.out).mono ?_); rintro e wp ⟨p, cp, rfl, hp, lop, hb⟩; have Cp := Lib.hid hp; clear hp; obtain ⟨hc, hf, hz⟩ := bcall hb; (try simp at hc hf hz lop))
  go_wp2
  refine bodyPost_ret (v := .tuple #[.agg #[.int .i64 W, .int .i64 H, .slice (some ⟨p, 0, none⟩) m cp], .int .i64 0]) (by simp [results, Tryz.results69, go_sem, ↓IntWalk.iteOmega, *]) rfl ?_
  exact made_pass (Cp.out.below (by (repeat' (first | (with_reducible exact Below.refl _ _) | (with_reducible refine Below.setCell ?_ (by first | omega | (simp; done) | (simp; omega)) _) | (with_reducible refine Below.alloc ?_ (by first | omega | (simp; done) | (simp; omega)) _) | (with_reducible refine Below.drew ?_) | (with_reducible refine below_drewN ?_ _) | (with_reducible refine Below.trans ?_ (Below.mono (by assumption) (by first | omega | (simp; done) | (simp; omega)))))))) (by (repeat' (first | (with_reducible exact Below.refl _ _) | (with_reducible refine Below.setCell ?_ (by first | omega | (simp; done) | (simp; omega)) _) | (with_reducible refine Below.alloc ?_ (by first | omega | (simp; done) | (simp; omega)) _) | (with_reducible refine Below.drew ?_) | (with_reducible refine below_drewN ?_ _) | (with_reducible refine Below.trans ?_ (Below.mono (by assumption) (by first | omega | (simp; done) | (simp; omega))))))) (by omega) (by omega)

set_option maxHeartbeats 1000000 in
theorem both_bad (hn : n ≤ 1000000000000) (hv : ¬ VM W H n A m B) (hA : CellsIn w ao n A) (hB : CellsIn w bo m B) : Calls Tryz.prog 69 #[.agg #[.int .i64 W, .int .i64 H, .slice (ao) n c, .slice (bo) m d]] w fun e w' => e = .returned (.tuple #[.agg #[.int .i64 0, .int .i64 0, .slice (none) 0 0], .int .i64 1]) ∧ Below w.heap.size w w' := by
  obtain ⟨z, hz, AD⟩ : ∃ z : Int, z ≠ 0 ∧ ∀ wx, Below w.heap.size w wx → Calls Tryz.prog 93 #[.agg #[.int .i64 W, .int .i64 H, .slice (ao) n c], .agg #[.int .i64 W, .int .i64 H, .slice (bo) m d]] wx fun e w' => e = .returned (.tuple #[.agg #[.int .i64 0, .int .i64 0, .slice (none) 0 0], .int .i64 z]) ∧ Below wx.heap.size wx w' := by
    by_cases h1 : VG W H n A ∧ VG W H m B
    · have e : m = n := by have := h1.1.2.1; have := h1.2.2.1; omega
      subst e
      exact ⟨4, by omega, fun wx hb => gAddedI_limit W H m c d ao bo A B wx h1.1 h1.2 (hA.below hb) (hB.below hb) (by have : ¬ (wt A m + wt B m ≤ 1000000000) := fun h => hv ⟨h1, h⟩; omega)⟩
    · exact ⟨1, by omega, fun wx hb => gAdded_err1 W H W H n m c d ao bo A B wx (hA.below hb) (hB.below hb) h1⟩
  have AD' := Lib.hid AD; clear AD
  have e0 : (z == 0) = false := beq_eq_false_iff_ne.2 hz
  have e1 : (z != 0) = true := by simp [bne, e0]
  clear hz hv hA hB
  go_enter Tryz.func69, Tryz.ntmps69
  go_wp2_with (first | (go_at_call 73; (with_reducible refine (phases_any W H ao n c bo m d _).mono ?_); rintro e w1 ⟨rfl, hb⟩; obtain ⟨hc, hf, hz⟩ := bcall hb; (try simp at hc hf hz)) | (go_at_call 93; (with_reducible refine (AD'.out _ (by (repeat' (first | (with_reducible exact Below.refl _ _) | (with_reducible refine Below.setCell ?_ (by first | omega | (simp; done) | (simp; omega)) _) | (with_reducible refine Below.alloc ?_ (by first | omega | (simp; done) | (simp; omega)) _) | (with_reducible refine Below.drew ?_) | (with_reducible refine below_drewN ?_ _) | (with_reducible refine Below.trans ?_ (Below.mono (by assumption) (by first | omega | (simp; done) | (simp; omega)))))))).mono ?_); rintro e w1 ⟨rfl, hb⟩; obtain ⟨hc, hf, hz⟩ := bcall hb; (try simp at hc hf hz)))
  refine bodyPost_ret (v := .tuple #[.agg #[.int .i64 0, .int .i64 0, .slice (none) 0 0], .int .i64 1]) (by simp [results, Tryz.results69, go_sem, ↓IntWalk.iteOmega, *]) rfl ⟨rfl, ?_⟩
  (repeat' (first | (with_reducible exact Below.refl _ _) | (with_reducible refine Below.setCell ?_ (by first | omega | (simp; done) | (simp; omega)) _) | (with_reducible refine Below.alloc ?_ (by first | omega | (simp; done) | (simp; omega)) _) | (with_reducible refine Below.drew ?_) | (with_reducible refine below_drewN ?_ _) | (with_reducible refine Below.trans ?_ (Below.mono (by assumption) (by first | omega | (simp; done) | (simp; omega))))))

set_option maxHeartbeats 1000000 in
theorem mValid_ok (hv : VM W H n A m B) (hA : CellsIn w ao n A) (hB : CellsIn w bo m B) : Calls Tryz.prog 32 #[.agg #[.int .i64 W, .int .i64 H, .slice (ao) n c, .slice (bo) m d]] w fun e w' => e = .returned (.bool true) ∧ Below w.heap.size w w' := by
  have HV := Lib.hid hv; clear hv
  have HA := Lib.hid hA; clear hA
  have HB := Lib.hid hB; clear hB
  go_enter Tryz.func32, Tryz.ntmps32
  go_wp2_with ((go_at_call 69; (with_reducible refine (both_ok W H ao n c A bo m d B _ HV.out (HA.out.below (by (repeat' (first | (with_reducible exact Below.refl _ _) | (with_reducible refine Below.setCell ?_ (by first | omega | (simp; done) | (simp; omega)) _) | (with_reducible refine Below.alloc ?_ (by first | omega | (simp; done) | (simp; omega)) _) | (with_reducible refine Below.drew ?_) | (with_reducible refine below_drewN ?_ _) | (with_reducible refine Below.trans ?_ (Below.mono (by assumption) (by first | omega | (simp; done) | (simp; omega)))))))) (HB.out.below (by (repeat' (first | (with_reducible exact Below.refl _ _) | (with_reducible refine Below.setCell ?_ (by first | omega | (simp; done) | (simp; omega)) _) | (with_reducible refine Below.alloc ?_ (by first | omega | (simp; done) | (simp; omega)) _) | (with_reducible refine Below.drew ?_) | (with_reducible refine below_drewN ?_ _) | (with_reducible refine Below.trans ?_ (Below.mono (by assumption) (by first | omega | (simp; done) | (simp; omega))))))))).mono ?_); rintro e wp ⟨p, cp, rfl, hp, lop, hb⟩; have Cp := Lib.hid hp; clear hp lop; obtain ⟨hc, hf, hz⟩ := bcall hb; (try simp at hc hf hz)))
  go_ret
  refine ⟨rfl, ?_⟩
  (repeat' (first | (with_reducible exact Below.refl _ _) | (with_reducible refine Below.setCell ?_ (by first | omega | (simp; done) | (simp; omega)) _) | (with_reducible refine Below.alloc ?_ (by first | omega | (simp; done) | (simp; omega)) _) | (with_reducible refine Below.drew ?_) | (with_reducible refine below_drewN ?_ _) | (with_reducible refine Below.trans ?_ (Below.mono (by assumption) (by first | omega | (simp; done) | (simp; omega))))))
set_option maxHeartbeats 1000000 in
theorem mValid_bad (hn : n ≤ 1000000000000) (hv : ¬ VM W H n A m B) (hA : CellsIn w ao n A) (hB : CellsIn w bo m B) : Calls Tryz.prog 32 #[.agg #[.int .i64 W, .int .i64 H, .slice (ao) n c, .slice (bo) m d]] w fun e w' => e = .returned (.bool false) ∧ Below w.heap.size w w' := by
  have HV := Lib.hid hv; clear hv
  have HA := Lib.hid hA; clear hA
  have HB := Lib.hid hB; clear hB
  go_enter Tryz.func32, Tryz.ntmps32
  go_wp2_with ((go_at_call 69; (with_reducible refine (both_bad W H ao n c A bo m d B _ hn HV.out (HA.out.below (by (repeat' (first | (with_reducible exact Below.refl _ _) | (with_reducible refine Below.setCell ?_ (by first | omega | (simp; done) | (simp; omega)) _) | (with_reducible refine Below.alloc ?_ (by first | omega | (simp; done) | (simp; omega)) _) | (with_reducible refine Below.drew ?_) | (with_reducible refine below_drewN ?_ _) | (with_reducible refine Below.trans ?_ (Below.mono (by assumption) (by first | omega | (simp; done) | (simp; omega)))))))) (HB.out.below (by (repeat' (first | (with_reducible exact Below.refl _ _) | (with_reducible refine Below.setCell ?_ (by first | omega | (simp; done) | (simp; omega)) _) | (with_reducible refine Below.alloc ?_ (by first | omega | (simp; done) | (simp; omega)) _) | (with_reducible refine Below.drew ?_) | (with_reducible refine below_drewN ?_ _) | (with_reducible refine Below.trans ?_ (Below.mono (by assumption) (by first | omega | (simp; done) | (simp; omega))))))))).mono ?_); rintro e w1 ⟨rfl, hb⟩; obtain ⟨hc, hf, hz⟩ := bcall hb; (try simp at hc hf hz)))
  go_ret
  refine ⟨rfl, ?_⟩
  (repeat' (first | (with_reducible exact Below.refl _ _) | (with_reducible refine Below.setCell ?_ (by first | omega | (simp; done) | (simp; omega)) _) | (with_reducible refine Below.alloc ?_ (by first | omega | (simp; done) | (simp; omega)) _) | (with_reducible refine Below.drew ?_) | (with_reducible refine below_drewN ?_ _) | (with_reducible refine Below.trans ?_ (Below.mono (by assumption) (by first | omega | (simp; done) | (simp; omega))))))
end
end Go.Proofs.YtmkhbkkhoemkoaaGreatDoor

/- Mixes in memory of their own, by the program. -/





namespace Go.Proofs.YtmkhbkkhoemkoaaGreatDoor
set_option linter.unusedSimpArgs false
set_option linter.unusedVariables false
open Go.RowKit

set_option maxRecDepth 100000 in
set_option maxHeartbeats 1000000 in
theorem cloneC_any (b off n cap : Nat) (G : Nat → Nat → Int) (w : World) (h1 : 1 ≤ n) (h2 : n ≤ 100000) (hlt : b < w.heap.size) (hG : Grd w b off n G) :
    Calls Tryz.prog 71 #[.slice (some ⟨b, off, none⟩) n cap] w (Copied n G w) := by
  obtain ⟨i0, hi, hz0, hz1, hz2⟩ := info_parts info_cell
  have H := Lib.hid (fun w' (hb : Below w.heap.size w w') => cellsL_at (hG.below hb hlt))
  have hnil : ∀ wx : World, (binOp .eql 22 (.slice (some ⟨b, off, none⟩) n cap) (.slice none 0 0)).run Tryz.prog wx = .ok (.bool false) wx := fun wx => Lib.run_eql_slice_nil wx 22 40 (some ⟨b, off, none⟩) n cap 0 0 Tryz.underlying22
  go_enter Tryz.func71, Tryz.ntmps71
  go_wp2_with (at_builtin; refine wpList_append_grows _ rfl _ _ 22 rfl 40 i0 (.agg #[.int .i64 0, .int .i64 0, .int .i64 0, .int .i64 0]) 4 32 Tryz.underlying22 hi hz0 hz1 hz2 rfl (by omega) (some ⟨w.heap.size, 0, none⟩) 0 0 [] rfl (by simp) rfl (by simp) ⟨b, off, none⟩ n cap (cellsL G n) rfl (cellsL_length G n) (H.out _ (by (repeat' (first | (with_reducible exact Below.refl _ _) | (with_reducible refine Below.setCell ?_ (by first | omega | (simp; done) | (simp; omega)) _) | (with_reducible refine Below.alloc ?_ (by first | omega | (simp; done) | (simp; omega)) _) | (with_reducible refine Below.drew ?_) | (with_reducible refine below_drewN ?_ _) | (with_reducible refine Below.trans ?_ (Below.mono (by assumption) (by first | omega | (simp; done) | (simp; omega)))))))) (cellsL_one G n) (by omega) (by unfold maxLen; omega) (by omega) ?_; intro v' w1 hown hgrow)
  rw [Nat.zero_add, List.nil_append] at hown
  obtain ⟨g, c, rfl, hr, hg, hc, hm⟩ := row_of_owned hown h1
  go_ret
  exact ⟨g, c, rfl, hr, by simp at hg; omega, hc, hm, ((Below.refl _ w).alloc (Nat.le_refl _) _).grown hgrow (by simp) (by simp)⟩

theorem cellsIn_ex {S : Nat → Prop} {w w' : World} {b off n : Nat} {G : Nat → Nat → Int} (h : CellsIn w (some ⟨b, off, none⟩) n G) (x : Ex S w w') (hs : ¬ S b) : CellsIn w' (some ⟨b, off, none⟩) n G := by
  rcases h with h | ⟨b', o, e, hlt, hG⟩
  · exact .inl h
  · cases e
    exact .inr ⟨b, off, rfl, Nat.lt_of_lt_of_le hlt x.size, fun i hi => ⟨(x.cell hlt hs).trans (hG i hi).1, (x.cell hlt hs).trans (hG i hi).2.1, (x.cell hlt hs).trans (hG i hi).2.2.1, (x.cell hlt hs).trans (hG i hi).2.2.2⟩⟩

/-- A mix in memory of its own. -/
def OwnM (W H : Int) (n : Nat) (A B : Nat → Nat → Int) (w : World) (e : Ending) (w' : World) : Prop := ∃ a b ca cb : Nat, e = .returned (.agg #[.int .i64 W, .int .i64 H, .slice (some ⟨a, 0, none⟩) n ca, .slice (some ⟨b, 0, none⟩) n cb]) ∧ Hid (Row w' a n A ∧ Row w' b n B ∧ a ≠ b) ∧ w.heap.size ≤ a ∧ w.heap.size ≤ b ∧ Below w.heap.size w w'
/-- The same, without an error. -/
def MadeM (W H : Int) (n : Nat) (A B : Nat → Nat → Int) (w : World) (e : Ending) (w' : World) : Prop := ∃ a b ca cb : Nat, e = .returned (.tuple #[.agg #[.int .i64 W, .int .i64 H, .slice (some ⟨a, 0, none⟩) n ca, .slice (some ⟨b, 0, none⟩) n cb], .int .i64 0]) ∧ Hid (Row w' a n A ∧ Row w' b n B ∧ a ≠ b) ∧ w.heap.size ≤ a ∧ w.heap.size ≤ b ∧ Below w.heap.size w w'

theorem four_ex {w5 : World} {r : Nat} {v0 v1 v2 v3 : Value} : Ex (fun k => k = r) w5 ((((w5.setCell ⟨r, 0, none⟩ v0).setCell ⟨r, 1, none⟩ v1).setCell ⟨r, 2, none⟩ v2).setCell ⟨r, 3, none⟩ v3) := by
  refine Ex.setCell (Ex.setCell (Ex.setCell (Ex.setCell (Ex.refl _ w5) ?_ _) ?_ _) ?_ _) ?_ _ <;> rfl
theorem two_ex {w5 : World} {r i j : Nat} {v0 v1 : Value} : Ex (fun k => k = r) w5 ((w5.setCell ⟨r, i, none⟩ v0).setCell ⟨r, j, none⟩ v1) := by
  refine Ex.setCell (Ex.setCell (Ex.refl _ w5) ?_ _) ?_ _ <;> rfl

/-- A block of four cells. -/
def Four (W : World) (B : Nat) (t : TypeId) (x y z v : Value) : Prop := W.heap[B]? = some (.cells #[x, y, z, v] t (0, 0))
theorem Four.lt {W : World} {B : Nat} {t : TypeId} {x y z v : Value} (h : Four W B t x y z v) : B < W.heap.size := (Array.getElem?_eq_some_iff.1 h).1
theorem Four.c0 {W : World} {B : Nat} {t : TypeId} {x y z v : Value} (h : Four W B t x y z v) : W.cell? ⟨B, 0, none⟩ = some x := by simp [World.cell?, show W.heap[B]? = _ from h]
theorem Four.c1 {W : World} {B : Nat} {t : TypeId} {x y z v : Value} (h : Four W B t x y z v) : W.cell? ⟨B, 1, none⟩ = some y := by simp [World.cell?, show W.heap[B]? = _ from h]
theorem Four.c2 {W : World} {B : Nat} {t : TypeId} {x y z v : Value} (h : Four W B t x y z v) : W.cell? ⟨B, 2, none⟩ = some z := by simp [World.cell?, show W.heap[B]? = _ from h]
theorem Four.c3 {W : World} {B : Nat} {t : TypeId} {x y z v : Value} (h : Four W B t x y z v) : W.cell? ⟨B, 3, none⟩ = some v := by simp [World.cell?, show W.heap[B]? = _ from h]
theorem Four.free {W : World} {B : Nat} {t : TypeId} {x y z v : Value} (h : Four W B t x y z v) (i : Nat) : W.frozen? ⟨B, i, none⟩ = false := by simp [World.frozen?, show W.heap[B]? = _ from h]
theorem Four.below {n : Nat} {W W' : World} {B : Nat} {t : TypeId} {x y z v : Value} (h : Four W B t x y z v) (hb : Below n W W') (hB : B < n) : Four W' B t x y z v := (hb.block B hB).trans h
theorem Four.ex {S : Nat → Prop} {W W' : World} {B : Nat} {t : TypeId} {x y z v : Value} (h : Four W B t x y z v) (hx : Ex S W W') (hs : ¬ S B) : Four W' B t x y z v := (hx.block B h.lt hs).trans h
theorem Four.new0 (w : World) (t : TypeId) (x y z v : Value) : Four (w.alloc (.cells #[x, y, z, v] t)) w.heap.size t x y z v := World.alloc_heap_new w _
theorem Four.set23 {w : World} {B : Nat} {t : TypeId} {x y z v v2 v3 : Value} (h : Four w B t x y z v) : Four ((w.setCell ⟨B, 2, none⟩ v2).setCell ⟨B, 3, none⟩ v3) B t x y v2 v3 := by
  unfold Four at *
  simp only [World.setCell, Array.getElem?_modify, ↓reduceIte, h, Option.map_some]
  rfl

theorem ownM_end {W H : Int} {n P gA cA gB cB : Nat} {A B : Nat → Nat → Int} {w w0 wx : World} {v2 v3 x0 x1 x2 x3 : Value} (hX : Below w.heap.size w w0) (Bx : Below w0.heap.size w0 wx) (hP : P = w.heap.size) (h0 : P + 2 ≤ w0.heap.size) (rA : Row wx gA n A) (rB : Row wx gB n B) (la : w0.heap.size ≤ gA) (lb : w0.heap.size ≤ gB) (ne : gA ≠ gB) :
    OwnM W H n A B w (.returned (.agg #[.int .i64 W, .int .i64 H, .slice (some ⟨gA, 0, none⟩) n cA, .slice (some ⟨gB, 0, none⟩) n cB])) ((((((wx.setCell ⟨P, 2, none⟩ v2).setCell ⟨P, 3, none⟩ v3).setCell ⟨P + 1, 0, none⟩ x0).setCell ⟨P + 1, 1, none⟩ x1).setCell ⟨P + 1, 2, none⟩ x2).setCell ⟨P + 1, 3, none⟩ x3) := by
  have x : Ex (fun k => k = P ∨ k = P + 1) wx ((((((wx.setCell ⟨P, 2, none⟩ v2).setCell ⟨P, 3, none⟩ v3).setCell ⟨P + 1, 0, none⟩ x0).setCell ⟨P + 1, 1, none⟩ x1).setCell ⟨P + 1, 2, none⟩ x2).setCell ⟨P + 1, 3, none⟩ x3) := (two_ex.mono fun _ h => .inl h).trans (four_ex.mono fun _ h => .inr h)
  exact ⟨gA, gB, cA, cB, rfl, Lib.hid ⟨rA.ex x (by omega), rB.ex x (by omega), ne⟩, by omega, by omega, (hX.trans (Bx.mono hX.size)).trans (x.below (Nat.le_trans hX.size Bx.size) (fun k hk => by omega))⟩

set_option maxRecDepth 100000 in
set_option maxHeartbeats 4000000 in
theorem mcopied_any (W H : Int) (n a oa ca b ob cb : Nat) (A B : Nat → Nat → Int) (w : World) (h1 : 1 ≤ n) (h2 : n ≤ 100000) (LA : a < w.heap.size) (LB : b < w.heap.size) (hA : Grd w a oa n A) (hB : Grd w b ob n B) :
    Calls Tryz.prog 34 #[.agg #[.int .i64 W, .int .i64 H, .slice (some ⟨a, oa, none⟩) n ca, .slice (some ⟨b, ob, none⟩) n cb]] w (OwnM W H n A B w) := by
  have CA := Lib.hid (fun w' (hb : Below w.heap.size w w') => cloneC_any a oa n ca A w' h1 h2 (Nat.lt_of_lt_of_le LA hb.size) (hA.below hb LA))
  have CB := Lib.hid (fun w' (hb : Below w.heap.size w w') => cloneC_any b ob n cb B w' h1 h2 (Nat.lt_of_lt_of_le LB hb.size) (hB.below hb LB))
  clear hA hB
  go_enter Tryz.func34, Tryz.ntmps34
  go_wp2
  obtain ⟨P, hP⟩ : ∃ P, P = w.heap.size := ⟨_, rfl⟩
  obtain ⟨w0, hw0⟩ : ∃ w0, w0 = (w.alloc (.cells #[.int .i64 W, .int .i64 H, .slice (some ⟨a, oa, none⟩) n ca, .slice (some ⟨b, ob, none⟩) n cb] 24)).alloc (.cells #[.int .i64 0, .int .i64 0, .slice none 0 0, .slice none 0 0] 24) := ⟨_, rfl⟩
  have HX := Lib.hid (show Below w.heap.size w w0 from by rw [hw0]; (repeat' (first | (with_reducible exact Below.refl _ _) | (with_reducible refine Below.setCell ?_ (by first | omega | (simp; done) | (simp; omega)) _) | (with_reducible refine Below.alloc ?_ (by first | omega | (simp; done) | (simp; omega)) _) | (with_reducible refine Below.drew ?_) | (with_reducible refine below_drewN ?_ _) | (with_reducible refine Below.trans ?_ (Below.mono (by assumption) (by first | omega | (simp; done) | (simp; omega)))))))
  have M0 : Four w0 P 24 (.int .i64 W) (.int .i64 H) (.slice (some ⟨a, oa, none⟩) n ca) (.slice (some ⟨b, ob, none⟩) n cb) := by
    rw [hw0, hP]
    exact (Four.new0 w _ _ _ _ _).below ((Below.refl _ _).alloc (Nat.le_refl _) _) (by simp)
  have N0 : Four w0 (P + 1) 24 (.int .i64 0) (.int .i64 0) (.slice none 0 0) (.slice none 0 0) := by
    have := Four.new0 (w.alloc (.cells #[.int .i64 W, .int .i64 H, .slice (some ⟨a, oa, none⟩) n ca, .slice (some ⟨b, ob, none⟩) n cb] 24)) 24 (.int .i64 0) (.int .i64 0) (.slice none 0 0) (.slice none 0 0)
    rw [World.size_alloc, ← hw0, ← hP] at this
    exact this
  have lP : P + 2 ≤ w0.heap.size := by rw [hw0, hP]; simp
  have z2 := M0.c2
  have z3 := M0.c3
  have sz0 : w0.drew.heap.size = w0.heap.size := rfl
  rw [← hP]
  rw [← hw0]
  have HP := Lib.hid hP
  have hs0 := HX.out.size
  clear hw0 hP
  go_region_law (first | (go_simp; go_at_call 71; (with_reducible refine (CA.out _ (by first | exact HX.out.trans (Below.mono Bx (by omega)) | exact (show Below w.heap.size w w0.drew from HX.out.drew))).mono ?_); rintro e wx ⟨gA, cA, rfl, rA, loA, uA, mA, bx⟩; have sx := bx.size; have Bx : Below w0.heap.size w0 wx := (by first | exact Bx.trans (Below.mono bx (by omega)) | exact (show Below w0.heap.size w0 w0.drew from (Below.refl _ w0).drew).trans bx); have Mx : Four wx P 24 (.int .i64 W) (.int .i64 H) (.slice (some ⟨a, oa, none⟩) n ca) (.slice (some ⟨b, ob, none⟩) n cb) := M0.below Bx (by omega); have kx2 := Mx.c2; have kx3 := Mx.c3; have fx2 := Mx.free 2; have fx3 := Mx.free 3) | (go_simp; go_at_call 71; (with_reducible refine (CB.out _ (by first | exact HX.out.trans (Below.mono Bx (by omega)) | exact (show Below w.heap.size w w0.drew from HX.out.drew))).mono ?_); rintro e wx ⟨gB, cB, rfl, rB, loB, uB, mB, bx⟩; have sx := bx.size; have Bx : Below w0.heap.size w0 wx := (by first | exact Bx.trans (Below.mono bx (by omega)) | exact (show Below w0.heap.size w0 w0.drew from (Below.refl _ w0).drew).trans bx); have Mx : Four wx P 24 (.int .i64 W) (.int .i64 H) (.slice (some ⟨a, oa, none⟩) n ca) (.slice (some ⟨b, ob, none⟩) n cb) := M0.below Bx (by omega); have kx2 := Mx.c2; have kx3 := Mx.c3; have fx2 := Mx.free 2; have fx3 := Mx.free 3))
  all_goals
    refine (‹∀ (a : Act) (w : World), Code.wp _ _ _ a w → _›) _ _ ?_
    have MF := Mx.set23 (v2 := .slice (some ⟨gA, 0, none⟩) n cA) (v3 := .slice (some ⟨gB, 0, none⟩) n cB)
    have NF := (N0.below Bx (by omega)).ex (two_ex (r := P) (i := 2) (j := 3) (v0 := .slice (some ⟨gA, 0, none⟩) n cA) (v1 := .slice (some ⟨gB, 0, none⟩) n cB)) (by omega)
    have RA : Row wx gA n A := (by first | exact rA | exact rA.below bx rA.1)
    have RB : Row wx gB n B := (by first | exact rB | exact rB.below bx rB.1)
    have la := rA.1
    have lb := rB.1
    have FIN := Lib.hid (ownM_end (W := W) (H := H) (cA := cA) (cB := cB) (v2 := .slice (some ⟨gA, 0, none⟩) n cA) (v3 := .slice (some ⟨gB, 0, none⟩) n cB) (x0 := .int .i64 W) (x1 := .int .i64 H) (x2 := .slice (some ⟨gA, 0, none⟩) n cA) (x3 := .slice (some ⟨gB, 0, none⟩) n cB) HX.out Bx HP.out lP RA RB (by omega) (by omega) (by omega))
    obtain ⟨wz, hwz⟩ : ∃ wz, wz = (wx.setCell ⟨P, 2, none⟩ (.slice (some ⟨gA, 0, none⟩) n cA)).setCell ⟨P, 3, none⟩ (.slice (some ⟨gB, 0, none⟩) n cB) := ⟨_, rfl⟩
    rw [← hwz] at MF NF FIN ⊢
    clear hwz RA RB rA rB bx Bx Mx kx2 kx3 fx2 fx3 M0 N0 z2 z3 CA CB
    have z0 := MF.c0
    have z1 := MF.c1
    have z2 := MF.c2
    have z3 := MF.c3
    have n0 := NF.c0
    have n1 := NF.c1
    have n2 := NF.c2
    have n3 := NF.c3
    have f0 := NF.free 0
    have f1 := NF.free 1
    have f2 := NF.free 2
    have f3 := NF.free 3
    clear MF NF
    go_wp2
    refine bodyPost_ret (v := .agg #[.int .i64 W, .int .i64 H, .slice (some ⟨gA, 0, none⟩) n cA, .slice (some ⟨gB, 0, none⟩) n cB]) (by simp [results, Tryz.results34, go_sem, ↓IntWalk.iteOmega, *]) rfl FIN.out
end Go.Proofs.YtmkhbkkhoemkoaaGreatDoor

/- Mixes, by the program: of two grids, parts, masses, momentum, swapped. -/

namespace Go.Proofs.YtmkhbkkhoemkoaaGreatDoor
set_option linter.unusedSimpArgs false
set_option linter.unusedVariables false
open Go.RowKit

theorem ownM_pass {W H : Int} {n a b ca cb r : Nat} {A B : Nat → Nat → Int} {w w5 : World} {v0 v1 v2 v3 : Value} (R : Row w5 a n A ∧ Row w5 b n B ∧ a ≠ b) (hb : Below w.heap.size w w5) (h1 : w.heap.size ≤ r) (h2 : r < a) (h3 : r < b) :
    OwnM W H n A B w (.returned (.agg #[.int .i64 W, .int .i64 H, .slice (some ⟨a, 0, none⟩) n ca, .slice (some ⟨b, 0, none⟩) n cb])) ((((w5.setCell ⟨r, 0, none⟩ v0).setCell ⟨r, 1, none⟩ v1).setCell ⟨r, 2, none⟩ v2).setCell ⟨r, 3, none⟩ v3) :=
  ⟨a, b, ca, cb, rfl, Lib.hid ⟨R.1.ex four_ex (by omega), R.2.1.ex four_ex (by omega), R.2.2⟩, by omega, by omega, hb.trans (four_ex.below hb.size (fun k hk => by omega))⟩
theorem madeM_pass {W H : Int} {n a b ca cb r : Nat} {A B : Nat → Nat → Int} {w w5 : World} {v0 v1 v2 v3 : Value} (R : Row w5 a n A ∧ Row w5 b n B ∧ a ≠ b) (hb : Below w.heap.size w w5) (h1 : w.heap.size ≤ r) (h2 : r < a) (h3 : r < b) :
    MadeM W H n A B w (.returned (.tuple #[.agg #[.int .i64 W, .int .i64 H, .slice (some ⟨a, 0, none⟩) n ca, .slice (some ⟨b, 0, none⟩) n cb], .int .i64 0])) ((((w5.setCell ⟨r, 0, none⟩ v0).setCell ⟨r, 1, none⟩ v1).setCell ⟨r, 2, none⟩ v2).setCell ⟨r, 3, none⟩ v3) :=
  ⟨a, b, ca, cb, rfl, Lib.hid ⟨R.1.ex four_ex (by omega), R.2.1.ex four_ex (by omega), R.2.2⟩, by omega, by omega, hb.trans (four_ex.below hb.size (fun k hk => by omega))⟩

/-- Cells of a valid grid lie in memory. -/
theorem vg_cells {W H : Int} {n : Nat} {A : Nat → Nat → Int} {ao : Option Addr} {w : World} (hv : VG W H n A) (h : CellsIn w ao n A) : ∃ b off, ao = some ⟨b, off, none⟩ ∧ b < w.heap.size ∧ Grd w b off n A := by
  rcases h with h | h
  · have := hv.1.bd
    have := hv.2.1
    omega
  · exact h
section
variable (W H : Int) (ao : Option Addr) (n c : Nat) (A : Nat → Nat → Int) (bo : Option Addr) (m d : Nat) (B : Nat → Nat → Int) (w : World)

/-- The first error of a mix of two grids. -/
def OErr (W H W' H' : Int) (n m : Nat) (A B : Nat → Nat → Int) (z : Int) : Prop := (z = 1 ∧ Odd1 W H W' H' n m A B) ∨ (z = 9 ∧ Odd9 W H W' H' n m A B) ∨ (z = 4 ∧ (W = W' ∧ H = H' ∧ n = m) ∧ VG W H n A ∧ VG W H n B ∧ 1000000000 < wt A n + wt B n)
theorem added_err (W' H' : Int) (z : Int) (hA : CellsIn w ao n A) (hB : CellsIn w bo m B) (h : OErr W H W' H' n m A B z) : Calls Tryz.prog 93 #[.agg #[.int .i64 W, .int .i64 H, .slice (ao) n c], .agg #[.int .i64 W', .int .i64 H', .slice (bo) m d]] w fun e w' => e = .returned (.tuple #[.agg #[.int .i64 0, .int .i64 0, .slice (none) 0 0], .int .i64 z]) ∧ Below w.heap.size w w' := by
  rcases h with ⟨rfl, h⟩ | ⟨rfl, h⟩ | ⟨rfl, ⟨rfl, rfl, rfl⟩, h1, h2, h3⟩
  · exact gAdded_err1 W H W' H' n m c d ao bo A B w hA hB h
  · exact gAdded_err9 W H W' H' n m c d ao bo A B w hA hB h
  · exact gAddedI_limit W H n c d ao bo A B w h1 h2 hA hB h3
theorem OErr.ne {W H W' H' : Int} {n m : Nat} {A B : Nat → Nat → Int} {z : Int} (h : OErr W H W' H' n m A B z) : z ≠ 0 := by
  rcases h with ⟨rfl, _⟩ | ⟨rfl, _⟩ | ⟨rfl, _⟩ <;> decide
/-- Two grids in memory of their own. -/
def MadeP (W H : Int) (n : Nat) (A B : Nat → Nat → Int) (w : World) (e : Ending) (w' : World) : Prop := ∃ a b ca cb : Nat, e = .returned (.tuple #[.agg #[.int .i64 W, .int .i64 H, .slice (some ⟨a, 0, none⟩) n ca], .agg #[.int .i64 W, .int .i64 H, .slice (some ⟨b, 0, none⟩) n cb], .int .i64 0]) ∧ Hid (CellsIn w' (some ⟨a, 0, none⟩) n A ∧ CellsIn w' (some ⟨b, 0, none⟩) n B) ∧ w.heap.size ≤ a ∧ w.heap.size ≤ b ∧ Below w.heap.size w w'

theorem parts_end {W H : Int} {n a b ca cb : Nat} {A B : Nat → Nat → Int} {w w1 X : World} (hA : CellsIn w1 (some ⟨a, 0, none⟩) n A) (hB : CellsIn w1 (some ⟨b, 0, none⟩) n B) (hb : Below w.heap.size w w1) (la : w.heap.size ≤ a) (lb : w.heap.size ≤ b) (x : Ex (fun k => w.heap.size ≤ k ∧ k < a ∧ k < b) w1 X) :
    MadeP W H n A B w (.returned (.tuple #[.agg #[.int .i64 W, .int .i64 H, .slice (some ⟨a, 0, none⟩) n ca], .agg #[.int .i64 W, .int .i64 H, .slice (some ⟨b, 0, none⟩) n cb], .int .i64 0])) X :=
  ⟨a, b, ca, cb, rfl, Lib.hid ⟨cellsIn_ex hA x (fun h => by omega), cellsIn_ex hB x (fun h => by omega)⟩, la, lb, hb.trans (x.below hb.size (fun k hk => hk.1))⟩
theorem imE_ad (n : Nat) : imE (adG A B) n = imE A n + imE B n := by
  rw [imE_sm, imE_sm, imE_sm]
  simp only [adG, sm_add]
  omega
theorem imN_ad (n : Nat) : imN (adG A B) n = imN A n + imN B n := by
  rw [imN_sm, imN_sm, imN_sm]
  simp only [adG, sm_add]
  omega
end
end Go.Proofs.YtmkhbkkhoemkoaaGreatDoor
