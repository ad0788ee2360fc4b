/- Numbers in memory of their own: a copy of a list, a copy of a wall. -/
import Derived.Test.YtmdeooflgkjbbaaDoorKWall
import Derived.WalkSpells
import Derived.Laws.Cover3
import Derived.Test.YtmdeooflgkjbbaaDoorKCopy
namespace Go.Proofs.YtmdeooflgkjbbaaDoor
set_option linter.unusedSimpArgs false
set_option linter.unusedVariables false
open Go.RowKit

/-- One's own row of numbers. -/
def RowI (w : World) (b n : Nat) (K : Nat → Int) : Prop := b < w.heap.size ∧ ∀ j, j < n → w.cell? ⟨b, j, none⟩ = some (.int .i64 (K j)) ∧ w.frozen? ⟨b, j, none⟩ = false
theorem RowI.nums {w : World} {b n : Nat} {K : Nat → Int} (h : RowI w b n K) : NumsAt w b 0 n K := fun i hi => by rw [Nat.zero_add]; exact (h.2 i hi).1
theorem RowI.ex {S : Nat → Prop} {w w' : World} {b n : Nat} {K : Nat → Int} (h : RowI w b n K) (x : Ex S w w') (hs : ¬ S b) : RowI w' b n K :=
  ⟨Nat.lt_of_lt_of_le h.1 x.size, fun j hj => ⟨(x.cell h.1 hs).trans (h.2 j hj).1, (x.frozen h.1 hs).trans (h.2 j hj).2⟩⟩
/-- The numbers of a list, one after another. -/
def numsL (K : Nat → Int) (n : Nat) : List Value := (List.range n).map fun j => .int .i64 (K j)
theorem numsL_length (K : Nat → Int) (n : Nat) : (numsL K n).length = n := by simp [numsL]
theorem numsL_get (K : Nat → Int) (n j : Nat) (h : j < n) : (numsL K n)[j]? = some (.int .i64 (K j)) := by simp [numsL, h]
theorem numsL_one (K : Nat → Int) (n : Nat) : ∀ u ∈ numsL K n, u.oneCell' = true := by
  intro u hu
  simp only [numsL, List.mem_map] at hu
  obtain ⟨j, _, rfl⟩ := hu
  rfl
theorem numsL_at {w : World} {b off n : Nat} {K : Nat → Int} (h : NumsAt w b off n K) : ∀ (j : Nat) u, (numsL K n)[j]? = some u → w.cell? ((⟨b, off, none⟩ : Addr).add j) = some u := by
  intro j u hu
  have hj : j < n := by
    have := (List.getElem?_eq_some_iff.1 hu).1
    rwa [numsL_length] at this
  rw [numsL_get K n j hj] at hu
  cases hu
  rw [Go.WideShapes.add_plain]
  exact h j hj
theorem rowI_of_owned {w : World} {base n : Nat} {v : Value} {K : Nat → Int} (h : w.ownsRow base 3 1 v n (numsL K n)) (hn : 1 ≤ n) : ∃ g c, v = .slice (some ⟨g, 0, none⟩) n c ∧ RowI w g n K ∧ base ≤ g ∧ n ≤ c ∧ c ≤ maxLen := by
  rcases h.2 with ⟨_, h0⟩ | ⟨g, cap, cur, rfl, hg, hh, hc, hm, hs, ht⟩
  · omega
  · refine ⟨g, cap, rfl, ⟨(Array.getElem?_eq_some_iff.1 hh).1, fun j hj => ⟨?_, h.frozenAt j⟩⟩, hg, hc, hm⟩
    rw [h.cellAt j (by omega)]
    exact numsL_get K n j hj
/-- What a copy gives. -/
def CopiedI (n : Nat) (K : Nat → Int) (w : World) (e : Ending) (w' : World) : Prop := ∃ g c, e = .returned (.slice (some ⟨g, 0, none⟩) n c) ∧ RowI w' g n K ∧ w.heap.size ≤ g ∧ n ≤ c ∧ c ≤ maxLen ∧ Below w.heap.size w w'

set_option maxRecDepth 100000 in
set_option maxHeartbeats 1000000 in
theorem clone_any (b off n cap : Nat) (K : Nat → Int) (w : World) (h1 : 1 ≤ n) (h2 : n ≤ 100000) (hlt : b < w.heap.size) (hK : NumsAt w b off n K) :
    Calls Tryd.prog 154 #[.slice (some ⟨b, off, none⟩) n cap] w (CopiedI n K w) := by
  obtain ⟨i0, hi, hz0, hz1, hz2⟩ := info_parts info_int3
  have H := Lib.hid (fun w' (hb : Below w.heap.size w w') => numsL_at (hK.below hb hlt))
  have hnil : ∀ wx : World, (binOp .eql 40 (.slice (some ⟨b, off, none⟩) n cap) (.slice none 0 0)).run Tryd.prog wx = .ok (.bool false) wx := fun wx => Lib.run_eql_slice_nil wx 40 3 (some ⟨b, off, none⟩) n cap 0 0 Tryd.underlying40
  go_enter Tryd.func154, Tryd.ntmps154
  go_wp2_with (at_builtin; refine wpList_append_grows _ rfl _ _ 40 rfl 3 i0 (.int .i64 0) 1 8 Tryd.underlying40 hi hz0 hz1 hz2 rfl (by omega) (some ⟨w.heap.size, 0, none⟩) 0 0 [] rfl (by simp) rfl (by simp) ⟨b, off, none⟩ n cap (numsL K n) rfl (by rw [numsL_length, Nat.mul_one]) (H.out _ (by (repeat' (first | (with_reducible exact Below.refl _ _) | (with_reducible refine Below.setCell ?_ (by first | omega | (simp; done) | (simp; omega)) _) | (with_reducible refine Below.alloc ?_ (by first | omega | (simp; done) | (simp; omega)) _) | (with_reducible refine Below.drew ?_) | (with_reducible refine below_drewN ?_ _) | (with_reducible refine Below.trans ?_ (Below.mono (by assumption) (by first | omega | (simp; done) | (simp; omega)))))))) (numsL_one K n) (by omega) (by unfold maxLen; omega) (by omega) ?_; intro v' w1 hown hgrow)
  rw [Nat.zero_add, List.nil_append] at hown
  obtain ⟨g, c, rfl, hr, hg, hc, hm⟩ := rowI_of_owned hown h1
  go_ret
  exact ⟨g, c, rfl, hr, by simp at hg; omega, hc, hm, ((Below.refl _ w).alloc (Nat.le_refl _) _).grown hgrow (by simp) (by simp)⟩

theorem RowI.below {m : Nat} {w w' : World} {b n : Nat} {K : Nat → Int} (h : RowI w b n K) (hb : Below m w w') (hlt : b < m) : RowI w' b n K :=
  ⟨Nat.lt_of_lt_of_le h.1 hb.size, fun j hj => ⟨(hb.cell (p := ⟨b, j, none⟩) hlt).trans (h.2 j hj).1, (hb.frozen (p := ⟨b, j, none⟩) hlt).trans (h.2 j hj).2⟩⟩
theorem RowI.two {w : World} {P b n : Nat} {K : Nat → Int} {v0 v1 : Value} (h : RowI w b n K) (hne : P ≠ b) : RowI ((w.setCell ⟨P, 0, none⟩ v0).setCell ⟨P, 1, none⟩ v1) b n K := by
  have x : Ex (fun k => k = P) w ((w.setCell ⟨P, 0, none⟩ v0).setCell ⟨P, 1, none⟩ v1) := by
    refine Ex.setCell (Ex.setCell (Ex.refl _ w) ?_ _) ?_ _ <;> rfl
  exact h.ex x (by omega)
/-- A wall in memory of its own, whose cells may be written. -/
def OwnW (n : Nat) (K B : Nat → Int) (w : World) (e : Ending) (w' : World) : Prop := ∃ bk bb ck cb : Nat, e = .returned (.agg #[.slice (some ⟨bk, 0, none⟩) n ck, .slice (some ⟨bb, 0, none⟩) n cb]) ∧ Hid (RowI w' bk n K ∧ RowI w' bb n B ∧ bk ≠ bb) ∧ w.heap.size ≤ bk ∧ w.heap.size ≤ bb ∧ Below w.heap.size w w'

set_option maxRecDepth 100000 in
set_option maxHeartbeats 2000000 in
theorem wcopied_any (n bk ok ck : Nat) (K : Nat → Int) (bb ob cb : Nat) (B : Nat → Int) (w : World) (h1 : 1 ≤ n) (h2 : n ≤ 100000) (LK : bk < w.heap.size) (LB : bb < w.heap.size) (hK : NumsAt w bk ok n K) (hB : NumsAt w bb ob n B) :
    Calls Tryd.prog 103 #[.agg #[.slice (some ⟨bk, ok, none⟩) n ck, .slice (some ⟨bb, ob, none⟩) n cb]] w (OwnW n K B w) := by
  have HK := Lib.hid hK; clear hK
  have HB := Lib.hid hB; clear hB
  go_enter Tryd.func103, Tryd.ntmps103
  go_wp2
  go_region_held3 (fun w' => w'.cell? ⟨w.heap.size, 0, none⟩ = some (.slice (some ⟨bk, ok, none⟩) n ck) ∧ w'.cell? ⟨w.heap.size, 1, none⟩ = some (.slice (some ⟨bb, ob, none⟩) n cb)) (first | (go_split_ands; (try dsimp only); refine ⟨?_, ?_⟩ <;> (first | (with_reducible assumption) | (with_reducible exact keep_cell (by assumption) (by first | omega | (simp; done) | (simp; omega)) (by assumption)) | (with_reducible exact (World.cell?_alloc_past _ _ _ (by show _ < _; omega)).trans (by assumption)) | (with_reducible exact (World.cell?_alloc_past _ _ _ (by show _ < _; omega)).trans ((World.cell?_alloc_past _ _ _ (by show _ < _; omega)).symm.trans (by assumption))) | (simp [go_sem]; with_reducible assumption))) | (simp [go_sem, ↓IntWalk.iteOmega, *]; done)) (first | (go_at_call 154; (with_reducible refine (clone_any bk ok n ck K _ h1 h2 (Nat.lt_of_lt_of_le LK (Below.size (show Below w.heap.size w _ from by (repeat' (first | (with_reducible exact Below.refl _ _) | (with_reducible refine Below.setCell ?_ (by first | omega | (simp; done) | (simp; omega)) _) | (with_reducible refine Below.alloc ?_ (by first | omega | (simp; done) | (simp; omega)) _) | (with_reducible refine Below.drew ?_) | (with_reducible refine below_drewN ?_ _) | (with_reducible refine Below.trans ?_ (Below.mono (by assumption) (by first | omega | (simp; done) | (simp; omega))))))))) (HK.out.below (show Below w.heap.size w _ from by (repeat' (first | (with_reducible exact Below.refl _ _) | (with_reducible refine Below.setCell ?_ (by first | omega | (simp; done) | (simp; omega)) _) | (with_reducible refine Below.alloc ?_ (by first | omega | (simp; done) | (simp; omega)) _) | (with_reducible refine Below.drew ?_) | (with_reducible refine below_drewN ?_ _) | (with_reducible refine Below.trans ?_ (Below.mono (by assumption) (by first | omega | (simp; done) | (simp; omega))))))) LK)).mono ?_); rintro e wK ⟨gK, cK, rfl, hK, loK, uK, mK, hbK⟩; have CK := Lib.hid hK; clear hK; obtain ⟨hcK, hfK, hzK⟩ := bcall hbK; (try simp at hcK hfK hzK loK)) | (go_at_call 154; (with_reducible refine (clone_any bb ob n cb B _ h1 h2 (Nat.lt_of_lt_of_le LB (Below.size (show Below w.heap.size w _ from by (repeat' (first | (with_reducible exact Below.refl _ _) | (with_reducible refine Below.setCell ?_ (by first | omega | (simp; done) | (simp; omega)) _) | (with_reducible refine Below.alloc ?_ (by first | omega | (simp; done) | (simp; omega)) _) | (with_reducible refine Below.drew ?_) | (with_reducible refine below_drewN ?_ _) | (with_reducible refine Below.trans ?_ (Below.mono (by assumption) (by first | omega | (simp; done) | (simp; omega))))))))) (HB.out.below (show Below w.heap.size w _ from by (repeat' (first | (with_reducible exact Below.refl _ _) | (with_reducible refine Below.setCell ?_ (by first | omega | (simp; done) | (simp; omega)) _) | (with_reducible refine Below.alloc ?_ (by first | omega | (simp; done) | (simp; omega)) _) | (with_reducible refine Below.drew ?_) | (with_reducible refine below_drewN ?_ _) | (with_reducible refine Below.trans ?_ (Below.mono (by assumption) (by first | omega | (simp; done) | (simp; omega))))))) LB)).mono ?_); rintro e wB ⟨gB, cB, rfl, hB, loB, uB, mB, hbB⟩; have CB := Lib.hid hB; clear hB; obtain ⟨hcB, hfB, hzB⟩ := bcall hbB; (try simp at hcB hfB hzB loB)))
  all_goals go_wp2
  · refine bodyPost_ret (v := .agg #[.slice (some ⟨gK, 0, none⟩) n cK, .slice (some ⟨gB, 0, none⟩) n cB]) (by simp [results, Tryd.results103, go_sem, ↓IntWalk.iteOmega, *]) rfl ?_
    have lK := CK.out.1
    have lB := CB.out.1
    refine ⟨gK, gB, cK, cB, rfl, Lib.hid ⟨RowI.two (CK.out.below hbB lK) (by omega), RowI.two CB.out (by omega), by omega⟩, by omega, by omega, ?_⟩
    (repeat' (first | (with_reducible exact Below.refl _ _) | (with_reducible refine Below.setCell ?_ (by first | omega | (simp; done) | (simp; omega)) _) | (with_reducible refine Below.alloc ?_ (by first | omega | (simp; done) | (simp; omega)) _) | (with_reducible refine Below.drew ?_) | (with_reducible refine below_drewN ?_ _) | (with_reducible refine Below.trans ?_ (Below.mono (by assumption) (by first | omega | (simp; done) | (simp; omega))))))
end Go.Proofs.YtmdeooflgkjbbaaDoor

/- A copy of a grid's cells, by slices.Clone. -/



namespace Go.Proofs.YtmdeooflgkjbbaaDoor
set_option linter.unusedSimpArgs false
set_option linter.unusedVariables false
open Go.RowKit

end Go.Proofs.YtmdeooflgkjbbaaDoor
