/- A map's chart in memory: its block, its slices. -/
import Derived.Test.YtmkhbkkhoemkoaaKNumsV
import Derived.Test.YtmkhbkkhoemkoaaKChartM
import Derived.Test.YtmkhbkkhoemkoaaKOwnC
import Derived.Maps.AppendAt
namespace Go.Proofs.Ytmkhbkkhoemkoaa
set_option linter.unusedSimpArgs false
set_option linter.unusedVariables false
open Go.RowKit

theorem info_intA : (Try.prog.info? 3).map (fun i => (i.zero, i.size, i.bytes)) = some (some (.int .i64 0), 1, 8) := by kernel_rfl
/-- The numbers of a list, as values. -/
def numV (L : List Nat) : List Value := L.map fun (j : Nat) => .int .i64 ((j : Int))
theorem numV_len (L : List Nat) : (numV L).length = L.length := by simp [numV]
/-- Ten slices of one's own numbers, all apart. -/
def OwnF (w : World) (base : Nat) (q : Nat → Value) (L : Nat → List Nat) : Prop :=
  (∀ j, j < 10 → w.ownsRow base 3 1 (q j) (L j).length (numV (L j))) ∧ ∀ i j, i < 10 → j < 10 → i ≠ j → ∀ b, (q i).ownBlock = some b → (q j).ownBlock ≠ some b
theorem owns_lt {w : World} {base : Nat} {e : TypeId} {size : Nat} {v : Value} {n : Nat} {xs : List Value} (h : w.ownsRow base e size v n xs) : ∀ j, v.ownBlock = some j → base ≤ j ∧ j < w.heap.size := by
  intro j hj
  rcases h.2 with ⟨rfl, _⟩ | ⟨g, cap, cur, rfl, hg, hh, _⟩
  · cases hj
  · cases hj
    exact ⟨hg, (Array.getElem?_eq_some_iff.1 hh).1⟩
theorem owns_keep {w w' : World} {base : Nat} {e : TypeId} {size : Nat} {v : Value} {n : Nat} {xs : List Value} (h : w.ownsRow base e size v n xs) (hb : ∀ b, v.ownBlock = some b → w'.heap[b]? = w.heap[b]?) : w'.ownsRow base e size v n xs := by
  refine ⟨h.1, ?_⟩
  rcases h.2 with hn | ⟨g, cap, cur, rfl, hg, hgg, rest⟩
  · exact .inl hn
  · exact .inr ⟨g, cap, cur, rfl, hg, (hb g rfl).trans hgg, rest⟩
theorem OwnF.congr {w : World} {base : Nat} {q : Nat → Value} {L L' : Nat → List Nat} (h : OwnF w base q L) (e : ∀ j, j < 10 → L' j = L j) : OwnF w base q L' :=
  ⟨fun j hj => by rw [e j hj]; exact h.1 j hj, h.2⟩
theorem OwnF.below {w w' : World} {base : Nat} {q : Nat → Value} {L : Nat → List Nat} (h : OwnF w base q L) (hb : Below w.heap.size w w') : OwnF w' base q L :=
  ⟨fun j hj => owns_below (h.1 j hj) hb, h.2⟩
theorem OwnF.ex {w w' : World} {base C : Nat} {q : Nat → Value} {L : Nat → List Nat} (h : OwnF w base q L) (hx : Ex (fun k => k = C) w w') (hC : C < base) : OwnF w' base q L :=
  ⟨fun j hj => owns_keep (h.1 j hj) (fun b hb => hx.block b (owns_lt (h.1 j hj) b hb).2 (by have := (owns_lt (h.1 j hj) b hb).1; omega)), h.2⟩
theorem OwnF.nil (w : World) (base : Nat) : OwnF w base (fun _ => .slice none 0 0) (fun _ => []) :=
  ⟨fun j _ => World.ownsRow_nil _ _ _ _, fun i j _ _ _ b hb => by cases hb⟩
/-- A number appended to one of them. -/
theorem OwnF.app {wr X w6 : World} {base i : Nat} {q : Nat → Value} {L : Nat → List Nat} {g cap x : Nat} (h : OwnF wr base q L) (hi : i < 10) (hX : Below wr.heap.size wr X)
    (hown : w6.ownsRow base 3 1 (.slice (some ⟨g, 0, none⟩) ((L i).length + 1) cap) ((L i).length + 1) (numV (L i) ++ [.int .i64 x])) (hgrow : X.grownBy w6 (q i).ownBlock) (hat : (q i).ownBlock = some g ∨ wr.heap.size ≤ g) :
    OwnF w6 base (fun j => if j = i then .slice (some ⟨g, 0, none⟩) ((L i).length + 1) cap else q j) (fun j => if j = i then L i ++ [x] else L j) := by
  refine ⟨fun j hj => ?_, fun a b ha hb hne B hB => ?_⟩
  · by_cases e : j = i
    · simp only [e, ↓reduceIte]
      have e2 : numV (L i ++ [x]) = numV (L i) ++ [.int .i64 x] := by simp [numV]
      rw [e2]
      simpa using hown
    · simp only [e, ↓reduceIte]
      have hX' := owns_below (h.1 j hj) hX
      refine owns_keep hX' (fun B hB => hgrow.block B (owns_lt hX' B hB).2 (fun eq => ?_))
      exact h.2 j i hj hi e B hB eq.symm
  · dsimp only at hB ⊢
    by_cases ea : a = i
    · rw [if_pos ea] at hB
      rw [if_neg (show ¬ b = i by omega)]
      cases hB
      rcases hat with hq | hg
      · exact h.2 i b hi hb (by omega) g hq
      · intro hq
        have := (owns_lt (h.1 b hb) g hq).2
        omega
    · rw [if_neg ea] at hB
      by_cases eb : b = i
      · rw [if_pos eb]
        intro hq
        cases hq
        rcases hat with hq2 | hg
        · exact h.2 i a hi ha (by omega) g hq2 hB
        · have := (owns_lt (h.1 a ha) g hB).2
          omega
      · rw [if_neg eb]
        exact h.2 a b ha hb hne B hB

/-- A chart's block. -/
def CB (w : World) (C : Nat) (ov : Value) (q : Nat → Value) (f t : Value) : Prop :=
  w.heap[C]? = some (.cells #[ov, q 9, q 0, q 1, q 2, q 3, q 4, q 5, q 6, q 7, q 8, f, t] 87 (0, 0))
section
variable {w w' : World} {C : Nat} {ov : Value} {q : Nat → Value} {f t : Value}
theorem CB.lt (h : CB w C ov q f t) : C < w.heap.size := (Array.getElem?_eq_some_iff.1 h).1
theorem CB.free (h : CB w C ov q f t) (i : Nat) : w.frozen? ⟨C, i, none⟩ = false := by simp [World.frozen?, show w.heap[C]? = _ from h]
theorem CB.owner (h : CB w C ov q f t) : w.cell? ⟨C, 0, none⟩ = some ov := by simp [World.cell?, show w.heap[C]? = _ from h]
theorem CB.nodes (h : CB w C ov q f t) : w.cell? ⟨C, 1, none⟩ = some (q 9) := by simp [World.cell?, show w.heap[C]? = _ from h]
theorem CB.own (h : CB w C ov q f t) {v : Nat} (hv : v < 8) : w.cell? ⟨C, 2 + v, none⟩ = some (q v) := by
  have hh : w.heap[C]? = _ := h
  simp only [World.cell?, hh]
  match v, hv with
  | 0, _ => rfl
  | 1, _ => rfl
  | 2, _ => rfl
  | 3, _ => rfl
  | 4, _ => rfl
  | 5, _ => rfl
  | 6, _ => rfl
  | 7, _ => rfl
theorem CB.place (h : CB w C ov q f t) : w.cell? ⟨C, 10, none⟩ = some (q 8) := by simp [World.cell?, show w.heap[C]? = _ from h]
theorem CB.from_ (h : CB w C ov q f t) : w.cell? ⟨C, 11, none⟩ = some f := by simp [World.cell?, show w.heap[C]? = _ from h]
theorem CB.to_ (h : CB w C ov q f t) : w.cell? ⟨C, 12, none⟩ = some t := by simp [World.cell?, show w.heap[C]? = _ from h]
theorem CB.below {k : Nat} (h : CB w C ov q f t) (hb : Below k w w') (hk : C < k) : CB w' C ov q f t := (hb.block C hk).trans h
theorem CB.ex {S : Nat → Prop} (h : CB w C ov q f t) (hx : Ex S w w') (hs : ¬ S C) : CB w' C ov q f t := (hx.block C h.lt hs).trans h
theorem CB.kept {row : Option Nat} (h : CB w C ov q f t) (hg : w.grownBy w' row) (hne : some C ≠ row) : CB w' C ov q f t := (hg.block C h.lt hne).trans h
theorem CB.put (h : CB w C ov q f t) (u : Value) {v : Nat} (hv : v < 8) : CB (w.setCell ⟨C, 2 + v, none⟩ u) C ov (fun j => if j = v then u else q j) f t := by
  have hh : w.heap[C]? = _ := h
  unfold CB
  simp only [World.setCell, Array.getElem?_modify, hh, ↓reduceIte, Option.map_some]
  match v, hv with
  | 0, _ => rfl
  | 1, _ => rfl
  | 2, _ => rfl
  | 3, _ => rfl
  | 4, _ => rfl
  | 5, _ => rfl
  | 6, _ => rfl
  | 7, _ => rfl
theorem CB.putP (h : CB w C ov q f t) (u : Value) : CB (w.setCell ⟨C, 10, none⟩ u) C ov (fun j => if j = 8 then u else q j) f t := by
  have hh : w.heap[C]? = _ := h
  unfold CB
  simp only [World.setCell, Array.getElem?_modify, hh, ↓reduceIte, Option.map_some]
  rfl
theorem CB.putN (h : CB w C ov q f t) (u : Value) : CB (w.setCell ⟨C, 1, none⟩ u) C ov (fun j => if j = 9 then u else q j) f t := by
  have hh : w.heap[C]? = _ := h
  unfold CB
  simp only [World.setCell, Array.getElem?_modify, hh, ↓reduceIte, Option.map_some]
  rfl
theorem CB.putW (h : CB w C ov q f t) (f' t' : Value) : CB ((w.setCell ⟨C, 11, none⟩ f').setCell ⟨C, 12, none⟩ t') C ov q f' t' := by
  have hh : w.heap[C]? = _ := h
  unfold CB
  simp only [World.setCell, Array.getElem?_modify, hh, ↓reduceIte, Option.map_some]
  rfl
end
/-- The chart's numbers: the cells of each node, the places, the nodes. -/
def chL (o : Nat → Nat) (k n v : Nat) : Nat → List Nat := fun j => if j < 8 then ownL o k j else if j = 8 then plcL o k else ndsL o n v
/-- Where the chart's making stands. -/
def ChSt (C : Nat) (w0 : World) (ov : Value) (q : Nat → Value) (L : Nat → List Nat) (wr : World) : Prop :=
  CB wr C ov q (.slice none 0 0) (.slice none 0 0) ∧ OwnF wr (C + 1) q L ∧ Below C w0 wr
section
variable {C : Nat} {w0 wr X w6 : World} {ov : Value} {q : Nat → Value} {L : Nat → List Nat} {i g cp x : Nat} {v : Value}
theorem ChSt.cb6 (h : ChSt C w0 ov q L wr) (hi : i < 10) (hq : q i = v) (hX : Below wr.heap.size wr X) (hgrow : X.grownBy w6 v.ownBlock) : CB w6 C ov q (.slice none 0 0) (.slice none 0 0) := by
  subst hq
  exact (h.1.below hX h.1.lt).kept hgrow (fun e => by have := (owns_lt (h.2.1.1 i hi) C e.symm).1; omega)
theorem ChSt.app6 (h : ChSt C w0 ov q L wr) (hC : C ≤ w0.heap.size) (hi : i < 10) (hq : q i = v) (hX : Below wr.heap.size wr X) (hgrow : X.grownBy w6 v.ownBlock)
    (hown : w6.ownsRow (C + 1) 3 1 (.slice (some ⟨g, 0, none⟩) ((L i).length + 1) cp) ((L i).length + 1) (numV (L i) ++ [.int .i64 x])) (hat : v.ownBlock = some g ∨ wr.heap.size ≤ g) :
    OwnF w6 (C + 1) (fun j => if j = i then .slice (some ⟨g, 0, none⟩) ((L i).length + 1) cp else q j) (fun j => if j = i then L i ++ [x] else L j) ∧ Below C w0 w6 := by
  subst hq
  refine ⟨h.2.1.app hi hX hown hgrow hat, ?_⟩
  have b1 : Below C w0 X := h.2.2.trans (hX.mono (by have := h.2.2.size; omega))
  exact b1.grown hgrow (by have := h.2.2.size; have := hX.size; omega) (fun j hj => by have := (owns_lt (h.2.1.1 i hi) j hj).1; omega)
theorem ChSt.app8 (h : ChSt C w0 ov q L wr) (hC : C ≤ w0.heap.size) (hq : q 8 = v) (hX : Below wr.heap.size wr X) (hgrow : X.grownBy w6 v.ownBlock)
    (hown : w6.ownsRow (C + 1) 3 1 (.slice (some ⟨g, 0, none⟩) ((L 8).length + 1) cp) ((L 8).length + 1) (numV (L 8) ++ [.int .i64 x])) (hat : v.ownBlock = some g ∨ wr.heap.size ≤ g) :
    ChSt C w0 ov (fun j => if j = 8 then .slice (some ⟨g, 0, none⟩) ((L 8).length + 1) cp else q j) (fun j => if j = 8 then L 8 ++ [x] else L j) (w6.setCell ⟨C, 10, none⟩ (.slice (some ⟨g, 0, none⟩) ((L 8).length + 1) cp)) := by
  obtain ⟨a, b⟩ := h.app6 hC (by omega) hq hX hgrow hown hat
  have x1 : Ex (fun k => k = C) w6 (w6.setCell ⟨C, 10, none⟩ (.slice (some ⟨g, 0, none⟩) ((L 8).length + 1) cp)) := Ex.setCell (S := fun k => k = C) (Ex.refl _ _) (show C = C from rfl) _
  exact ⟨(h.cb6 (by omega) hq hX hgrow).putP _, a.ex x1 (by omega), b.setCell (p := ⟨C, 10, none⟩) (Nat.le_refl _) _⟩
theorem ChSt.app9 (h : ChSt C w0 ov q L wr) (hC : C ≤ w0.heap.size) (hq : q 9 = v) (hX : Below wr.heap.size wr X) (hgrow : X.grownBy w6 v.ownBlock)
    (hown : w6.ownsRow (C + 1) 3 1 (.slice (some ⟨g, 0, none⟩) ((L 9).length + 1) cp) ((L 9).length + 1) (numV (L 9) ++ [.int .i64 x])) (hat : v.ownBlock = some g ∨ wr.heap.size ≤ g) :
    ChSt C w0 ov (fun j => if j = 9 then .slice (some ⟨g, 0, none⟩) ((L 9).length + 1) cp else q j) (fun j => if j = 9 then L 9 ++ [x] else L j) (w6.setCell ⟨C, 1, none⟩ (.slice (some ⟨g, 0, none⟩) ((L 9).length + 1) cp)) := by
  obtain ⟨a, b⟩ := h.app6 hC (by omega) hq hX hgrow hown hat
  have x1 : Ex (fun k => k = C) w6 (w6.setCell ⟨C, 1, none⟩ (.slice (some ⟨g, 0, none⟩) ((L 9).length + 1) cp)) := Ex.setCell (S := fun k => k = C) (Ex.refl _ _) (show C = C from rfl) _
  exact ⟨(h.cb6 (by omega) hq hX hgrow).putN _, a.ex x1 (by omega), b.setCell (p := ⟨C, 1, none⟩) (Nat.le_refl _) _⟩
theorem ChSt.appO (h : ChSt C w0 ov q L wr) (hC : C ≤ w0.heap.size) (hi : i < 8) (hq : q i = v) (hX : Below wr.heap.size wr X) (hgrow : X.grownBy w6 v.ownBlock)
    (hown : w6.ownsRow (C + 1) 3 1 (.slice (some ⟨g, 0, none⟩) ((L i).length + 1) cp) ((L i).length + 1) (numV (L i) ++ [.int .i64 x])) (hat : v.ownBlock = some g ∨ wr.heap.size ≤ g) :
    ChSt C w0 ov (fun j => if j = i then .slice (some ⟨g, 0, none⟩) ((L i).length + 1) cp else q j) (fun j => if j = i then L i ++ [x] else L j) (w6.setCell ⟨C, 2 + i, none⟩ (.slice (some ⟨g, 0, none⟩) ((L i).length + 1) cp)) := by
  obtain ⟨a, b⟩ := h.app6 hC (by omega) hq hX hgrow hown hat
  have x1 : Ex (fun k => k = C) w6 (w6.setCell ⟨C, 2 + i, none⟩ (.slice (some ⟨g, 0, none⟩) ((L i).length + 1) cp)) := Ex.setCell (S := fun k => k = C) (Ex.refl _ _) (show C = C from rfl) _
  exact ⟨(h.cb6 (by omega) hq hX hgrow).put _ hi, a.ex x1 (by omega), b.setCell (p := ⟨C, 2 + i, none⟩) (Nat.le_refl _) _⟩
end
theorem OwnF.low {w : World} {base base' : Nat} {q : Nat → Value} {L : Nat → List Nat} (h : OwnF w base q L) (hb : base' ≤ base) : OwnF w base' q L := by
  refine ⟨fun j hj => ?_, h.2⟩
  obtain ⟨h1, h2⟩ := h.1 j hj
  refine ⟨h1, ?_⟩
  rcases h2 with hn | ⟨g, cap, cur, e, hg, rest⟩
  · exact .inl hn
  · exact .inr ⟨g, cap, cur, e, Nat.le_trans hb hg, rest⟩
theorem index_own0 (a b c d e f g h : Value) (w : World) : (Instr.index 85 (.agg #[a, b, c, d, e, f, g, h]) (.int .i64 0)).run Try.prog w = .ok a w := by kernel_rfl
theorem index_own1 (a b c d e f g h : Value) (w : World) : (Instr.index 85 (.agg #[a, b, c, d, e, f, g, h]) (.int .i64 1)).run Try.prog w = .ok b w := by kernel_rfl
theorem index_own2 (a b c d e f g h : Value) (w : World) : (Instr.index 85 (.agg #[a, b, c, d, e, f, g, h]) (.int .i64 2)).run Try.prog w = .ok c w := by kernel_rfl
theorem index_own3 (a b c d e f g h : Value) (w : World) : (Instr.index 85 (.agg #[a, b, c, d, e, f, g, h]) (.int .i64 3)).run Try.prog w = .ok d w := by kernel_rfl
theorem index_own4 (a b c d e f g h : Value) (w : World) : (Instr.index 85 (.agg #[a, b, c, d, e, f, g, h]) (.int .i64 4)).run Try.prog w = .ok e w := by kernel_rfl
theorem index_own5 (a b c d e f g h : Value) (w : World) : (Instr.index 85 (.agg #[a, b, c, d, e, f, g, h]) (.int .i64 5)).run Try.prog w = .ok f w := by kernel_rfl
theorem index_own6 (a b c d e f g h : Value) (w : World) : (Instr.index 85 (.agg #[a, b, c, d, e, f, g, h]) (.int .i64 6)).run Try.prog w = .ok g w := by kernel_rfl
theorem index_own7 (a b c d e f g h : Value) (w : World) : (Instr.index 85 (.agg #[a, b, c, d, e, f, g, h]) (.int .i64 7)).run Try.prog w = .ok h w := by kernel_rfl
theorem index_own (q : Nat → Value) (v : Nat) (hv : v < 8) (w : World) : (Instr.index 85 (.agg #[q 0, q 1, q 2, q 3, q 4, q 5, q 6, q 7]) (.int .i64 ((v : Int)))).run Try.prog w = .ok (q v) w := by
  match v, hv with
  | 0, _ => exact index_own0 _ _ _ _ _ _ _ _ w
  | 1, _ => exact index_own1 _ _ _ _ _ _ _ _ w
  | 2, _ => exact index_own2 _ _ _ _ _ _ _ _ w
  | 3, _ => exact index_own3 _ _ _ _ _ _ _ _ w
  | 4, _ => exact index_own4 _ _ _ _ _ _ _ _ w
  | 5, _ => exact index_own5 _ _ _ _ _ _ _ _ w
  | 6, _ => exact index_own6 _ _ _ _ _ _ _ _ w
  | 7, _ => exact index_own7 _ _ _ _ _ _ _ _ w
end Go.Proofs.Ytmkhbkkhoemkoaa
