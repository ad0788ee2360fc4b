/- The parts of a cell as one value: compared, read, in memory. -/
import Derived.Test.YtpnfppcmklcinaaKSplit
import Derived.Test.YtpnfppcmklcinaaKBase
namespace Go.Proofs.Ytpnfppcmklcinaa
set_option linter.unusedSimpArgs false
set_option linter.unusedVariables false
open Go.RowKit

theorem size_sets (Q : Nat) : ∀ (vs : List Value) (o : Nat) (w : World), (w.setCells Q o vs).heap.size = w.heap.size
  | [], _, _ => rfl
  | v :: r, o, w => by rw [World.setCells, size_sets Q r]; simp
theorem sets_cell (w : World) (Q n i : Nat) (vs : List Value) : (w.setCells Q 0 vs).cell? ⟨n, i, none⟩ = if n = Q then cellX (w.setCells Q 0 vs) n i else w.cell? ⟨n, i, none⟩ := by
  by_cases h : n = Q
  · rw [if_pos h]; rfl
  · rw [if_neg h, World.cell?_setCells_out Q vs 0 w ⟨n, i, none⟩ (fun hb _ => absurd hb h)]
theorem sets_frozen (w : World) (Q n i : Nat) (vs : List Value) : (w.setCells Q 0 vs).frozen? ⟨n, i, none⟩ = w.frozen? ⟨n, i, none⟩ := World.frozen?_setCells Q vs 0 w ⟨n, i, none⟩
/-- A store of many cells into a block's head, at the list of operations: the world behind it as one that is known by rules. -/
theorem wpList_store_new {P : Program} {ops : Array Oper} {rest : List Oper} {op : Oper} {a : Act} {w : World} {Q : Exit → Act → World → Prop} (hgd : op.guard = none) (ty : TypeId) (x y : Operand) (ho : op.op = .store ty x y)
    (b : Nat) (cells : List Value) (hx : a.eval x = .pointer (some ⟨b, 0, none⟩)) (hy : a.eval y = .agg cells.toArray)
    (ht : w.there b 0 cells.toArray.size) (hi : (P.info? ty).map (·.size) = some cells.toArray.size) (h1 : cells.toArray.all (·.oneCell') = true)
    (h : ∀ wS : World, (∀ n i, wS.cell? ⟨n, i, none⟩ = if n = b then cellX wS n i else w.cell? ⟨n, i, none⟩) → (∀ n i, wS.frozen? ⟨n, i, none⟩ = w.frozen? ⟨n, i, none⟩) → wS.heap.size = w.heap.size → Below b w wS →
      wS.rangeAt b 0 cells → (∀ n cs, n ≠ b → w.rangeAt n 0 cs → wS.rangeAt n 0 cs) → wpList P ops Q rest (a.put op.dst undef) wS) : wpList P ops Q (op :: rest) a w := by
  refine wpList_store_mid hgd ty x y ho b 0 cells.toArray hx hy ht hi h1 ?_
  simp only [List.toList_toArray]
  refine h _ (fun n i => sets_cell w b n i cells) (fun n i => sets_frozen w b n i cells) (size_sets b cells 0 w) (Below.setCells (Nat.le_refl _) cells 0 (Below.refl _ _)) (World.rangeAt_setCells_same w b 0 cells (by simpa using ht)) ?_
  intro n cs hn hr
  exact World.rangeAt_setCells_apart hr b 0 cells (.inl hn)

/-- The same as one step of a region that draws its order. -/
theorem step_store_new {P : Program} {ops : Array Oper} {o : Oper} {a : Act} {w : World} {K : Act → World → Prop} {Q : Exit → Act → World → Prop} {E : Prop}
    (hg : o.guard = none) (ty : TypeId) (x y : Operand) (ho : o.op = .store ty x y) (b : Nat) (cells : List Value) (hx : a.eval x = .pointer (some ⟨b, 0, none⟩)) (hy : a.eval y = .agg cells.toArray)
    (ht : w.there b 0 cells.toArray.size) (hi : (P.info? ty).map (·.size) = some cells.toArray.size) (h1 : cells.toArray.all (·.oneCell') = true)
    (h : ∀ wS : World, (∀ n i, wS.cell? ⟨n, i, none⟩ = if n = b then cellX wS n i else w.cell? ⟨n, i, none⟩) → (∀ n i, wS.frozen? ⟨n, i, none⟩ = w.frozen? ⟨n, i, none⟩) → wS.heap.size = w.heap.size → Below b w wS →
      wS.rangeAt b 0 cells → (∀ n cs, n ≠ b → w.rangeAt n 0 cs → wS.rangeAt n 0 cs) → K (a.put o.dst undef) wS) :
    if Region.wanted o (yielded ops a.tmps) = true then Oper.wp P o a w K Q else E := by
  have hw : Region.wanted o (yielded ops a.tmps) = true := by simp [Region.wanted, hg]
  rw [if_pos hw]
  refine wp_store_mid ty x y ho b 0 cells.toArray hx hy ht hi h1 ?_
  simp only [List.toList_toArray]
  refine h _ (fun n i => sets_cell w b n i cells) (fun n i => sets_frozen w b n i cells) (size_sets b cells 0 w) (Below.setCells (Nat.le_refl _) cells 0 (Below.refl _ _)) (World.rangeAt_setCells_same w b 0 cells (by simpa using ht)) ?_
  intro n cs hn hr
  exact World.rangeAt_setCells_apart hr b 0 cells (.inl hn)
theorem there_below {m : Nat} {w w' : World} {b o n : Nat} (h : w.there b o n) (hb : Below m w w') (hlt : b < m) : w'.there b o n := fun j hj => by
  rw [hb.cell (p := ⟨b, o + j, none⟩) hlt, hb.frozen (p := ⟨b, o + j, none⟩) hlt]
  exact h j hj

theorem there_new (w : World) : (w.alloc (.cells zero16.toArray 27)).there w.heap.size 0 16 := fun j hj => by
  rw [Nat.zero_add]
  refine ⟨?_, ?_⟩
  · rw [alloc_cell, if_neg (by omega), if_pos rfl, zero16_at j hj]; rfl
  · rw [alloc_frozen, if_neg (by omega), if_pos rfl]
theorem rangeAt_below {m : Nat} {w w' : World} {b o : Nat} {cs : List Value} (h : w.rangeAt b o cs) (hb : Below m w w') (hlt : b < m) : w'.rangeAt b o cs := fun j v hv => (hb.cell (p := ⟨b, o + j, none⟩) hlt).trans (h j v hv)
theorem rangeAt_drew' {w : World} {b o : Nat} {cs : List Value} (h : w.rangeAt b o cs) : w.drew.rangeAt b o cs := h
theorem sp16_range {w : World} {b : Nat} {a c d e : Int} (h : w.rangeAt b 0 (sp16 a c d e)) {k : Nat} (hk : k < 4) :
    w.cell? ⟨b, k * 4, none⟩ = some (.int .i64 (spl a k)) ∧ w.cell? ⟨b, k * 4 + 1, none⟩ = some (.int .i64 (spl c k)) ∧ w.cell? ⟨b, k * 4 + 2, none⟩ = some (.int .i64 (spl d k)) ∧ w.cell? ⟨b, k * 4 + 3, none⟩ = some (.int .i64 (spl e k)) := by
  have g : ∀ j, j < 16 → (sp16 a c d e)[j]? = some (.int .i64 (spl (pop a c d e (j % 4)) (j / 4))) := fun j hj => by
    simp [sp16, List.getElem?_map, List.getElem?_range hj]
  have e0 := h (k * 4) _ (g _ (by omega))
  have e1 := h (k * 4 + 1) _ (g _ (by omega))
  have e2 := h (k * 4 + 2) _ (g _ (by omega))
  have e3 := h (k * 4 + 3) _ (g _ (by omega))
  rw [Nat.zero_add] at e0 e1 e2 e3
  rw [show k * 4 % 4 = 0 by omega, show k * 4 / 4 = k by omega] at e0
  rw [show (k * 4 + 1) % 4 = 1 by omega, show (k * 4 + 1) / 4 = k by omega] at e1
  rw [show (k * 4 + 2) % 4 = 2 by omega, show (k * 4 + 2) / 4 = k by omega] at e2
  rw [show (k * 4 + 3) % 4 = 3 by omega, show (k * 4 + 3) / 4 = k by omega] at e3
  exact ⟨e0, e1, e2, e3⟩

theorem equalIn_16 (w : World) (d : Nat) (l : Array Value) (x0 x1 x2 x3 y0 y1 y2 y3 z0 z1 z2 z3 u0 u1 u2 u3 : Int) (hl : l = #[.int .i64 x0, .int .i64 x1, .int .i64 x2, .int .i64 x3, .int .i64 y0, .int .i64 y1, .int .i64 y2, .int .i64 y3, .int .i64 z0, .int .i64 z1, .int .i64 z2, .int .i64 z3, .int .i64 u0, .int .i64 u1, .int .i64 u2, .int .i64 u3]) :
    (Op.equalIn (d + 3) 27 (.agg l) (.agg l)).run Try.prog w = .ok true w := by
  have hu : Try.prog.underlying 27 = some (.array 4 23) := Try.underlying27
  have hr : List.range' 0 4 = [0, 1, 2, 3] := rfl
  subst hl
  have p0 : (part 23 #[.int .i64 x0, .int .i64 x1, .int .i64 x2, .int .i64 x3, .int .i64 y0, .int .i64 y1, .int .i64 y2, .int .i64 y3, .int .i64 z0, .int .i64 z1, .int .i64 z2, .int .i64 z3, .int .i64 u0, .int .i64 u1, .int .i64 u2, .int .i64 u3] 0).run Try.prog w = .ok (.agg #[.int .i64 x0, .int .i64 x1, .int .i64 x2, .int .i64 x3]) w := by kernel_rfl
  have p1 : (part 23 #[.int .i64 x0, .int .i64 x1, .int .i64 x2, .int .i64 x3, .int .i64 y0, .int .i64 y1, .int .i64 y2, .int .i64 y3, .int .i64 z0, .int .i64 z1, .int .i64 z2, .int .i64 z3, .int .i64 u0, .int .i64 u1, .int .i64 u2, .int .i64 u3] 4).run Try.prog w = .ok (.agg #[.int .i64 y0, .int .i64 y1, .int .i64 y2, .int .i64 y3]) w := by kernel_rfl
  have p2 : (part 23 #[.int .i64 x0, .int .i64 x1, .int .i64 x2, .int .i64 x3, .int .i64 y0, .int .i64 y1, .int .i64 y2, .int .i64 y3, .int .i64 z0, .int .i64 z1, .int .i64 z2, .int .i64 z3, .int .i64 u0, .int .i64 u1, .int .i64 u2, .int .i64 u3] 8).run Try.prog w = .ok (.agg #[.int .i64 z0, .int .i64 z1, .int .i64 z2, .int .i64 z3]) w := by kernel_rfl
  have p3 : (part 23 #[.int .i64 x0, .int .i64 x1, .int .i64 x2, .int .i64 x3, .int .i64 y0, .int .i64 y1, .int .i64 y2, .int .i64 y3, .int .i64 z0, .int .i64 z1, .int .i64 z2, .int .i64 z3, .int .i64 u0, .int .i64 u1, .int .i64 u2, .int .i64 u3] 12).run Try.prog w = .ok (.agg #[.int .i64 u0, .int .i64 u1, .int .i64 u2, .int .i64 u3]) w := by kernel_rfl
  have q := fun (a b c e : Int) => equalIn_cell w d a b c e a b c e
  unfold Op.equalIn
  simp [run_underlying hu, hr, p0, p1, p2, p3, q]
theorem equalIn_sp (w : World) (a b c e : Int) : (Op.equalIn 10000 27 (.agg (sp16 a b c e).toArray) (.agg (sp16 a b c e).toArray)).run Try.prog w = .ok true w :=
  equalIn_16 w 9997 _ _ _ _ _ _ _ _ _ _ _ _ _ _ _ _ _ rfl
theorem equalIn_z (w : World) : (Op.equalIn 10000 27 (.agg zero16.toArray) (.agg zero16.toArray)).run Try.prog w = .ok true w :=
  equalIn_16 w 9997 _ 0 0 0 0 0 0 0 0 0 0 0 0 0 0 0 0 rfl
attribute [go_sem] equalIn_sp equalIn_z

/-- The sum of the first k parts. -/
def psum (n : Int) : Nat → Int
  | 0 => 0
  | k + 1 => psum n k + spl n k
theorem psum_bd {n : Int} (h : 0 ≤ n) {k : Nat} (hk : k ≤ 4) : 0 ≤ psum n k ∧ psum n k ≤ n := by
  have e : k = 0 ∨ k = 1 ∨ k = 2 ∨ k = 3 ∨ k = 4 := by omega
  rcases e with rfl | rfl | rfl | rfl | rfl <;> simp only [psum, spl] <;> omega
theorem psum_4 (n : Int) : psum n 4 = n := by simp only [psum, spl]; omega
theorem psum_ok {a b c d : Int} (h : Ok4 a b c d) {k : Nat} (hk : k ≤ 4) : Ok4 (psum a k) (psum b k) (psum c k) (psum d k) := by
  obtain ⟨h0, h1, h2, h3, h4⟩ := h
  have := psum_bd h0 hk
  have := psum_bd h1 hk
  have := psum_bd h2 hk
  have := psum_bd h3 hk
  unfold Ok4
  omega
theorem spl_ok {a b c d : Int} (h : Ok4 a b c d) {k : Nat} (hk : k < 4) : Ok4 (spl a k) (spl b k) (spl c k) (spl d k) := by
  obtain ⟨h0, h1, h2, h3, h4⟩ := h
  have := spl_bd h0 hk
  have := spl_bd h1 hk
  have := spl_bd h2 hk
  have := spl_bd h3 hk
  unfold Ok4
  omega
end Go.Proofs.Ytpnfppcmklcinaa
