/- A shape built into a wall: by the program. -/
import Derived.Test.YtglkikdjchpmjaaDoorKShpP
import Derived.Test.YtglkikdjchpmjaaDoorKInQ
import Derived.Test.YtglkikdjchpmjaaDoorKRefCopyW
namespace Go.Proofs.YtglkikdjchpmjaaDoor
set_option linter.unusedSimpArgs false
set_option linter.unusedVariables false
open Go.RowKit Go.Shelf
attribute [local go_sem] Oper.semAt_some

/-- What stands while a shape is built in. -/
def mixK (S K : Nat → Int) (L : List Nat) (i : Nat) : Int := if i ∈ L then S i else K i
structure BuI (N : Nat) (w : World) (P gK cK gB cB : Nat) (S K B : Nat → Int) (body : Int) (gv : Value × Value × Value) (kv : Value) (lo : Nat) (pre : List (CelW N)) (X : World) : Prop where
  gri : Three X w.heap.size 24 gv.1 gv.2.1 gv.2.2
  kind : Boxed X (w.heap.size + 2) 96 kv
  bod : Boxed X (w.heap.size + 3) 3 (.int .i64 body)
  resW : Two X (w.heap.size + 4) 27 (.slice none 0 0) (.slice none 0 0)
  resE : Boxed X (w.heap.size + 5) 35 (.int .i64 0)
  more : Two X P 27 (.slice (some ⟨gK, 0, none⟩) N cK) (.slice (some ⟨gB, 0, none⟩) N cB)
  rK : RowI X gK N (mixK S K (pre.map (·.1)))
  rB : RowI X gB N (mixK (fun _ => body) B (pre.map (·.1)))
  ok : ∀ i ∈ pre.map (·.1), B i = 0 ∨ B i = body
  below : Below w.heap.size w X
  size : lo ≤ X.heap.size
/-- What stands where another body is met. -/
structure BuX (N : Nat) (w : World) (B : Nat → Int) (body : Int) (c : Code) (pre : List (CelW N)) (X : World) : Prop where
  ret : c = .ret
  ex : ∃ i ∈ pre.map (·.1), ¬ (B i = 0 ∨ B i = body)
  resW : Two X (w.heap.size + 4) 27 (.slice none 0 0) (.slice none 0 0)
  resE : Boxed X (w.heap.size + 5) 35 (.int .i64 11)
  below : Below w.heap.size w X
theorem rowI_own {X Y : World} {row : Option Nat} {b n : Nat} {K : Nat → Int} (h : RowI X b n K) (hl : ∃ o : Obj, X.heap[b]? = some o ∧ o.isCells = true) (hg : X.grownBy Y row) (hr : ∀ r, row = some r → ∃ o : Obj, X.heap[r]? = some o ∧ o.isCells = false) : RowI Y b n K := by
  obtain ⟨o, ho, hc⟩ := hl
  have hne : some b ≠ row := fun e => by
    obtain ⟨o', ho', hc'⟩ := hr b e.symm
    rw [ho] at ho'
    cases ho'
    rw [hc] at hc'
    cases hc'
  have hb : Y.heap[b]? = X.heap[b]? := hg.block b h.1 hne
  refine ⟨Nat.lt_of_lt_of_le h.1 hg.size, fun j hj => ?_⟩
  obtain ⟨h1, h2⟩ := h.2 j hj
  refine ⟨?_, ?_⟩
  · rw [← h1]; simp only [World.cell?, hb]
  · rw [← h2]; simp only [World.frozen?, hb]
theorem rowI_obj {X : World} {b n : Nat} {K : Nat → Int} (h : RowI X b n K) (hn : 0 < n) : ∃ o : Obj, X.heap[b]? = some o ∧ o.isCells = true := by
  have h1 := (h.2 0 hn).1
  obtain ⟨o, ho⟩ : ∃ o, X.heap[b]? = some o := ⟨_, Array.getElem?_eq_getElem h.1⟩
  refine ⟨o, ho, ?_⟩
  simp only [World.cell?, ho] at h1
  cases o <;> first | rfl | cases h1
theorem three_own {X Y : World} {row : Option Nat} {B : Nat} {t : TypeId} {a b c : Value} (h : Three X B t a b c) (hg : X.grownBy Y row) (hr : ∀ r, row = some r → ∃ o : Obj, X.heap[r]? = some o ∧ o.isCells = false) : Three Y B t a b c :=
  (hg.block B h.lt (fun e' => by obtain ⟨o, ho, hc⟩ := hr B e'.symm; rw [show X.heap[B]? = _ from h] at ho; cases ho; cases hc)).trans h
theorem buI_own {N : Nat} {w : World} {P gK cK gB cB : Nat} {S K B : Nat → Int} {body : Int} {gv : Value × Value × Value} {kv : Value} {lo Bd : Nat} (hN : 0 < N) (hB : w.heap.size ≤ Bd) : OwnFrom Bd (BuI N w P gK cK gB cB S K B body gv kv lo) := fun s X Y row hs hg hr => by
  have hr' : ∀ r, row = some r → ∃ o : Obj, X.heap[r]? = some o ∧ o.isCells = false := fun r e => (hr r e).2
  exact ⟨three_own hs.gri hg hr', boxed_own _ _ (fun (_ : Unit) => kv) () X Y row hs.kind hg hr', boxed_own _ _ (fun (_ : Unit) => .int .i64 body) () X Y row hs.bod hg hr',
    two_own (β := Unit) _ _ (fun _ => .slice none 0 0) (fun _ => .slice none 0 0) () X Y row hs.resW hg hr', boxed_own _ _ (fun (_ : Unit) => .int .i64 0) () X Y row hs.resE hg hr',
    two_own (β := Unit) _ _ (fun _ => .slice (some ⟨gK, 0, none⟩) N cK) (fun _ => .slice (some ⟨gB, 0, none⟩) N cB) () X Y row hs.more hg hr',
    rowI_own hs.rK (rowI_obj hs.rK hN) hg hr', rowI_own hs.rB (rowI_obj hs.rB hN) hg hr', hs.ok, ownFrom_below (β := Unit) (Nat.le_refl _) hB () X Y row hs.below hg hr, Nat.le_trans hs.size hg.size⟩
theorem buX_own {N : Nat} {w : World} {B : Nat → Int} {body : Int} {c : Code} {Bd : Nat} (hB : w.heap.size ≤ Bd) : OwnFrom Bd (BuX N w B body c) := fun s X Y row hs hg hr => by
  have hr' : ∀ r, row = some r → ∃ o : Obj, X.heap[r]? = some o ∧ o.isCells = false := fun r e => (hr r e).2
  exact ⟨hs.ret, hs.ex, two_own (β := Unit) _ _ (fun _ => .slice none 0 0) (fun _ => .slice none 0 0) () X Y row hs.resW hg hr', boxed_own _ _ (fun (_ : Unit) => .int .i64 11) () X Y row hs.resE hg hr', ownFrom_below (β := Unit) (Nat.le_refl _) hB () X Y row hs.below hg hr⟩

theorem six_blocks (w : World) (t0 t1 t2 t3 t4 t5 : TypeId) (a b c d e f g h i j : Value) :
    Three ((((((w.alloc (.cells #[a, b, c] t0)).alloc (.cells #[d, e] t1)).alloc (.cells #[f] t2)).alloc (.cells #[g] t3)).alloc (.cells #[h, i] t4)).alloc (.cells #[j] t5)) w.heap.size t0 a b c ∧
    Boxed ((((((w.alloc (.cells #[a, b, c] t0)).alloc (.cells #[d, e] t1)).alloc (.cells #[f] t2)).alloc (.cells #[g] t3)).alloc (.cells #[h, i] t4)).alloc (.cells #[j] t5)) (w.heap.size + 2) t2 f ∧
    Boxed ((((((w.alloc (.cells #[a, b, c] t0)).alloc (.cells #[d, e] t1)).alloc (.cells #[f] t2)).alloc (.cells #[g] t3)).alloc (.cells #[h, i] t4)).alloc (.cells #[j] t5)) (w.heap.size + 3) t3 g ∧
    Two ((((((w.alloc (.cells #[a, b, c] t0)).alloc (.cells #[d, e] t1)).alloc (.cells #[f] t2)).alloc (.cells #[g] t3)).alloc (.cells #[h, i] t4)).alloc (.cells #[j] t5)) (w.heap.size + 4) t4 h i ∧
    Boxed ((((((w.alloc (.cells #[a, b, c] t0)).alloc (.cells #[d, e] t1)).alloc (.cells #[f] t2)).alloc (.cells #[g] t3)).alloc (.cells #[h, i] t4)).alloc (.cells #[j] t5)) (w.heap.size + 5) t5 j ∧
    Below w.heap.size w ((((((w.alloc (.cells #[a, b, c] t0)).alloc (.cells #[d, e] t1)).alloc (.cells #[f] t2)).alloc (.cells #[g] t3)).alloc (.cells #[h, i] t4)).alloc (.cells #[j] t5)) ∧
    ((((((w.alloc (.cells #[a, b, c] t0)).alloc (.cells #[d, e] t1)).alloc (.cells #[f] t2)).alloc (.cells #[g] t3)).alloc (.cells #[h, i] t4)).alloc (.cells #[j] t5)).heap.size = w.heap.size + 6 := by
  have g0 : ∀ (X : World) (k : Nat) (o o' : Obj), X.heap[k]? = some o → (X.alloc o').heap[k]? = some o := fun X k o o' h => (Below.heap_alloc _ _ _ (Array.getElem?_eq_some_iff.1 h).1).trans h
  have n0 : ∀ (X : World) (k : Nat) (o : Obj), X.heap.size = k → (X.alloc o).heap[k]? = some o := fun X k o h => by rw [← h]; exact World.alloc_heap_new X _
  refine ⟨?_, ?_, ?_, ?_, ?_, ?_, by simp⟩
  · exact g0 _ _ _ _ (g0 _ _ _ _ (g0 _ _ _ _ (g0 _ _ _ _ (g0 _ _ _ _ (n0 _ _ _ rfl)))))
  · exact g0 _ _ _ _ (g0 _ _ _ _ (g0 _ _ _ _ (n0 _ _ _ (by simp))))
  · exact g0 _ _ _ _ (g0 _ _ _ _ (n0 _ _ _ (by simp)))
  · exact g0 _ _ _ _ (n0 _ _ _ (by simp))
  · exact n0 _ _ _ (by simp)
  · (repeat' (first | (with_reducible exact Below.refl _ _) | (with_reducible refine Below.setCell ?_ (by first | omega | (simp; done) | (simp; omega)) _) | (with_reducible refine Below.alloc ?_ (by first | omega | (simp; done) | (simp; omega)) _) | (with_reducible refine Below.drew ?_) | (with_reducible refine below_drewN ?_ _) | (with_reducible refine Below.trans ?_ (Below.mono (by assumption) (by first | omega | (simp; done) | (simp; omega))))))

/-- The kinds that a function tells, cell by cell. -/
def kdS (W : Nat) (kd : Int → Int → Int) (i : Nat) : Int := kd ((i % W : Nat) : Int) ((i / W : Nat) : Int)
theorem mixK_new {S K : Nat → Int} {L : List Nat} {i j : Nat} : mixK S K (L ++ [i]) j = if j = i then S i else mixK S K L j := by
  unfold mixK
  by_cases e : j = i
  · subst e; simp
  · simp [e]
theorem two_ex {Y : World} {gK gB i : Nat} {v1 v2 : Value} : Ex (fun k => k = gK ∨ k = gB) Y ((Y.setCell ⟨gK, i, none⟩ v1).setCell ⟨gB, i, none⟩ v2) := by
  refine Ex.setCell (Ex.setCell (Ex.refl _ _) ?_ _) ?_ _
  · exact Or.inl rfl
  · exact Or.inr rfl
theorem buI_step {N : Nat} {w : World} {P gK cK gB cB : Nat} {S K B : Nat → Int} {body : Int} {gv : Value × Value × Value} {kv : Value} {lo : Nat} {pre : List (CelW N)} {X Y : World} {i : Nat} (hi : i < N) (h : BuI N w P gK cK gB cB S K B body gv kv lo pre X) (hb : Below X.heap.size X Y)
    (hf : B i = 0 ∨ B i = body) (n0 : gK ≠ gB) (lK : w.heap.size + 6 ≤ gK) (lB : w.heap.size + 6 ≤ gB) (nK : gK ≠ P) (nB : gB ≠ P) (s : Int) (hs : S i = s) :
    BuI N w P gK cK gB cB S K B body gv kv lo (pre ++ [⟨i, hi⟩]) ((Y.setCell ⟨gK, i, none⟩ (.int .i64 s)).setCell ⟨gB, i, none⟩ (.int .i64 body)) := by
  subst hs
  have blk : ∀ k, k < X.heap.size → k ≠ gK → k ≠ gB → ((Y.setCell ⟨gK, i, none⟩ (.int .i64 (S i))).setCell ⟨gB, i, none⟩ (.int .i64 body)).heap[k]? = X.heap[k]? := fun k h1 h2 h3 =>
    ((two_ex (Y := Y) (gK := gK) (gB := gB) (i := i) (v1 := .int .i64 (S i)) (v2 := .int .i64 body)).block k (Nat.lt_of_lt_of_le h1 hb.size) (fun hh => by rcases hh with hh | hh <;> omega)).trans (hb.block k h1)
  have em : (pre ++ [(⟨i, hi⟩ : CelW N)]).map (·.1) = pre.map (·.1) ++ [i] := by simp
  refine ⟨(blk _ h.gri.lt (by omega) (by omega)).trans h.gri, (blk _ h.kind.lt (by omega) (by omega)).trans h.kind, (blk _ h.bod.lt (by omega) (by omega)).trans h.bod, (blk _ h.resW.lt (by omega) (by omega)).trans h.resW, (blk _ h.resE.lt (by omega) (by omega)).trans h.resE, (blk _ h.more.lt (by omega) (by omega)).trans h.more, ?_, ?_, ?_, ?_, ?_⟩
  · rw [em]
    exact ((h.rK.below hb h.rK.1).setHere hi (fun j => mixK_new)).setOther (Ne.symm n0)
  · rw [em]
    exact ((h.rB.below hb h.rB.1).setOther n0).setHere hi (fun j => mixK_new)
  · rw [em]
    intro j hj
    rcases List.mem_append.1 hj with hj | hj
    · exact h.ok j hj
    · simp at hj
      subst hj
      exact hf
  · exact ((h.below.trans (hb.mono h.below.size)).setCell (p := ⟨gK, i, none⟩) (show w.heap.size ≤ gK by omega) _).setCell (p := ⟨gB, i, none⟩) (show w.heap.size ≤ gB by omega) _
  · have := h.size
    have := hb.size
    simp [World.setCell]
    omega
theorem buX_end {N : Nat} {w : World} {P gK cK gB cB : Nat} {S K B : Nat → Int} {body : Int} {gv : Value × Value × Value} {kv : Value} {lo : Nat} {pre : List (CelW N)} {X Y : World} {i : Nat} (hi : i < N) (h : BuI N w P gK cK gB cB S K B body gv kv lo pre X) (hb : Below X.heap.size X Y) (hf : ¬ (B i = 0 ∨ B i = body)) :
    BuX N w B body .ret (pre ++ [⟨i, hi⟩]) (((Y.setCell ⟨w.heap.size + 1 + 1 + 1 + 1, 0, none⟩ (.slice none 0 0)).setCell ⟨w.heap.size + 1 + 1 + 1 + 1, 1, none⟩ (.slice none 0 0)).setCell ⟨w.heap.size + 1 + 1 + 1 + 1 + 1, 0, none⟩ (.int .i64 11)) := by
  have r4 := (h.resW.below hb h.resW.lt).set2 (.slice none 0 0) (.slice none 0 0)
  have x : Ex (fun k => k = w.heap.size + 4) Y ((Y.setCell ⟨w.heap.size + 4, 0, none⟩ (.slice none 0 0)).setCell ⟨w.heap.size + 4, 1, none⟩ (.slice none 0 0)) := by refine Ex.setCell (Ex.setCell (Ex.refl _ _) ?_ _) ?_ _ <;> rfl
  have r5 : Boxed ((Y.setCell ⟨w.heap.size + 4, 0, none⟩ (.slice none 0 0)).setCell ⟨w.heap.size + 4, 1, none⟩ (.slice none 0 0)) (w.heap.size + 5) 35 (.int .i64 0) :=
    (x.block _ (Nat.lt_of_lt_of_le h.resE.lt hb.size) (show ¬ (w.heap.size + 5 = w.heap.size + 4) by omega)).trans ((hb.block _ h.resE.lt).trans h.resE)
  refine ⟨rfl, ⟨i, by simp, hf⟩, ?_, ?_, ?_⟩
  · exact r4.other (by omega) _ _
  · exact r5.set _
  · exact (((h.below.trans (hb.mono h.below.size)).setCell (p := ⟨w.heap.size + 4, 0, none⟩) (show w.heap.size ≤ w.heap.size + 4 by omega) _).setCell (p := ⟨w.heap.size + 4, 1, none⟩) (show w.heap.size ≤ w.heap.size + 4 by omega) _).setCell (p := ⟨w.heap.size + 5, 0, none⟩) (show w.heap.size ≤ w.heap.size + 5 by omega) _

theorem ownN_in {B : Nat → Int} {b : Int} {k i : Nat} (hi : i < k) (h : B i = b) : i ∈ ownN B b k := by
  induction k with
  | zero => omega
  | succ k ih =>
    simp only [ownN]
    by_cases e : i = k
    · subst e
      rw [if_pos h]
      simp
    · have := ih (by omega)
      split
      · exact List.mem_append.2 (.inl this)
      · exact this
theorem rowI_congr {w : World} {b n : Nat} {K K' : Nat → Int} (h : RowI w b n K) (e : ∀ j, j < n → K j = K' j) : RowI w b n K' := ⟨h.1, fun j hj => by rw [← e j hj]; exact h.2 j hj⟩
theorem mem_inN {W : Nat} {f : Int → Int → Bool} {n i : Nat} (hi : i < n) : i ∈ ownN (inN W f) 1 n ↔ f ((i % W : Nat) : Int) ((i / W : Nat) : Int) = true := by
  refine ⟨fun h => ?_, fun h => ?_⟩
  · have h2 := (ownN_mem h).2
    unfold inN at h2
    by_cases e : f ((i % W : Nat) : Int) ((i / W : Nat) : Int) = true
    · exact e
    · rw [if_neg e] at h2
      omega
  · exact ownN_in hi (by unfold inN; rw [if_pos h])
theorem mix_put {W n : Nat} {f : Int → Int → Bool} {kd : Int → Int → Int} {K : Nat → Int} (h0 : ∀ x y, kd x y ≠ 0) {j : Nat} (hj : j < n) : mixK (kdS W kd) K (ownN (inN W f) 1 n) j = putK (shpS W f kd) K n j := by
  unfold mixK putK
  by_cases h : f ((j % W : Nat) : Int) ((j / W : Nat) : Int) = true
  · rw [if_pos ((mem_inN hj).2 h), if_pos ⟨hj, (shpS_ne h0 j).2 h⟩]
    unfold kdS shpS
    rw [if_pos h]
  · rw [if_neg (fun hm => h ((mem_inN hj).1 hm)), if_neg (fun hm => h ((shpS_ne h0 j).1 hm.2))]
theorem mix_putB {W n : Nat} {f : Int → Int → Bool} {kd : Int → Int → Int} {B : Nat → Int} {b : Int} (h0 : ∀ x y, kd x y ≠ 0) {j : Nat} (hj : j < n) : mixK (fun _ => b) B (ownN (inN W f) 1 n) j = putB (shpS W f kd) B b n j := by
  unfold mixK putB
  by_cases h : f ((j % W : Nat) : Int) ((j / W : Nat) : Int) = true
  · rw [if_pos ((mem_inN hj).2 h), if_pos ⟨hj, (shpS_ne h0 j).2 h⟩]
  · rw [if_neg (fun hm => h ((mem_inN hj).1 hm)), if_neg (fun hm => h ((shpS_ne h0 j).1 hm.2))]

set_option maxRecDepth 100000 in
set_option maxHeartbeats 16000000 in
theorem built_in (W H n cap : Nat) (ao : Option Addr) (bk ok ck bb ob cb : Nat) (K B : Nat → Int) (body : Int) (fn0 : Nat) (cs : Array Value) (f : Int → Int → Bool) (fn1 : Nat) (cs1 : Array Value) (kd : Int → Int → Int) (w : World) (s : Sides W H n)
    (lbk : bk < w.heap.size) (hNK : NumsAt w bk ok n K) (lbb : bb < w.heap.size) (hNB : NumsAt w bb ob n B)
    (eF : ∀ args w, (callFunc fn0 args).run Tryd.prog w = .ok (.enter fn0 args) w) (eK : ∀ args w, (callFunc fn1 args).run Tryd.prog w = .ok (.enter fn1 args) w)
    (hF : ∀ wx (x y : Nat), KB (fun k => k < w.heap.size) w wx → x < W → y < H → Calls Tryd.prog fn0 (#[.agg #[.int .i64 ((x : Int)), .int .i64 ((y : Int))]] ++ cs) wx fun e w' => e = .returned (.bool (f x y)) ∧ Below wx.heap.size wx w')
    (hkd0 : ∀ x y, kd x y ≠ 0)
    (hKd : ∀ wx (x y : Nat), Below w.heap.size w wx → x < W → y < H → Calls Tryd.prog fn1 (#[.agg #[.int .i64 ((x : Int)), .int .i64 ((y : Int))]] ++ cs1) wx fun e w' => e = .returned (.int .i64 (kd x y)) ∧ Below wx.heap.size wx w') :
    CallsIn Fence.wide 9 Tryd.prog 68 #[.agg #[.int .i64 W, .int .i64 H, .slice (ao) n cap], .agg #[.slice (some ⟨bk, ok, none⟩) n ck, .slice (some ⟨bb, ob, none⟩) n cb], .func (.func fn0) #[] cs, .func (.func fn1) #[] cs1, .int .i64 body] w (PutR n (shpS W f kd) K B body w) := by
  have hn1 := s.n1
  have h1 : 1 ≤ n := by rw [s.n0]; exact Nat.mul_le_mul s.w0 s.h0
  have CC := Lib.hid (fun wx (hb : Below w.heap.size w wx) => wcopied_any n bk ok ck K bb ob cb B wx h1 (by omega) (Nat.lt_of_lt_of_le lbk hb.size) (Nat.lt_of_lt_of_le lbb hb.size) (hNK.below hb lbk) (hNB.below hb lbb))
  have HF := Lib.hid hF
  have HKD := Lib.hid hKd
  have HS := Lib.hid s
  clear hNK hNB hF hKd s
  refine callsIn_of_wp_marks Tryd.func68 rfl trivial ?_ rfl
  simp only [Tryd.ntmps68, List.size_toArray, List.length_cons, List.length_nil, Nat.reduceAdd, Nat.reduceSub, Array.replicate_succ, Array.replicate_zero, List.push_toArray, List.append_toArray, List.nil_append, List.cons_append]
  gi_wp2_with fail
  obtain ⟨u0, u2, u3, u4, u5, ub, us⟩ := six_blocks w 24 27 96 3 27 35 (.int .i64 W) (.int .i64 H) (.slice ao n cap) (.slice (some ⟨bk, ok, none⟩) n ck) (.slice (some ⟨bb, ob, none⟩) n cb) (.func (.func fn1) #[] cs1) (.int .i64 body) (.slice none 0 0) (.slice none 0 0) (.int .i64 0)
  obtain ⟨w6, hw6⟩ : ∃ w6, w6 = ((((((w.alloc (.cells #[.int .i64 W, .int .i64 H, .slice ao n cap] 24)).alloc (.cells #[.slice (some ⟨bk, ok, none⟩) n ck, .slice (some ⟨bb, ob, none⟩) n cb] 27)).alloc (.cells #[.func (.func fn1) #[] cs1] 96)).alloc (.cells #[.int .i64 body] 3)).alloc (.cells #[.slice none 0 0, .slice none 0 0] 27)).alloc (.cells #[.int .i64 0] 35)) := ⟨_, rfl⟩
  rw [← hw6] at u0 u2 u3 u4 u5 ub us ⊢
  clear hw6
  refine ⟨trivial, ?_⟩
  refine (callsIn_wide.2 (CC.out w6 ub)).mono ?_
  rintro e wA ⟨gK, gB, kK, kB, rfl, hO, lo1, lo2, hA⟩
  obtain ⟨hrK, hrB, hne⟩ := hO.out
  have hsA := hA.size
  have U0 : Three wA w.heap.size 24 (.int .i64 W) (.int .i64 H) (.slice ao n cap) := (hA.block w.heap.size (by omega)).trans u0
  have q0 := U0.c0
  have q1 := U0.c1
  have q2 := U0.c2
  have lU := U0.lt
  gi_wp2_with (refine ⟨trivial, ?_⟩; gi_at_call 138; (with_reducible refine (callsIn_wide.2 (ptsF_in _ _ _ _ _ _ _ _)).mono ?_); rintro e wD ⟨rfl, rfl⟩)
  have lP : wA.heap.size < (wA.alloc (.cells #[.slice (some ⟨gK, 0, none⟩) n kK, .slice (some ⟨gB, 0, none⟩) n kB] 27)).heap.size := by simp
  have v1 := ((Two.new wA 27 (.slice (some ⟨gK, 0, none⟩) n kK) (.slice (some ⟨gB, 0, none⟩) n kB)).alloc (.cells #[.int .i64 W, .int .i64 H, .slice ao n cap] 24)).alloc (.cells #[.func (.func fn0) #[] cs] 94)
  have v2 := Three.new2 (wA.alloc (.cells #[.slice (some ⟨gK, 0, none⟩) n kK, .slice (some ⟨gB, 0, none⟩) n kB] 27)) 24 (.int .i64 W) (.int .i64 H) (.slice ao n cap) (.cells #[.func (.func fn0) #[] cs] 94)
  have v3 := Boxed.new ((wA.alloc (.cells #[.slice (some ⟨gK, 0, none⟩) n kK, .slice (some ⟨gB, 0, none⟩) n kB] 27)).alloc (.cells #[.int .i64 W, .int .i64 H, .slice ao n cap] 24)) 94 (.func (.func fn0) #[] cs)
  simp only [World.size_alloc] at v1 v2 v3
  have hb4 : Below wA.heap.size wA (((wA.alloc (.cells #[.slice (some ⟨gK, 0, none⟩) n kK, .slice (some ⟨gB, 0, none⟩) n kB] 27)).alloc (.cells #[.int .i64 W, .int .i64 H, .slice ao n cap] 24)).alloc (.cells #[.func (.func fn0) #[] cs] 94)) := by (repeat' (first | (with_reducible exact Below.refl _ _) | (with_reducible refine Below.setCell ?_ (by first | omega | (simp; done) | (simp; omega)) _) | (with_reducible refine Below.alloc ?_ (by first | omega | (simp; done) | (simp; omega)) _) | (with_reducible refine Below.drew ?_) | (with_reducible refine below_drewN ?_ _) | (with_reducible refine Below.trans ?_ (Below.mono (by assumption) (by first | omega | (simp; done) | (simp; omega))))))
  have hs4 : (((wA.alloc (.cells #[.slice (some ⟨gK, 0, none⟩) n kK, .slice (some ⟨gB, 0, none⟩) n kB] 27)).alloc (.cells #[.int .i64 W, .int .i64 H, .slice ao n cap] 24)).alloc (.cells #[.func (.func fn0) #[] cs] 94)).heap.size = wA.heap.size + 3 := by simp
  obtain ⟨w4, hw4⟩ : ∃ w4, w4 = (((wA.alloc (.cells #[.slice (some ⟨gK, 0, none⟩) n kK, .slice (some ⟨gB, 0, none⟩) n kB] 27)).alloc (.cells #[.int .i64 W, .int .i64 H, .slice ao n cap] 24)).alloc (.cells #[.func (.func fn0) #[] cs] 94)) := ⟨_, rfl⟩
  rw [← hw4] at v1 v2 v3 hb4 hs4 ⊢
  clear hw4 lP
  have z6 : ∀ k, k < w6.heap.size → w4.heap[k]? = w6.heap[k]? := fun k hk => (hb4.block k (by omega)).trans (hA.block k hk)
  have lgK := hrK.1
  have lgB := hrB.1
  have i0 : BuI n w wA.heap.size gK kK gB kB (kdS W kd) K B body (.int .i64 W, .int .i64 H, .slice ao n cap) (.func (.func fn1) #[] cs1) (wA.heap.size + 3) [] w4 := by
    refine ⟨(z6 _ u0.lt).trans u0, (z6 _ u2.lt).trans u2, (z6 _ u3.lt).trans u3, (z6 _ u4.lt).trans u4, (z6 _ u5.lt).trans u5, v1, ?_, ?_, (fun i hi => by simp at hi), ub.trans ((hA.trans (hb4.mono hA.size)).mono (by omega)), by omega⟩
    · have q := hrK.below hb4 lgK
      exact ⟨q.1, fun j hj => by unfold mixK; simp only [List.map_nil, List.not_mem_nil, ↓reduceIte]; exact q.2 j hj⟩
    · have q := hrB.below hb4 lgB
      exact ⟨q.1, fun j hj => by unfold mixK; simp only [List.map_nil, List.not_mem_nil, ↓reduceIte]; exact q.2 j hj⟩
  have HW4 : ∀ k, k < w.heap.size → w4.heap[k]? = w.heap[k]? := fun k hk => i0.below.block k hk
  have hsz4 := i0.below.size
  have hPw : w.heap.size + 6 ≤ wA.heap.size := by omega
  have HZ : ∀ wx, KB (fun k => k < wA.heap.size) w4 wx → KB (fun k => k < w.heap.size) w wx := fun wx hk => ⟨Nat.le_trans hsz4 hk.1, fun k hk2 => (hk.2 k (by omega)).trans (HW4 k hk2)⟩
  clear q0 q1 q2 lU U0 z6 u0 u2 u3 u4 u5 hA hb4 v1 hrK hrB CC
  have HI0 := Lib.hid i0
  have HNE := Lib.hid hne
  refine wpIn_rangeFunc_ownH (α := CelW n) rfl (by omega) (gf := 179) (lb := #[.pointer (some ⟨wA.heap.size + 1, 0, none⟩), .pointer (some ⟨wA.heap.size + 1 + 1, 0, none⟩)]) rfl trivial (enters_of Tryd.func179 (by kernel_rfl) rfl)
    (pts_stops 8 (by omega) (wA.heap.size + 1) (wA.heap.size + 1 + 1) W H n fn0 cs f ao cap (fun k => k < w.heap.size ∨ k = wA.heap.size + 1 ∨ k = wA.heap.size + 1 + 1) (.inr (.inl rfl)) (.inr (.inr rfl)) HS.out.n0 hn1 HS.out.w0 HS.out.w1 w4 (fun k hk => by omega) eF
      (fun wx x y hk hx hy => HF.out wx x y ⟨Nat.le_trans hsz4 hk.1, fun k hk2 => (hk.2 k (.inl hk2)).trans (HW4 k hk2)⟩ hx hy) v2.c0 v2.c2 v3.cell)
    (fun h g => KB.trans h g) (kb_put (fun k hk => by omega)) (Below.refl _ _) (fun _ => rfl)
    (BuI n w wA.heap.size gK kK gB kB (kdS W kd) K B body (.int .i64 W, .int .i64 H, .slice ao n cap) (.func (.func fn1) #[] cs1) (wA.heap.size + 3)) (BuX n w B body) (buI_own (by omega) (by omega)) (fun c => buX_own (by omega))
    i0
    (fun x a' X => ∃ Z, wA.heap.size + 3 ≤ Z ∧ Two X Z 31 (.int .i64 ((x.1 : Int) % (W : Int))) (.int .i64 ((x.1 : Int) / (W : Int))) ∧ a' = { tmps := #[.agg #[.int .i64 W, .int .i64 H, .slice (ao) n cap], .agg #[.slice (some ⟨bk, ok, none⟩) n ck, .slice (some ⟨bb, ob, none⟩) n cb], .func (.func fn0) #[] cs, .func (.func fn1) #[] cs1, .int .i64 body, .pointer (some ⟨w.heap.size, 0, none⟩), .pointer (some ⟨w.heap.size + 1, 0, none⟩), undef, .pointer (some ⟨w.heap.size + 1 + 1, 0, none⟩), .pointer (some ⟨w.heap.size + 1 + 1 + 1, 0, none⟩), .pointer (some ⟨w.heap.size + 1 + 1 + 1 + 1, 0, none⟩), .pointer (some ⟨w.heap.size + 1 + 1 + 1 + 1 + 1, 0, none⟩), .pointer (some ⟨wA.heap.size, 0, none⟩), .pointer (some ⟨Z, 0, none⟩), undef, .agg #[.slice (some ⟨bk, ok, none⟩) n ck, .slice (some ⟨bb, ob, none⟩) n cb], .agg #[.slice (some ⟨gK, 0, none⟩) n kK, .slice (some ⟨gB, 0, none⟩) n kB], .agg #[.int .i64 W, .int .i64 H, .slice (ao) n cap], .func (.func fn0) #[] cs, .func (.func 179) #[] #[.pointer (some ⟨wA.heap.size + 1, 0, none⟩), .pointer (some ⟨wA.heap.size + 1 + 1, 0, none⟩)], .agg #[.int .i64 ((x.1 : Int) % (W : Int)), .int .i64 ((x.1 : Int) / (W : Int))], undef, undef, undef, undef, undef, undef, undef, undef, undef, undef, undef, undef, undef, undef, undef, undef, undef, undef, undef, undef, undef, undef, undef, undef, undef, undef, undef, undef, undef, undef, undef, undef], defers := [] })
    (fun x a' _ X Y row hs hg hr => by
      obtain ⟨Z, h1, h2, h3⟩ := hs
      exact ⟨Z, h1, two_own (β := Unit) _ _ (fun _ => .int .i64 ((x.1 : Int) % (W : Int))) (fun _ => .int .i64 ((x.1 : Int) / (W : Int))) () X Y row h2 hg (fun r e => (hr r e).2), h3⟩)
    ?assign ?body ?done ?stop
  case assign =>
    rintro l pre x X K' hI hK'
    gi_wp2
    have hbZ : Below X.heap.size X (X.alloc (.cells #[.int .i64 ((x.1 : Int) % (W : Int)), .int .i64 ((x.1 : Int) / (W : Int))] 31)) := (Below.refl _ _).alloc (Nat.le_refl _) _
    exact hK' _ _ (keepsFrom_of_below hbZ) (KB.of_below hbZ (fun k hk => by have := hI.size; omega)) ((buI_own (Bd := w4.heap.size) (by omega) (by omega)).alloc _ hI) ⟨X.heap.size, hI.size, Two.new X _ _ _, rfl⟩
  case body =>
    rintro l pre x a' X _ _ hI ⟨Z, lZ, hZ, rfl⟩ hlen
    have hbX := hI.below
    have hsX := hI.size
    obtain ⟨i, hi⟩ := x
    obtain ⟨x, hx⟩ : ∃ x, x = i % W := ⟨_, rfl⟩
    obtain ⟨y, hy⟩ : ∃ y, y = i / W := ⟨_, rfl⟩
    have ex : ((⟨i, hi⟩ : CelW n).1 : Int) % (W : Int) = (x : Int) := by rw [hx]; rfl
    have ey : ((⟨i, hi⟩ : CelW n).1 : Int) / (W : Int) = (y : Int) := by rw [hy]; rfl
    rw [ex, ey] at hZ
    simp only [ex, ey]
    have w1' := HS.out.w1
    have w0' := HS.out.w0
    have hxl : x < W := by rw [hx]; exact Nat.mod_lt _ (by omega)
    have hyl : y < H := by rw [hy]; have := HS.out.n0; exact Nat.div_lt_of_lt_mul (by omega)
    have hy5 : y ≤ i := by rw [hy]; exact Nat.div_le_self _ _
    have hxy : (x : Int) + (W : Int) * (y : Int) = (i : Int) := by
      rw [hx, hy]
      have := Nat.mod_add_div i W
      omega
    have IX := Lib.hid (fun wx => windex_any W H ao n cap (x : Int) (y : Int) i wx (by omega) (by omega) (by omega) (by omega) (by omega) (by omega) hxy (by omega))
    have hSi : kdS W kd i = kd x y := by unfold kdS; rw [← hx, ← hy]
    have g0 := hI.gri.c0
    have g1 := hI.gri.c1
    have g2 := hI.gri.c2
    have lg := hI.gri.lt
    have z0 := hZ.c0
    have z1 := hZ.c1
    have lZX := hZ.lt
    have HI := Lib.hid hI
    have HZ2 := Lib.hid hZ
    have HX := Lib.hid hx
    have HY := Lib.hid hy
    clear hI hZ hx hy ex ey hxy i0 HI0 v2 v3
    gi_wp2_with (refine ⟨trivial, ?_⟩; gi_at_call 86; (with_reducible refine (CallsIn.inRound l (callsIn_wide.2 (IX.out _))).mono ?_); rintro e w5 ⟨rfl, hb5⟩)
    have hs5 := hb5.size
    have lmP := HI.out.more.lt
    have lgK5 := HI.out.rK.1
    have lgB5 := HI.out.rB.1
    have lbd := HI.out.bod.lt
    have lkd := HI.out.kind.lt
    have m0 := keep_cell hb5 lmP HI.out.more.c0
    have m1 := keep_cell hb5 lmP HI.out.more.c1
    have dB := keep_cell hb5 lgB5 (HI.out.rB.2 i hi).1
    have fB := (hb5.frozen (p := ⟨gB, i, none⟩) lgB5).trans (HI.out.rB.2 i hi).2
    have dK := keep_cell hb5 lgK5 (HI.out.rK.2 i hi).1
    have fK := (hb5.frozen (p := ⟨gK, i, none⟩) lgK5).trans (HI.out.rK.2 i hi).2
    have cb5 := keep_cell hb5 lbd HI.out.bod.cell
    have ck5 := keep_cell hb5 lkd HI.out.kind.cell
    have r0 := keep_cell hb5 HI.out.resW.lt HI.out.resW.c0
    have r1 := keep_cell hb5 HI.out.resW.lt HI.out.resW.c1
    have rf0 := (hb5.frozen (p := ⟨w.heap.size + 4, 0, none⟩) HI.out.resW.lt).trans (HI.out.resW.f0 0)
    have rf1 := (hb5.frozen (p := ⟨w.heap.size + 4, 1, none⟩) HI.out.resW.lt).trans (HI.out.resW.f0 1)
    have re0 := keep_cell hb5 HI.out.resE.lt HI.out.resE.cell
    have ref0 := (hb5.frozen (p := ⟨w.heap.size + 5, 0, none⟩) HI.out.resE.lt).trans HI.out.resE.frozen
    have zz0 := keep_cell hb5 lZX z0
    have zz1 := keep_cell hb5 lZX z1
    obtain ⟨v, hv⟩ : ∃ v, v = mixK (fun _ => body) B (pre.map (·.1)) i := ⟨_, rfl⟩
    obtain ⟨u, hu⟩ : ∃ u, u = mixK (kdS W kd) K (pre.map (·.1)) i := ⟨_, rfl⟩
    rw [← hv] at dB
    rw [← hu] at dK
    have HV := Lib.hid hv
    have HU := Lib.hid hu
    have HB5 := Lib.hid hb5
    clear hv hu z0 z1 g0 g1 g2 hb5
    by_cases hv0 : v = 0 ∨ v = body
    · have HOK := Lib.hid hv0
      have HKW := Lib.hid (fun wx (hb : Below w5.heap.size w5 wx) => HKD.out wx x y ((hbX.trans (HB5.out.mono hbX.size)).trans (hb.mono (by have := hbX.size; omega))) hxl hyl)
      have n0 : gK ≠ gB := HNE.out
      have n0' : gB ≠ gK := Ne.symm n0
      have n1 : gK ≠ wA.heap.size := by omega
      have n2 : gB ≠ wA.heap.size := by omega
      have n3 : gK ≠ w.heap.size + 2 := by omega
      have n4 : gB ≠ w.heap.size + 2 := by omega
      have n5 : gK ≠ w.heap.size + 3 := by omega
      have n6 : gB ≠ w.heap.size + 3 := by omega
      have n7 : gK ≠ Z := by omega
      have n8 : gB ≠ Z := by omega
      have lZ5 : Z < w5.heap.size := by omega
      have lm5 : wA.heap.size < w5.heap.size := by omega
      have lk5 : w.heap.size + 2 < w5.heap.size := by omega
      have lb5 : w.heap.size + 3 < w5.heap.size := by omega
      have ls0 : gK < w5.heap.size := by omega
      have ls1 : gB < w5.heap.size := by omega
      have hq : v = 0 ∨ ((v == 0) = false ∧ (v != 0) = true ∧ body = v) := by
        rcases hv0 with h | h
        · exact .inl h
        · by_cases h2 : v = 0
          · exact .inl h2
          · have q1 : (v == 0) = false := beq_eq_false_iff_ne.2 h2
            exact .inr ⟨q1, by simp [bne, q1], h.symm⟩
      clear hv0
      have q4 : (body != body) = false := by simp
      rcases hq with rfl | ⟨q1, q2, rfl⟩
      all_goals
        refine region_quiet_inRound l _ (by kernel_rfl) (by kernel_rfl) (by kernel_rfl) ?_
        repeat (go_big_quiet_step (fail))
        refine wpQuiet_nil ?_
        rintro _ ⟨nq, rfl⟩
        refine OnlyN.normal ?_
        gi_wp2
        refine region_inRound l _ (S := (fun w' => w'.cell? ⟨wA.heap.size, 0, none⟩ = some (.slice (some ⟨gK, 0, none⟩) n kK) ∧ w'.cell? ⟨wA.heap.size, 1, none⟩ = some (.slice (some ⟨gB, 0, none⟩) n kB) ∧ w'.cell? ⟨w.heap.size + 2, 0, none⟩ = some (.func (.func fn1) #[] cs1) ∧ w'.cell? ⟨w.heap.size + 3, 0, none⟩ = some (.int .i64 body) ∧ w'.cell? ⟨Z, 0, none⟩ = some (.int .i64 x) ∧ w'.cell? ⟨Z, 1, none⟩ = some (.int .i64 y))) (by kernel_rfl) (by kernel_rfl) ?_ (fun hHeld => ?_)
        · ((try dsimp only); (first | (go_split_ands; (try dsimp only); refine ⟨?_, ?_, ?_, ?_, ?_, ?_⟩ <;> (first | (with_reducible assumption) | (with_reducible exact keep_cell (by assumption) (by first | omega | (simp; done) | (simp; omega)) (by assumption)) | (with_reducible exact (World.cell?_alloc_past _ _ _ (by show _ < _; omega)).trans (by assumption)) | (with_reducible exact (World.cell?_alloc_past _ _ _ (by show _ < _; omega)).trans ((World.cell?_alloc_past _ _ _ (by show _ < _; omega)).symm.trans (by assumption))) | (simp [go_sem]; with_reducible assumption))) | (simp [go_sem, ↓IntWalk.iteOmega, *]; done)))
        refine wpAnyH_take (i := 0) (v := ?_) rfl (by kernel_rfl) (by kernel_rfl) (by kernel_rfl) (fun _ _ _ h => h) (Or.inl ⟨by rfl, ?_⟩) (by assumption) ?_
        rotate_left
        · (intro w hSw; (try dsimp only at hSw); go_simp; (try with_reducible rfl))
        (try simp only [Act.put, List.setIfInBounds_toArray, List.set_cons_zero, List.set_cons_succ])
        refine wpAnyH_take (i := 1) (v := ?_) rfl (by kernel_rfl) (by kernel_rfl) (by kernel_rfl) (fun _ _ _ h => h) (Or.inl ⟨by rfl, ?_⟩) (by assumption) ?_
        rotate_left
        · (intro w hSw; (try dsimp only at hSw); go_simp; (try with_reducible rfl))
        (try simp only [Act.put, List.setIfInBounds_toArray, List.set_cons_zero, List.set_cons_succ])
        refine wpAnyH_take (i := 2) (v := ?_) rfl (by kernel_rfl) (by kernel_rfl) (by kernel_rfl) (fun _ _ _ h => h) (Or.inl ⟨by rfl, ?_⟩) (by assumption) ?_
        rotate_left
        · (intro w hSw; (try dsimp only at hSw); go_simp; (try with_reducible rfl))
        (try simp only [Act.put, List.setIfInBounds_toArray, List.set_cons_zero, List.set_cons_succ])
        refine wpAnyH_take (i := 3) (v := ?_) rfl (by kernel_rfl) (by kernel_rfl) (by kernel_rfl) (fun _ _ _ h => h) (Or.inl ⟨by rfl, ?_⟩) (by assumption) ?_
        rotate_left
        · (intro w hSw; (try dsimp only at hSw); go_simp; (try with_reducible rfl))
        (try simp only [Act.put, List.setIfInBounds_toArray, List.set_cons_zero, List.set_cons_succ])
        refine wpAnyH_take (i := 4) (v := ?_) rfl (by kernel_rfl) (by kernel_rfl) (by kernel_rfl) (fun _ _ _ h => h) (Or.inl ⟨by rfl, ?_⟩) (by assumption) ?_
        rotate_left
        · (intro w hSw; (try dsimp only at hSw); go_simp; (try with_reducible rfl))
        (try simp only [Act.put, List.setIfInBounds_toArray, List.set_cons_zero, List.set_cons_succ])
        refine wpAnyH_take (i := 5) (v := ?_) rfl (by kernel_rfl) (by kernel_rfl) (by kernel_rfl) (fun _ _ _ h => h) (Or.inl ⟨by rfl, ?_⟩) (by assumption) ?_
        rotate_left
        · (intro w hSw; (try dsimp only at hSw); go_simp; (try with_reducible rfl))
        (try simp only [Act.put, List.setIfInBounds_toArray, List.set_cons_zero, List.set_cons_succ])
        refine wpAnyH_take (i := 6) (v := ?_) rfl (by kernel_rfl) (by kernel_rfl) (by kernel_rfl) (fun _ _ _ h => h) (Or.inl ⟨by rfl, ?_⟩) (by assumption) ?_
        rotate_left
        · (intro w hSw; (try dsimp only at hSw); go_simp; (try with_reducible rfl))
        (try simp only [Act.put, List.setIfInBounds_toArray, List.set_cons_zero, List.set_cons_succ])
        refine wpAnyH_take (i := 7) (v := ?_) rfl (by kernel_rfl) (by kernel_rfl) (by kernel_rfl) (fun _ _ _ h => h) (Or.inl ⟨by rfl, ?_⟩) (by assumption) ?_
        rotate_left
        · (intro w hSw; (try dsimp only at hSw); go_simp; (try with_reducible rfl))
        (try simp only [Act.put, List.setIfInBounds_toArray, List.set_cons_zero, List.set_cons_succ])
        refine wpAnyH_take (i := 9) (v := ?_) rfl (by kernel_rfl) (by kernel_rfl) (by kernel_rfl) (fun _ _ _ h => h) (Or.inl ⟨by rfl, ?_⟩) (by assumption) ?_
        rotate_left
        · (intro w hSw; (try dsimp only at hSw); go_simp; (try with_reducible rfl))
        (try simp only [Act.put, List.setIfInBounds_toArray, List.set_cons_zero, List.set_cons_succ])
        refine wpAnyH_ready (rs := [8]) (by kernel_rfl) (by simp) ?_
        refine AllReadyH.cons rfl (fun K hK => ?_) AllReadyH.nil
        go_simp; (refine (HKW.out _ (by (repeat' (first | (with_reducible exact Below.refl _ _) | (with_reducible refine Below.setCell ?_ (by first | omega | (simp; done) | (simp; omega)) _) | (with_reducible refine Below.alloc ?_ (by first | omega | (simp; done) | (simp; omega)) _) | (with_reducible refine Below.drew ?_) | (with_reducible refine below_drewN ?_ _) | (with_reducible refine Below.trans ?_ (Below.mono (by assumption) (by first | omega | (simp; done) | (simp; omega)))))))).mono ?_); rintro e w7 ⟨rfl, hb7⟩; obtain ⟨hc7, hf7, hz7⟩ := bcall hb7; (try simp at hc7 hf7 hz7)
        refine hK.out _ _ ?_ (fun hHeld => ?_)
        · ((try dsimp only); (first | (go_split_ands; (try dsimp only); refine ⟨?_, ?_, ?_, ?_, ?_, ?_⟩ <;> (first | (with_reducible assumption) | (with_reducible exact keep_cell (by assumption) (by first | omega | (simp; done) | (simp; omega)) (by assumption)) | (with_reducible exact (World.cell?_alloc_past _ _ _ (by show _ < _; omega)).trans (by assumption)) | (with_reducible exact (World.cell?_alloc_past _ _ _ (by show _ < _; omega)).trans ((World.cell?_alloc_past _ _ _ (by show _ < _; omega)).symm.trans (by assumption))) | (simp [go_sem]; with_reducible assumption))) | (simp [go_sem, ↓IntWalk.iteOmega, *]; done)))
        clear hK K
        (try simp only [Act.put, List.setIfInBounds_toArray, List.set_cons_zero, List.set_cons_succ])
        refine wpAnyH_take (i := 10) (v := ?_) rfl (by kernel_rfl) (by kernel_rfl) (by kernel_rfl) (fun _ _ _ h => h) (Or.inl ⟨by rfl, ?_⟩) (by assumption) ?_
        rotate_left
        · (intro w hSw; (try dsimp only at hSw); go_simp; (try with_reducible rfl))
        (try simp only [Act.put, List.setIfInBounds_toArray, List.set_cons_zero, List.set_cons_succ])
        refine wpAnyH_ready (rs := [11]) (by kernel_rfl) (by simp) ?_
        refine AllReadyH.cons rfl (fun K hK => ?_) AllReadyH.nil
        go_simp
        refine hK.out _ _ ?_ (fun hHeld => ?_)
        · ((try dsimp only); (first | (go_split_ands; (try dsimp only); refine ⟨?_, ?_, ?_, ?_, ?_, ?_⟩ <;> (first | (with_reducible assumption) | (with_reducible exact keep_cell (by assumption) (by first | omega | (simp; done) | (simp; omega)) (by assumption)) | (with_reducible exact (World.cell?_alloc_past _ _ _ (by show _ < _; omega)).trans (by assumption)) | (with_reducible exact (World.cell?_alloc_past _ _ _ (by show _ < _; omega)).trans ((World.cell?_alloc_past _ _ _ (by show _ < _; omega)).symm.trans (by assumption))) | (simp [go_sem]; with_reducible assumption))) | (simp [go_sem, ↓IntWalk.iteOmega, *]; done)))
        clear hK K
        (try simp only [Act.put, List.setIfInBounds_toArray, List.set_cons_zero, List.set_cons_succ])
        refine wpAnyH_take (i := 12) (v := ?_) rfl (by kernel_rfl) (by kernel_rfl) (by kernel_rfl) (fun _ _ _ h => h) (Or.inl ⟨by rfl, ?_⟩) (by assumption) ?_
        rotate_left
        · (intro w hSw; (try dsimp only at hSw); go_simp; (try with_reducible rfl))
        (try simp only [Act.put, List.setIfInBounds_toArray, List.set_cons_zero, List.set_cons_succ])
        refine wpAnyH_ready (rs := [13]) (by kernel_rfl) (by simp) ?_
        refine AllReadyH.cons rfl (fun K hK => ?_) AllReadyH.nil
        go_simp
        refine hK.out _ _ ?_ (fun hHeld => ?_)
        · ((try dsimp only); (first | (go_split_ands; (try dsimp only); refine ⟨?_, ?_, ?_, ?_, ?_, ?_⟩ <;> (first | (with_reducible assumption) | (with_reducible exact keep_cell (by assumption) (by first | omega | (simp; done) | (simp; omega)) (by assumption)) | (with_reducible exact (World.cell?_alloc_past _ _ _ (by show _ < _; omega)).trans (by assumption)) | (with_reducible exact (World.cell?_alloc_past _ _ _ (by show _ < _; omega)).trans ((World.cell?_alloc_past _ _ _ (by show _ < _; omega)).symm.trans (by assumption))) | (simp [go_sem]; with_reducible assumption))) | (simp [go_sem, ↓IntWalk.iteOmega, *]; done)))
        clear hK K
        (try simp only [Act.put, List.setIfInBounds_toArray, List.set_cons_zero, List.set_cons_succ])
        refine wpAnyH_done (by kernel_rfl) ?_ _
        refine OnlyN.normal ?_
        gi_wp2
        have hX7 : Below X.heap.size X w7 := HB5.out.trans (Below.mono (show Below w5.heap.size w5 w7 from by (repeat' (first | (with_reducible exact Below.refl _ _) | (with_reducible refine Below.setCell ?_ (by first | omega | (simp; done) | (simp; omega)) _) | (with_reducible refine Below.alloc ?_ (by first | omega | (simp; done) | (simp; omega)) _) | (with_reducible refine Below.drew ?_) | (with_reducible refine below_drewN ?_ _) | (with_reducible refine Below.trans ?_ (Below.mono (by assumption) (by first | omega | (simp; done) | (simp; omega))))))) HB5.out.size)
        have hfi : B i = 0 ∨ B i = body := by
          by_cases hm : i ∈ pre.map (·.1)
          · exact HI.out.ok i hm
          · have e := HV.out
            unfold mixK at e
            rw [if_neg hm] at e
            have hq := HOK.out
            omega
        refine ⟨((keepsFrom_of_below hX7).trans ((KeepsOthers.setCell _ _ _).from _)).trans ((KeepsOthers.setCell _ _ _).from _), ((KB.of_below hX7 (fun k hk => by omega)).trans (KB.set (fun hk => by omega))).trans (KB.set (fun hk => by omega)), ?_⟩
        exact buI_step hi HI.out hX7 hfi n0 (by omega) (by omega) n1 n2 _ hSi
    · have q1 : (v == 0) = false := beq_eq_false_iff_ne.2 (by omega)
      have q2 : (v == body) = false := beq_eq_false_iff_ne.2 (by omega)
      have q3 : (v != 0) = true := by simp [bne, q1]
      have q4 : (v != body) = true := by simp [bne, q2]
      refine region_quiet_inRound l _ (by kernel_rfl) (by kernel_rfl) (by kernel_rfl) ?_
      repeat (go_big_quiet_step (fail))
      refine wpQuiet_nil ?_
      rintro _ ⟨nq, rfl⟩
      refine OnlyN.normal ?_
      gi_wp2
      have hXY : Below X.heap.size X (w5.drewN nq) := HB5.out.trans (Below.mono (show Below w5.heap.size w5 (w5.drewN nq) from by (repeat' (first | (with_reducible exact Below.refl _ _) | (with_reducible refine Below.setCell ?_ (by first | omega | (simp; done) | (simp; omega)) _) | (with_reducible refine Below.alloc ?_ (by first | omega | (simp; done) | (simp; omega)) _) | (with_reducible refine Below.drew ?_) | (with_reducible refine below_drewN ?_ _) | (with_reducible refine Below.trans ?_ (Below.mono (by assumption) (by first | omega | (simp; done) | (simp; omega))))))) HB5.out.size)
      have hfi : ¬ (B i = 0 ∨ B i = body) := by
        have e := HV.out
        unfold mixK at e
        by_cases hm : i ∈ pre.map (·.1)
        · rw [if_pos hm] at e
          exact absurd (Or.inr e) hv0
        · rw [if_neg hm] at e
          rw [← e]
          exact hv0
      exact ⟨(((keepsFrom_of_below hXY).trans ((KeepsOthers.setCell _ _ _).from _)).trans ((KeepsOthers.setCell _ _ _).from _)).trans ((KeepsOthers.setCell _ _ _).from _), buX_end hi HI.out hXY hfi⟩
  case done =>
    rintro D ys X hD hys hI hK'
    have m0 := hI.more.c0
    have m1 := hI.more.c1
    have lm := hI.more.lt
    have r0 := hI.resW.c0
    have r1 := hI.resW.c1
    have rf0 := hI.resW.f0 0
    have rf1 := hI.resW.f0 1
    have lr := hI.resW.lt
    have re0 := hI.resE.cell
    have ref0 := hI.resE.frozen
    have le := hI.resE.lt
    have hy : ys.map (·.1) = ownN (inN W f) 1 n := hys
    have HI := Lib.hid hI
    have HY := Lib.hid hy
    clear hI hys hy
    gi_wp2
    have hK1 := (KeepsOthers.setCell X ⟨w.heap.size + 1 + 1 + 1 + 1, 0, none⟩ (.slice (some ⟨gK, 0, none⟩) n kK)).same D _ hK' rfl
    have hK2 := (KeepsOthers.setCell (X.setCell ⟨w.heap.size + 1 + 1 + 1 + 1, 0, none⟩ (.slice (some ⟨gK, 0, none⟩) n kK)) ⟨w.heap.size + 1 + 1 + 1 + 1, 1, none⟩ (.slice (some ⟨gB, 0, none⟩) n kB)).same D _ hK1 rfl
    have hK3 := (KeepsOthers.setCell ((X.setCell ⟨w.heap.size + 1 + 1 + 1 + 1, 0, none⟩ (.slice (some ⟨gK, 0, none⟩) n kK)).setCell ⟨w.heap.size + 1 + 1 + 1 + 1, 1, none⟩ (.slice (some ⟨gB, 0, none⟩) n kB)) ⟨w.heap.size + 1 + 1 + 1 + 1 + 1, 0, none⟩ (.int .i64 0)).same D _ hK2 rfl
    refine ⟨by simp, .inl ⟨_, _, rfl, run_takeDeferred hK3, ?_⟩⟩
    have q4 := (HI.out.resW.set2 (.slice (some ⟨gK, 0, none⟩) n kK) (.slice (some ⟨gB, 0, none⟩) n kB)).other (show w.heap.size + 4 ≠ w.heap.size + 5 by omega) 0 (.int .i64 0)
    have x : Ex (fun k => k = w.heap.size + 4) X ((X.setCell ⟨w.heap.size + 4, 0, none⟩ (.slice (some ⟨gK, 0, none⟩) n kK)).setCell ⟨w.heap.size + 4, 1, none⟩ (.slice (some ⟨gB, 0, none⟩) n kB)) := by refine Ex.setCell (Ex.setCell (Ex.refl _ _) ?_ _) ?_ _ <;> rfl
    have q5 := Boxed.set (.int .i64 0) (show Boxed ((X.setCell ⟨w.heap.size + 4, 0, none⟩ (.slice (some ⟨gK, 0, none⟩) n kK)).setCell ⟨w.heap.size + 4, 1, none⟩ (.slice (some ⟨gB, 0, none⟩) n kB)) (w.heap.size + 5) 35 (.int .i64 0) from (x.block _ le (show ¬ (w.heap.size + 5 = w.heap.size + 4) by omega)).trans HI.out.resE)
    have rK3 := ((HI.out.rK.setOther (g := w.heap.size + 4) (i := 0) (v := .slice (some ⟨gK, 0, none⟩) n kK) (by omega)).setOther (g := w.heap.size + 4) (i := 1) (v := .slice (some ⟨gB, 0, none⟩) n kB) (by omega)).setOther (g := w.heap.size + 5) (i := 0) (v := .int .i64 0) (by omega)
    have rB3 := ((HI.out.rB.setOther (g := w.heap.size + 4) (i := 0) (v := .slice (some ⟨gK, 0, none⟩) n kK) (by omega)).setOther (g := w.heap.size + 4) (i := 1) (v := .slice (some ⟨gB, 0, none⟩) n kB) (by omega)).setOther (g := w.heap.size + 5) (i := 0) (v := .int .i64 0) (by omega)
    have g0 := cell_kept q4.c0 (grownBy_putObj' _ D (.deferred none)) (fun r e => by cases e; exact ⟨_, hK3, rfl⟩)
    have g1 := cell_kept q4.c1 (grownBy_putObj' _ D (.deferred none)) (fun r e => by cases e; exact ⟨_, hK3, rfl⟩)
    have g5 := cell_kept q5.cell (grownBy_putObj' _ D (.deferred none)) (fun r e => by cases e; exact ⟨_, hK3, rfl⟩)
    have kK3 := rowI_own rK3 (rowI_obj rK3 (by omega)) (grownBy_putObj' _ D (.deferred none)) (fun r e => by cases e; exact ⟨_, hK3, rfl⟩)
    have kB3 := rowI_own rB3 (rowI_obj rB3 (by omega)) (grownBy_putObj' _ D (.deferred none)) (fun r e => by cases e; exact ⟨_, hK3, rfl⟩)
    refine ⟨.tuple #[.agg #[.slice (some ⟨gK, 0, none⟩) n kK, .slice (some ⟨gB, 0, none⟩) n kB], .int .i64 0], by simp [results, Tryd.results68, go_sem, g0, g1, g5], .inl ⟨?_, gK, gB, kK, kB, rfl, ?_, by omega, by omega, ?_⟩⟩
    · intro i hi hs
      refine HI.out.ok i ?_
      rw [HY.out]
      exact (mem_inN hi).2 ((shpS_ne hkd0 i).1 hs)
    · rw [HY.out] at kK3 kB3
      exact Lib.hid ⟨rowI_congr kK3 (fun j hj => mix_put hkd0 hj), rowI_congr kB3 (fun j hj => mix_putB hkd0 hj), HNE.out⟩
    · have hbl : Below w.heap.size w X := HI.out.below
      exact (((hbl.setCell (p := ⟨w.heap.size + 4, 0, none⟩) (show w.heap.size ≤ w.heap.size + 4 by omega) _).setCell (p := ⟨w.heap.size + 4, 1, none⟩) (show w.heap.size ≤ w.heap.size + 4 by omega) _).setCell (p := ⟨w.heap.size + 5, 0, none⟩) (show w.heap.size ≤ w.heap.size + 5 by omega) _).trans (belowK_b (w := w) (Nat.le_refl _) _ D _ _ (by omega) hK3 rfl rfl)
  case stop =>
    rintro D c pre X hD hpre hX hK'
    obtain rfl := hX.ret
    have r0 := hX.resW.c0
    have r1 := hX.resW.c1
    have re0 := hX.resE.cell
    gi_wp2
    refine ⟨by simp, .inl ⟨_, _, rfl, run_takeDeferred hK', ?_⟩⟩
    have g0 := cell_kept r0 (grownBy_putObj' _ D (.deferred none)) (fun r e => by cases e; exact ⟨_, hK', rfl⟩)
    have g1 := cell_kept r1 (grownBy_putObj' _ D (.deferred none)) (fun r e => by cases e; exact ⟨_, hK', rfl⟩)
    have g5 := cell_kept re0 (grownBy_putObj' _ D (.deferred none)) (fun r e => by cases e; exact ⟨_, hK', rfl⟩)
    refine ⟨.tuple #[.agg #[.slice (none) 0 0, .slice (none) 0 0], .int .i64 11], by simp [results, Tryd.results68, go_sem, g0, g1, g5], .inr ⟨fun hfr => ?_, rfl, ?_⟩⟩
    · obtain ⟨i, hi, hbad⟩ := hX.ex
      have hi2 : i ∈ ownN (inN W f) 1 n := hpre.subset hi
      have hin := (ownN_mem hi2).1
      exact hbad (hfr i hin ((shpS_ne hkd0 i).2 ((mem_inN hin).1 hi2)))
    · exact hX.below.trans (belowK_b (w := w) (Nat.le_refl _) _ D _ _ (by omega) hK' rfl rfl)
end Go.Proofs.YtglkikdjchpmjaaDoor
