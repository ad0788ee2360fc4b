/- The greatest of blocks by what is told of them: by the program of the fields. -/
import Derived.Test.YtmdeooflgkjbbaaDoorKFColB
import Derived.Test.YtmdeooflgkjbbaaDoorKFMain
namespace Go.Proofs.YtmdeooflgkjbbaaDoor
set_option linter.unusedSimpArgs false
set_option linter.unusedVariables false
open Go.RowKit Go.Shelf
attribute [local go_sem] Oper.semAt_some

/-- A place of a block's lower left corner. -/
abbrev PlcB (nx ny : Nat) := {p : Nat × Nat // p.1 < nx ∧ p.2 < ny}
theorem blocks_stopsB (n : Nat) (hn : 1 ≤ n) (Bg Bh Bw W H wi hi nx ny : Nat) (ao : Option Addr) (N cap : Nat) (S : Nat → Prop) (hSg : S Bg) (hSh : S Bh) (hSw : S Bw)
    (hW : W ≤ 64) (hH : H ≤ 64) (hnx : nx + wi = W + 1) (hny : ny + hi = H + 1) (w : World) (hSl : ∀ k, S k → k < w.heap.size)
    (c0 : w.cell? ⟨Bg, 0, none⟩ = some (.int .i64 W)) (c1 : w.cell? ⟨Bg, 1, none⟩ = some (.int .i64 H)) (c2 : w.cell? ⟨Bg, 2, none⟩ = some (.slice ao N cap)) (cw : w.cell? ⟨Bw, 0, none⟩ = some (.int .i64 wi)) (ch : w.cell? ⟨Bh, 0, none⟩ = some (.int .i64 hi)) :
    SeqStopsK Fence.wide n Tryd.prog 133 #[.pointer (some ⟨Bg, 0, none⟩), .pointer (some ⟨Bh, 0, none⟩), .pointer (some ⟨Bw, 0, none⟩)]
      (fun p : PlcB nx ny => #[.agg #[.int .i64 W, .int .i64 H, .slice ao N cap, .int .i64 ((p.1.1 : Int)), .int .i64 ((p.1.2 : Int)), .int .i64 ((p.1.1 : Int) + (wi : Int) - 1), .int .i64 ((p.1.2 : Int) + (hi : Int) - 1)]]) (KB S)
      (fun ys => ys.map (·.1) = recP nx ny) (fun pre => pre.map (·.1) <+: recP nx ny) (ny * nx) w := fun l J Jx W' hW' hJ hJx hY h0 =>
  (blocks1_in n hn l Bg Bh Bw W H wi hi nx ny ao N cap S hSg hSh hSw hW hH hnx hny (fun L X => ∃ l' : List (PlcB nx ny), l'.map (·.1) = L ∧ J l' X) (fun L X => ∃ l' : List (PlcB nx ny), l'.map (·.1) = L ∧ Jx l' X) W' (fun k hk => Nat.lt_of_lt_of_le (hSl k hk) hW'.size) (fun L W1 o h => by
      obtain ⟨l', e, h⟩ := h
      exact ⟨l', e, hJ l' W1 (W1.alloc o) none h (World.grownBy_alloc W1 o none) (fun r e => by cases e)⟩)
    (fun pre x y W1 hj hlen hpre => by
      obtain ⟨l', e, hj⟩ := hj
      have hx2 : x < nx ∧ y < ny := recP_mem (p := (x, y)) (hpre.subset (by simp))
      obtain ⟨fn, tmps, assign, body, hy, hRd⟩ := hY l' ⟨(x, y), hx2⟩ W1 hj (by rw [← e] at hlen; simpa using hlen)
      refine ⟨fn, tmps, assign, body, hy, hRd.mono fun e2 W2 h => ?_⟩
      rcases h with ⟨h1, h2, h3⟩ | ⟨h1, h2⟩
      · exact .inl ⟨h1, ⟨l' ++ [⟨(x, y), hx2⟩], by simp [e], h2⟩, h3⟩
      · exact .inr ⟨h1, ⟨l' ++ [⟨(x, y), hx2⟩], by simp [e], h2⟩⟩)
    ((hW'.cell (p := ⟨Bg, 0, none⟩) (hSl _ hSg)).trans c0) ((hW'.cell (p := ⟨Bg, 1, none⟩) (hSl _ hSg)).trans c1) ((hW'.cell (p := ⟨Bg, 2, none⟩) (hSl _ hSg)).trans c2) ((hW'.cell (p := ⟨Bw, 0, none⟩) (hSl _ hSw)).trans cw) ((hW'.cell (p := ⟨Bh, 0, none⟩) (hSl _ hSh)).trans ch) ⟨[], rfl, h0⟩).mono fun e W2 h => by
    obtain ⟨hv, h⟩ := h
    refine ⟨hv, ?_⟩
    rcases h with ⟨ys, hy, l', e, hj⟩ | ⟨pre, hp, l', e, hj⟩
    · exact .inl ⟨l', by show l'.map (·.1) = _; rw [e, hy], hj⟩
    · exact .inr ⟨l', by show l'.map (·.1) <+: _; rw [e]; exact hp, hj⟩

/-- The greatest by what is told, of several the first: after one more. -/
def stpB (tv : Nat × Nat → Int) (s : Option (Nat × Nat)) (x : Nat × Nat) : Option (Nat × Nat) :=
  match s with
  | none => some x
  | some p => if tv p < tv x then some x else some p
def bstB (tv : Nat × Nat → Int) (L : List (Nat × Nat)) : Option (Nat × Nat) := L.foldl (stpB tv) none
theorem bstB_app (tv : Nat × Nat → Int) (L : List (Nat × Nat)) (x : Nat × Nat) : bstB tv (L ++ [x]) = stpB tv (bstB tv L) x := by simp [bstB, List.foldl_append]
theorem bstB_mem (tv : Nat × Nat → Int) (L : List (Nat × Nat)) : ∀ p, bstB tv L = some p → p ∈ L := by
  suffices h : ∀ (L : List (Nat × Nat)) (s : Option (Nat × Nat)) (p), L.foldl (stpB tv) s = some p → s = some p ∨ p ∈ L from fun p hp => by
    rcases h L none p hp with h | h
    · cases h
    · exact h
  intro L
  induction L with
  | nil => intro s p h; exact .inl h
  | cons x L ih =>
    intro s p h
    rw [List.foldl_cons] at h
    rcases ih _ _ h with h | h
    · unfold stpB at h
      split at h
      · cases h; exact .inr (by simp)
      · rename_i q
        split at h
        · cases h; exact .inr (by simp)
        · exact .inl h
    · exact .inr (by simp [h])
theorem bstB_some (tv : Nat × Nat → Int) (L : List (Nat × Nat)) (h : L ≠ []) : ∃ p, bstB tv L = some p := by
  obtain ⟨L', x, rfl⟩ : ∃ L' x, L = L' ++ [x] := ⟨L.dropLast, L.getLast h, (List.dropLast_concat_getLast h).symm⟩
  rw [bstB_app]
  unfold stpB
  split
  · exact ⟨_, rfl⟩
  · split <;> exact ⟨_, rfl⟩
/-- A block that may be none yet, in memory. -/
def SevO (W H wi hi : Nat) (ao : Option Addr) (N cap : Nat) (X : World) (B : Nat) : Option (Nat × Nat) → Prop
  | none => Sev X B (.int .i64 0) (.int .i64 0) (.slice none 0 0) (.int .i64 0) (.int .i64 0) (.int .i64 0) (.int .i64 0)
  | some p => Sev X B (.int .i64 W) (.int .i64 H) (.slice ao N cap) (.int .i64 ((p.1 : Int))) (.int .i64 ((p.2 : Int))) (.int .i64 ((p.1 : Int) + (wi : Int) - 1)) (.int .i64 ((p.2 : Int) + (hi : Int) - 1))
def mosB (tv : Nat × Nat → Int) : Option (Nat × Nat) → Int
  | none => 0
  | some p => tv p
theorem SevO.lt {W H wi hi : Nat} {ao : Option Addr} {N cap : Nat} {X : World} {B : Nat} {o : Option (Nat × Nat)} (h : SevO W H wi hi ao N cap X B o) : B < X.heap.size := by
  cases o with
  | none => exact Sev.lt h
  | some p => exact Sev.lt h
theorem SevO.keep {W H wi hi : Nat} {ao : Option Addr} {N cap : Nat} {X Y : World} {B : Nat} {o : Option (Nat × Nat)} (h : SevO W H wi hi ao N cap X B o) (e : Y.heap[B]? = X.heap[B]?) : SevO W H wi hi ao N cap Y B o := by
  cases o with
  | none => exact e.trans h
  | some p => exact e.trans h
/-- What stands while the greatest is looked for. -/
structure GrB (w : World) (W H wi hi : Nat) (ao : Option Addr) (N cap : Nat) (tv : Nat × Nat → Int) (tell : Value) (L : List (Nat × Nat)) (X : World) : Prop where
  tel : Boxed X w.heap.size 101 tell
  res : SevO W H wi hi ao N cap X (w.heap.size + 1) none
  bes : SevO W H wi hi ao N cap X (w.heap.size + 2) (bstB tv L)
  mos : Boxed X (w.heap.size + 3) 3 (.int .i64 (mosB tv (bstB tv L)))
  kno : Boxed X (w.heap.size + 4) 4 (.bool (bstB tv L).isSome)
  below : Below w.heap.size w X
  size : w.heap.size + 5 ≤ X.heap.size
theorem sevO_own {W H wi hi : Nat} {ao : Option Addr} {N cap : Nat} {X Y : World} {B : Nat} {row : Option Nat} {o : Option (Nat × Nat)} (h : SevO W H wi hi ao N cap X B o) (hg : X.grownBy Y row) (hr : ∀ r, row = some r → ∃ o : Obj, X.heap[r]? = some o ∧ o.isCells = false) : SevO W H wi hi ao N cap Y B o := by
  cases o with
  | none => exact sev_own h hg hr
  | some p => exact sev_own h hg hr
theorem grB_own {w : World} {W H wi hi : Nat} {ao : Option Addr} {N cap : Nat} {tv : Nat × Nat → Int} {tell : Value} {Bd : Nat} (hB : w.heap.size ≤ Bd) {α : Type} (f : α → List (Nat × Nat)) : OwnFrom Bd (fun s X => GrB w W H wi hi ao N cap tv tell (f s) X) := fun s X Y row hs hg hr => by
  have hr' : ∀ r, row = some r → ∃ o : Obj, X.heap[r]? = some o ∧ o.isCells = false := fun r e => (hr r e).2
  exact ⟨boxed_own (β := Unit) _ _ (fun _ => tell) () X Y row hs.tel hg hr', sevO_own hs.res hg hr', sevO_own hs.bes hg hr', boxed_own (β := Unit) _ _ (fun _ => .int .i64 (mosB tv (bstB tv (f s)))) () X Y row hs.mos hg hr', boxed_own (β := Unit) _ _ (fun _ => .bool (bstB tv (f s)).isSome) () X Y row hs.kno hg hr', ownFrom_below (β := Unit) (Nat.le_refl _) hB () X Y row hs.below hg hr, Nat.le_trans hs.size hg.size⟩
theorem grB_below {w : World} {W H wi hi : Nat} {ao : Option Addr} {N cap : Nat} {tv : Nat × Nat → Int} {tell : Value} {L : List (Nat × Nat)} {X Y : World} (h : GrB w W H wi hi ao N cap tv tell L X) (hb : Below X.heap.size X Y) : GrB w W H wi hi ao N cap tv tell L Y :=
  ⟨(hb.block _ h.tel.lt).trans h.tel, h.res.keep (hb.block _ h.res.lt), h.bes.keep (hb.block _ h.bes.lt), (hb.block _ h.mos.lt).trans h.mos, (hb.block _ h.kno.lt).trans h.kno, h.below.trans (hb.mono h.below.size), Nat.le_trans h.size hb.size⟩
/-- A function value that tells a number of each of the blocks at the places below. -/
def TellsB (w : World) (W H wi hi nx ny : Nat) (ao : Option Addr) (N cap : Nat) (fn : Nat) (tv : Nat × Nat → Int) : Prop :=
  (∀ args wx, (callFunc fn args).run Tryd.prog wx = .ok (.enter fn args) wx) ∧
  ∀ wx p, KB (fun k => k < w.heap.size) w wx → p.1 < nx ∧ p.2 < ny → Calls Tryd.prog fn #[.agg #[.int .i64 W, .int .i64 H, .slice ao N cap, .int .i64 ((p.1 : Int)), .int .i64 ((p.2 : Int)), .int .i64 ((p.1 : Int) + (wi : Int) - 1), .int .i64 ((p.2 : Int) + (hi : Int) - 1)]] wx fun e w' => e = .returned (.int .i64 (tv p)) ∧ Below wx.heap.size wx w'
/-- A block with seven new values. -/
def st7 (X : World) (P : Nat) (v0 v1 v2 v3 v4 v5 v6 : Value) : World := ((((((X.setCell ⟨P, 0, none⟩ v0).setCell ⟨P, 1, none⟩ v1).setCell ⟨P, 2, none⟩ v2).setCell ⟨P, 3, none⟩ v3).setCell ⟨P, 4, none⟩ v4).setCell ⟨P, 5, none⟩ v5).setCell ⟨P, 6, none⟩ v6
theorem Sev.set7 {X : World} {P : Nat} {a b c d e f g : Value} (h : Sev X P a b c d e f g) (v0 v1 v2 v3 v4 v5 v6 : Value) : Sev (st7 X P v0 v1 v2 v3 v4 v5 v6) P v0 v1 v2 v3 v4 v5 v6 := by
  unfold Sev st7 at *
  simp only [World.setCell, Array.getElem?_modify, ↓reduceIte, h, Option.map_some]
  rfl
theorem st7_other (X : World) {P Q : Nat} (v0 v1 v2 v3 v4 v5 v6 : Value) (hn : Q ≠ P) : (st7 X P v0 v1 v2 v3 v4 v5 v6).heap[Q]? = X.heap[Q]? := by
  unfold st7
  simp only [World.setCell, Array.getElem?_modify, if_neg hn.symm]
theorem st7_size (X : World) (P : Nat) (v0 v1 v2 v3 v4 v5 v6 : Value) : (st7 X P v0 v1 v2 v3 v4 v5 v6).heap.size = X.heap.size := by
  simp [st7, World.setCell]
theorem st7_keeps (X : World) (P : Nat) (v0 v1 v2 v3 v4 v5 v6 : Value) : KeepsOthers X (st7 X P v0 v1 v2 v3 v4 v5 v6) :=
  (KeepsOthers.setCell _ _ _).trans ((KeepsOthers.setCell _ _ _).trans ((KeepsOthers.setCell _ _ _).trans ((KeepsOthers.setCell _ _ _).trans ((KeepsOthers.setCell _ _ _).trans ((KeepsOthers.setCell _ _ _).trans (KeepsOthers.setCell _ _ _))))))
theorem st7_kb {S : Nat → Prop} (X : World) {P : Nat} (v0 v1 v2 v3 v4 v5 v6 : Value) (h : ¬ S P) : KB S X (st7 X P v0 v1 v2 v3 v4 v5 v6) :=
  ⟨by rw [st7_size]; exact Nat.le_refl _, fun k hk => st7_other X v0 v1 v2 v3 v4 v5 v6 (fun e => h (e ▸ hk))⟩
theorem st7_below {n : Nat} {w X : World} (h : Below n w X) {P : Nat} (hP : n ≤ P) (v0 v1 v2 v3 v4 v5 v6 : Value) : Below n w (st7 X P v0 v1 v2 v3 v4 v5 v6) :=
  ((((((h.setCell (p := ⟨P, 0, none⟩) hP _).setCell (p := ⟨P, 1, none⟩) hP _).setCell (p := ⟨P, 2, none⟩) hP _).setCell (p := ⟨P, 3, none⟩) hP _).setCell (p := ⟨P, 4, none⟩) hP _).setCell (p := ⟨P, 5, none⟩) hP _).setCell (p := ⟨P, 6, none⟩) hP _
theorem SevO.set7 {W H wi hi : Nat} {ao : Option Addr} {N cap : Nat} {X : World} {B : Nat} {o : Option (Nat × Nat)} (h : SevO W H wi hi ao N cap X B o) (p : Nat × Nat) {ax ay bx yb : Int} (h0 : ax = (p.1 : Int)) (h1 : ay = (p.2 : Int)) (h2 : bx = (p.1 : Int) + (wi : Int) - 1) (h3 : yb = (p.2 : Int) + (hi : Int) - 1) :
    SevO W H wi hi ao N cap (st7 X B (.int .i64 W) (.int .i64 H) (.slice ao N cap) (.int .i64 ax) (.int .i64 ay) (.int .i64 bx) (.int .i64 yb)) B (some p) := by
  subst h0 h1 h2 h3
  cases o with
  | none => exact Sev.set7 h _ _ _ _ _ _ _
  | some p => exact Sev.set7 h _ _ _ _ _ _ _
theorem grB_same {w : World} {W H wi hi : Nat} {ao : Option Addr} {N cap : Nat} {tv : Nat × Nat → Int} {tell : Value} {L : List (Nat × Nat)} {X : World} {x q : Nat × Nat} (h : GrB w W H wi hi ao N cap tv tell L X) (hk : bstB tv L = some q) (hm : ¬ tv q < tv x) : GrB w W H wi hi ao N cap tv tell (L ++ [x]) X := by
  have e : bstB tv (L ++ [x]) = bstB tv L := by rw [bstB_app, hk]; unfold stpB; simp only; rw [if_neg hm]
  exact ⟨h.tel, h.res, by rw [e]; exact h.bes, by rw [e]; exact h.mos, by rw [e]; exact h.kno, h.below, h.size⟩
theorem grB_new {w : World} {W H wi hi : Nat} {ao : Option Addr} {N cap : Nat} {tv : Nat × Nat → Int} {tell : Value} {L : List (Nat × Nat)} {X : World} {x : Nat × Nat} (h : GrB w W H wi hi ao N cap tv tell L X) (hm : ∀ q, bstB tv L = some q → tv q < tv x) {v ax ay bx yb : Int} (hv : v = tv x)
    (h0 : ax = (x.1 : Int)) (h1 : ay = (x.2 : Int)) (h2 : bx = (x.1 : Int) + (wi : Int) - 1) (h3 : yb = (x.2 : Int) + (hi : Int) - 1) :
    GrB w W H wi hi ao N cap tv tell (L ++ [x]) (((st7 X (w.heap.size + 2) (.int .i64 W) (.int .i64 H) (.slice ao N cap) (.int .i64 ax) (.int .i64 ay) (.int .i64 bx) (.int .i64 yb)).setCell ⟨w.heap.size + 3, 0, none⟩ (.int .i64 v)).setCell ⟨w.heap.size + 4, 0, none⟩ (.bool true)) := by
  have e : bstB tv (L ++ [x]) = some x := by
    rw [bstB_app]
    unfold stpB
    split
    · rfl
    · rename_i q hq
      rw [if_pos (hm _ hq)]
  have key : ∀ Q, Q ≠ w.heap.size + 2 → Q ≠ w.heap.size + 3 → Q ≠ w.heap.size + 4 → (((st7 X (w.heap.size + 2) (.int .i64 W) (.int .i64 H) (.slice ao N cap) (.int .i64 ax) (.int .i64 ay) (.int .i64 bx) (.int .i64 yb)).setCell ⟨w.heap.size + 3, 0, none⟩ (.int .i64 v)).setCell ⟨w.heap.size + 4, 0, none⟩ (.bool true)).heap[Q]? = X.heap[Q]? := fun Q q2 q3 q4 => by
    rw [← st7_other X (.int .i64 W) (.int .i64 H) (.slice ao N cap) (.int .i64 ax) (.int .i64 ay) (.int .i64 bx) (.int .i64 yb) q2]
    simp only [World.setCell, Array.getElem?_modify, if_neg q3.symm, if_neg q4.symm]
  have k2 : ∀ u u', (((st7 X (w.heap.size + 2) (.int .i64 W) (.int .i64 H) (.slice ao N cap) (.int .i64 ax) (.int .i64 ay) (.int .i64 bx) (.int .i64 yb)).setCell ⟨w.heap.size + 3, 0, none⟩ u).setCell ⟨w.heap.size + 4, 0, none⟩ u').heap[w.heap.size + 2]? = (st7 X (w.heap.size + 2) (.int .i64 W) (.int .i64 H) (.slice ao N cap) (.int .i64 ax) (.int .i64 ay) (.int .i64 bx) (.int .i64 yb)).heap[w.heap.size + 2]? := fun u u' => by
    simp only [World.setCell, Array.getElem?_modify, if_neg (show ¬ w.heap.size + 3 = w.heap.size + 2 by omega), if_neg (show ¬ w.heap.size + 4 = w.heap.size + 2 by omega)]
  have b3 : Boxed (st7 X (w.heap.size + 2) (.int .i64 W) (.int .i64 H) (.slice ao N cap) (.int .i64 ax) (.int .i64 ay) (.int .i64 bx) (.int .i64 yb)) (w.heap.size + 3) 3 (.int .i64 (mosB tv (bstB tv L))) := (st7_other X _ _ _ _ _ _ _ (by omega)).trans h.mos
  have b4 : Boxed (st7 X (w.heap.size + 2) (.int .i64 W) (.int .i64 H) (.slice ao N cap) (.int .i64 ax) (.int .i64 ay) (.int .i64 bx) (.int .i64 yb)) (w.heap.size + 4) 4 (.bool (bstB tv L).isSome) := (st7_other X _ _ _ _ _ _ _ (by omega)).trans h.kno
  refine ⟨(key _ (by omega) (by omega) (by omega)).trans h.tel, h.res.keep (key _ (by omega) (by omega) (by omega)), ?_, ?_, ?_, ?_, ?_⟩
  · rw [e]; exact (h.bes.set7 x h0 h1 h2 h3).keep (k2 _ _)
  · rw [e, show mosB tv (some x) = v from hv.symm]; exact boxed_other (b3.set _) (by omega) _
  · rw [e]; exact (boxed_other b4 (by omega) _).set _
  · exact ((st7_below h.below (by omega) _ _ _ _ _ _ _).setCell (p := ⟨w.heap.size + 3, 0, none⟩) (show w.heap.size ≤ w.heap.size + 3 by omega) _).setCell (p := ⟨w.heap.size + 4, 0, none⟩) (show w.heap.size ≤ w.heap.size + 4 by omega) _
  · have := h.size
    simp [World.setCell, st7]
    omega

set_option maxRecDepth 100000 in
set_option maxHeartbeats 16000000 in
theorem greatB_in (Bg Bh Bw W H wi hi nx ny : Nat) (ao : Option Addr) (N cap : Nat) (fn : Nat) (tv : Nat × Nat → Int) (w : World) (lg : Bg < w.heap.size) (lh : Bh < w.heap.size) (lw : Bw < w.heap.size)
    (hW : W ≤ 64) (hH : H ≤ 64) (hnx : nx + wi = W + 1) (hny : ny + hi = H + 1) (hx1 : 1 ≤ nx) (hy1 : 1 ≤ ny)
    (c0 : w.cell? ⟨Bg, 0, none⟩ = some (.int .i64 W)) (c1 : w.cell? ⟨Bg, 1, none⟩ = some (.int .i64 H)) (c2 : w.cell? ⟨Bg, 2, none⟩ = some (.slice ao N cap)) (cw : w.cell? ⟨Bw, 0, none⟩ = some (.int .i64 wi)) (ch : w.cell? ⟨Bh, 0, none⟩ = some (.int .i64 hi))
    (hT : TellsB w W H wi hi nx ny ao N cap fn tv) :
    CallsIn Fence.wide 6 Tryd.prog 73 #[.func (.func 133) #[] #[.pointer (some ⟨Bg, 0, none⟩), .pointer (some ⟨Bh, 0, none⟩), .pointer (some ⟨Bw, 0, none⟩)], .func (.func fn) #[] #[]] w fun e w' =>
      (∃ p, bstB tv (recP nx ny) = some p ∧ e = .returned (.agg #[.int .i64 W, .int .i64 H, .slice ao N cap, .int .i64 ((p.1 : Int)), .int .i64 ((p.2 : Int)), .int .i64 ((p.1 : Int) + (wi : Int) - 1), .int .i64 ((p.2 : Int) + (hi : Int) - 1)])) ∧ Below w.heap.size w w' := by
  have HT := Lib.hid hT
  have eT := hT.1
  clear hT
  refine callsIn_of_wp_marks Tryd.func73 rfl trivial ?_ rfl
  simp only [Tryd.ntmps73, List.size_toArray, List.length_cons, List.length_nil, Nat.reduceAdd, Nat.reduceSub, Array.replicate_succ, Array.replicate_zero, List.push_toArray, List.append_toArray, List.nil_append, List.cons_append]
  gi_wp2
  have b0 := ((((Boxed.new w 101 (.func (.func fn) #[] #[])).alloc (.cells #[.int .i64 0, .int .i64 0, .slice none 0 0, .int .i64 0, .int .i64 0, .int .i64 0, .int .i64 0] 86)).alloc (.cells #[.int .i64 0, .int .i64 0, .slice none 0 0, .int .i64 0, .int .i64 0, .int .i64 0, .int .i64 0] 86)).alloc (.cells #[.int .i64 0] 3)).alloc (.cells #[.bool false] 4)
  have b1 := (((Sev.new (w.alloc (.cells #[.func (.func fn) #[] #[]] 101)) (.int .i64 0) (.int .i64 0) (.slice none 0 0) (.int .i64 0) (.int .i64 0) (.int .i64 0) (.int .i64 0)).alloc (.cells #[.int .i64 0, .int .i64 0, .slice none 0 0, .int .i64 0, .int .i64 0, .int .i64 0, .int .i64 0] 86)).alloc (.cells #[.int .i64 0] 3)).alloc (.cells #[.bool false] 4)
  have b2 := ((Sev.new ((w.alloc (.cells #[.func (.func fn) #[] #[]] 101)).alloc (.cells #[.int .i64 0, .int .i64 0, .slice none 0 0, .int .i64 0, .int .i64 0, .int .i64 0, .int .i64 0] 86)) (.int .i64 0) (.int .i64 0) (.slice none 0 0) (.int .i64 0) (.int .i64 0) (.int .i64 0) (.int .i64 0)).alloc (.cells #[.int .i64 0] 3)).alloc (.cells #[.bool false] 4)
  have b3 := (Boxed.new (((w.alloc (.cells #[.func (.func fn) #[] #[]] 101)).alloc (.cells #[.int .i64 0, .int .i64 0, .slice none 0 0, .int .i64 0, .int .i64 0, .int .i64 0, .int .i64 0] 86)).alloc (.cells #[.int .i64 0, .int .i64 0, .slice none 0 0, .int .i64 0, .int .i64 0, .int .i64 0, .int .i64 0] 86)) 3 (.int .i64 0)).alloc (.cells #[.bool false] 4)
  have b4 := Boxed.new ((((w.alloc (.cells #[.func (.func fn) #[] #[]] 101)).alloc (.cells #[.int .i64 0, .int .i64 0, .slice none 0 0, .int .i64 0, .int .i64 0, .int .i64 0, .int .i64 0] 86)).alloc (.cells #[.int .i64 0, .int .i64 0, .slice none 0 0, .int .i64 0, .int .i64 0, .int .i64 0, .int .i64 0] 86)).alloc (.cells #[.int .i64 0] 3)) 4 (.bool false)
  simp only [World.size_alloc] at b1 b2 b3 b4
  have hbW : Below w.heap.size w (((((w.alloc (.cells #[.func (.func fn) #[] #[]] 101)).alloc (.cells #[.int .i64 0, .int .i64 0, .slice none 0 0, .int .i64 0, .int .i64 0, .int .i64 0, .int .i64 0] 86)).alloc (.cells #[.int .i64 0, .int .i64 0, .slice none 0 0, .int .i64 0, .int .i64 0, .int .i64 0, .int .i64 0] 86)).alloc (.cells #[.int .i64 0] 3)).alloc (.cells #[.bool false] 4)) := by (repeat' (first | (with_reducible exact Below.refl _ _) | (with_reducible refine Below.setCell ?_ (by first | omega | (simp; done) | (simp; omega)) _) | (with_reducible refine Below.alloc ?_ (by first | omega | (simp; done) | (simp; omega)) _) | (with_reducible refine Below.drew ?_) | (with_reducible refine below_drewN ?_ _) | (with_reducible refine Below.trans ?_ (Below.mono (by assumption) (by first | omega | (simp; done) | (simp; omega))))))
  have hsz : (((((w.alloc (.cells #[.func (.func fn) #[] #[]] 101)).alloc (.cells #[.int .i64 0, .int .i64 0, .slice none 0 0, .int .i64 0, .int .i64 0, .int .i64 0, .int .i64 0] 86)).alloc (.cells #[.int .i64 0, .int .i64 0, .slice none 0 0, .int .i64 0, .int .i64 0, .int .i64 0, .int .i64 0] 86)).alloc (.cells #[.int .i64 0] 3)).alloc (.cells #[.bool false] 4)).heap.size = w.heap.size + 5 := by simp
  obtain ⟨w4, hw4⟩ : ∃ w4, w4 = (((((w.alloc (.cells #[.func (.func fn) #[] #[]] 101)).alloc (.cells #[.int .i64 0, .int .i64 0, .slice none 0 0, .int .i64 0, .int .i64 0, .int .i64 0, .int .i64 0] 86)).alloc (.cells #[.int .i64 0, .int .i64 0, .slice none 0 0, .int .i64 0, .int .i64 0, .int .i64 0, .int .i64 0] 86)).alloc (.cells #[.int .i64 0] 3)).alloc (.cells #[.bool false] 4)) := ⟨_, rfl⟩
  rw [← hw4] at b0 b1 b2 b3 b4 hbW hsz ⊢
  clear hw4
  have i0 : GrB w W H wi hi ao N cap tv (.func (.func fn) #[] #[]) [] w4 := ⟨b0, b1, b2, b3, b4, hbW, by omega⟩
  have HXY := Lib.hid (And.intro hx1 hy1)
  clear hx1 hy1
  refine wpIn_rangeFunc_ownH (α := PlcB nx ny) rfl (by omega) (gf := 133) (lb := #[.pointer (some ⟨Bg, 0, none⟩), .pointer (some ⟨Bh, 0, none⟩), .pointer (some ⟨Bw, 0, none⟩)]) rfl trivial (enters_of Tryd.func133 (by kernel_rfl) rfl)
    (blocks_stopsB 5 (by omega) Bg Bh Bw W H wi hi nx ny ao N cap (fun k => k < w.heap.size) lg lh lw hW hH hnx hny w4 (fun k hk => by omega) ((hbW.cell (p := ⟨Bg, 0, none⟩) lg).trans c0) ((hbW.cell (p := ⟨Bg, 1, none⟩) lg).trans c1) ((hbW.cell (p := ⟨Bg, 2, none⟩) lg).trans c2) ((hbW.cell (p := ⟨Bw, 0, none⟩) lw).trans cw) ((hbW.cell (p := ⟨Bh, 0, none⟩) lh).trans ch))
    (fun h g => KB.trans h g) (kb_put (fun k hk => by omega)) (Below.refl _ _) (fun _ => rfl)
    (fun pre X => GrB w W H wi hi ao N cap tv (.func (.func fn) #[] #[]) (pre.map (·.1)) X) (fun _ _ _ => False) (grB_own (by omega) _) (fun _ => ownFrom_pure _ _)
    i0
    (fun x a' X => ∃ Z, w.heap.size + 5 ≤ Z ∧ Sev X Z (.int .i64 W) (.int .i64 H) (.slice ao N cap) (.int .i64 ((x.1.1 : Int))) (.int .i64 ((x.1.2 : Int))) (.int .i64 ((x.1.1 : Int) + (wi : Int) - 1)) (.int .i64 ((x.1.2 : Int) + (hi : Int) - 1)) ∧ a' = { tmps := #[.func (.func 133) #[] #[.pointer (some ⟨Bg, 0, none⟩), .pointer (some ⟨Bh, 0, none⟩), .pointer (some ⟨Bw, 0, none⟩)], .func (.func fn) #[] #[], undef, .pointer (some ⟨w.heap.size, 0, none⟩), .pointer (some ⟨w.heap.size + 1, 0, none⟩), .pointer (some ⟨w.heap.size + 1 + 1, 0, none⟩), .pointer (some ⟨w.heap.size + 1 + 1 + 1, 0, none⟩), .pointer (some ⟨w.heap.size + 1 + 1 + 1 + 1, 0, none⟩), .pointer (some ⟨Z, 0, none⟩), undef, .func (.func 133) #[] #[.pointer (some ⟨Bg, 0, none⟩), .pointer (some ⟨Bh, 0, none⟩), .pointer (some ⟨Bw, 0, none⟩)], .agg #[.int .i64 W, .int .i64 H, .slice ao N cap, .int .i64 ((x.1.1 : Int)), .int .i64 ((x.1.2 : Int)), .int .i64 ((x.1.1 : Int) + (wi : Int) - 1), .int .i64 ((x.1.2 : Int) + (hi : Int) - 1)], undef, undef, undef, undef, undef, undef, undef, undef, undef, undef, undef, undef, undef], defers := [] })
    (fun x a' _ X Y row hs hg hr => by
      obtain ⟨Z, h1, h2, h3⟩ := hs
      exact ⟨Z, h1, sev_own h2 hg (fun r e => (hr r e).2), h3⟩)
    ?assign ?body ?done ?stop
  case assign =>
    rintro l pre x X K' hI hK'
    have hsX := hI.size
    gi_wp2
    have hbZ : Below X.heap.size X (X.alloc (.cells #[.int .i64 W, .int .i64 H, .slice ao N cap, .int .i64 ((x.1.1 : Int)), .int .i64 ((x.1.2 : Int)), .int .i64 ((x.1.1 : Int) + (wi : Int) - 1), .int .i64 ((x.1.2 : Int) + (hi : Int) - 1)] 86)) := (Below.refl _ _).alloc (Nat.le_refl _) _
    exact hK' _ _ (keepsFrom_of_below hbZ) (KB.of_below hbZ (fun k hk => by omega)) ((grB_own (α := List (Nat × Nat)) (Bd := w4.heap.size) (by omega) id).alloc _ hI) ⟨X.heap.size, hsX, Sev.new X _ _ _ _ _ _ _, rfl⟩
  case body =>
    rintro l pre x a' X _ _ hI ⟨Z, lZ, hZ, rfl⟩ hlen
    obtain ⟨p, hp⟩ := x
    have eL : (pre ++ [(⟨p, hp⟩ : PlcB nx ny)]).map (·.1) = pre.map (·.1) ++ [p] := by simp
    obtain ⟨L, hL⟩ : ∃ L : List (Nat × Nat), L = pre.map (·.1) := ⟨_, rfl⟩
    rw [← hL] at eL
    rw [show pre.map (fun x : PlcB nx ny => x.1) = L from hL.symm] at hI
    have EL := Lib.hid eL
    clear eL
    have hbX := hI.below
    have hsX := hI.size
    have CL := Lib.hid (fun wx (hb : Below X.heap.size X wx) => HT.out.2 wx p (KB.of_below (hbX.trans (hb.mono hbX.size)) (fun _ h => h)) hp)
    obtain ⟨v, hv⟩ : ∃ v, v = tv p := ⟨_, rfl⟩
    rw [← hv] at CL
    dsimp only at hZ ⊢
    have HZ := Lib.hid hZ
    obtain ⟨ax, hax⟩ : ∃ ax : Int, ax = (p.1 : Int) := ⟨_, rfl⟩
    obtain ⟨ay, hay⟩ : ∃ ay : Int, ay = (p.2 : Int) := ⟨_, rfl⟩
    obtain ⟨bx, hbx⟩ : ∃ bx : Int, bx = (p.1 : Int) + (wi : Int) - 1 := ⟨_, rfl⟩
    obtain ⟨yb, hyb⟩ : ∃ yb : Int, yb = (p.2 : Int) + (hi : Int) - 1 := ⟨_, rfl⟩
    rw [← hbx, ← hyb, ← hax, ← hay] at hZ CL ⊢
    have HE := Lib.hid (And.intro hax (And.intro hay (And.intro hbx hyb)))
    have m0 := hZ.at 0 _ rfl
    have m1 := hZ.at 1 _ rfl
    have m2 := hZ.at 2 _ rfl
    have m3 := hZ.at 3 _ rfl
    have m4 := hZ.at 4 _ rfl
    have m5 := hZ.at 5 _ rfl
    have m6 := hZ.at 6 _ rfl
    have lZX := hZ.lt
    have t0 := hI.tel.cell
    have t2 := hI.mos.cell
    have t3 := hI.kno.cell
    have f2 := hI.mos.frozen
    have f3 := hI.kno.frozen
    have lX0 := hI.tel.lt
    have HS := Lib.hid (And.intro hI hv)
    obtain ⟨m, hm⟩ : ∃ m, m = mosB tv (bstB tv L) := ⟨_, rfl⟩
    rw [← hm] at t2
    obtain ⟨kn, hkn⟩ : ∃ kn, kn = (bstB tv L).isSome := ⟨_, rfl⟩
    rw [← hkn] at t3
    have HM := Lib.hid (And.intro hm hkn)
    have hO : SevO W H wi hi ao N cap X (w.heap.size + 2) (bstB tv L) := hI.bes
    obtain ⟨o0, o1, o2, o3, o4, o5, o6, hS⟩ : ∃ o0 o1 o2 o3 o4 o5 o6, Sev X (w.heap.size + 2) o0 o1 o2 o3 o4 o5 o6 := by
      cases hb : bstB tv L with
      | none => rw [hb] at hO; exact ⟨_, _, _, _, _, _, _, hO⟩
      | some q => rw [hb] at hO; exact ⟨_, _, _, _, _, _, _, hO⟩
    have n0 := hS.at 0 _ rfl
    have n1 := hS.at 1 _ rfl
    have n2 := hS.at 2 _ rfl
    have n3 := hS.at 3 _ rfl
    have n4 := hS.at 4 _ rfl
    have n5 := hS.at 5 _ rfl
    have n6 := hS.at 6 _ rfl
    have fB : ∀ d, X.frozen? ⟨w.heap.size + 2, d, none⟩ = false := fun d => by simp [World.frozen?, show X.heap[w.heap.size + 2]? = _ from hS]
    clear hI hL hlen b0 b1 b2 b3 b4 hv hm hkn hax hay hbx hyb hZ hO i0 c0 c1 c2 cw ch
    cases kn with
    | false =>
      have HN := Lib.hid (show ∀ q, bstB tv L = some q → tv q < tv p from fun q hq => by have := HM.out.2; rw [hq] at this; cases this)
      gi_wp2_with (refine ⟨trivial, ?_⟩; go_must ((refine (callsIn_wide.2 (CL.out _ (by (repeat' (first | (with_reducible exact Below.refl _ _) | (with_reducible refine Below.setCell ?_ (by first | omega | (simp; done) | (simp; omega)) _) | (with_reducible refine Below.alloc ?_ (by first | omega | (simp; done) | (simp; omega)) _) | (with_reducible refine Below.drew ?_) | (with_reducible refine below_drewN ?_ _) | (with_reducible refine Below.trans ?_ (Below.mono (by assumption) (by first | omega | (simp; done) | (simp; omega))))))))).mono ?_); rintro e w7 ⟨rfl, hb7⟩; obtain ⟨hc7, hf7, hz7⟩ := bcall hb7; (try simp at hc7 hf7 hz7)))
      have hX7 : Below X.heap.size X w7 := by (repeat' (first | (with_reducible exact Below.refl _ _) | (with_reducible refine Below.setCell ?_ (by first | omega | (simp; done) | (simp; omega)) _) | (with_reducible refine Below.alloc ?_ (by first | omega | (simp; done) | (simp; omega)) _) | (with_reducible refine Below.drew ?_) | (with_reducible refine below_drewN ?_ _) | (with_reducible refine Below.trans ?_ (Below.mono (by assumption) (by first | omega | (simp; done) | (simp; omega))))))
      refine ⟨(keepsFrom_of_below hX7).trans (((st7_keeps w7 (w.heap.size + 2) _ _ _ _ _ _ _).trans ((KeepsOthers.setCell _ _ _).trans (KeepsOthers.setCell _ _ _))).from _), (KB.of_below hX7 (fun k hk => by omega)).trans ((st7_kb w7 (P := w.heap.size + 2) _ _ _ _ _ _ _ (fun hk => by omega)).trans ((KB.set (fun hk => by omega)).trans (KB.set (fun hk => by omega)))), ?_⟩
      show GrB w _ _ _ _ _ _ _ tv _ (List.map (fun x : PlcB nx ny => x.val) _) _
      rw [EL.out]
      exact grB_new (grB_below HS.out.1 hX7) HN.out HS.out.2 HE.out.1 HE.out.2.1 HE.out.2.2.1 HE.out.2.2.2
    | true =>
      obtain ⟨q, hq⟩ : ∃ q, bstB tv L = some q := Option.isSome_iff_exists.1 HM.out.2.symm
      have hm : m = tv q := by have := HM.out.1; rw [hq] at this; exact this
      have hv := HS.out.2
      by_cases hlt : m < v
      · have HN := Lib.hid (show ∀ q, bstB tv L = some q → tv q < tv p from fun q' hq' => by rw [hq] at hq'; cases hq'; omega)
        clear hq hm hv
        gi_wp2_with (refine ⟨trivial, ?_⟩; go_must ((refine (callsIn_wide.2 (CL.out _ (by (repeat' (first | (with_reducible exact Below.refl _ _) | (with_reducible refine Below.setCell ?_ (by first | omega | (simp; done) | (simp; omega)) _) | (with_reducible refine Below.alloc ?_ (by first | omega | (simp; done) | (simp; omega)) _) | (with_reducible refine Below.drew ?_) | (with_reducible refine below_drewN ?_ _) | (with_reducible refine Below.trans ?_ (Below.mono (by assumption) (by first | omega | (simp; done) | (simp; omega))))))))).mono ?_); rintro e w7 ⟨rfl, hb7⟩; obtain ⟨hc7, hf7, hz7⟩ := bcall hb7; (try simp at hc7 hf7 hz7)))
        have hX7 : Below X.heap.size X w7 := by (repeat' (first | (with_reducible exact Below.refl _ _) | (with_reducible refine Below.setCell ?_ (by first | omega | (simp; done) | (simp; omega)) _) | (with_reducible refine Below.alloc ?_ (by first | omega | (simp; done) | (simp; omega)) _) | (with_reducible refine Below.drew ?_) | (with_reducible refine below_drewN ?_ _) | (with_reducible refine Below.trans ?_ (Below.mono (by assumption) (by first | omega | (simp; done) | (simp; omega))))))
        refine ⟨(keepsFrom_of_below hX7).trans (((st7_keeps w7 (w.heap.size + 2) _ _ _ _ _ _ _).trans ((KeepsOthers.setCell _ _ _).trans (KeepsOthers.setCell _ _ _))).from _), (KB.of_below hX7 (fun k hk => by omega)).trans ((st7_kb w7 (P := w.heap.size + 2) _ _ _ _ _ _ _ (fun hk => by omega)).trans ((KB.set (fun hk => by omega)).trans (KB.set (fun hk => by omega)))), ?_⟩
        show GrB w _ _ _ _ _ _ _ tv _ (List.map (fun x : PlcB nx ny => x.val) _) _
        rw [EL.out]
        exact grB_new (grB_below HS.out.1 hX7) HN.out HS.out.2 HE.out.1 HE.out.2.1 HE.out.2.2.1 HE.out.2.2.2
      · have HN := Lib.hid (show bstB tv L = some q ∧ ¬ tv q < tv p from ⟨hq, by omega⟩)
        clear hq hm hv
        gi_wp2_with (refine ⟨trivial, ?_⟩; go_must ((refine (callsIn_wide.2 (CL.out _ (by (repeat' (first | (with_reducible exact Below.refl _ _) | (with_reducible refine Below.setCell ?_ (by first | omega | (simp; done) | (simp; omega)) _) | (with_reducible refine Below.alloc ?_ (by first | omega | (simp; done) | (simp; omega)) _) | (with_reducible refine Below.drew ?_) | (with_reducible refine below_drewN ?_ _) | (with_reducible refine Below.trans ?_ (Below.mono (by assumption) (by first | omega | (simp; done) | (simp; omega))))))))).mono ?_); rintro e w7 ⟨rfl, hb7⟩; obtain ⟨hc7, hf7, hz7⟩ := bcall hb7; (try simp at hc7 hf7 hz7)))
        have hX7 : Below X.heap.size X w7 := by (repeat' (first | (with_reducible exact Below.refl _ _) | (with_reducible refine Below.setCell ?_ (by first | omega | (simp; done) | (simp; omega)) _) | (with_reducible refine Below.alloc ?_ (by first | omega | (simp; done) | (simp; omega)) _) | (with_reducible refine Below.drew ?_) | (with_reducible refine below_drewN ?_ _) | (with_reducible refine Below.trans ?_ (Below.mono (by assumption) (by first | omega | (simp; done) | (simp; omega))))))
        refine ⟨(keepsFrom_of_below hX7), (KB.of_below hX7 (fun k hk => by omega)), ?_⟩
        show GrB w _ _ _ _ _ _ _ tv _ (List.map (fun x : PlcB nx ny => x.val) _) _
        rw [EL.out]
        exact grB_same (grB_below HS.out.1 hX7) HN.out.1 (by have := HN.out.2; omega)
  case done =>
    rintro D ys X hD hys hI hK'
    obtain ⟨p, hp⟩ := bstB_some tv (recP nx ny) (fun e => by have h := recP_len nx ny; rw [e] at h; have h2 := Nat.mul_le_mul HXY.out.2 HXY.out.1; simp only [List.length_nil, Nat.mul_one] at h h2; omega)
    have hS : SevO W H wi hi ao N cap X (w.heap.size + 2) (some p) := by have := hI.bes; rw [show ys.map (fun x : PlcB nx ny => x.1) = recP nx ny from hys, hp] at this; exact this
    have hR : Sev X (w.heap.size + 1) (.int .i64 0) (.int .i64 0) (.slice none 0 0) (.int .i64 0) (.int .i64 0) (.int .i64 0) (.int .i64 0) := hI.res
    obtain ⟨ax, hax⟩ : ∃ ax : Int, ax = (p.1 : Int) := ⟨_, rfl⟩
    obtain ⟨ay, hay⟩ : ∃ ay : Int, ay = (p.2 : Int) := ⟨_, rfl⟩
    obtain ⟨bx, hbx⟩ : ∃ bx : Int, bx = (p.1 : Int) + (wi : Int) - 1 := ⟨_, rfl⟩
    obtain ⟨yb, hyb⟩ : ∃ yb : Int, yb = (p.2 : Int) + (hi : Int) - 1 := ⟨_, rfl⟩
    have hS : Sev X (w.heap.size + 2) (.int .i64 W) (.int .i64 H) (.slice ao N cap) (.int .i64 ax) (.int .i64 ay) (.int .i64 bx) (.int .i64 yb) := by rw [hax, hay, hbx, hyb]; exact hS
    have HP := Lib.hid (show ∃ p, bstB tv (recP nx ny) = some p ∧ (.returned (.agg #[.int .i64 W, .int .i64 H, .slice ao N cap, .int .i64 ax, .int .i64 ay, .int .i64 bx, .int .i64 yb]) : Ending) = .returned (.agg #[.int .i64 W, .int .i64 H, .slice ao N cap, .int .i64 ((p.1 : Int)), .int .i64 ((p.2 : Int)), .int .i64 ((p.1 : Int) + (wi : Int) - 1), .int .i64 ((p.2 : Int) + (hi : Int) - 1)]) from ⟨p, hp, by rw [hax, hay, hbx, hyb]⟩)
    have n0 := hS.at 0 _ rfl
    have n1 := hS.at 1 _ rfl
    have n2 := hS.at 2 _ rfl
    have n3 := hS.at 3 _ rfl
    have n4 := hS.at 4 _ rfl
    have n5 := hS.at 5 _ rfl
    have n6 := hS.at 6 _ rfl
    have o0 := hR.at 0 _ rfl
    have o1 := hR.at 1 _ rfl
    have o2 := hR.at 2 _ rfl
    have o3 := hR.at 3 _ rfl
    have o4 := hR.at 4 _ rfl
    have o5 := hR.at 5 _ rfl
    have o6 := hR.at 6 _ rfl
    have fB : ∀ d, X.frozen? ⟨w.heap.size + 1, d, none⟩ = false := fun d => by simp [World.frozen?, show X.heap[w.heap.size + 1]? = _ from hR]
    have hR7 := hR.set7 (.int .i64 W) (.int .i64 H) (.slice ao N cap) (.int .i64 ax) (.int .i64 ay) (.int .i64 bx) (.int .i64 yb)
    have hnD : w.heap.size + 1 ≠ D := fun e => by rw [← e, show X.heap[w.heap.size + 1]? = _ from hR] at hK'; cases hK'
    obtain ⟨Y, hY⟩ : ∃ Y, Y = st7 X (w.heap.size + 1) (.int .i64 W) (.int .i64 H) (.slice ao N cap) (.int .i64 ax) (.int .i64 ay) (.int .i64 bx) (.int .i64 yb) := ⟨_, rfl⟩
    have hK7 : Y.heap[D]? = some (.deferred (some [])) := by rw [hY]; exact (st7_other X _ _ _ _ _ _ _ hnD.symm).trans hK'
    have R7 := Lib.hid (show Sev (Y.putObj D (.deferred none)) (w.heap.size + 1) (.int .i64 W) (.int .i64 H) (.slice ao N cap) (.int .i64 ax) (.int .i64 ay) (.int .i64 bx) (.int .i64 yb) from (World.putObj_heap_other hnD).trans (by rw [hY]; exact hR7))
    have DK := Lib.hid (And.intro hK7 (show Below w.heap.size w (Y.putObj D (.deferred none)) from (by rw [hY]; exact st7_below hI.below (by omega) _ _ _ _ _ _ _ : Below w.heap.size w Y).trans (belowK_b (w := w) (Nat.le_refl _) _ D _ _ (by omega) hK7 rfl rfl)))
    have lX := hI.size
    have HI := Lib.hid hI
    clear hI hys hax hay hbx hyb hp i0 b0 b1 b2 b3 b4 c0 c1 c2 cw ch hR7 hS hR hK7 hnD
    gi_wp2
    show bodyPostM _ _ _ _ _ _ _ (st7 X (w.heap.size + 1) (.int .i64 W) (.int .i64 H) (.slice ao N cap) (.int .i64 ax) (.int .i64 ay) (.int .i64 bx) (.int .i64 yb))
    rw [← hY]
    clear hY n0 n1 n2 n3 n4 n5 n6 o0 o1 o2 o3 o4 o5 o6 fB
    have hK7 := DK.out.1
    refine ⟨by simp, .inl ⟨_, _, rfl, run_takeDeferred hK7, ?_⟩⟩
    have q0 := R7.out.at 0 _ rfl
    have q1 := R7.out.at 1 _ rfl
    have q2 := R7.out.at 2 _ rfl
    have q3 := R7.out.at 3 _ rfl
    have q4 := R7.out.at 4 _ rfl
    have q5 := R7.out.at 5 _ rfl
    have q6 := R7.out.at 6 _ rfl
    have HQ := HP.out
    have HB := DK.out.2
    clear R7 DK HP HI HXY hsz hK' HT eT
    refine ⟨.agg #[.int .i64 W, .int .i64 H, .slice ao N cap, .int .i64 ax, .int .i64 ay, .int .i64 bx, .int .i64 yb], ?_, HQ, ?_⟩
    · clear HQ HB
      simp [results, Tryd.results73, go_sem, *]
    · exact HB
  case stop =>
    rintro D c pre X _ _ h _
    exact h.elim
end Go.Proofs.YtmdeooflgkjbbaaDoor
