/- A path that ends: by the program of the fields. -/
import Derived.Test.YtmdeooflgkjbbaaDoorKFNext
import Derived.Test.YtmdeooflgkjbbaaDoorKFTell
import Derived.Test.YtmdeooflgkjbbaaDoorKColIn
import Derived.Maps.OwnIn
import Derived.Maps.Views
import Derived.Deep.AppendLies
import Derived.Test.YtmdeooflgkjbbaaDoorKOwnC
namespace Go
open Go.Maps (Keyed)
theorem plainElem_bool_inv {H : Type} {P : Program} {e : TypeId} (he : P.underlying e = some .bool) {v : Value} {z : DataW H × List MemPlace} (h : plainElem P e v = some z) : ∃ x, v = .bool x ∧ z = (.lit (.bool x), []) := by
  unfold plainElem at h
  rw [he] at h
  cases v <;> simp at h
  subst h
  exact ⟨_, rfl, rfl⟩
/-- A look-up of bools in a map of one's own, inside a fence. -/
theorem wpListIn_lookup_own_bool {H : Type} {F : Fence} {nF : Nat} {P : Program} (w : World) {ops : Array Oper} {rest : List Oper} {o : Oper} {a : Act} {Q : Exit → Act → World → Prop}
    (hg : o.guard = none) (m x : Operand) (t : TypeId) (hop : o.op = Op.lookup t m x false)
    (k e : TypeId) (K : Keyed P k) (ht : P.underlying t = some (.map k e)) (he : P.underlying e = some .bool) (hz : (zeroValue e).run P w = .ok (.bool false) w) (b n : Nat) (D : DataW H)
    (hm : a.eval m = .map (some b)) (hown : w.ownsMap P k (plainElem P e) b n D) (key : Value) (kl : Lit) (hx : a.eval x = key) (hkey : keyOf P k key = some kl) (c : Bool) (hat : D.atKey kl (.lit (.bool false)) = .lit (.bool c))
    (hK : wpListIn F nF P ops Q rest (a.put o.dst (.bool c)) w) :
    wpListIn F nF P ops Q (o :: rest) a w := by
  refine wpListIn_plain hg fun K' hK' => ?_
  obtain ⟨v, ps, hrun, hv⟩ := hown.lookup K ht hz (plainElem_bool he false) hkey
  obtain ⟨c2, rfl, hc⟩ := plainElem_bool_inv he hv
  simp only [Prod.mk.injEq] at hc
  have hcc : c2 = c := by
    have := hat.symm.trans hc.1
    simpa using this.symm
  subst hcc
  unfold Oper.wpIn
  refine ⟨by simp [Oper.about, hop], ?_⟩
  rw [Oper.semAt_plain F _ _ (by rw [hop]; intro c hc'; cases hc')]
  simp [execOp, hop, hm, hx, hrun, Result.andThen]
  exact hK' _ _ hK
end Go
namespace Go.Proofs.YtmdeooflgkjbbaaDoor
set_option linter.unusedSimpArgs false
set_option linter.unusedVariables false
open Go.RowKit Go.Maps Go.Shelf
attribute [local go_sem] Oper.semAt_some

theorem info_point : (Tryd.prog.info? 26).map (fun i => (i.zero, i.size, i.bytes)) = some (some (.agg #[.int .i64 0, .int .i64 0]), 2, 16) := by kernel_rfl
theorem lawIF : Keyed Tryd.prog 3 := int_keyed Tryd.underlying3
theorem zeroB (w : World) : (zeroValue 4).run Tryd.prog w = .ok (.bool false) w := by kernel_rfl

/-- Which cells the map has. -/
def HadD (D : DataW Unit) (L : List Nat) : Prop := Tidy D ∧ ∀ q : Nat, D.atKey (.int .i64 (q : Int)) (.lit (.bool false)) = .lit (.bool (decide (q ∈ L)))
theorem hadD_nil : HadD (.map []) [] := ⟨tidy_empty, fun q => by simp [DataW.atKey]⟩
theorem hadD_put {D : DataW Unit} {L : List Nat} (h : HadD D L) (q : Nat) : HadD (D.put (.int .i64 (q : Int)) (.lit (.bool true))) (L ++ [q]) := by
  have hk : WideAt.IsKeyLit (.int .i64 (q : Int)) := trivial
  refine ⟨h.1.put hk _, fun r => ?_⟩
  by_cases e : r = q
  · subst e
    rw [atKey_put_same h.1.isMap hk]
    simp
  · rw [atKey_put_other (by simp; omega), h.2 r]
    simp [e]
/-- Points, as values. -/
def ptV (W : Nat) (L : List Nat) : List Value := L.flatMap fun q => [.int .i64 (((q % W : Nat) : Int)), .int .i64 (((q / W : Nat) : Int))]
theorem ptV_app (W : Nat) (L : List Nat) (q : Nat) : ptV W (L ++ [q]) = ptV W L ++ [.int .i64 (((q % W : Nat) : Int)), .int .i64 (((q / W : Nat) : Int))] := by simp [ptV]

/-- What stands along a path. -/
structure PtI (W H N b off cap : Nat) (w : World) (P lo : Nat) (pre : List (CelW N)) (X : World) : Prop where
  gri : Three X w.heap.size 24 (.int .i64 W) (.int .i64 H) (.slice (some ⟨b, off, none⟩) N cap)
  res : Boxed X (w.heap.size + 2) 81 (.slice none 0 0)
  aga : Boxed X (w.heap.size + 3) 4 (.bool false)
  err : Boxed X (w.heap.size + 4) 29 (.int .i64 0)
  pat : ∃ v, Boxed X P 81 v ∧ X.ownsRow lo 26 2 v pre.length (ptV W (pre.map (·.1)))
  map : Boxed X (P + 2) 162 (.map (some (P + 1)))
  had : ∃ D, X.ownsMap Tryd.prog 3 (plainElem (H := Unit) Tryd.prog 4) (P + 1) pre.length D ∧ HadD D (pre.map (·.1))
  below : Below w.heap.size w X
  size : lo ≤ X.heap.size
theorem three_ownF {X Y : World} {row : Option Nat} {E : Nat} {t : TypeId} {a b c : Value} (h : Three X E t a b c) (hg : X.grownBy Y row) (hr : ∀ r, row = some r → ∃ o : Obj, X.heap[r]? = some o ∧ o.isCells = false) : Three Y E t a b c :=
  (hg.block E h.lt (fun e' => by obtain ⟨o, ho, hc⟩ := hr E e'.symm; rw [show X.heap[E]? = _ from h] at ho; cases ho; cases hc)).trans h
theorem ptI_own {W H N b off cap : Nat} {w : World} {P lo Bd : Nat} (hB : w.heap.size ≤ Bd) (hP : P + 1 < Bd) : OwnFrom Bd (PtI W H N b off cap w P lo) := fun s X Y row hs hg hr => by
  have hr' : ∀ r, row = some r → ∃ o : Obj, X.heap[r]? = some o ∧ o.isCells = false := fun r e => (hr r e).2
  obtain ⟨v, h1, h2⟩ := hs.pat
  obtain ⟨D, d1, d2⟩ := hs.had
  refine ⟨three_ownF hs.gri hg hr', boxed_own _ _ (fun (_ : Unit) => .slice none 0 0) () X Y row hs.res hg hr', boxed_own _ _ (fun (_ : Unit) => .bool false) () X Y row hs.aga hg hr', boxed_own _ _ (fun (_ : Unit) => .int .i64 0) () X Y row hs.err hg hr',
    ⟨v, boxed_own _ _ (fun (_ : Unit) => v) () X Y row h1 hg hr', h2.kept hg ?_⟩, boxed_own _ _ (fun (_ : Unit) => .map (some (P + 1))) () X Y row hs.map hg hr', ⟨D, d1.kept hg (fun e => by have := (hr _ e.symm).1; omega), d2⟩, ownFrom_below (β := Unit) (Nat.le_refl _) hB () X Y row hs.below hg hr, Nat.le_trans hs.size hg.size⟩
  rcases h2.2 with ⟨rfl, _⟩ | ⟨g, cap, cur, rfl, _, hgb, _⟩
  · exact .inl rfl
  · refine .inr fun e' => ?_
    obtain ⟨o, ho, hw⟩ := hr' g (by simpa [Value.ownBlock] using e'.symm)
    rw [hgb] at ho
    cases ho
    cases hw

theorem along_stops (n : Nat) (hn : 1 ≤ n) (Bs Bg W H N cap b off : Nat) (G : Nat → Nat → Int) (L : List Nat) (S : Nat → Prop) (hSs : S Bs) (hSg : S Bg) (hSb : S b) (hSm : S 1) (s : Sides W H N) (hL : Chn W H N G L) (ps : Nat → Nat) (hps : ∀ (j i : Nat), L[j]? = some i → ps i = j) (st : Nat) (h1 : L[0]? = some st)
    (w : World) (hSl : ∀ k, S k → k < w.heap.size)
    (cs : w.cell? ⟨Bs, 0, none⟩ = some (.int .i64 ((st : Int)))) (c0 : w.cell? ⟨Bg, 0, none⟩ = some (.int .i64 W)) (c1 : w.cell? ⟨Bg, 1, none⟩ = some (.int .i64 H)) (c2 : w.cell? ⟨Bg, 2, none⟩ = some (.slice (some ⟨b, off, none⟩) N cap)) (hG : Grd w b off N G) (hM : Mvs w) :
    SeqStopsK Fence.wide n Tryd.prog 168 #[.pointer (some ⟨Bs, 0, none⟩), .pointer (some ⟨Bg, 0, none⟩)] (fun x : CelW N => #[.int .i64 ((x.1 : Int))]) (KB S)
      (fun ys => ys.map (·.1) = L) (fun pre => pre.map (·.1) <+: L) L.length w := fun l J Jx W' hW' hJ hJx hY h0 =>
  (along1_in n hn l Bs Bg W H N cap b off G L S hSs hSg hSb hSm s hL ps hps st h1 (fun L X => ∃ l' : List (CelW N), l'.map (·.1) = L ∧ J l' X) (fun L X => ∃ l' : List (CelW N), l'.map (·.1) = L ∧ Jx l' X) W' (fun k hk => Nat.lt_of_lt_of_le (hSl k hk) hW'.size)
    (fun L W1 W2 h hb => by
      obtain ⟨l', e, hj⟩ := h
      exact ⟨l', e, hJ l' W1 W2 none hj (grown_of_below hb) (fun r e => by cases e)⟩)
    (fun pre x W1 hj hlen hpre => by
      obtain ⟨l', e, hj⟩ := hj
      have hx2 : x < N := by
        obtain ⟨j, hj2⟩ := List.getElem?_of_mem (hpre.subset (show x ∈ pre ++ [x] by simp))
        exact hL.lt j x hj2
      obtain ⟨fn, tmps, assign, body, hy, hRd⟩ := hY l' ⟨x, hx2⟩ W1 hj (by rw [← e] at hlen; simpa using hlen)
      refine ⟨fn, tmps, assign, body, hy, hRd.mono fun e2 W2 h => ?_⟩
      rcases h with ⟨h1, h2, h3⟩ | ⟨h1, h2⟩
      · exact .inl ⟨h1, ⟨l' ++ [⟨x, hx2⟩], by simp [e], h2⟩, h3⟩
      · exact .inr ⟨h1, ⟨l' ++ [⟨x, hx2⟩], by simp [e], h2⟩⟩)
    ((hW'.cell (p := ⟨Bs, 0, none⟩) (hSl _ hSs)).trans cs) ((hW'.cell (p := ⟨Bg, 0, none⟩) (hSl _ hSg)).trans c0) ((hW'.cell (p := ⟨Bg, 1, none⟩) (hSl _ hSg)).trans c1) ((hW'.cell (p := ⟨Bg, 2, none⟩) (hSl _ hSg)).trans c2) (hG.below hW' (hSl _ hSb)) (hM.below hW') ⟨[], rfl, h0⟩).mono fun e W2 h => by
    obtain ⟨hv, h⟩ := h
    refine ⟨hv, ?_⟩
    rcases h with ⟨ys, hy, l', e, hj⟩ | ⟨pre, hp, l', e, hj⟩
    · exact .inl ⟨l', by show l'.map (·.1) = _; rw [e, hy], hj⟩
    · exact .inr ⟨l', by show l'.map (·.1) <+: _; rw [e]; exact hp, hj⟩
theorem own_rowF {w : World} {base : Nat} {e : TypeId} {size : Nat} {v : Value} {k : Nat} {xs : List Value} (h : w.ownsRow base e size v k xs) : ∀ g, v.ownBlock = some g → base ≤ g ∧ ∃ o : Obj, w.heap[g]? = some o ∧ o.isCells = true := fun g hg => by
  rcases h.2 with ⟨rfl, _⟩ | ⟨g', cap, cur, rfl, hgb, hh, _⟩
  · cases hg
  · cases hg
    exact ⟨hgb, _, hh, rfl⟩
theorem ptI_step {W H N b off cap : Nat} {w : World} {P : Nat} {pre : List (CelW N)} {X w5 w6 w8 : World} {q : Nat} (hq : q < N) (h : PtI W H N b off cap w P (P + 5) pre X) (hP : w.heap.size + 5 ≤ P)
    {v v8 : Value} (hv : Boxed X P 81 v) (hvr : X.ownsRow (P + 5) 26 2 v pre.length (ptV W (pre.map (·.1)))) {D : DataW Unit} (hD : HadD D (pre.map (·.1)))
    (own5 : w5.ownsMap Tryd.prog 3 (plainElem (H := Unit) Tryd.prog 4) (P + 1) (pre.length + 1) (D.put (.int .i64 (q : Int)) (.lit (.bool true)))) (g5 : X.grownBy w5 (some (P + 1))) (b6 : Below w5.heap.size w5 w6)
    (own8 : w8.ownsRow (P + 5) 26 2 v8 (pre.length + 1) (ptV W (pre.map (·.1)) ++ [.int .i64 (((q % W : Nat) : Int)), .int .i64 (((q / W : Nat) : Int))])) (g8 : w6.grownBy w8 v.ownBlock) :
    KeepsFrom (P + 5) X (w8.setCell ⟨P, 0, none⟩ v8) ∧ KB (fun k => k < w.heap.size ∨ k = P + 3 ∨ k = P + 4) X (w8.setCell ⟨P, 0, none⟩ v8) ∧ PtI W H N b off cap w P (P + 5) (pre ++ [⟨q, hq⟩]) (w8.setCell ⟨P, 0, none⟩ v8) := by
  have sX := h.size
  have hro := own_rowF hvr
  have x8 : Ex (fun k => k = P) w8 (w8.setCell ⟨P, 0, none⟩ v8) := by refine Ex.setCell (Ex.refl _ _) ?_ _; rfl
  have s5 := g5.size
  have s6 := b6.size
  have s8 := g8.size
  have blk : ∀ k, k < X.heap.size → k ≠ P → k ≠ P + 1 → some k ≠ v.ownBlock → (w8.setCell ⟨P, 0, none⟩ v8).heap[k]? = X.heap[k]? := fun k h1 h2 h3 h4 =>
    (x8.block k (by omega) h2).trans ((g8.block k (by omega) h4).trans ((b6.block k (by omega)).trans (g5.block k h1 (fun e => h3 (by cases e; rfl)))))
  have low : ∀ k, k < P + 5 → some k ≠ v.ownBlock := fun k hk e => by have := (hro k e.symm).1; omega
  have em : (pre ++ [(⟨q, hq⟩ : CelW N)]).map (·.1) = pre.map (·.1) ++ [q] := by simp
  have el : (pre ++ [(⟨q, hq⟩ : CelW N)]).length = pre.length + 1 := by simp
  have B8 : Boxed w8 P 81 v := (g8.block _ (by have := hv.lt; omega) (low P (by omega))).trans ((b6.block _ (by have := hv.lt; omega)).trans ((g5.block _ hv.lt (fun e => by cases e)).trans hv))
  refine ⟨⟨Nat.le_trans (by omega : X.heap.size ≤ w8.heap.size) x8.size, fun k o hk ho hc => ?_⟩, ⟨Nat.le_trans (by omega : X.heap.size ≤ w8.heap.size) x8.size, fun k hk => blk k (by omega) (by omega) (by omega) (low k (by omega))⟩, ?_⟩
  · refine (blk k (Array.getElem?_eq_some_iff.1 ho).1 (by omega) (by omega) (fun e => ?_)).trans ho
    obtain ⟨o', h1, h2⟩ := (hro k e.symm).2
    rw [ho] at h1
    cases h1
    rw [h2] at hc
    cases hc
  · refine ⟨(blk _ h.gri.lt (by omega) (by omega) (low _ (by omega))).trans h.gri, (blk _ h.res.lt (by omega) (by omega) (low _ (by omega))).trans h.res, (blk _ h.aga.lt (by omega) (by omega) (low _ (by omega))).trans h.aga, (blk _ h.err.lt (by omega) (by omega) (low _ (by omega))).trans h.err, ⟨v8, B8.set _, ?_⟩, (blk _ h.map.lt (by omega) (by omega) (low _ (by omega))).trans h.map, ⟨D.put (.int .i64 (q : Int)) (.lit (.bool true)), ?_, ?_⟩, ?_, ?_⟩
    · rw [em, el, ptV_app]
      refine own8.kept (grownBy_setCell' w8 P v8) ?_
      cases hvo : v8.ownBlock with
      | none => exact .inl rfl
      | some g => exact .inr (fun e => by have := (own_rowF own8 g hvo).1; cases e; omega)
    · rw [el]
      exact ((own5.kept (grown_of_below b6) (by simp)).kept g8 (low (P + 1) (by omega))).kept (grownBy_setCell' w8 P v8) (fun e => by cases e)
    · rw [em]
      exact hadD_put hD q
    · have hbX := h.below
      refine ⟨?_, ?_, ?_, ?_, fun k hk => (blk k (by have := hbX.size; omega) (by omega) (by omega) (low k (by omega))).trans (hbX.block k hk)⟩
      · exact ((g8.os.trans (b6.os.trans g5.os)).trans hbX.os)
      · exact ((g8.tape.trans (b6.tape.trans g5.tape)).trans hbX.tape)
      · exact ((g8.output.trans (b6.output.trans g5.output)).trans hbX.output)
      · have := hbX.size; have := x8.size; omega
    · have := x8.size; omega
end Go.Proofs.YtmdeooflgkjbbaaDoor

/- Path, where it ends: by the program of the fields. -/


namespace Go.Proofs.YtmdeooflgkjbbaaDoor
set_option linter.unusedSimpArgs false
set_option linter.unusedVariables false
open Go.RowKit Go.Maps Go.Shelf
attribute [local go_sem] Oper.semAt_some

set_option maxRecDepth 100000 in
set_option maxHeartbeats 16000000 in
theorem path_in (W H N cap b off x y : Nat) (G : Nat → Nat → Int) (L : List Nat) (w : World) (s : Sides W H N) (hO : OkG N G) (lb : b < w.heap.size) (hG : Grd w b off N G) (hM : Mvs w) (hx : x < W) (hy : y < H) (hL : Chn W H N G L) (ps : Nat → Nat) (hps : ∀ (j i : Nat), L[j]? = some i → ps i = j) (h1 : L[0]? = some (x + W * y)) (hLN : L.length ≤ 5000) :
    CallsIn Fence.wide 6 Tryd.prog 59 #[.agg #[.int .i64 W, .int .i64 H, .slice (some ⟨b, off, none⟩) N cap], .agg #[.int .i64 x, .int .i64 y]] w fun e w' => ∃ v, e = .returned (.tuple #[v, .bool false, .int .i64 0]) ∧ w'.ownsRow w.heap.size 26 2 v L.length (ptV W L) ∧ Below w.heap.size w w' := by
  obtain ⟨i0, hif, hz0, hz1, hz2⟩ := info_parts info_point
  have hmm := @run_makeMap Tryd.prog
  have HI := Lib.hid (fun wx (hb : Below w.heap.size w wx) => fIndex_ok W H x y (some ⟨b, off, none⟩) N cap G wx (vg_of s hO) (.inr ⟨b, off, rfl, Nat.lt_of_lt_of_le lb hb.size, hG.below hb lb⟩) s.w1 hx hy s.h1)
  have HG := Lib.hid hG
  have HM := Lib.hid hM
  have HS := Lib.hid s
  have HL := Lib.hid hL
  have lm := mvs_lt hM
  obtain ⟨st, hst⟩ : ∃ st, st = x + W * y := ⟨_, rfl⟩
  rw [← hst] at HI h1
  clear hG hM s hL hO hst
  refine callsIn_of_wp_marks Tryd.func59 rfl trivial ?_ rfl
  simp only [Tryd.ntmps59, List.size_toArray, List.length_cons, List.length_nil, Nat.reduceAdd, Nat.reduceSub, Array.replicate_succ, Array.replicate_zero, List.push_toArray, List.append_toArray, List.nil_append, List.cons_append]
  gi_wp2_with fail
  (refine ⟨trivial, ?_⟩; gi_at_call 129; (with_reducible refine (callsIn_wide.2 (HI.out _ (by (repeat' (first | (with_reducible exact Below.refl _ _) | (with_reducible refine Below.setCell ?_ (by first | omega | (simp; done) | (simp; omega)) _) | (with_reducible refine Below.alloc ?_ (by first | omega | (simp; done) | (simp; omega)) _) | (with_reducible refine Below.drew ?_) | (with_reducible refine below_drewN ?_ _) | (with_reducible refine Below.trans ?_ (Below.mono (by assumption) (by first | omega | (simp; done) | (simp; omega))))))))).mono ?_); rintro e w1 ⟨rfl, hb⟩; obtain ⟨hc, hf, hz⟩ := bcall hb; (try simp at hc hf hz))
  have g0 : ∀ (X : World) (k : Nat) (o o' : Obj), X.heap[k]? = some o → (X.alloc o').heap[k]? = some o := fun X k o o' h => (Below.heap_alloc _ _ _ (Array.getElem?_eq_some_iff.1 h).1).trans h
  have n0 : ∀ (X : World) (k : Nat) (o : Obj), X.heap.size = k → (X.alloc o).heap[k]? = some o := fun X k o h => by rw [← h]; exact World.alloc_heap_new X _
  have hb0 := Lib.hid hb
  have hsz : w.heap.size + 5 ≤ w1.heap.size := by have := hb.size; simp at this; omega
  have t2 : Three w1 w.heap.size 24 (.int .i64 W) (.int .i64 H) (.slice (some ⟨b, off, none⟩) N cap) := (hb.block _ (by simp; omega)).trans (g0 _ _ _ _ (g0 _ _ _ _ (g0 _ _ _ _ (g0 _ _ _ _ (n0 _ _ _ rfl)))))
  have t4 : Boxed w1 (w.heap.size + 2) 81 (.slice none 0 0) := (hb.block _ (by simp)).trans (g0 _ _ _ _ (g0 _ _ _ _ (n0 _ _ _ (by simp))))
  have t5 : Boxed w1 (w.heap.size + 3) 4 (.bool false) := (hb.block _ (by simp)).trans (g0 _ _ _ _ (n0 _ _ _ (by simp)))
  have t6 : Boxed w1 (w.heap.size + 4) 29 (.int .i64 0) := (hb.block _ (by simp)).trans (n0 _ _ _ (by simp))
  have hbw : Below w.heap.size w w1 := by (repeat' (first | (with_reducible exact Below.refl _ _) | (with_reducible refine Below.setCell ?_ (by first | omega | (simp; done) | (simp; omega)) _) | (with_reducible refine Below.alloc ?_ (by first | omega | (simp; done) | (simp; omega)) _) | (with_reducible refine Below.drew ?_) | (with_reducible refine below_drewN ?_ _) | (with_reducible refine Below.trans ?_ (Below.mono (by assumption) (by first | omega | (simp; done) | (simp; omega))))))
  have d0 := t2.c0
  have d1 := t2.c1
  have d2 := t2.c2
  have l2 : w.heap.size < w1.heap.size := by omega
  clear hb hc hf hz
  gi_wp2_with (refine ⟨trivial, ?_⟩; gi_at_call 130; (with_reducible refine (callsIn_wide.2 (fAlong_in _ _ _ _ _ _ _)).mono ?_); rintro e wD ⟨rfl, rfl⟩)
  obtain ⟨P, hP⟩ : ∃ P, P = w1.heap.size := ⟨_, rfl⟩
  obtain ⟨w4, hw4⟩ : ∃ w4, w4 = ((((w1.alloc (.cells #[.slice none 0 0] 81)).alloc (.map #[] 0)).alloc (.cells #[.map (some (w1.heap.size + 1))] 162)).alloc (.cells #[.int .i64 W, .int .i64 H, .slice (some ⟨b, off, none⟩) N cap] 24)).alloc (.cells #[.int .i64 st] 3) := ⟨_, rfl⟩
  have s4 : w4.heap.size = P + 5 := by rw [hw4, hP]; simp
  have b4 : Below w1.heap.size w1 w4 := by rw [hw4]; (repeat' (first | (with_reducible exact Below.refl _ _) | (with_reducible refine Below.setCell ?_ (by first | omega | (simp; done) | (simp; omega)) _) | (with_reducible refine Below.alloc ?_ (by first | omega | (simp; done) | (simp; omega)) _) | (with_reducible refine Below.drew ?_) | (with_reducible refine below_drewN ?_ _) | (with_reducible refine Below.trans ?_ (Below.mono (by assumption) (by first | omega | (simp; done) | (simp; omega))))))
  have u2 : Three w4 w.heap.size 24 (.int .i64 W) (.int .i64 H) (.slice (some ⟨b, off, none⟩) N cap) := (b4.block _ t2.lt).trans t2
  have u4 : Boxed w4 (w.heap.size + 2) 81 (.slice none 0 0) := (b4.block _ t4.lt).trans t4
  have u5 : Boxed w4 (w.heap.size + 3) 4 (.bool false) := (b4.block _ t5.lt).trans t5
  have u6 : Boxed w4 (w.heap.size + 4) 29 (.int .i64 0) := (b4.block _ t6.lt).trans t6
  have v0 : Boxed w4 P 81 (.slice none 0 0) := by rw [hw4, hP]; exact g0 _ _ _ _ (g0 _ _ _ _ (g0 _ _ _ _ (g0 _ _ _ _ (n0 _ _ _ rfl))))
  have v2 : Boxed w4 (P + 2) 162 (.map (some (P + 1))) := by rw [hw4, hP]; exact g0 _ _ _ _ (g0 _ _ _ _ (n0 _ _ _ (by simp)))
  have v3 : Three w4 (P + 3) 24 (.int .i64 W) (.int .i64 H) (.slice (some ⟨b, off, none⟩) N cap) := by rw [hw4, hP]; exact g0 _ _ _ _ (n0 _ _ _ (by simp))
  have v4 : Boxed w4 (P + 4) 3 (.int .i64 st) := by rw [hw4, hP]; exact n0 _ _ _ (by simp)
  have vm : w4.ownsMap Tryd.prog 3 (plainElem (H := Unit) Tryd.prog 4) (P + 1) 0 (.map []) := by
    have := World.ownsMap_made (w1.alloc (.cells #[.slice none 0 0] 81)) Tryd.prog 3 (plainElem (H := Unit) Tryd.prog 4)
    rw [World.size_alloc, ← hP] at this
    rw [hw4]
    exact ((this.kept (World.grownBy_alloc _ _ none) (by simp)).kept (World.grownBy_alloc _ _ none) (by simp)).kept (World.grownBy_alloc _ _ none) (by simp)
  have hb4 : Below w.heap.size w w4 := hbw.trans (b4.mono hbw.size)
  have hm4 : Mvs w4 := HM.out.below hb4
  rw [← hw4, ← hP]
  rw [← hP] at hsz l2
  clear hw4 hP t2 t4 t5 t6 b4 d0 d1 d2 hbw hmm hb0 g0 n0
  refine wpIn_rangeFunc_ownH (α := CelW N) rfl (by omega) (gf := 168) (lb := #[.pointer (some ⟨P + 1 + 1 + 1 + 1, 0, none⟩), .pointer (some ⟨P + 1 + 1 + 1, 0, none⟩)]) rfl trivial (enters_of Tryd.func168 (by kernel_rfl) rfl)
    (along_stops 5 (by omega) (P + 4) (P + 3) W H N cap b off G L (fun k => k < w.heap.size ∨ k = P + 3 ∨ k = P + 4) (.inr (.inr rfl)) (.inr (.inl rfl)) (.inl lb) (.inl lm) HS.out HL.out ps hps st h1 w4 (fun k hk => by omega) v4.cell v3.c0 v3.c1 v3.c2 (HG.out.below hb4 lb) hm4)
    (fun h g => KB.trans h g) (kb_put (fun k hk => by omega)) (Below.refl _ _) (fun _ => rfl)
    (PtI W H N b off cap w P (P + 5)) (fun c pre _ => c = .ret ∧ ¬ (pre.map (·.1)).Nodup) (ptI_own (by omega) (by omega)) (fun _ => ownFrom_pure _ _)
    ⟨u2, u4, u5, u6, ⟨_, v0, rfl, .inl ⟨rfl, rfl⟩⟩, v2, ⟨_, vm, hadD_nil⟩, hb4, by omega⟩
    (fun z a' _ => a' = { tmps := #[.agg #[.int .i64 W, .int .i64 H, .slice (some ⟨b, off, none⟩) N cap], .agg #[.int .i64 x, .int .i64 y], .pointer (some ⟨w.heap.size, 0, none⟩), .pointer (some ⟨w.heap.size + 1, 0, none⟩), .pointer (some ⟨w.heap.size + 1 + 1, 0, none⟩), .pointer (some ⟨w.heap.size + 1 + 1 + 1, 0, none⟩), .pointer (some ⟨w.heap.size + 1 + 1 + 1 + 1, 0, none⟩), .int .i64 st, .int .i64 0, .pointer (some ⟨P, 0, none⟩), .pointer (some ⟨P + 1 + 1, 0, none⟩), .int .i64 ((z.1 : Int)), .tuple #[.int .i64 st, .int .i64 0], .agg #[.int .i64 W, .int .i64 H, .slice (some ⟨b, off, none⟩) N cap], .agg #[.int .i64 x, .int .i64 y], .tuple #[.int .i64 st, .int .i64 0], .int .i64 st, .int .i64 0, .int .i64 0, .bool false, undef, .map (some (P + 1)), .agg #[.int .i64 W, .int .i64 H, .slice (some ⟨b, off, none⟩) N cap], .int .i64 st, .func (.func 168) #[] #[.pointer (some ⟨P + 1 + 1 + 1 + 1, 0, none⟩), .pointer (some ⟨P + 1 + 1 + 1, 0, none⟩)], .int .i64 ((z.1 : Int)), undef, undef, undef, undef, undef, undef, undef, undef, undef, undef, undef, undef, undef], defers := [] })
    (fun z a' _ X Y row hs hg hr => hs)
    ?assign ?body ?done ?stop
  case assign =>
    rintro l pre x' X K' hI hK'
    gi_wp2
    exact hK' _ _ (KeepsFrom.refl _ _) (KB.refl _ _) hI rfl
  case body =>
    rintro l pre x' a' X _ _ hI rfl hlen
    obtain ⟨q, hq⟩ := x'
    dsimp only
    have hbX := hI.below
    have hsX := hI.size
    have m2 : X.cell? ⟨P + 1 + 1, 0, none⟩ = some (.map (some (P + 1))) := hI.map.cell
    have lm2 : P + 1 + 1 < X.heap.size := hI.map.lt
    obtain ⟨D, hown, hD⟩ := hI.had
    have hqn : q ≤ 1024 := by have := HS.out.n1; omega
    have hkey : keyOf Tryd.prog 3 (.int .i64 ((q : Int))) = some (.int .i64 (q : Int)) := keyOf_int_mk Tryd.underlying3 (show (Lit.int .i64 (q : Int)).wf = true from WalkArith.wf_i64 (by omega))
    have hat := hD.2 q
    obtain ⟨v, hPv, hvr⟩ := hI.pat
    obtain ⟨va, vc, rfl⟩ := owns_form hvr
    have mP := hPv.cell
    have fP := hPv.frozen
    have lP := hPv.lt
    by_cases hin : q ∈ pre.map (·.1)
    · rw [decide_eq_true hin] at hat
      have r4 : X.cell? ⟨w.heap.size + 1 + 1, 0, none⟩ = _ := hI.res.cell
      have r5 : X.cell? ⟨w.heap.size + 1 + 1 + 1, 0, none⟩ = _ := hI.aga.cell
      have r6 : X.cell? ⟨w.heap.size + 1 + 1 + 1 + 1, 0, none⟩ = _ := hI.err.cell
      have f4 : X.frozen? ⟨w.heap.size + 1 + 1, 0, none⟩ = false := hI.res.frozen
      have f5 : X.frozen? ⟨w.heap.size + 1 + 1 + 1, 0, none⟩ = false := hI.aga.frozen
      have f6 : X.frozen? ⟨w.heap.size + 1 + 1 + 1 + 1, 0, none⟩ = false := hI.err.frozen
      gi_wp2_with (gi_at_lookup; refine wpListIn_lookup_own_bool _ rfl _ _ 162 rfl 3 4 lawIF Tryd.underlying162 Tryd.underlying4 (zeroB _) (P + 1) pre.length D rfl hown _ _ rfl hkey true hat ?_)
      refine ⟨((KeepsOthers.setCell _ _ _).trans ((KeepsOthers.setCell _ _ _).trans (KeepsOthers.setCell _ _ _))).from _, rfl, fun hnd => ?_⟩
      rw [List.map_append, List.nodup_append] at hnd
      exact hnd.2.2 q hin q (by simp) rfl
    · rw [decide_eq_false hin] at hat
      gi_wp2_with (first | (gi_at_lookup; refine wpListIn_lookup_own_bool _ rfl _ _ 162 rfl 3 4 lawIF Tryd.underlying162 Tryd.underlying4 (zeroB _) (P + 1) pre.length D rfl hown _ _ rfl hkey false hat ?_) | (gi_at_mapUpdate; refine wpListIn_mapUpdate_own _ rfl _ _ _ 162 rfl 3 4 lawIF Tryd.underlying162 _ (P + 1) pre.length D rfl hown (by unfold maxLen; omega) _ _ _ rfl rfl hkey (.lit (.bool true)) [] (plainElem_bool Tryd.underlying4 true) ?_; intro w5 hown5 hgrow5))
      have s5 := hgrow5.size
      have blk5 : ∀ k, k < X.heap.size → k ≠ P + 1 → w5.heap[k]? = X.heap[k]? := fun k h1 h2 => hgrow5.block k h1 (fun e => h2 (by cases e; rfl))
      have t5 : Three w5 w.heap.size 24 (.int .i64 W) (.int .i64 H) (.slice (some ⟨b, off, none⟩) N cap) := (blk5 _ hI.gri.lt (by omega)).trans hI.gri
      have P5 : Boxed w5 P 81 (.slice va pre.length vc) := (blk5 _ lP (by omega)).trans hPv
      have own5 := hvr.kept hgrow5 (by
        cases hvo : (Value.slice va pre.length vc).ownBlock with
        | none => exact .inl rfl
        | some g => exact .inr (fun e => by have := (own_rowF hvr g hvo).1; cases e; omega))
      have z0 := t5.c0
      have z1 := t5.c1
      have z2 := t5.c2
      have c5P := P5.cell
      have f5P := P5.frozen
      have l5P := P5.lt
      have l5B := t5.lt
      have hsP : w.heap.size + 5 ≤ P := hsz
      have PT := Lib.hid (fun wx => fpoint_in W H q (some ⟨b, off, none⟩) N cap wx HS.out.w0 HS.out.w1 (by omega))
      obtain ⟨qx, hqx⟩ : ∃ q' : Int, q' = ((q % W : Nat) : Int) := ⟨_, rfl⟩
      obtain ⟨qy, hqy⟩ : ∃ q' : Int, q' = ((q / W : Nat) : Int) := ⟨_, rfl⟩
      have HQX := Lib.hid hqx
      have HQY := Lib.hid hqy
      rw [← hqx, ← hqy] at PT
      have ne1 : ¬ (P = w.heap.size) := by omega
      have ne2 : ¬ (w.heap.size = P) := by omega
      clear hqx hqy t5 P5 m2 lm2 hat mP fP hown
      refine region_inRound l _ (S := (fun w' => w'.cell? ⟨w.heap.size, 0, none⟩ = some (.int .i64 W) ∧ w'.cell? ⟨w.heap.size, 1, none⟩ = some (.int .i64 H) ∧ w'.cell? ⟨w.heap.size, 2, none⟩ = some (.slice (some ⟨b, off, none⟩) N cap))) (by kernel_rfl) (by kernel_rfl) ?_ (fun hHeld => ?_)
      · ((try dsimp only); (first | (go_split_ands; (try dsimp only); refine ⟨?_, ?_, ?_⟩ <;> (first | (with_reducible assumption) | (with_reducible exact keep_cell (by assumption) (by first | omega | (simp; done) | (simp; omega)) (by assumption)) | (with_reducible exact (World.cell?_alloc_past _ _ _ (by show _ < _; omega)).trans (by assumption)) | (with_reducible exact (World.cell?_alloc_past _ _ _ (by show _ < _; omega)).trans ((World.cell?_alloc_past _ _ _ (by show _ < _; omega)).symm.trans (by assumption))) | (simp [go_sem]; with_reducible assumption))) | (simp [go_sem, ↓IntWalk.iteOmega, *]; done)))
      refine wpAnyH_take (i := 1) (v := ?_) rfl (by kernel_rfl) (by kernel_rfl) (by kernel_rfl) (fun _ _ _ h => h) (Or.inl ⟨by rfl, ?_⟩) (by assumption) ?_
      rotate_left
      · (intro w hSw; (try dsimp only at hSw); go_simp; (try with_reducible rfl))
      (try simp only [Act.put, List.setIfInBounds_toArray, List.set_cons_zero, List.set_cons_succ])
      refine wpAnyH_take (i := 2) (v := ?_) rfl (by kernel_rfl) (by kernel_rfl) (by kernel_rfl) (fun _ _ _ h => h) (Or.inl ⟨by rfl, ?_⟩) (by assumption) ?_
      rotate_left
      · (intro w hSw; (try dsimp only at hSw); go_simp; (try with_reducible rfl))
      (try simp only [Act.put, List.setIfInBounds_toArray, List.set_cons_zero, List.set_cons_succ])
      refine wpAnyH_ready (rs := [0, 3]) (by kernel_rfl) (by simp) ?_
      refine AllReadyH.cons rfl (fun K hK => ?_) (AllReadyH.cons rfl (fun K hK => ?_) AllReadyH.nil)
      · go_simp
        refine hK.out _ _ ?_ (fun hHeld => ?_)
        · ((try dsimp only); (first | (go_split_ands; (try dsimp only); refine ⟨?_, ?_, ?_⟩ <;> (first | (with_reducible assumption) | (with_reducible exact keep_cell (by assumption) (by first | omega | (simp; done) | (simp; omega)) (by assumption)) | (with_reducible exact (World.cell?_alloc_past _ _ _ (by show _ < _; omega)).trans (by assumption)) | (with_reducible exact (World.cell?_alloc_past _ _ _ (by show _ < _; omega)).trans ((World.cell?_alloc_past _ _ _ (by show _ < _; omega)).symm.trans (by assumption))) | (simp [go_sem]; with_reducible assumption))) | (simp [go_sem, ↓IntWalk.iteOmega, *]; done)))
        clear hK K
        (try simp only [Act.put, List.setIfInBounds_toArray, List.set_cons_zero, List.set_cons_succ])
        refine wpAnyH_ready (rs := [3]) (by kernel_rfl) (by simp) ?_
        refine AllReadyH.cons rfl (fun K hK => ?_) AllReadyH.nil
        go_simp; (refine (PT.out _).mono ?_); rintro e w7 ⟨rfl, hb7⟩
        have c7 := (hb7.cell (p := ⟨P, 0, none⟩) l5P).trans c5P
        have f7 := (hb7.frozen (p := ⟨P, 0, none⟩) l5P).trans f5P
        have s7 : w5.heap.size ≤ w7.heap.size := hb7.size
        have l7 : P < w7.heap.size := Nat.lt_of_lt_of_le l5P s7
        have y0 := (hb7.cell (p := ⟨w.heap.size, 0, none⟩) l5B).trans z0
        have y1 := (hb7.cell (p := ⟨w.heap.size, 1, none⟩) l5B).trans z1
        have y2 := (hb7.cell (p := ⟨w.heap.size, 2, none⟩) l5B).trans z2
        have l7B : w.heap.size < w7.heap.size := Nat.lt_of_lt_of_le l5B s7
        refine hK.out _ _ ?_ (fun hHeld => ?_)
        · ((try dsimp only); (first | (go_split_ands; (try dsimp only); refine ⟨?_, ?_, ?_⟩ <;> (first | (with_reducible assumption) | (with_reducible exact keep_cell (by assumption) (by first | omega | (simp; done) | (simp; omega)) (by assumption)) | (with_reducible exact (World.cell?_alloc_past _ _ _ (by show _ < _; omega)).trans (by assumption)) | (with_reducible exact (World.cell?_alloc_past _ _ _ (by show _ < _; omega)).trans ((World.cell?_alloc_past _ _ _ (by show _ < _; omega)).symm.trans (by assumption))) | (simp [go_sem]; with_reducible assumption))) | (simp [go_sem, ↓IntWalk.iteOmega, *]; done)))
        clear hK K
        (try simp only [Act.put, List.setIfInBounds_toArray, List.set_cons_zero, List.set_cons_succ])
        refine wpAnyH_ready (rs := [4]) (by kernel_rfl) (by simp) ?_
        refine AllReadyH.cons rfl (fun K hK => ?_) AllReadyH.nil
        go_simp
        refine hK.out _ _ ?_ (fun hHeld => ?_)
        · ((try dsimp only); (first | (go_split_ands; (try dsimp only); refine ⟨?_, ?_, ?_⟩ <;> (first | (with_reducible assumption) | (with_reducible exact keep_cell (by assumption) (by first | omega | (simp; done) | (simp; omega)) (by assumption)) | (with_reducible exact (World.cell?_alloc_past _ _ _ (by show _ < _; omega)).trans (by assumption)) | (with_reducible exact (World.cell?_alloc_past _ _ _ (by show _ < _; omega)).trans ((World.cell?_alloc_past _ _ _ (by show _ < _; omega)).symm.trans (by assumption))) | (simp [go_sem]; with_reducible assumption))) | (simp [go_sem, ↓IntWalk.iteOmega, *]; done)))
        clear hK K
        (try simp only [Act.put, List.setIfInBounds_toArray, List.set_cons_zero, List.set_cons_succ])
        refine wpAnyH_ready (rs := [5]) (by kernel_rfl) (by simp) ?_
        refine AllReadyH.cons rfl (fun K hK => ?_) AllReadyH.nil
        have b6 : Below w5.heap.size w5 (w7.alloc (.cells #[.int .i64 qx, .int .i64 qy] 26)) := (((Below.refl w5.heap.size w5).drew).trans hb7).alloc s7 _
        refine step_append_lies _ (by rfl) _ _ _ (by rfl) (P + 5) 26 i0 (.agg #[.int .i64 0, .int .i64 0]) 2 16 Tryd.underlying81 hif hz0 hz1 hz2 rfl (by omega) (.slice va pre.length vc) pre.length (ptV W (pre.map (·.1))) (by rfl) (owns_below own5 b6) _ 1 1 [.int .i64 qx, .int .i64 qy] (by rfl) (by rfl) (World.news_of_block (cs := #[.int .i64 qx, .int .i64 qy]) (t := 26) (fr := (0, 0)) (heap_alloc_new _ _)) (by simp [Value.oneCell']) (by omega) (by unfold maxLen; omega) (by omega) (by simp; omega) _ rfl ?_
        intro g cp w8 hown8 hgrow8 hat8 hlt8
        have low := fun k (hk : k < P + 5) (e : some k = (Value.slice va pre.length vc).ownBlock) => (show False by have := (own_rowF hvr k e.symm).1; omega)
        have x8 : ∀ k i v, k < P + 5 → k < w7.heap.size → w7.cell? ⟨k, i, none⟩ = some v → w8.cell? ⟨k, i, none⟩ = some v := fun k i v h1 h2 h3 => hgrow8.cell (a := ⟨k, i, none⟩) ((World.cell?_alloc_past _ _ _ h2).trans h3) (fun e => low k h1 e)
        have c8 := x8 P 0 _ (by omega) l7 c7
        have f8 : w8.frozen? ⟨P, 0, none⟩ = false := by rw [World.frozen?_of_block (hgrow8.block P (by simp; omega) (fun e => low P (by omega) e)), World.frozen?_of_block (Below.heap_alloc _ _ P l7)]; exact f7
        have k0 := x8 w.heap.size 0 _ (by omega) l7B y0
        have k1 := x8 w.heap.size 1 _ (by omega) l7B y1
        have k2 := x8 w.heap.size 2 _ (by omega) l7B y2
        have l8 : P < w8.heap.size := by have := hgrow8.size; simp at this; omega
        refine hK.out _ _ ?_ (fun hHeld => ?_)
        · ((try dsimp only); (first | (go_split_ands; (try dsimp only); refine ⟨?_, ?_, ?_⟩ <;> (first | (with_reducible assumption) | (with_reducible exact keep_cell (by assumption) (by first | omega | (simp; done) | (simp; omega)) (by assumption)) | (with_reducible exact (World.cell?_alloc_past _ _ _ (by show _ < _; omega)).trans (by assumption)) | (with_reducible exact (World.cell?_alloc_past _ _ _ (by show _ < _; omega)).trans ((World.cell?_alloc_past _ _ _ (by show _ < _; omega)).symm.trans (by assumption))) | (simp [go_sem]; with_reducible assumption))) | (simp [go_sem, ↓IntWalk.iteOmega, *]; done)))
        clear hK K
        (try simp only [Act.put, List.setIfInBounds_toArray, List.set_cons_zero, List.set_cons_succ])
        refine wpAnyH_ready (rs := [6]) (by kernel_rfl) (by simp) ?_
        refine AllReadyH.cons rfl (fun K hK => ?_) AllReadyH.nil
        go_simp
        refine hK.out _ _ ?_ (fun hHeld => ?_)
        · ((try dsimp only); (first | (go_split_ands; (try dsimp only); refine ⟨?_, ?_, ?_⟩ <;> (first | (with_reducible assumption) | (with_reducible exact keep_cell (by assumption) (by first | omega | (simp; done) | (simp; omega)) (by assumption)) | (with_reducible exact (World.cell?_alloc_past _ _ _ (by show _ < _; omega)).trans (by assumption)) | (with_reducible exact (World.cell?_alloc_past _ _ _ (by show _ < _; omega)).trans ((World.cell?_alloc_past _ _ _ (by show _ < _; omega)).symm.trans (by assumption))) | (simp [go_sem]; with_reducible assumption))) | (simp [go_sem, ↓IntWalk.iteOmega, *]; done)))
        clear hK K
        (try simp only [Act.put, List.setIfInBounds_toArray, List.set_cons_zero, List.set_cons_succ])
        refine wpAnyH_done (by kernel_rfl) ?_ _
        refine OnlyN.normal ?_
        gi_wp2
        rw [s4]
        exact ptI_step hq hI hsP hPv hvr hD hown5 hgrow5 b6 (by rw [← HQX.out, ← HQY.out]; exact hown8) hgrow8
      · go_simp; (refine (PT.out _).mono ?_); rintro e w7 ⟨rfl, hb7⟩
        have c7 := (hb7.cell (p := ⟨P, 0, none⟩) l5P).trans c5P
        have f7 := (hb7.frozen (p := ⟨P, 0, none⟩) l5P).trans f5P
        have s7 : w5.heap.size ≤ w7.heap.size := hb7.size
        have l7 : P < w7.heap.size := Nat.lt_of_lt_of_le l5P s7
        have y0 := (hb7.cell (p := ⟨w.heap.size, 0, none⟩) l5B).trans z0
        have y1 := (hb7.cell (p := ⟨w.heap.size, 1, none⟩) l5B).trans z1
        have y2 := (hb7.cell (p := ⟨w.heap.size, 2, none⟩) l5B).trans z2
        have l7B : w.heap.size < w7.heap.size := Nat.lt_of_lt_of_le l5B s7
        refine hK.out _ _ ?_ (fun hHeld => ?_)
        · ((try dsimp only); (first | (go_split_ands; (try dsimp only); refine ⟨?_, ?_, ?_⟩ <;> (first | (with_reducible assumption) | (with_reducible exact keep_cell (by assumption) (by first | omega | (simp; done) | (simp; omega)) (by assumption)) | (with_reducible exact (World.cell?_alloc_past _ _ _ (by show _ < _; omega)).trans (by assumption)) | (with_reducible exact (World.cell?_alloc_past _ _ _ (by show _ < _; omega)).trans ((World.cell?_alloc_past _ _ _ (by show _ < _; omega)).symm.trans (by assumption))) | (simp [go_sem]; with_reducible assumption))) | (simp [go_sem, ↓IntWalk.iteOmega, *]; done)))
        clear hK K
        (try simp only [Act.put, List.setIfInBounds_toArray, List.set_cons_zero, List.set_cons_succ])
        refine wpAnyH_ready (rs := [0, 4]) (by kernel_rfl) (by simp) ?_
        refine AllReadyH.cons rfl (fun K hK => ?_) (AllReadyH.cons rfl (fun K hK => ?_) AllReadyH.nil)
        · go_simp
          refine hK.out _ _ ?_ (fun hHeld => ?_)
          · ((try dsimp only); (first | (go_split_ands; (try dsimp only); refine ⟨?_, ?_, ?_⟩ <;> (first | (with_reducible assumption) | (with_reducible exact keep_cell (by assumption) (by first | omega | (simp; done) | (simp; omega)) (by assumption)) | (with_reducible exact (World.cell?_alloc_past _ _ _ (by show _ < _; omega)).trans (by assumption)) | (with_reducible exact (World.cell?_alloc_past _ _ _ (by show _ < _; omega)).trans ((World.cell?_alloc_past _ _ _ (by show _ < _; omega)).symm.trans (by assumption))) | (simp [go_sem]; with_reducible assumption))) | (simp [go_sem, ↓IntWalk.iteOmega, *]; done)))
          clear hK K
          (try simp only [Act.put, List.setIfInBounds_toArray, List.set_cons_zero, List.set_cons_succ])
          refine wpAnyH_ready (rs := [4]) (by kernel_rfl) (by simp) ?_
          refine AllReadyH.cons rfl (fun K hK => ?_) AllReadyH.nil
          go_simp
          refine hK.out _ _ ?_ (fun hHeld => ?_)
          · ((try dsimp only); (first | (go_split_ands; (try dsimp only); refine ⟨?_, ?_, ?_⟩ <;> (first | (with_reducible assumption) | (with_reducible exact keep_cell (by assumption) (by first | omega | (simp; done) | (simp; omega)) (by assumption)) | (with_reducible exact (World.cell?_alloc_past _ _ _ (by show _ < _; omega)).trans (by assumption)) | (with_reducible exact (World.cell?_alloc_past _ _ _ (by show _ < _; omega)).trans ((World.cell?_alloc_past _ _ _ (by show _ < _; omega)).symm.trans (by assumption))) | (simp [go_sem]; with_reducible assumption))) | (simp [go_sem, ↓IntWalk.iteOmega, *]; done)))
          clear hK K
          (try simp only [Act.put, List.setIfInBounds_toArray, List.set_cons_zero, List.set_cons_succ])
          refine wpAnyH_ready (rs := [5]) (by kernel_rfl) (by simp) ?_
          refine AllReadyH.cons rfl (fun K hK => ?_) AllReadyH.nil
          have b6 : Below w5.heap.size w5 (w7.alloc (.cells #[.int .i64 qx, .int .i64 qy] 26)) := (((Below.refl w5.heap.size w5).drew).trans hb7).alloc s7 _
          refine step_append_lies _ (by rfl) _ _ _ (by rfl) (P + 5) 26 i0 (.agg #[.int .i64 0, .int .i64 0]) 2 16 Tryd.underlying81 hif hz0 hz1 hz2 rfl (by omega) (.slice va pre.length vc) pre.length (ptV W (pre.map (·.1))) (by rfl) (owns_below own5 b6) _ 1 1 [.int .i64 qx, .int .i64 qy] (by rfl) (by rfl) (World.news_of_block (cs := #[.int .i64 qx, .int .i64 qy]) (t := 26) (fr := (0, 0)) (heap_alloc_new _ _)) (by simp [Value.oneCell']) (by omega) (by unfold maxLen; omega) (by omega) (by simp; omega) _ rfl ?_
          intro g cp w8 hown8 hgrow8 hat8 hlt8
          have low := fun k (hk : k < P + 5) (e : some k = (Value.slice va pre.length vc).ownBlock) => (show False by have := (own_rowF hvr k e.symm).1; omega)
          have x8 : ∀ k i v, k < P + 5 → k < w7.heap.size → w7.cell? ⟨k, i, none⟩ = some v → w8.cell? ⟨k, i, none⟩ = some v := fun k i v h1 h2 h3 => hgrow8.cell (a := ⟨k, i, none⟩) ((World.cell?_alloc_past _ _ _ h2).trans h3) (fun e => low k h1 e)
          have c8 := x8 P 0 _ (by omega) l7 c7
          have f8 : w8.frozen? ⟨P, 0, none⟩ = false := by rw [World.frozen?_of_block (hgrow8.block P (by simp; omega) (fun e => low P (by omega) e)), World.frozen?_of_block (Below.heap_alloc _ _ P l7)]; exact f7
          have k0 := x8 w.heap.size 0 _ (by omega) l7B y0
          have k1 := x8 w.heap.size 1 _ (by omega) l7B y1
          have k2 := x8 w.heap.size 2 _ (by omega) l7B y2
          have l8 : P < w8.heap.size := by have := hgrow8.size; simp at this; omega
          refine hK.out _ _ ?_ (fun hHeld => ?_)
          · ((try dsimp only); (first | (go_split_ands; (try dsimp only); refine ⟨?_, ?_, ?_⟩ <;> (first | (with_reducible assumption) | (with_reducible exact keep_cell (by assumption) (by first | omega | (simp; done) | (simp; omega)) (by assumption)) | (with_reducible exact (World.cell?_alloc_past _ _ _ (by show _ < _; omega)).trans (by assumption)) | (with_reducible exact (World.cell?_alloc_past _ _ _ (by show _ < _; omega)).trans ((World.cell?_alloc_past _ _ _ (by show _ < _; omega)).symm.trans (by assumption))) | (simp [go_sem]; with_reducible assumption))) | (simp [go_sem, ↓IntWalk.iteOmega, *]; done)))
          clear hK K
          (try simp only [Act.put, List.setIfInBounds_toArray, List.set_cons_zero, List.set_cons_succ])
          refine wpAnyH_ready (rs := [6]) (by kernel_rfl) (by simp) ?_
          refine AllReadyH.cons rfl (fun K hK => ?_) AllReadyH.nil
          go_simp
          refine hK.out _ _ ?_ (fun hHeld => ?_)
          · ((try dsimp only); (first | (go_split_ands; (try dsimp only); refine ⟨?_, ?_, ?_⟩ <;> (first | (with_reducible assumption) | (with_reducible exact keep_cell (by assumption) (by first | omega | (simp; done) | (simp; omega)) (by assumption)) | (with_reducible exact (World.cell?_alloc_past _ _ _ (by show _ < _; omega)).trans (by assumption)) | (with_reducible exact (World.cell?_alloc_past _ _ _ (by show _ < _; omega)).trans ((World.cell?_alloc_past _ _ _ (by show _ < _; omega)).symm.trans (by assumption))) | (simp [go_sem]; with_reducible assumption))) | (simp [go_sem, ↓IntWalk.iteOmega, *]; done)))
          clear hK K
          (try simp only [Act.put, List.setIfInBounds_toArray, List.set_cons_zero, List.set_cons_succ])
          refine wpAnyH_done (by kernel_rfl) ?_ _
          refine OnlyN.normal ?_
          gi_wp2
          rw [s4]
          exact ptI_step hq hI hsP hPv hvr hD hown5 hgrow5 b6 (by rw [← HQX.out, ← HQY.out]; exact hown8) hgrow8
        · go_simp
          refine hK.out _ _ ?_ (fun hHeld => ?_)
          · ((try dsimp only); (first | (go_split_ands; (try dsimp only); refine ⟨?_, ?_, ?_⟩ <;> (first | (with_reducible assumption) | (with_reducible exact keep_cell (by assumption) (by first | omega | (simp; done) | (simp; omega)) (by assumption)) | (with_reducible exact (World.cell?_alloc_past _ _ _ (by show _ < _; omega)).trans (by assumption)) | (with_reducible exact (World.cell?_alloc_past _ _ _ (by show _ < _; omega)).trans ((World.cell?_alloc_past _ _ _ (by show _ < _; omega)).symm.trans (by assumption))) | (simp [go_sem]; with_reducible assumption))) | (simp [go_sem, ↓IntWalk.iteOmega, *]; done)))
          clear hK K
          (try simp only [Act.put, List.setIfInBounds_toArray, List.set_cons_zero, List.set_cons_succ])
          refine wpAnyH_ready (rs := [0]) (by kernel_rfl) (by simp) ?_
          refine AllReadyH.cons rfl (fun K hK => ?_) AllReadyH.nil
          go_simp
          refine hK.out _ _ ?_ (fun hHeld => ?_)
          · ((try dsimp only); (first | (go_split_ands; (try dsimp only); refine ⟨?_, ?_, ?_⟩ <;> (first | (with_reducible assumption) | (with_reducible exact keep_cell (by assumption) (by first | omega | (simp; done) | (simp; omega)) (by assumption)) | (with_reducible exact (World.cell?_alloc_past _ _ _ (by show _ < _; omega)).trans (by assumption)) | (with_reducible exact (World.cell?_alloc_past _ _ _ (by show _ < _; omega)).trans ((World.cell?_alloc_past _ _ _ (by show _ < _; omega)).symm.trans (by assumption))) | (simp [go_sem]; with_reducible assumption))) | (simp [go_sem, ↓IntWalk.iteOmega, *]; done)))
          clear hK K
          (try simp only [Act.put, List.setIfInBounds_toArray, List.set_cons_zero, List.set_cons_succ])
          refine wpAnyH_ready (rs := [5]) (by kernel_rfl) (by simp) ?_
          refine AllReadyH.cons rfl (fun K hK => ?_) AllReadyH.nil
          have b6 : Below w5.heap.size w5 (w7.alloc (.cells #[.int .i64 qx, .int .i64 qy] 26)) := (((Below.refl w5.heap.size w5).drew).trans hb7).alloc s7 _
          refine step_append_lies _ (by rfl) _ _ _ (by rfl) (P + 5) 26 i0 (.agg #[.int .i64 0, .int .i64 0]) 2 16 Tryd.underlying81 hif hz0 hz1 hz2 rfl (by omega) (.slice va pre.length vc) pre.length (ptV W (pre.map (·.1))) (by rfl) (owns_below own5 b6) _ 1 1 [.int .i64 qx, .int .i64 qy] (by rfl) (by rfl) (World.news_of_block (cs := #[.int .i64 qx, .int .i64 qy]) (t := 26) (fr := (0, 0)) (heap_alloc_new _ _)) (by simp [Value.oneCell']) (by omega) (by unfold maxLen; omega) (by omega) (by simp; omega) _ rfl ?_
          intro g cp w8 hown8 hgrow8 hat8 hlt8
          have low := fun k (hk : k < P + 5) (e : some k = (Value.slice va pre.length vc).ownBlock) => (show False by have := (own_rowF hvr k e.symm).1; omega)
          have x8 : ∀ k i v, k < P + 5 → k < w7.heap.size → w7.cell? ⟨k, i, none⟩ = some v → w8.cell? ⟨k, i, none⟩ = some v := fun k i v h1 h2 h3 => hgrow8.cell (a := ⟨k, i, none⟩) ((World.cell?_alloc_past _ _ _ h2).trans h3) (fun e => low k h1 e)
          have c8 := x8 P 0 _ (by omega) l7 c7
          have f8 : w8.frozen? ⟨P, 0, none⟩ = false := by rw [World.frozen?_of_block (hgrow8.block P (by simp; omega) (fun e => low P (by omega) e)), World.frozen?_of_block (Below.heap_alloc _ _ P l7)]; exact f7
          have k0 := x8 w.heap.size 0 _ (by omega) l7B y0
          have k1 := x8 w.heap.size 1 _ (by omega) l7B y1
          have k2 := x8 w.heap.size 2 _ (by omega) l7B y2
          have l8 : P < w8.heap.size := by have := hgrow8.size; simp at this; omega
          refine hK.out _ _ ?_ (fun hHeld => ?_)
          · ((try dsimp only); (first | (go_split_ands; (try dsimp only); refine ⟨?_, ?_, ?_⟩ <;> (first | (with_reducible assumption) | (with_reducible exact keep_cell (by assumption) (by first | omega | (simp; done) | (simp; omega)) (by assumption)) | (with_reducible exact (World.cell?_alloc_past _ _ _ (by show _ < _; omega)).trans (by assumption)) | (with_reducible exact (World.cell?_alloc_past _ _ _ (by show _ < _; omega)).trans ((World.cell?_alloc_past _ _ _ (by show _ < _; omega)).symm.trans (by assumption))) | (simp [go_sem]; with_reducible assumption))) | (simp [go_sem, ↓IntWalk.iteOmega, *]; done)))
          clear hK K
          (try simp only [Act.put, List.setIfInBounds_toArray, List.set_cons_zero, List.set_cons_succ])
          refine wpAnyH_ready (rs := [6]) (by kernel_rfl) (by simp) ?_
          refine AllReadyH.cons rfl (fun K hK => ?_) AllReadyH.nil
          go_simp
          refine hK.out _ _ ?_ (fun hHeld => ?_)
          · ((try dsimp only); (first | (go_split_ands; (try dsimp only); refine ⟨?_, ?_, ?_⟩ <;> (first | (with_reducible assumption) | (with_reducible exact keep_cell (by assumption) (by first | omega | (simp; done) | (simp; omega)) (by assumption)) | (with_reducible exact (World.cell?_alloc_past _ _ _ (by show _ < _; omega)).trans (by assumption)) | (with_reducible exact (World.cell?_alloc_past _ _ _ (by show _ < _; omega)).trans ((World.cell?_alloc_past _ _ _ (by show _ < _; omega)).symm.trans (by assumption))) | (simp [go_sem]; with_reducible assumption))) | (simp [go_sem, ↓IntWalk.iteOmega, *]; done)))
          clear hK K
          (try simp only [Act.put, List.setIfInBounds_toArray, List.set_cons_zero, List.set_cons_succ])
          refine wpAnyH_done (by kernel_rfl) ?_ _
          refine OnlyN.normal ?_
          gi_wp2
          rw [s4]
          exact ptI_step hq hI hsP hPv hvr hD hown5 hgrow5 b6 (by rw [← HQX.out, ← HQY.out]; exact hown8) hgrow8
  case done =>
    rintro Dm ys X hDm hys hI hK'
    have hy : ys.map (·.1) = L := hys
    obtain ⟨v, hPv, hvr⟩ := hI.pat
    obtain ⟨va, vc, rfl⟩ := owns_form hvr
    have hbX := hI.below
    have hsX := hI.size
    have mP := hPv.cell
    have lP := hPv.lt
    have r4 : X.cell? ⟨w.heap.size + 1 + 1, 0, none⟩ = _ := hI.res.cell
    have r5 : X.cell? ⟨w.heap.size + 1 + 1 + 1, 0, none⟩ = _ := hI.aga.cell
    have r6 : X.cell? ⟨w.heap.size + 1 + 1 + 1 + 1, 0, none⟩ = _ := hI.err.cell
    have f4 : X.frozen? ⟨w.heap.size + 1 + 1, 0, none⟩ = false := hI.res.frozen
    have f5 : X.frozen? ⟨w.heap.size + 1 + 1 + 1, 0, none⟩ = false := hI.aga.frozen
    have f6 : X.frozen? ⟨w.heap.size + 1 + 1 + 1 + 1, 0, none⟩ = false := hI.err.frozen
    have HI := Lib.hid hI
    have HY := Lib.hid hy
    have HV := Lib.hid hvr
    clear hI hys hy hvr
    gi_wp2
    have hK1 := (KeepsOthers.setCell X ⟨w.heap.size + 1 + 1, 0, none⟩ (.slice va ys.length vc)).same Dm _ hK' rfl
    have hK2 := (KeepsOthers.setCell (X.setCell ⟨w.heap.size + 1 + 1, 0, none⟩ (.slice va ys.length vc)) ⟨w.heap.size + 1 + 1 + 1, 0, none⟩ (.bool false)).same Dm _ hK1 rfl
    have hK3 := (KeepsOthers.setCell ((X.setCell ⟨w.heap.size + 1 + 1, 0, none⟩ (.slice va ys.length vc)).setCell ⟨w.heap.size + 1 + 1 + 1, 0, none⟩ (.bool false)) ⟨w.heap.size + 1 + 1 + 1 + 1, 0, none⟩ (.int .i64 0)).same Dm _ hK2 rfl
    refine ⟨by simp, .inl ⟨_, _, rfl, run_takeDeferred hK3, ?_⟩⟩
    have q4 : Boxed (((X.setCell ⟨w.heap.size + 1 + 1, 0, none⟩ (.slice va ys.length vc)).setCell ⟨w.heap.size + 1 + 1 + 1, 0, none⟩ (.bool false)).setCell ⟨w.heap.size + 1 + 1 + 1 + 1, 0, none⟩ (.int .i64 0)) (w.heap.size + 1 + 1) 81 (.slice va ys.length vc) := ((HI.out.res.set _).other (by omega) _).other (by omega) _
    have q5 : Boxed (((X.setCell ⟨w.heap.size + 1 + 1, 0, none⟩ (.slice va ys.length vc)).setCell ⟨w.heap.size + 1 + 1 + 1, 0, none⟩ (.bool false)).setCell ⟨w.heap.size + 1 + 1 + 1 + 1, 0, none⟩ (.int .i64 0)) (w.heap.size + 1 + 1 + 1) 4 (.bool false) := ((HI.out.aga.other (by omega) _).set _).other (by omega) _
    have q6 : Boxed (((X.setCell ⟨w.heap.size + 1 + 1, 0, none⟩ (.slice va ys.length vc)).setCell ⟨w.heap.size + 1 + 1 + 1, 0, none⟩ (.bool false)).setCell ⟨w.heap.size + 1 + 1 + 1 + 1, 0, none⟩ (.int .i64 0)) (w.heap.size + 1 + 1 + 1 + 1) 29 (.int .i64 0) := ((HI.out.err.other (by omega) _).other (by omega) _).set _
    have g4 := cell_kept q4.cell (grownBy_putObj' _ Dm (.deferred none)) (fun r e => by cases e; exact ⟨_, hK3, rfl⟩)
    have g5 := cell_kept q5.cell (grownBy_putObj' _ Dm (.deferred none)) (fun r e => by cases e; exact ⟨_, hK3, rfl⟩)
    have g6 := cell_kept q6.cell (grownBy_putObj' _ Dm (.deferred none)) (fun r e => by cases e; exact ⟨_, hK3, rfl⟩)
    have hro := own_rowF HV.out
    have ne : ∀ k, k < P + 5 → (Value.slice va ys.length vc).ownBlock = none ∨ (Value.slice va ys.length vc).ownBlock ≠ some k := fun k hk => by
      cases hvo : (Value.slice va ys.length vc).ownBlock with
      | none => exact .inl rfl
      | some g => exact .inr (fun e => by have := (hro g hvo).1; cases e; omega)
    have own3 := ((HV.out.kept (grownBy_setCell' X (w.heap.size + 1 + 1) (.slice va ys.length vc)) (ne _ (by omega))).kept (grownBy_setCell' (X.setCell ⟨w.heap.size + 1 + 1, 0, none⟩ (.slice va ys.length vc)) (w.heap.size + 1 + 1 + 1) (.bool false)) (ne _ (by omega))).kept (grownBy_setCell' ((X.setCell ⟨w.heap.size + 1 + 1, 0, none⟩ (.slice va ys.length vc)).setCell ⟨w.heap.size + 1 + 1 + 1, 0, none⟩ (.bool false)) (w.heap.size + 1 + 1 + 1 + 1) (.int .i64 0)) (ne _ (by omega))
    have own4 := own3.kept (grownBy_putObj' (((X.setCell ⟨w.heap.size + 1 + 1, 0, none⟩ (.slice va ys.length vc)).setCell ⟨w.heap.size + 1 + 1 + 1, 0, none⟩ (.bool false)).setCell ⟨w.heap.size + 1 + 1 + 1 + 1, 0, none⟩ (.int .i64 0)) Dm (.deferred none)) (by
      cases hvo : (Value.slice va ys.length vc).ownBlock with
      | none => exact .inl rfl
      | some g => exact .inr (fun e => by
          obtain ⟨o, h1, h2⟩ := (own_rowF own3 g hvo).2
          cases e
          rw [hK3] at h1
          cases h1
          cases h2))
    rw [HY.out] at own4
    have hl : ys.length = L.length := by rw [← HY.out, List.length_map]
    refine ⟨.tuple #[.slice va ys.length vc, .bool false, .int .i64 0], by simp [results, Tryd.results59, go_sem, g4, g5, g6], _, rfl, ?_, ?_⟩
    · rw [← hl]
      exact ownsRow_base_a own4 (by omega)
    · exact (((hbX.setCell (p := ⟨w.heap.size + 1 + 1, 0, none⟩) (show w.heap.size ≤ w.heap.size + 1 + 1 by omega) _).setCell (p := ⟨w.heap.size + 1 + 1 + 1, 0, none⟩) (show w.heap.size ≤ w.heap.size + 1 + 1 + 1 by omega) _).setCell (p := ⟨w.heap.size + 1 + 1 + 1 + 1, 0, none⟩) (show w.heap.size ≤ w.heap.size + 1 + 1 + 1 + 1 by omega) _).trans (belowK_b (w := w) (Nat.le_refl _) _ Dm _ _ (by omega) hK3 rfl rfl)
  case stop =>
    rintro Dm c pre X hDm hpre hI hK'
    obtain ⟨_, hnd⟩ := hI
    exfalso
    refine hnd ?_
    have hp : pre.map (·.1) <+: L := hpre
    have hLn : L.Nodup := by
      refine List.pairwise_iff_getElem.2 fun i j hi hj hij e => ?_
      have e1 := hps i _ (List.getElem?_eq_getElem hi)
      have e2 := hps j _ (List.getElem?_eq_getElem hj)
      rw [e] at e1
      omega
    exact hp.sublist.nodup hLn
end Go.Proofs.YtmdeooflgkjbbaaDoor
