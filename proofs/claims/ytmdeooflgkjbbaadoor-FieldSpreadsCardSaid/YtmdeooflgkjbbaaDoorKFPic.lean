/- Blocks from the last to the first, one after another: by the program of the fields. -/
import Derived.Test.YtmdeooflgkjbbaaDoorKFSums
import Derived.Test.YtmdeooflgkjbbaaDoorKSeqW
import Derived.Test.YtmdeooflgkjbbaaDoorKBldS
import Derived.Test.YtmdeooflgkjbbaaDoorKFNext
import Derived.Test.YtmdeooflgkjbbaaDoorKFTell
import Derived.Test.YtmdeooflgkjbbaaDoorKFColB
namespace Go.Proofs.YtmdeooflgkjbbaaDoor
set_option linter.unusedSimpArgs false
set_option linter.unusedVariables false
open Go.RowKit Go.Shelf
attribute [local go_sem] Oper.semAt_some

/-- The numbers below m, from the greatest down: the first k. -/
def dnL (m : Nat) : Nat → List Nat
  | 0 => []
  | k + 1 => dnL m k ++ [m - 1 - k]
theorem dnL_len (m k : Nat) : (dnL m k).length = k := by
  induction k with
  | zero => rfl
  | succ k ih => simp [dnL, ih]
theorem dnL_pre (m : Nat) {i j : Nat} (h : i ≤ j) : dnL m i <+: dnL m j := by
  induction j with
  | zero =>
    obtain rfl : i = 0 := by omega
    exact List.prefix_refl _
  | succ j ih =>
    by_cases e : i = j + 1
    · subst e; exact List.prefix_refl _
    · exact (ih (by omega)).trans (List.prefix_append _ _)
theorem dnL_mem {m k i : Nat} (h : i ∈ dnL m k) (hk : k ≤ m) : i < m := by
  induction k with
  | zero => simp [dnL] at h
  | succ k ih =>
    rcases List.mem_append.1 h with h | h
    · exact ih h (by omega)
    · simp at h; omega

set_option maxRecDepth 100000 in
set_option maxHeartbeats 8000000 in
theorem back1_in (n : Nat) (hn : 1 ≤ n) (l Bv g m c W H wi hi : Nat) (ao : Option Addr) (N cap : Nat) (p : Nat → Nat × Nat) (S : Nat → Prop) (hS : S Bv) (hSg : S g) (hm : m ≤ 1000)
    (J Jx : List Nat → World → Prop) (w : World)
    (hY : ∀ (pre : List Nat) (i : Nat) W1, J pre W1 → pre.length < m → pre ++ [i] <+: dnL m m → YieldAt Fence.wide (n - 1) Tryd.prog l #[.int .i64 ((i : Int)), .agg #[.int .i64 W, .int .i64 H, .slice ao N cap, .int .i64 (((p i).1 : Int)), .int .i64 (((p i).2 : Int)), .int .i64 (((p i).1 : Int) + (wi : Int) - 1), .int .i64 (((p i).2 : Int) + (hi : Int) - 1)]] W1 fun e W' =>
      (e = .returned (.bool true) ∧ J (pre ++ [i]) W' ∧ KB S W1 W') ∨ (e = .returned (.bool false) ∧ Jx (pre ++ [i]) W'))
    (cv : w.cell? ⟨Bv, 0, none⟩ = some (.slice (some ⟨g, 0, none⟩) m c)) (hB : BlksAt w g m W H wi hi ao N cap p) (h0 : J [] w) :
    CallsIn Fence.wide n Tryd.prog 146 #[.func (.yield l) #[] #[], .pointer (some ⟨Bv, 0, none⟩)] w fun e W' => (∃ v, e = .returned v) ∧
      ((∃ ys, ys = dnL m m ∧ J ys W') ∨ (∃ pre, pre <+: dnL m m ∧ Jx pre W')) := by
  have HB := Lib.hid hB
  clear hB
  refine callsIn_of_wp Tryd.func146 rfl trivial ?_ rfl
  simp only [Tryd.ntmps146, List.size_toArray, List.length_cons, List.length_nil, Nat.reduceAdd, Nat.reduceSub, Array.replicate_succ, Array.replicate_zero, List.push_toArray, List.append_toArray, List.nil_append, List.cons_append]
  have em : IntKind.i64.wrap ((m : Int) - 1) = (m : Int) - 1 := IntWalk.i64_in _ ⟨by omega, by omega⟩
  gi_wp2
  have kb0 : KB S w w := ⟨Nat.le_refl _, fun _ _ => rfl⟩
  gi_loopw [3] (fun i wr => ∃ k : Nat, k ≤ m ∧ i = .int .i64 ((m : Int) - 1 - (k : Int)) ∧ J (dnL m k) wr ∧ KB S w wr) (fun i _ => (Go.RowKit.intOf i + 1).toNat)
  case atStart => exact ⟨0, Nat.zero_le _, by simp, h0, kb0⟩
  case round =>
    obtain ⟨k, hk, rfl, hJs, hkb⟩ := hrel
    by_cases hlk : k < m
    · obtain ⟨j, hj⟩ : ∃ j, j = m - 1 - k := ⟨_, rfl⟩
      have hjm : j < m := by omega
      have ej : (m : Int) - 1 - (k : Int) = (j : Int) := by omega
      rw [ej]
      have d0 := (hkb.cell hS).trans cv
      have e0 : wr.cell? ⟨g, j * 7, none⟩ = _ := (hkb.cell hSg).trans (HB.out j hjm 0 _ rfl)
      have e1 : wr.cell? ⟨g, j * 7 + 1, none⟩ = _ := (hkb.cell hSg).trans (HB.out j hjm 1 _ rfl)
      have e2 : wr.cell? ⟨g, j * 7 + 2, none⟩ = _ := (hkb.cell hSg).trans (HB.out j hjm 2 _ rfl)
      have e3 : wr.cell? ⟨g, j * 7 + 3, none⟩ = _ := (hkb.cell hSg).trans (HB.out j hjm 3 _ rfl)
      have e4 : wr.cell? ⟨g, j * 7 + 4, none⟩ = _ := (hkb.cell hSg).trans (HB.out j hjm 4 _ rfl)
      have e5 : wr.cell? ⟨g, j * 7 + 5, none⟩ = _ := (hkb.cell hSg).trans (HB.out j hjm 5 _ rfl)
      have e6 : wr.cell? ⟨g, j * 7 + 6, none⟩ = _ := (hkb.cell hSg).trans (HB.out j hjm 6 _ rfl)
      have hpre : dnL m k ++ [j] <+: dnL m m := by rw [hj]; exact dnL_pre m (i := k + 1) hlk
      obtain ⟨fn, tmps, assign, body, hyy, hRd⟩ := hY _ j wr hJs (by rw [dnL_len]; exact hlk) hpre
      have hRd := hRd.mono (R' := RoundDone (fun W' => J (dnL m k ++ [j]) W' ∧ KB S wr W') (Jx (dnL m k ++ [j]))) (fun _ _ h => roundDone h)
      obtain ⟨x, hx⟩ : ∃ x : Int, x = ((p j).1 : Int) := ⟨_, rfl⟩
      obtain ⟨y, hy⟩ : ∃ y : Int, y = ((p j).2 : Int) := ⟨_, rfl⟩
      obtain ⟨bx, hbx⟩ : ∃ bx : Int, bx = ((p j).1 : Int) + (wi : Int) - 1 := ⟨_, rfl⟩
      obtain ⟨yb, hyb⟩ : ∃ yb : Int, yb = ((p j).2 : Int) + (hi : Int) - 1 := ⟨_, rfl⟩
      rw [← hbx, ← hyb, ← hx, ← hy] at hyy
      rw [← hx] at e3
      rw [← hy] at e4
      rw [← hbx] at e5
      rw [← hyb] at e6
      have p0 : (0 : Int) ≤ (j : Int) := by omega
      have p1 : (j : Int) < (m : Int) := by omega
      have HJ := Lib.hid hj
      have HP := Lib.hid hpre
      have ew : IntKind.i64.wrap ((j : Int) - 1) = (j : Int) - 1 := IntWalk.i64_in _ ⟨by omega, by omega⟩
      clear hx hy hbx hyb hj ej hpre
      gi_wp2
      refine hRd.mono ?_
      rintro e W3 ⟨bb, rfl, hh⟩
      rcases hh with ⟨rfl, hJ3, hk3⟩ | ⟨rfl, hx3⟩
      · gi_wp2
        go_roundw
        case rel => exact ⟨k + 1, by omega, by have := HJ.out; congr 1; omega, by rw [show dnL m (k + 1) = dnL m k ++ [j] from by rw [HJ.out]; rfl]; exact hJ3, hkb.trans hk3⟩
        case measure => first | (simp [Go.RowKit.intOf]; done) | (simp [Go.RowKit.intOf]; omega)
      · gi_wp2
        refine bodyPost_ret (results_none rfl _ _ _) rfl ?_
        exact ⟨⟨_, rfl⟩, .inr ⟨_, HP.out, hx3⟩⟩
    · obtain rfl : k = m := by omega
      have q0 : ¬ (0 : Int) ≤ (k : Int) - 1 - (k : Int) := by omega
      have q1 : decide ((0 : Int) ≤ (k : Int) - 1 - (k : Int)) = false := decide_eq_false q0
      gi_wp2
      go_end0
      refine ⟨⟨_, rfl⟩, .inl ?_⟩
      first | exact ⟨_, rfl, hJs⟩ | exact hJs
theorem back_stops (n : Nat) (hn : 1 ≤ n) (Bv g m c W H wi hi : Nat) (ao : Option Addr) (N cap : Nat) (p : Nat → Nat × Nat) (S : Nat → Prop) (hS : S Bv) (hSg : S g) (hm : m ≤ 1000) (w : World) (hSl : ∀ k, S k → k < w.heap.size)
    (cv : w.cell? ⟨Bv, 0, none⟩ = some (.slice (some ⟨g, 0, none⟩) m c)) (hB : BlksAt w g m W H wi hi ao N cap p) :
    SeqStopsK Fence.wide n Tryd.prog 146 #[.pointer (some ⟨Bv, 0, none⟩)]
      (fun i : {i : Nat // i < m} => #[.int .i64 ((i.1 : Int)), .agg #[.int .i64 W, .int .i64 H, .slice ao N cap, .int .i64 (((p i.1).1 : Int)), .int .i64 (((p i.1).2 : Int)), .int .i64 (((p i.1).1 : Int) + (wi : Int) - 1), .int .i64 (((p i.1).2 : Int) + (hi : Int) - 1)]]) (KB S)
      (fun ys => ys.map (·.1) = dnL m m) (fun pre => pre.map (·.1) <+: dnL m m) m w := fun l J Jx W' hW' hJ hJx hY h0 =>
  (back1_in n hn l Bv g m c W H wi hi ao N cap p S hS hSg hm (fun L X => ∃ l' : List {i : Nat // i < m}, l'.map (·.1) = L ∧ J l' X) (fun L X => ∃ l' : List {i : Nat // i < m}, l'.map (·.1) = L ∧ Jx l' X) W'
    (fun pre x W1 hj hlen hpre => by
      obtain ⟨l', e, hj⟩ := hj
      have hx2 : x < m := dnL_mem (hpre.subset (show x ∈ pre ++ [x] by simp)) (Nat.le_refl _)
      obtain ⟨fn, tmps, assign, body, hy, hRd⟩ := hY l' ⟨x, hx2⟩ W1 hj (by rw [← e] at hlen; simpa using hlen)
      refine ⟨fn, tmps, assign, body, hy, hRd.mono fun e2 W2 h => ?_⟩
      rcases h with ⟨h1, h2, h3⟩ | ⟨h1, h2⟩
      · exact .inl ⟨h1, ⟨l' ++ [⟨x, hx2⟩], by simp [e], h2⟩, h3⟩
      · exact .inr ⟨h1, ⟨l' ++ [⟨x, hx2⟩], by simp [e], h2⟩⟩)
    ((hW'.cell (p := ⟨Bv, 0, none⟩) (hSl _ hS)).trans cv) (fun i hi j u hu => (hW'.cell (p := ⟨g, i * 7 + j, none⟩) (hSl _ hSg)).trans (hB i hi j u hu)) ⟨[], rfl, h0⟩).mono fun e W2 h => by
    obtain ⟨hv, h⟩ := h
    refine ⟨hv, ?_⟩
    rcases h with ⟨ys, hy, l', e, hj⟩ | ⟨pre, hp, l', e, hj⟩
    · exact .inl ⟨l', by show l'.map (·.1) = _; rw [e, hy], hj⟩
    · exact .inr ⟨l', by show l'.map (·.1) <+: _; rw [e]; exact hp, hj⟩
theorem backward_in (v : Value) (w : World) (hv : ∃ a n c, v = .slice a n c) : Calls Tryd.prog 94 #[v] w fun e w' => e = .returned (.func (.func 146) #[] #[.pointer (some ⟨w.heap.size, 0, none⟩)]) ∧ w' = w.alloc (.cells #[v] 104) := by
  obtain ⟨a, n, c, rfl⟩ := hv
  go_enter Tryd.func94, Tryd.ntmps94
  go_wp2
  go_ret
  exact ⟨rfl, rfl⟩
end Go.Proofs.YtmdeooflgkjbbaaDoor

/- Towards pictures: what a builder's writes keep; signs; the picture's bytes. -/





namespace Go.Proofs.YtmdeooflgkjbbaaDoor
set_option linter.unusedSimpArgs false
set_option linter.unusedVariables false
open Go.RowKit Go.Shelf

/-- What stands when a builder was written. -/
structure Wrt (b : Nat) (X Y : World) : Prop where
  low : Below b X Y
  oth : Lib.OthersKept 5 (some b) X Y
theorem Wrt.refl (b : Nat) (X : World) : Wrt b X X := ⟨Below.refl _ _, Lib.OthersKept.refl _ _ _⟩
theorem Wrt.size {b : Nat} {X Y : World} (h : Wrt b X Y) : X.heap.size ≤ Y.heap.size := h.low.size
theorem Wrt.trans {b : Nat} {X Y Z : World} (h : Wrt b X Y) (k : Wrt b Y Z) : Wrt b X Z := ⟨h.low.trans k.low, h.oth.trans k.oth⟩
theorem Wrt.of_below {b : Nat} {X Y : World} (h : Below X.heap.size X Y) (hb : b ≤ X.heap.size) : Wrt b X Y :=
  ⟨h.mono hb, fun k o hk _ _ => (h.block k (Array.getElem?_eq_some_iff.1 hk).1).trans hk⟩
theorem Wrt.block {b k : Nat} {X Y : World} {o : Obj} (h : Wrt b X Y) (hk : X.heap[k]? = some o) (hb : k ≠ b) (ho : ∀ c fz, o ≠ .cells c 5 fz) : Y.heap[k]? = some o := h.oth k o hk (fun e => hb (by cases e; rfl)) ho
theorem Wrt.keeps {b B : Nat} {X Y : World} (h : Wrt b X Y) (hb : ∃ o : Obj, X.heap[b]? = some o ∧ o.isCells = true) : KeepsFrom B X Y :=
  ⟨h.size, fun k o _ hk hc => h.block hk (fun e => by
    subst e
    obtain ⟨o', h1, h2⟩ := hb
    rw [hk] at h1
    cases h1
    rw [h2] at hc
    cases hc) (fun c fz e => by subst e; cases hc)⟩
theorem isB_obj {b : Nat} {bs : List Value} {X : World} (h : IsB b bs X) : ∃ o : Obj, X.heap[b]? = some o ∧ o.isCells = true := by
  rcases h with ⟨_, v, hb, _⟩ | ⟨_, v, hb, _⟩
  · exact ⟨_, hb, rfl⟩
  · exact ⟨_, hb, rfl⟩
theorem isB_lt {b : Nat} {bs : List Value} {X : World} (h : IsB b bs X) : b < X.heap.size := by
  obtain ⟨o, h1, _⟩ := isB_obj h
  exact (Array.getElem?_eq_some_iff.1 h1).1
theorem isB_grown {b : Nat} {bs : List Value} {X Y : World} {row : Option Nat} (h : IsB b bs X) (hg : X.grownBy Y row) (hr : ∀ r, row = some r → ∃ o : Obj, X.heap[r]? = some o ∧ o.isCells = false) : IsB b bs Y := by
  have key : ∀ p, Lib.BuilderAt 122 5 b b p bs X → Lib.BuilderAt 122 5 b b p bs Y := fun p ⟨h0, v, h1, h2, h3⟩ => by
    refine ⟨h0, v, (hg.block b (Array.getElem?_eq_some_iff.1 h1).1 (fun e => ?_)).trans h1, h2.kept hg ?_, h3⟩
    · obtain ⟨o, ho, hc⟩ := hr b e.symm
      rw [h1] at ho
      cases ho
      cases hc
    · rcases h2.2 with ⟨rfl, _⟩ | ⟨g, cap, cur, rfl, _, hgb, _⟩
      · exact .inl rfl
      · refine .inr fun e' => ?_
        obtain ⟨o, ho, hc⟩ := hr g (by simpa [Value.ownBlock] using e'.symm)
        rw [hgb] at ho
        cases ho
        cases hc
  rcases h with h | h
  · exact .inl (key _ h)
  · exact .inr (key _ h)
theorem isB_below {b : Nat} {bs : List Value} {X Y : World} (h : IsB b bs X) (hb : Below X.heap.size X Y) : IsB b bs Y := isB_grown h (grown_of_below hb) (fun r e => by cases e)
theorem wrt_own {β : Type} {b Bd : Nat} {X0 : World} (hB : X0.heap.size ≤ Bd) (hb : b ≤ X0.heap.size) : OwnFrom Bd (fun (_ : β) Y => Wrt b X0 Y) := fun s X Y row hs hg hr =>
  ⟨⟨hg.os.trans hs.low.os, hg.tape.trans hs.low.tape, hg.output.trans hs.low.output, Nat.le_trans hs.low.size hg.size, fun k hk =>
      (hg.block k (by have := hs.low.size; omega) (fun e => by have := (hr _ e.symm).1; omega)).trans (hs.low.block k hk)⟩,
    fun k o hk hn ho => (hg.block k (Array.getElem?_eq_some_iff.1 (hs.oth k o hk hn ho)).1 (fun e => by have := (hr _ e.symm).1; have := (Array.getElem?_eq_some_iff.1 hk).1; omega)).trans (hs.oth k o hk hn ho)⟩

/-- The main way is one of the four directions. -/
theorem mwy_four (a b c d : Int) : mwy a b c d = 0 ∨ mwy a b c d = 1 ∨ mwy a b c d = 2 ∨ mwy a b c d = 3 := by
  have key : ∀ (L : List Int) (s : Int × Int × Bool), (s.1 = 0 ∨ s.1 = 1 ∨ s.1 = 2 ∨ s.1 = 3) → (∀ x ∈ L, x = 0 ∨ x = 1 ∨ x = 2 ∨ x = 3) → (L.foldl (stp (pk4 a b c d)) s).1 = 0 ∨ (L.foldl (stp (pk4 a b c d)) s).1 = 1 ∨ (L.foldl (stp (pk4 a b c d)) s).1 = 2 ∨ (L.foldl (stp (pk4 a b c d)) s).1 = 3 := by
    intro L
    induction L with
    | nil => intro s hs _; exact hs
    | cons x L ih =>
      intro s hs hL
      rw [List.foldl_cons]
      refine ih _ ?_ (fun y hy => hL y (by simp [hy]))
      unfold stp
      split
      · exact hs
      · exact hL x (by simp)
  exact key _ _ (.inl rfl) (by intro x hx; simp at hx; omega)
/-- A cell's sign, as a byte. -/
def sgU (G : Nat → Nat → Int) (q : Nat) : UInt8 := if G q 0 = 0 ∧ G q 1 = 0 ∧ G q 2 = 0 ∧ G q 3 = 0 then 46 else if mwy (G q 0) (G q 1) (G q 2) (G q 3) = 0 then 62 else if mwy (G q 0) (G q 1) (G q 2) (G q 3) = 1 then 94 else if mwy (G q 0) (G q 1) (G q 2) (G q 3) = 2 then 60 else 118
theorem sign_any (G : Nat → Nat → Int) (q : Nat) (w : World) (hM : Mvs w) : Calls Tryd.prog 97 #[.agg #[.int .i64 (G q 0), .int .i64 (G q 1), .int .i64 (G q 2), .int .i64 (G q 3)]] w fun e' w' => e' = .returned (.int .u8 ((sgU G q).toNat : Int)) ∧ Below w.heap.size w w' := by
  by_cases hz : G q 0 = 0 ∧ G q 1 = 0 ∧ G q 2 = 0 ∧ G q 3 = 0
  · rw [show sgU G q = 46 from if_pos hz]
    obtain ⟨h0, h1, h2, h3⟩ := hz
    rw [h0, h1, h2, h3]
    exact sign_empty w
  · rcases mwy_four (G q 0) (G q 1) (G q 2) (G q 3) with hm | hm | hm | hm
    · have := sign_in (G q 0) (G q 1) (G q 2) (G q 3) w 0 (by omega) hz hm hM
      rwa [show sgU G q = 62 from by unfold sgU; rw [if_neg hz, if_pos hm]]
    · have := sign_in (G q 0) (G q 1) (G q 2) (G q 3) w 1 (by omega) hz hm hM
      rwa [show sgU G q = 94 from by unfold sgU; rw [if_neg hz, if_neg (by omega), if_pos hm]]
    · have := sign_in (G q 0) (G q 1) (G q 2) (G q 3) w 2 (by omega) hz hm hM
      rwa [show sgU G q = 60 from by unfold sgU; rw [if_neg hz, if_neg (by omega), if_neg (by omega), if_pos hm]]
    · have := sign_in (G q 0) (G q 1) (G q 2) (G q 3) w 3 (by omega) hz hm hM
      rwa [show sgU G q = 118 from by unfold sgU; rw [if_neg hz, if_neg (by omega), if_neg (by omega), if_neg (by omega)]]
/-- A picture's bytes: of some rows. -/
def txU (G : Nat → Nat → Int) (W : Nat) (ys : List Nat) : List UInt8 := ys.flatMap fun y => (rowN W 0 y W).map (sgU G) ++ [10]
theorem txU_app (G : Nat → Nat → Int) (W : Nat) (ys : List Nat) (y : Nat) : txU G W (ys ++ [y]) = txU G W ys ++ (rowN W 0 y W).map (sgU G) ++ [10] := by simp [txU]
theorem txU_len (G : Nat → Nat → Int) (W : Nat) (ys : List Nat) : (txU G W ys).length = (W + 1) * ys.length := by
  induction ys with
  | nil => rfl
  | cons y ys ih =>
    rw [show txU G W (y :: ys) = ((rowN W 0 y W).map (sgU G) ++ [10]) ++ txU G W ys from rfl, List.length_append, ih, List.length_append, List.length_map, rowN_len, List.length_singleton, List.length_cons, Nat.mul_add, Nat.mul_one]
    omega
theorem blks_obj {w : World} {base : Nat} {v : Value} {n : Nat} {xs : List Value} (h : w.ownsRow base 86 7 v n xs) : ∀ g, v.ownBlock = some g → ∃ cur fz, w.heap[g]? = some (.cells cur 86 fz) := fun g hg => by
  rcases h.2 with ⟨rfl, _⟩ | ⟨g', cap, cur, rfl, _, hh, _⟩
  · cases hg
  · cases hg
    exact ⟨_, _, hh⟩
/-- The rows of a grid, in memory, with the kind of their block. -/
theorem frows_in (W H n cap b off : Nat) (G : Nat → Nat → Int) (p : Nat → Nat × Nat) (hi : Nat) (hp : p = fun i => (0, i)) (hhi : hi = 1) (w : World) (s : Sides W H n) (hO : OkG n G) (lb : b < w.heap.size) (hG : Grd w b off n G) : Calls Tryd.prog 79 #[.agg #[.int .i64 W, .int .i64 H, .slice (some ⟨b, off, none⟩) n cap], .int .i64 1] w fun e w' => ∃ g c, e = .returned (.tuple #[.slice (some ⟨g, 0, none⟩) H c, .int .i64 0]) ∧ BlksAt w' g H W H W hi (some ⟨b, off, none⟩) n cap p ∧ g < w'.heap.size ∧ (∃ cur fz, w'.heap[g]? = some (.cells cur 86 fz)) ∧ Below w.heap.size w w' := by
  subst hp hhi
  refine (flines_1 W H n cap (some ⟨b, off, none⟩) G w (vg_of s hO) (.inr ⟨b, off, rfl, lb, hG⟩) s.w1 s.h1).mono ?_
  rintro e w' ⟨v, rfl, hr, hb⟩
  have hr2 := hr
  obtain ⟨g, c, rfl, hg, hB⟩ := blks_of (n := H) (p := fun i => (0, i)) hr (by rw [recP_len]; omega) s.h0 (fun i hi => recP_col hi)
  exact ⟨g, c, rfl, hB, hg, blks_obj hr2 g rfl, hb⟩
end Go.Proofs.YtmdeooflgkjbbaaDoor

/- The picture of a grid: by the program of the fields. -/


namespace Go.Proofs.YtmdeooflgkjbbaaDoor
set_option linter.unusedSimpArgs false
set_option linter.unusedVariables false
open Go.RowKit Go.Shelf
attribute [local go_sem] Oper.semAt_some

set_option maxRecDepth 100000 in
set_option maxHeartbeats 16000000 in
theorem picture_in (W H N cap b off : Nat) (G : Nat → Nat → Int) (w : World) (s : Sides W H N) (hO : OkG N G) (lb : b < w.heap.size) (hG : Grd w b off N G) (hM : Mvs w) :
    CallsIn Fence.wide 12 Tryd.prog 37 #[.agg #[.int .i64 W, .int .i64 H, .slice (some ⟨b, off, none⟩) N cap]] w fun e w' => e = .returned (.string ⟨(txU G W (dnL H H)).toArray⟩) ∧ Below w.heap.size w w' := by
  obtain ⟨p, hp⟩ : ∃ p : Nat → Nat × Nat, p = fun i => (0, i) := ⟨_, rfl⟩
  obtain ⟨hi, hhi⟩ : ∃ hi : Nat, hi = 1 := ⟨_, rfl⟩
  have LN := Lib.hid (fun wx (hb : Below w.heap.size w wx) => frows_in W H N cap b off G p hi hp hhi wx s hO (Nat.lt_of_lt_of_le lb hb.size) (hG.below hb lb))
  have HG := Lib.hid hG
  have HM := Lib.hid hM
  have HS := Lib.hid s
  have lm := mvs_lt hM
  have hW1 := s.w1
  have hH1 := s.h1
  have HP := Lib.hid (show ∀ i, (p i).1 = 0 ∧ (p i).2 = i from fun i => by rw [hp]; exact ⟨rfl, rfl⟩)
  have HH := Lib.hid hhi
  clear hG hM s hO hp hhi
  refine callsIn_of_wp_marks Tryd.func37 rfl trivial ?_ rfl
  simp only [Tryd.ntmps37, List.size_toArray, List.length_cons, List.length_nil, Nat.reduceAdd, Nat.reduceSub, Array.replicate_succ, Array.replicate_zero, List.push_toArray, List.append_toArray, List.nil_append, List.cons_append]
  gi_wp2_with fail
  (refine ⟨trivial, ?_⟩; gi_at_call 79; refine (callsIn_wide.2 (LN.out _ (by (repeat' (first | (with_reducible exact Below.refl _ _) | (with_reducible refine Below.setCell ?_ (by first | omega | (simp; done) | (simp; omega)) _) | (with_reducible refine Below.alloc ?_ (by first | omega | (simp; done) | (simp; omega)) _) | (with_reducible refine Below.drew ?_) | (with_reducible refine below_drewN ?_ _) | (with_reducible refine Below.trans ?_ (Below.mono (by assumption) (by first | omega | (simp; done) | (simp; omega))))))))).mono ?_; rintro e w1 ⟨g, c, rfl, hBl, lg, hgo, hb⟩)
  have g0 : ∀ (X : World) (k : Nat) (o o' : Obj), X.heap[k]? = some o → (X.alloc o').heap[k]? = some o := fun X k o o' h => (Below.heap_alloc _ _ _ (Array.getElem?_eq_some_iff.1 h).1).trans h
  have n0 : ∀ (X : World) (k : Nat) (o : Obj), X.heap.size = k → (X.alloc o).heap[k]? = some o := fun X k o h => by rw [← h]; exact World.alloc_heap_new X _
  have hsz : w.heap.size + 2 ≤ w1.heap.size := by have := hb.size; simp at this; omega
  have hbw : Below w.heap.size w w1 := by (repeat' (first | (with_reducible exact Below.refl _ _) | (with_reducible refine Below.setCell ?_ (by first | omega | (simp; done) | (simp; omega)) _) | (with_reducible refine Below.alloc ?_ (by first | omega | (simp; done) | (simp; omega)) _) | (with_reducible refine Below.drew ?_) | (with_reducible refine below_drewN ?_ _) | (with_reducible refine Below.trans ?_ (Below.mono (by assumption) (by first | omega | (simp; done) | (simp; omega))))))
  have t3 : w1.heap[w.heap.size + 1]? = some (.cells #[.pointer none, .slice none 0 0] 122 (0, 0)) := (hb.block _ (by simp)).trans (n0 _ _ _ (by simp))
  have HBl := Lib.hid hBl
  have HGO := Lib.hid hgo
  clear hBl hb hgo
  gi_wp2_with (refine ⟨trivial, ?_⟩; gi_at_call 94; (with_reducible refine (callsIn_wide.2 (backward_in _ _ ⟨_, _, _, rfl⟩)).mono ?_); rintro e wD ⟨rfl, rfl⟩)
  obtain ⟨w2, hw2⟩ : ∃ w2, w2 = w1.alloc (.cells #[.slice (some ⟨g, 0, none⟩) H c] 104) := ⟨_, rfl⟩
  have s2 : w2.heap.size = w1.heap.size + 1 := by rw [hw2]; simp
  have b2 : Below w1.heap.size w1 w2 := by rw [hw2]; exact (Below.refl _ _).alloc (Nat.le_refl _) _
  have bv : Boxed w2 w1.heap.size 104 (.slice (some ⟨g, 0, none⟩) H c) := by rw [hw2]; exact n0 _ _ _ rfl
  have t3 : w2.heap[w.heap.size + 1]? = some (.cells #[.pointer none, .slice none 0 0] 122 (0, 0)) := (b2.block _ (by omega)).trans t3
  have hB2 : BlksAt w2 g H W H W hi (some ⟨b, off, none⟩) N cap p := HBl.out.below b2 lg
  obtain ⟨gc, gf, hgo⟩ := HGO.out
  have hgo : w2.heap[g]? = some (.cells gc 86 gf) := (b2.block _ lg).trans hgo
  have hgb : g ≠ w.heap.size + 1 := fun e => by
    rw [e, t3] at hgo
    cases hgo
  have hb2 : Below w.heap.size w w2 := hbw.trans (b2.mono hbw.size)
  have iB : IsB (w.heap.size + 1) (Lib.byteCells (txU G W [])) w2 := .inl ⟨Nat.le_refl _, _, t3, ⟨rfl, .inl ⟨rfl, rfl⟩⟩, fun e => by cases e⟩
  have KBL := Lib.hid (fun X Y (hX : Wrt (w.heap.size + 1) w2 X) (hY : Wrt (w.heap.size + 1) X Y) => (show KB (fun k => k < w.heap.size ∨ k = w1.heap.size ∨ k = g) X Y from ⟨hY.size, fun k hk => by
    rcases hk with hk | rfl | rfl
    · exact hY.low.block k (by omega)
    · have e := hX.block bv (by omega) (fun c fz e => by cases e)
      exact (hY.block e (by omega) (fun c fz e => by cases e)).trans e.symm
    · have e := hX.block hgo hgb (fun c fz e => by cases e)
      exact (hY.block e hgb (fun c fz e => by cases e)).trans e.symm⟩))
  rw [← hw2]
  clear hw2 n0 g0 t3 b2
  refine wpIn_rangeFunc_ownH (α := {i : Nat // i < H}) rfl (by omega) (gf := 146) (lb := #[.pointer (some ⟨w1.heap.size, 0, none⟩)]) rfl trivial (enters_of Tryd.func146 (by kernel_rfl) rfl)
    (back_stops 11 (by omega) w1.heap.size g H c W H W hi (some ⟨b, off, none⟩) N cap p (fun k => k < w.heap.size ∨ k = w1.heap.size ∨ k = g) (.inr (.inl rfl)) (.inr (.inr rfl)) (by omega) w2 (fun k hk => by omega) bv.cell hB2)
    (fun h g => KB.trans h g) (kb_put (fun k hk => by omega)) (Below.refl _ _) (fun _ => rfl)
    (fun pre X => IsB (w.heap.size + 1) (Lib.byteCells (txU G W (pre.map (·.1)))) X ∧ Wrt (w.heap.size + 1) w2 X) (fun _ _ _ => False)
    (fun s X Y row hs hg hr => ⟨isB_grown hs.1 hg (fun r e => (hr r e).2), wrt_own (β := Unit) (Nat.le_refl _) (by omega) () X Y row hs.2 hg hr⟩) (fun _ => ownFrom_pure _ _)
    ⟨iB, Wrt.refl _ _⟩
    (fun z a' X => ∃ Z, w2.heap.size ≤ Z ∧ Sev X Z (.int .i64 W) (.int .i64 H) (.slice (some ⟨b, off, none⟩) N cap) (.int .i64 (((p z.1).1 : Int))) (.int .i64 (((p z.1).2 : Int))) (.int .i64 (((p z.1).1 : Int) + (W : Int) - 1)) (.int .i64 (((p z.1).2 : Int) + (hi : Int) - 1)) ∧ a' = { tmps := #[.agg #[.int .i64 W, .int .i64 H, .slice (some ⟨b, off, none⟩) N cap], .pointer (some ⟨w.heap.size, 0, none⟩), .string ⟨#[]⟩, .pointer (some ⟨w.heap.size + 1, 0, none⟩), .slice (some ⟨g, 0, none⟩) H c, .int .i64 0, undef, .pointer (some ⟨Z, 0, none⟩), undef, .tuple #[.slice (some ⟨g, 0, none⟩) H c, .int .i64 0], .agg #[.int .i64 W, .int .i64 H, .slice (some ⟨b, off, none⟩) N cap], .tuple #[.slice (some ⟨g, 0, none⟩) H c, .int .i64 0], .slice (some ⟨g, 0, none⟩) H c, .int .i64 0, .slice (some ⟨g, 0, none⟩) H c, (.func (.func 146) #[] #[.pointer (some ⟨w1.heap.size, 0, none⟩)]), .int .i64 ((z.1 : Int)), .agg #[.int .i64 W, .int .i64 H, .slice (some ⟨b, off, none⟩) N cap, .int .i64 (((p z.1).1 : Int)), .int .i64 (((p z.1).2 : Int)), .int .i64 (((p z.1).1 : Int) + (W : Int) - 1), .int .i64 (((p z.1).2 : Int) + (hi : Int) - 1)], undef, undef, undef, undef, undef, undef, undef, undef], defers := [] })
    (fun z a' _ X Y row hs hg hr => by
      obtain ⟨Z, h1, h2, h3⟩ := hs
      exact ⟨Z, h1, sev_own h2 hg (fun r e => (hr r e).2), h3⟩)
    ?assign ?body ?done ?stop
  case assign =>
    rintro l pre x X K' hI hK'
    have sX := hI.2.size
    gi_wp2
    have hbZ : Below X.heap.size X (X.alloc (.cells #[.int .i64 W, .int .i64 H, .slice (some ⟨b, off, none⟩) N cap, .int .i64 (((p x.1).1 : Int)), .int .i64 (((p x.1).2 : Int)), .int .i64 (((p x.1).1 : Int) + (W : Int) - 1), .int .i64 (((p x.1).2 : Int) + (hi : Int) - 1)] 86)) := (Below.refl _ _).alloc (Nat.le_refl _) _
    exact hK' _ _ (keepsFrom_of_below hbZ) (KB.of_below hbZ (fun k hk => by omega)) ⟨isB_below hI.1 hbZ, hI.2.trans (Wrt.of_below hbZ (by omega))⟩ ⟨X.heap.size, sX, Sev.new X _ _ _ _ _ _ _, rfl⟩
  case body =>
    rintro l pre x a' X hl hlo hI ⟨Z, lZ, hZ, rfl⟩ hlen
    obtain ⟨y, hy⟩ := x
    dsimp only at hZ ⊢
    obtain ⟨e1, e2⟩ := HP.out y
    have eh := HH.out
    obtain ⟨px, hpx⟩ : ∃ px, px = (p y).1 := ⟨_, rfl⟩
    obtain ⟨py, hpy⟩ : ∃ py, py = (p y).2 := ⟨_, rfl⟩
    obtain ⟨qx, hqx⟩ : ∃ qx : Int, qx = (px : Int) + (W : Int) - 1 := ⟨_, rfl⟩
    obtain ⟨qy, hqy⟩ : ∃ qy : Int, qy = (py : Int) + (hi : Int) - 1 := ⟨_, rfl⟩
    rw [← hpx, ← hpy, ← hqx, ← hqy] at hZ ⊢
    rw [← hpx] at e1
    rw [← hpy] at e2
    have z0 := hZ.at 0 _ rfl
    have z1 := hZ.at 1 _ rfl
    have z2 := hZ.at 2 _ rfl
    have z3 := hZ.at 3 _ rfl
    have z4 := hZ.at 4 _ rfl
    have z5 := hZ.at 5 _ rfl
    have z6 := hZ.at 6 _ rfl
    have lZX := hZ.lt
    have sX := hI.2.size
    have HQ := Lib.hid (And.intro e1 (And.intro e2 (And.intro hqx hqy)))
    have HI := Lib.hid hI
    clear e1 e2 eh hqx hqy hpx hpy hI
    gi_wp2_with fail
    refine ⟨trivial, ?_⟩
    refine (CallsIn.inRound l (callsIn_wide.2 (cellsF_in _ _ ⟨_, _, _, _, _, _, _, rfl⟩))).mono ?_
    rintro e wD ⟨rfl, rfl⟩
    gi_wp2_with fail
    obtain ⟨X1, hX1⟩ : ∃ X1, X1 = X.alloc (.cells #[.int .i64 W, .int .i64 H, .slice (some ⟨b, off, none⟩) N cap, .int .i64 ((px : Int)), .int .i64 ((py : Int)), .int .i64 qx, .int .i64 qy] 86) := ⟨_, rfl⟩
    have bX1 : Below X.heap.size X X1 := by rw [hX1]; exact (Below.refl _ _).alloc (Nat.le_refl _) _
    have sX1 : X1.heap.size = X.heap.size + 1 := by rw [hX1]; simp
    have v1 : Sev X1 X.heap.size (.int .i64 W) (.int .i64 H) (.slice (some ⟨b, off, none⟩) N cap) (.int .i64 ((px : Int))) (.int .i64 ((py : Int))) (.int .i64 qx) (.int .i64 qy) := by rw [hX1]; exact Sev.new X _ _ _ _ _ _ _
    obtain ⟨r0, hr0⟩ := hlo
    have hr1 : X1.heap[l]? = some (.loop r0) := (bX1.block _ (Array.getElem?_eq_some_iff.1 hr0).1).trans hr0
    have iB1 : IsB (w.heap.size + 1) (Lib.byteCells (txU G W (pre.map (·.1)))) X1 := isB_below HI.out.1 bX1
    have wX1 : Wrt (w.heap.size + 1) w2 X1 := HI.out.2.trans (Wrt.of_below bX1 (by omega))
    have hbX1 : Below w.heap.size w X1 := hb2.trans (wX1.low.mono (by omega))
    have q1 : px + W ≤ W := by have := HQ.out; omega
    have q2 : py + 1 ≤ H := by have := HQ.out; omega
    have q3 : qx + 1 = ((px + W : Nat) : Int) := by have := HQ.out; push_cast; omega
    have q4 : qy + 1 = ((py + 1 : Nat) : Int) := by have := HQ.out; have := HH.out; push_cast; omega
    have HR := Lib.hid (show recN W px W py 1 = rowN W 0 y W from by rw [HQ.out.1, HQ.out.2.1, recN_one])
    have c0 := v1.at 0 _ rfl
    have c3 := v1.at 3 _ rfl
    have c4 := v1.at 4 _ rfl
    have c5 := v1.at 5 _ rfl
    have c6 := v1.at 6 _ rfl
    have c2 := v1.at 2 _ rfl
    have SEQ := Lib.hid (cellsF_stops 9 (by omega) X.heap.size W H px W py 1 b off N cap G qx qy (fun k => k < w.heap.size ∨ k = X.heap.size) (.inr rfl) (.inl lb) X1 (fun k hk => by omega) hW1 hH1 q1 q2 HS.out.n0 HS.out.n1 q3 q4 c0 c3 c4 c5 c6 c2 (HG.out.below hbX1 lb))
    rw [← hX1]
    clear hX1 q3 q4 c0 c2 c3 c4 c5 c6 q1 q2
    refine wpIn_rangeFunc_ownN (α := CelW N) (l₀ := l) (r₀ := r0) rfl hr1 (by omega) (gf := 147) (lb := #[.pointer (some ⟨X.heap.size, 0, none⟩)]) rfl trivial (enters_of Tryd.func147 (by kernel_rfl) rfl)
      (SeqStopsK.inRound l SEQ.out)
      (fun h g => KB.trans h g) (kb_put (fun k hk => by omega)) (Below.refl _ _) (fun _ => rfl)
      (fun pr Y => IsB (w.heap.size + 1) (Lib.byteCells (txU G W (pre.map (·.1)) ++ (pr.map (·.1)).map (sgU G))) Y ∧ Wrt (w.heap.size + 1) X1 Y) (fun _ _ _ => False)
      (fun s X Y row hs hg hr => ⟨isB_grown hs.1 hg (fun r e => (hr r e).2), wrt_own (β := Unit) (Nat.le_refl _) (by omega) () X Y row hs.2 hg hr⟩) (fun _ => ownFrom_pure _ _)
      ⟨by simpa using iB1, Wrt.refl _ _⟩
      (fun z a' Y => ∃ Z2, X1.heap.size ≤ Z2 ∧ Quad Y Z2 (G z.1 0) (G z.1 1) (G z.1 2) (G z.1 3) ∧ a' = { tmps := #[.agg #[.int .i64 W, .int .i64 H, .slice (some ⟨b, off, none⟩) N cap], .pointer (some ⟨w.heap.size, 0, none⟩), .string ⟨#[]⟩, .pointer (some ⟨w.heap.size + 1, 0, none⟩), .slice (some ⟨g, 0, none⟩) H c, .int .i64 0, undef, .pointer (some ⟨Z, 0, none⟩), .pointer (some ⟨Z2, 0, none⟩), .tuple #[.slice (some ⟨g, 0, none⟩) H c, .int .i64 0], .agg #[.int .i64 W, .int .i64 H, .slice (some ⟨b, off, none⟩) N cap], .tuple #[.slice (some ⟨g, 0, none⟩) H c, .int .i64 0], .slice (some ⟨g, 0, none⟩) H c, .int .i64 0, .slice (some ⟨g, 0, none⟩) H c, (.func (.func 146) #[] #[.pointer (some ⟨w1.heap.size, 0, none⟩)]), .int .i64 ((y : Int)), .agg #[.int .i64 W, .int .i64 H, .slice (some ⟨b, off, none⟩) N cap, .int .i64 ((px : Int)), .int .i64 ((py : Int)), .int .i64 qx, .int .i64 qy], .agg #[.int .i64 W, .int .i64 H, .slice (some ⟨b, off, none⟩) N cap, .int .i64 ((px : Int)), .int .i64 ((py : Int)), .int .i64 qx, .int .i64 qy], (.func (.func 147) #[] #[.pointer (some ⟨X.heap.size, 0, none⟩)]), .agg #[.int .i64 (G z.1 0), .int .i64 (G z.1 1), .int .i64 (G z.1 2), .int .i64 (G z.1 3)], undef, undef, undef, undef, undef], defers := [] })
      (fun z a' _ X Y row hs hg hr => by
        obtain ⟨Z2, h1, h2, h3⟩ := hs
        exact ⟨Z2, h1, quad_own h2 hg (fun r e => (hr r e).2), h3⟩)
      ?assign2 ?body2 ?done2 ?stop2
    case assign2 =>
      rintro l2 pr x2 Y K' hJ hK'
      have sY := hJ.2.size
      gi_wp2
      have hbZ : Below Y.heap.size Y (Y.alloc (.cells #[.int .i64 (G x2.1 0), .int .i64 (G x2.1 1), .int .i64 (G x2.1 2), .int .i64 (G x2.1 3)] 62)) := (Below.refl _ _).alloc (Nat.le_refl _) _
      exact hK' _ _ (keepsFrom_of_below hbZ) (KB.of_below hbZ (fun k hk => by omega)) ⟨isB_below hJ.1 hbZ, hJ.2.trans (Wrt.of_below hbZ (by omega))⟩ ⟨Y.heap.size, sY, World.alloc_heap_new Y _, rfl⟩
    case body2 =>
      rintro l2 pr x2 a2 Y hl2 hlo2 hJ ⟨Z2, lZ2, hZ2, rfl⟩ hlen2
      obtain ⟨q, hq⟩ := x2
      dsimp only at hZ2 ⊢
      have sY := hJ.2.size
      have k0 := hZ2.c0
      have k1 := hZ2.c1
      have k2 := hZ2.c2
      have k3 := hZ2.c3
      have lZY := hZ2.lt
      have hbY : Below w.heap.size w Y := hbX1.trans (hJ.2.low.mono (by omega))
      have SG := Lib.hid (sign_any G q Y (HM.out.below hbY))
      obtain ⟨d0, hd0⟩ : ∃ d, d = G q 0 := ⟨_, rfl⟩
      obtain ⟨d1, hd1⟩ : ∃ d, d = G q 1 := ⟨_, rfl⟩
      obtain ⟨d2, hd2⟩ : ∃ d, d = G q 2 := ⟨_, rfl⟩
      obtain ⟨d3, hd3⟩ : ∃ d, d = G q 3 := ⟨_, rfl⟩
      rw [← hd0, ← hd1, ← hd2, ← hd3] at SG ⊢
      rw [← hd0] at k0
      rw [← hd1] at k1
      rw [← hd2] at k2
      rw [← hd3] at k3
      have hl1 : (W + 1) * pre.length ≤ 65 * 64 := Nat.mul_le_mul (by omega) (by omega)
      have hln : (Lib.byteCells (txU G W (pre.map (·.1)) ++ (pr.map (·.1)).map (sgU G))).length ≤ 100000 := by
        rw [Lib.byteCells_length, List.length_append, txU_len, List.length_map, List.length_map, List.length_map]
        omega
      have HJ := Lib.hid hJ
      have HLN := Lib.hid hln
      clear hd0 hd1 hd2 hd3 hZ2 hJ hln hl1
      gi_wp2_with fail
      refine ⟨trivial, ?_⟩
      refine (CallsIn.inRound l2 (CallsIn.inRound l (callsIn_wide.2 SG.out))).mono ?_
      rintro e w7 ⟨rfl, hb7⟩
      gi_wp2_with fail
      refine ⟨trivial, ?_⟩
      refine (CallsIn.inRound l2 (CallsIn.inRound l (callsIn_wide.2 (wbyte_in (w.heap.size + 1) _ _ w7 (isB_below HJ.out.1 hb7) HLN.out)))).mono ?_
      rintro e w8 ⟨rfl, i8, l8, o8, s8⟩
      gi_wp2
      have w78 : Wrt (w.heap.size + 1) Y w8 := (Wrt.of_below hb7 (by omega)).trans ⟨l8, o8⟩
      refine ⟨w78.keeps (isB_obj HJ.out.1), ⟨w78.size, fun k hk => ?_⟩, ?_, HJ.out.2.trans w78⟩
      · rcases hk with hk | rfl
        · exact w78.low.block k (by omega)
        · have e := HJ.out.2.block v1 (by omega) (fun c fz e => by cases e)
          exact (w78.block e (by omega) (fun c fz e => by cases e)).trans e.symm
      · rw [List.map_append, List.map_append, ← List.append_assoc, Lib.byteCells_append]
        exact i8
    case done2 =>
      rintro ys Y hys hJ
      have hys2 : ys.map (·.1) = recN W px W py 1 := hys
      rw [HR.out] at hys2
      rw [hys2] at hJ
      have hl1 : (W + 1) * pre.length ≤ 65 * 64 := Nat.mul_le_mul (by omega) (by omega)
      have hln : (Lib.byteCells (txU G W (pre.map (·.1)) ++ (rowN W 0 y W).map (sgU G))).length ≤ 100000 := by
        rw [Lib.byteCells_length, List.length_append, txU_len, List.length_map, List.length_map, rowN_len]
        omega
      have HJ := Lib.hid hJ
      have HLN := Lib.hid hln
      clear hJ hln hl1 hys2
      gi_wp2_with fail
      refine ⟨trivial, ?_⟩
      refine (CallsIn.inRound l (callsIn_wide.2 (wbyte_in (w.heap.size + 1) _ 10 Y HJ.out.1 HLN.out))).mono ?_
      rintro e w8 ⟨rfl, i8, l8, o8, s8⟩
      gi_wp2
      have w78 : Wrt (w.heap.size + 1) X w8 := ((Wrt.of_below bX1 (by omega)).trans HJ.out.2).trans ⟨l8, o8⟩
      refine ⟨w78.keeps (isB_obj HI.out.1), KBL.out X w8 HI.out.2 w78, ?_, HI.out.2.trans w78⟩
      rw [List.map_append, show [(⟨y, hy⟩ : {i : Nat // i < H})].map (·.1) = [y] from rfl, txU_app, Lib.byteCells_append]
      exact i8
    case stop2 =>
      rintro c2 pr Y _ h
      exact h.elim
  case done =>
    rintro D ys X hD hys hI hK'
    have hy : ys.map (·.1) = dnL H H := hys
    rw [hy] at hI
    have hbX : Below w.heap.size w X := hb2.trans (hI.2.low.mono (by omega))
    have HI := Lib.hid hI
    clear hI hy
    gi_wp2_with fail
    refine ⟨trivial, ?_⟩
    refine (callsIn_wide.2 (bstring_in (w.heap.size + 1) _ X HI.out.1 (by have := hbX.size; have := HI.out.2.size; omega))).mono ?_
    rintro e w9 ⟨rfl, l9, o9⟩
    have hK9 := o9 D _ hK' (fun e => by cases e; omega) (fun c fz e => by cases e)
    gi_wp2
    refine ⟨by simp, .inl ⟨_, _, rfl, run_takeDeferred hK9, ?_⟩⟩
    refine ⟨_, results_tmp rfl _ _ _, rfl, ?_⟩
    exact (hbX.trans (l9.mono (by omega))).trans (belowK_b (w := w) (Nat.le_refl _) _ D _ _ (by omega) hK9 rfl rfl)
  case stop =>
    rintro D c pre X _ _ h _
    exact h.elim
end Go.Proofs.YtmdeooflgkjbbaaDoor
