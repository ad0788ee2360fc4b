/- The blocks of a grid, one after another: by the program of the fields. -/
import Derived.Test.YtmdeooflgkjbbaaDoorKRect
import Derived.Test.YtmdeooflgkjbbaaDoorKMach
import Derived.Test.YtmdeooflgkjbbaaDoorKSeqW
import Derived.Test.YtmdeooflgkjbbaaDoorKFJoin
import Derived.Test.YtmdeooflgkjbbaaDoorKColIn
namespace Go.Proofs.YtmdeooflgkjbbaaDoor
set_option linter.unusedSimpArgs false
set_option linter.unusedVariables false
open Go.RowKit Go.Shelf
attribute [local go_sem] Oper.semAt_some

/-- Places in a row, in rows. -/
def rowP (y : Nat) : Nat → List (Nat × Nat)
  | 0 => []
  | j + 1 => rowP y j ++ [(j, y)]
def recP (nx : Nat) : Nat → List (Nat × Nat)
  | 0 => []
  | k + 1 => recP nx k ++ rowP k nx
theorem rowP_len (y j : Nat) : (rowP y j).length = j := by
  induction j with
  | zero => rfl
  | succ j ih => simp [rowP, ih]
theorem recP_len (nx k : Nat) : (recP nx k).length = k * nx := by
  induction k with
  | zero => simp [recP]
  | succ k ih => simp [recP, ih, rowP_len, Nat.succ_mul]
theorem rowP_pre (y : Nat) {i j : Nat} (h : i ≤ j) : rowP y i <+: rowP y j := by
  induction j with
  | zero =>
    obtain rfl : i = 0 := by omega
    exact List.prefix_refl _
  | succ j ih =>
    by_cases e : i = j + 1
    · subst e; exact List.prefix_refl _
    · exact (ih (by omega)).trans (List.prefix_append _ _)
theorem recP_pre (nx : Nat) {i j : Nat} (h : i ≤ j) : recP nx i <+: recP nx j := by
  induction j with
  | zero =>
    obtain rfl : i = 0 := by omega
    exact List.prefix_refl _
  | succ j ih =>
    by_cases e : i = j + 1
    · subst e; exact List.prefix_refl _
    · exact (ih (by omega)).trans (List.prefix_append _ _)
theorem rec_preP (nx : Nat) {k ny j : Nat} (h : k < ny) (hj : j ≤ nx) : recP nx k ++ rowP k j <+: recP nx ny :=
  ((List.prefix_append_right_inj _).2 (rowP_pre k hj)).trans (recP_pre nx (i := k + 1) h)
theorem rowP_mem {y j : Nat} {p : Nat × Nat} (h : p ∈ rowP y j) : p.1 < j ∧ p.2 = y := by
  induction j with
  | zero => simp [rowP] at h
  | succ j ih =>
    rcases List.mem_append.1 h with h | h
    · have := ih h
      exact ⟨by omega, this.2⟩
    · obtain rfl := List.mem_singleton.1 h
      exact ⟨by simp, rfl⟩
theorem recP_mem {nx k : Nat} {p : Nat × Nat} (h : p ∈ recP nx k) : p.1 < nx ∧ p.2 < k := by
  induction k with
  | zero => simp [recP] at h
  | succ k ih =>
    rcases List.mem_append.1 h with h | h
    · have := ih h
      exact ⟨this.1, by omega⟩
    · have := rowP_mem h
      exact ⟨this.1, by omega⟩

set_option maxRecDepth 100000 in
set_option maxHeartbeats 8000000 in
theorem blocks1_in (n : Nat) (hn : 1 ≤ n) (l Bg Bh Bw W H wi hi nx ny : Nat) (ao : Option Addr) (N cap : Nat) (S : Nat → Prop) (hSg : S Bg) (hSh : S Bh) (hSw : S Bw)
    (hW : W ≤ 64) (hH : H ≤ 64) (hnx : nx + wi = W + 1) (hny : ny + hi = H + 1)
    (J Jx : List (Nat × Nat) → World → Prop) (w : World) (hSl : ∀ k, S k → k < w.heap.size)
    (hJa : ∀ L W1 o, J L W1 → J L (W1.alloc o))
    (hY : ∀ (pre : List (Nat × Nat)) (x y : Nat) W1, J pre W1 → pre.length < ny * nx → pre ++ [(x, y)] <+: recP nx ny → YieldAt Fence.wide (n - 1) Tryd.prog l #[.agg #[.int .i64 W, .int .i64 H, .slice ao N cap, .int .i64 ((x : Int)), .int .i64 ((y : Int)), .int .i64 ((x : Int) + (wi : Int) - 1), .int .i64 ((y : Int) + (hi : Int) - 1)]] W1 fun e W' =>
      (e = .returned (.bool true) ∧ J (pre ++ [(x, y)]) W' ∧ KB S W1 W') ∨ (e = .returned (.bool false) ∧ Jx (pre ++ [(x, y)]) W'))
    (c0 : w.cell? ⟨Bg, 0, none⟩ = some (.int .i64 W)) (c1 : w.cell? ⟨Bg, 1, none⟩ = some (.int .i64 H)) (c2 : w.cell? ⟨Bg, 2, none⟩ = some (.slice ao N cap)) (cw : w.cell? ⟨Bw, 0, none⟩ = some (.int .i64 wi)) (ch : w.cell? ⟨Bh, 0, none⟩ = some (.int .i64 hi)) (h0 : J [] w) :
    CallsIn Fence.wide n Tryd.prog 133 #[.func (.yield l) #[] #[], .pointer (some ⟨Bg, 0, none⟩), .pointer (some ⟨Bh, 0, none⟩), .pointer (some ⟨Bw, 0, none⟩)] w fun e W' => (∃ v, e = .returned v) ∧
      ((∃ ys, ys = recP nx ny ∧ J ys W') ∨ (∃ pre, pre <+: recP nx ny ∧ Jx pre W')) := by
  refine callsIn_of_wp Tryd.func133 rfl trivial ?_ rfl
  simp only [Tryd.ntmps133, List.size_toArray, List.length_cons, List.length_nil, Nat.reduceAdd, Nat.reduceSub, Array.replicate_succ, Array.replicate_zero, List.push_toArray, List.append_toArray, List.nil_append, List.cons_append]
  have e1 : IntKind.i64.wrap ((H : Int) - (hi : Int)) = (H : Int) - (hi : Int) := IntWalk.i64_in _ ⟨by omega, by omega⟩
  have e2 : IntKind.i64.wrap ((H : Int) - (hi : Int) + 1) = (ny : Int) := by rw [show (H : Int) - (hi : Int) + 1 = (ny : Int) from by omega]; exact IntWalk.i64_in _ ⟨by omega, by omega⟩
  have e3 : IntKind.i64.wrap ((W : Int) - (wi : Int)) = (W : Int) - (wi : Int) := IntWalk.i64_in _ ⟨by omega, by omega⟩
  have e4 : IntKind.i64.wrap ((W : Int) - (wi : Int) + 1) = (nx : Int) := by rw [show (W : Int) - (wi : Int) + 1 = (nx : Int) from by omega]; exact IntWalk.i64_in _ ⟨by omega, by omega⟩
  have HE := Lib.hid (And.intro hnx hny)
  clear hnx hny
  gi_wp2
  have kb0 : KB S w w := ⟨Nat.le_refl _, fun _ _ => rfl⟩
  gi_loopw [5, 6, 7, 13] (fun _ _ _ y wr => ∃ k : Nat, k ≤ ny ∧ y = .int .i64 (k : Int) ∧ J (recP nx k) wr ∧ KB S w wr) (fun _ _ _ y _ => ny - (Go.RowKit.intOf y).toNat)
  case atStart => exact ⟨0, Nat.zero_le _, rfl, h0, kb0⟩
  case round =>
    obtain ⟨k, hk, rfl, hJs, hkb⟩ := hrel
    have hk5 : k ≤ 100 := by have := HE.out; omega
    by_cases hlk : k < ny
    · have d0 := (hkb.cell hSg).trans c0
      have dw := (hkb.cell hSw).trans cw
      have p0 : (k : Int) < (ny : Int) := by omega
      gi_wp2
      obtain ⟨wo, hwo⟩ : ∃ wo, wo = wr := ⟨_, rfl⟩
      subst hwo
      clear d0 dw
      gi_loopw [6, 7, 21] (fun _ _ x wr => ∃ j : Nat, j ≤ nx ∧ x = .int .i64 (j : Int) ∧ J (recP nx k ++ rowP k j) wr ∧ KB S w wr) (fun _ _ x _ => nx - (Go.RowKit.intOf x).toNat)
      case atStart => exact ⟨0, Nat.zero_le _, rfl, by rw [show rowP k 0 = [] from rfl, List.append_nil]; exact hJs, hkb⟩
      case round =>
        obtain ⟨j, hj, rfl, hJd, hnd⟩ := hrel
        have hj5 : j ≤ 100 := by have := HE.out; omega
        by_cases hlj : j < nx
        · have g0 := (hnd.cell hSg).trans c0
          have g1 := (hnd.cell hSg).trans c1
          have g2 := (hnd.cell hSg).trans c2
          have gw := (hnd.cell hSw).trans cw
          have gh := (hnd.cell hSh).trans ch
          have s0 := hnd.1
          have lg : Bg < wr.heap.size := Nat.lt_of_lt_of_le (hSl _ hSg) s0
          have lh : Bh < wr.heap.size := Nat.lt_of_lt_of_le (hSl _ hSh) s0
          have lw : Bw < wr.heap.size := Nat.lt_of_lt_of_le (hSl _ hSw) s0
          have hE := HE.out
          have p1 : (j : Int) < (nx : Int) := by omega
          have x1 : IntKind.i64.wrap ((j : Int) + (wi : Int)) = (j : Int) + (wi : Int) := IntWalk.i64_in _ ⟨by omega, by omega⟩
          have x2 : IntKind.i64.wrap ((j : Int) + (wi : Int) - 1) = (j : Int) + (wi : Int) - 1 := IntWalk.i64_in _ ⟨by omega, by omega⟩
          have y1 : IntKind.i64.wrap ((k : Int) + (hi : Int)) = (k : Int) + (hi : Int) := IntWalk.i64_in _ ⟨by omega, by omega⟩
          have y2 : IntKind.i64.wrap ((k : Int) + (hi : Int) - 1) = (k : Int) + (hi : Int) - 1 := IntWalk.i64_in _ ⟨by omega, by omega⟩
          have hpre := rec_preP nx (j := j + 1) hlk (show j + 1 ≤ nx by omega)
          simp only [rowP] at hpre
          rw [← List.append_assoc] at hpre
          have hlen : (recP nx k ++ rowP k j).length < ny * nx := by
            have := hpre.length_le
            rw [List.length_append, List.length_singleton, recP_len] at this
            omega
          have bA : Below wr.heap.size wr (wr.alloc (.cells #[.int .i64 ((j : Int) + (wi : Int) - 1), .int .i64 ((k : Int) + (hi : Int) - 1)] 26)) := (Below.refl _ _).alloc (Nat.le_refl _) _
          have hkA : KB S wr (wr.alloc (.cells #[.int .i64 ((j : Int) + (wi : Int) - 1), .int .i64 ((k : Int) + (hi : Int) - 1)] 26)) := KB.of_below bA (fun z hz => Nat.lt_of_lt_of_le (hSl z hz) s0)
          obtain ⟨fn, tmps, assign, body, hyy, hRd⟩ := hY _ j k _ (hJa _ _ (.cells #[.int .i64 ((j : Int) + (wi : Int) - 1), .int .i64 ((k : Int) + (hi : Int) - 1)] 26) hJd) hlen hpre
          have HPRE := Lib.hid hpre
          have HR := Lib.hid (show rowP k (j + 1) = rowP k j ++ [(j, k)] from rfl)
          have HKA := Lib.hid hkA
          clear hpre hE hkA
          have hRd := hRd.mono (R' := RoundDone (fun W' => J (recP nx k ++ rowP k j ++ [(j, k)]) W' ∧ KB S (wr.alloc (.cells #[.int .i64 ((j : Int) + (wi : Int) - 1), .int .i64 ((k : Int) + (hi : Int) - 1)] 26)) W') (Jx (recP nx k ++ rowP k j ++ [(j, k)]))) (fun _ _ h => roundDone h)
          gi_wp2
          refine hRd.mono ?_
          rintro e W3 ⟨bb, rfl, hh⟩
          rcases hh with ⟨rfl, hJ3, hk3⟩ | ⟨rfl, hx3⟩
          · gi_wp2
            go_roundw
            case rel => exact ⟨j + 1, by omega, by go_num, by rw [HR.out, ← List.append_assoc]; exact hJ3, hnd.trans (HKA.out.trans hk3)⟩
            case measure => simp [Go.RowKit.intOf]; omega
          · gi_wp2
            refine bodyPost_ret (results_none rfl _ _ _) rfl ?_
            exact ⟨⟨_, rfl⟩, .inr ⟨_, HPRE.out, hx3⟩⟩
        · have p1n : ¬ ((j : Int) < (nx : Int)) := by omega
          have hjn : j = nx := by omega
          subst hjn
          gi_wp2
          go_roundw
          case rel => exact ⟨k + 1, by omega, by go_num, hJd, hnd⟩
          case measure => simp [Go.RowKit.intOf]; omega
    · have hkn : k = ny := by omega
      subst hkn
      gi_wp2
      go_end0
      exact ⟨⟨_, rfl⟩, .inl ⟨_, rfl, hJs⟩⟩
end Go.Proofs.YtmdeooflgkjbbaaDoor

/- The blocks of a grid as a sequence: by the program of the fields. -/


namespace Go.Proofs.YtmdeooflgkjbbaaDoor
set_option linter.unusedSimpArgs false
set_option linter.unusedVariables false
open Go.RowKit Go.Shelf
attribute [local go_sem] Oper.semAt_some

theorem blocks_stops (n : Nat) (hn : 1 ≤ n) (Bg Bh Bw W H wi hi nx ny : Nat) (ao : Option Addr) (N cap : Nat) (S : Nat → Prop) (hSg : S Bg) (hSh : S Bh) (hSw : S Bw)
    (hW : W ≤ 64) (hH : H ≤ 64) (hnx : nx + wi = W + 1) (hny : ny + hi = H + 1) (w : World) (hSl : ∀ k, S k → k < w.heap.size)
    (c0 : w.cell? ⟨Bg, 0, none⟩ = some (.int .i64 W)) (c1 : w.cell? ⟨Bg, 1, none⟩ = some (.int .i64 H)) (c2 : w.cell? ⟨Bg, 2, none⟩ = some (.slice ao N cap)) (cw : w.cell? ⟨Bw, 0, none⟩ = some (.int .i64 wi)) (ch : w.cell? ⟨Bh, 0, none⟩ = some (.int .i64 hi)) :
    SeqStopsK Fence.wide n Tryd.prog 133 #[.pointer (some ⟨Bg, 0, none⟩), .pointer (some ⟨Bh, 0, none⟩), .pointer (some ⟨Bw, 0, none⟩)]
      (fun p : Nat × Nat => #[.agg #[.int .i64 W, .int .i64 H, .slice ao N cap, .int .i64 ((p.1 : Int)), .int .i64 ((p.2 : Int)), .int .i64 ((p.1 : Int) + (wi : Int) - 1), .int .i64 ((p.2 : Int) + (hi : Int) - 1)]]) (KB S)
      (fun ys => ys = recP nx ny) (fun pre => pre <+: recP nx ny) (ny * nx) w := fun l J Jx W' hW' hJ hJx hY h0 =>
  (blocks1_in n hn l Bg Bh Bw W H wi hi nx ny ao N cap S hSg hSh hSw hW hH hnx hny J Jx W' (fun k hk => Nat.lt_of_lt_of_le (hSl k hk) hW'.size) (fun L W1 o h => hJ L W1 (W1.alloc o) none h (World.grownBy_alloc W1 o none) (fun r e => by cases e))
    (fun pre x y W1 hj hlen hpre => hY pre (x, y) W1 hj hlen)
    ((hW'.cell (p := ⟨Bg, 0, none⟩) (hSl _ hSg)).trans c0) ((hW'.cell (p := ⟨Bg, 1, none⟩) (hSl _ hSg)).trans c1) ((hW'.cell (p := ⟨Bg, 2, none⟩) (hSl _ hSg)).trans c2) ((hW'.cell (p := ⟨Bw, 0, none⟩) (hSl _ hSw)).trans cw) ((hW'.cell (p := ⟨Bh, 0, none⟩) (hSl _ hSh)).trans ch) h0).mono fun e W2 h => by
    obtain ⟨hv, h⟩ := h
    refine ⟨hv, ?_⟩
    rcases h with ⟨ys, hy, hj⟩ | ⟨pre, hp, hj⟩
    · exact .inl ⟨ys, hy, hj⟩
    · exact .inr ⟨pre, hp, hj⟩
theorem blocks_in (W H wi hi : Int) (ao : Option Addr) (n cap : Nat) (w : World) : Calls Tryd.prog 74 #[.agg #[.int .i64 W, .int .i64 H, .slice (ao) n cap], .int .i64 wi, .int .i64 hi] w fun e w' => e = .returned (.func (.func 133) #[] #[.pointer (some ⟨w.heap.size, 0, none⟩), .pointer (some ⟨w.heap.size + 1 + 1, 0, none⟩), .pointer (some ⟨w.heap.size + 1, 0, none⟩)]) ∧
    w' = ((w.alloc (.cells #[.int .i64 W, .int .i64 H, .slice ao n cap] 24)).alloc (.cells #[.int .i64 wi] 3)).alloc (.cells #[.int .i64 hi] 3) := by
  go_enter Tryd.func74, Tryd.ntmps74
  go_wp2
  go_ret
  exact ⟨rfl, rfl⟩
end Go.Proofs.YtmdeooflgkjbbaaDoor

/- slices.Collect over the blocks of a grid: by the program of the fields. -/



namespace Go.Proofs.YtmdeooflgkjbbaaDoor
set_option linter.unusedSimpArgs false
set_option linter.unusedVariables false
open Go.RowKit Go.Maps Go.Shelf Go.Sort
attribute [local go_sem] Oper.semAt_some

theorem info_blockF : (Tryd.prog.info? 86).map (fun i => (i.zero, i.size, i.bytes)) = some (some (.agg #[.int .i64 0, .int .i64 0, .slice none 0 0, .int .i64 0, .int .i64 0, .int .i64 0, .int .i64 0]), 7, 72) := by kernel_rfl
/-- A block's cells. -/
def bC (W H wi hi : Nat) (ao : Option Addr) (N cap : Nat) (p : Nat × Nat) : List Value := [.int .i64 W, .int .i64 H, .slice ao N cap, .int .i64 ((p.1 : Int)), .int .i64 ((p.2 : Int)), .int .i64 ((p.1 : Int) + (wi : Int) - 1), .int .i64 ((p.2 : Int) + (hi : Int) - 1)]
/-- The box holds a row of one's own above it, with what has come. -/
def CoB (W H wi hi : Nat) (ao : Option Addr) (N cap : Nat) (w : World) (pre : List (Nat × Nat)) (X : World) : Prop :=
  ∃ v, Boxed X w.heap.size 104 v ∧ X.ownsRow (w.heap.size + 1) 86 7 v pre.length (pre.flatMap (bC W H wi hi ao N cap)) ∧ Below w.heap.size w X
theorem coB_own {W H wi hi : Nat} {ao : Option Addr} {N cap Bd : Nat} {w : World} (hB : w.heap.size ≤ Bd) : OwnFrom Bd (CoB W H wi hi ao N cap w) := fun s X Y row hs hg hr => by
  obtain ⟨v, h1, h2, h3⟩ := hs
  have hr' : ∀ r, row = some r → ∃ o : Obj, X.heap[r]? = some o ∧ o.isCells = false := fun r e => (hr r e).2
  refine ⟨v, boxed_own _ _ (fun (_ : Unit) => v) () X Y row h1 hg hr', h2.kept hg ?_, ownFrom_below (β := Unit) (Nat.le_refl _) hB () X Y row h3 hg hr⟩
  rcases h2.2 with ⟨rfl, _⟩ | ⟨g, cap, cur, rfl, _, hgb, _⟩
  · exact .inl rfl
  · refine .inr fun e' => ?_
    obtain ⟨o, ho, hw⟩ := hr' g (by simpa [Value.ownBlock] using e'.symm)
    rw [hgb] at ho
    cases ho
    cases hw
theorem sev_own {X Y : World} {row : Option Nat} {E : Nat} {a b c d e f g : Value} (h : Sev X E a b c d e f g) (hg : X.grownBy Y row) (hr : ∀ r, row = some r → ∃ o : Obj, X.heap[r]? = some o ∧ o.isCells = false) : Sev Y E a b c d e f g :=
  (hg.block E h.lt (fun e' => by obtain ⟨o, ho, hc⟩ := hr E e'.symm; rw [show X.heap[E]? = _ from h] at ho; cases ho; cases hc)).trans h

theorem row_form7 {w : World} {base : Nat} {e : TypeId} {size : Nat} {v : Value} {k : Nat} {xs : List Value} (h : w.ownsRow base e size v (k + 1) xs) : ∃ g cap, v = .slice (some ⟨g, 0, none⟩) (k + 1) cap := by
  rcases h.2 with ⟨_, h0⟩ | ⟨g, cap, cur, rfl, _⟩
  · omega
  · exact ⟨g, cap, rfl⟩
theorem seven_new (w : World) (a b c d e f g : Value) (t : TypeId) : ∀ (j : Nat) u, ([a, b, c, d, e, f, g] : List Value)[j]? = some u → (w.alloc (.cells #[a, b, c, d, e, f, g] t)).cell? ((⟨w.heap.size, 0, none⟩ : Addr).add j) = some u := by
  intro j u hu
  match j, hu with
  | 0, hu => simp at hu; subst hu; simp only [Addr.add, Nat.zero_add]; exact (World.cell?_alloc_at _ _ _ _ (by simp)).trans rfl
  | 1, hu => simp at hu; subst hu; simp only [Addr.add, Nat.zero_add]; exact (World.cell?_alloc_at _ _ _ _ (by simp)).trans rfl
  | 2, hu => simp at hu; subst hu; simp only [Addr.add, Nat.zero_add]; exact (World.cell?_alloc_at _ _ _ _ (by simp)).trans rfl
  | 3, hu => simp at hu; subst hu; simp only [Addr.add, Nat.zero_add]; exact (World.cell?_alloc_at _ _ _ _ (by simp)).trans rfl
  | 4, hu => simp at hu; subst hu; simp only [Addr.add, Nat.zero_add]; exact (World.cell?_alloc_at _ _ _ _ (by simp)).trans rfl
  | 5, hu => simp at hu; subst hu; simp only [Addr.add, Nat.zero_add]; exact (World.cell?_alloc_at _ _ _ _ (by simp)).trans rfl
  | 6, hu => simp at hu; subst hu; simp only [Addr.add, Nat.zero_add]; exact (World.cell?_alloc_at _ _ _ _ (by simp)).trans rfl
  | k + 7, hu => simp at hu

set_option maxRecDepth 100000 in
set_option maxHeartbeats 16000000 in
theorem appSeqB_in (Bg Bh Bw W H wi hi nx ny : Nat) (ao : Option Addr) (N cap : Nat) (w : World) (lg : Bg < w.heap.size) (lh : Bh < w.heap.size) (lw : Bw < w.heap.size)
    (hW : W ≤ 64) (hH : H ≤ 64) (hnx : nx + wi = W + 1) (hny : ny + hi = H + 1)
    (c0 : w.cell? ⟨Bg, 0, none⟩ = some (.int .i64 W)) (c1 : w.cell? ⟨Bg, 1, none⟩ = some (.int .i64 H)) (c2 : w.cell? ⟨Bg, 2, none⟩ = some (.slice ao N cap)) (cw : w.cell? ⟨Bw, 0, none⟩ = some (.int .i64 wi)) (ch : w.cell? ⟨Bh, 0, none⟩ = some (.int .i64 hi)) :
    CallsIn Fence.wide 7 Tryd.prog 171 #[.slice none 0 0, .func (.func 133) #[] #[.pointer (some ⟨Bg, 0, none⟩), .pointer (some ⟨Bh, 0, none⟩), .pointer (some ⟨Bw, 0, none⟩)]] w fun e w' => ∃ v, e = .returned v ∧ w'.ownsRow w.heap.size 86 7 v (recP nx ny).length ((recP nx ny).flatMap (bC W H wi hi ao N cap)) ∧ Below w.heap.size w w' := by
  obtain ⟨i0, hif, hz0, hz1, hz2⟩ := info_parts info_blockF
  refine callsIn_of_wp_marks Tryd.func171 rfl trivial ?_ rfl
  simp only [Tryd.ntmps171, List.size_toArray, List.length_cons, List.length_nil, Nat.reduceAdd, Nat.reduceSub, Array.replicate_succ, Array.replicate_zero, List.push_toArray, List.append_toArray, List.nil_append, List.cons_append]
  gi_wp2
  have bA := Boxed.new w 104 (.slice none 0 0)
  have hbW : Below w.heap.size w (w.alloc (.cells #[.slice none 0 0] 104)) := (Below.refl _ w).alloc (Nat.le_refl _) _
  have hsz : (w.alloc (.cells #[.slice none 0 0] 104)).heap.size = w.heap.size + 1 := by simp
  obtain ⟨w4, hw4⟩ : ∃ w4, w4 = w.alloc (.cells #[.slice none 0 0] 104) := ⟨_, rfl⟩
  rw [← hw4] at bA hbW hsz ⊢
  clear hw4
  refine wpIn_rangeFunc_ownH (α := Nat × Nat) rfl (by omega) (gf := 133) (lb := #[.pointer (some ⟨Bg, 0, none⟩), .pointer (some ⟨Bh, 0, none⟩), .pointer (some ⟨Bw, 0, none⟩)]) rfl trivial (enters_of Tryd.func133 (by kernel_rfl) rfl)
    (blocks_stops 6 (by omega) Bg Bh Bw W H wi hi nx ny ao N cap (fun k => k < w.heap.size) lg lh lw hW hH hnx hny w4 (fun k hk => by omega) ((hbW.cell (p := ⟨Bg, 0, none⟩) lg).trans c0) ((hbW.cell (p := ⟨Bg, 1, none⟩) lg).trans c1) ((hbW.cell (p := ⟨Bg, 2, none⟩) lg).trans c2) ((hbW.cell (p := ⟨Bw, 0, none⟩) lw).trans cw) ((hbW.cell (p := ⟨Bh, 0, none⟩) lh).trans ch))
    (fun h g => KB.trans h g) (kb_put (fun k hk => by omega)) (Below.refl _ _) (fun _ => rfl)
    (CoB W H wi hi ao N cap w) (fun _ _ _ => False) (coB_own (by omega)) (fun _ => ownFrom_pure _ _)
    ⟨_, bA, ⟨rfl, .inl ⟨rfl, rfl⟩⟩, hbW⟩
    (fun x a' X => ∃ Z, w.heap.size + 1 ≤ Z ∧ Sev X Z (.int .i64 W) (.int .i64 H) (.slice ao N cap) (.int .i64 ((x.1 : Int))) (.int .i64 ((x.2 : Int))) (.int .i64 ((x.1 : Int) + (wi : Int) - 1)) (.int .i64 ((x.2 : Int) + (hi : Int) - 1)) ∧ a' = { tmps := #[.slice none 0 0, .func (.func 133) #[] #[.pointer (some ⟨Bg, 0, none⟩), .pointer (some ⟨Bh, 0, none⟩), .pointer (some ⟨Bw, 0, none⟩)], .pointer (some ⟨w.heap.size, 0, none⟩), undef, .slice none 0 0, .pointer (some ⟨Z, 0, none⟩), .func (.func 133) #[] #[.pointer (some ⟨Bg, 0, none⟩), .pointer (some ⟨Bh, 0, none⟩), .pointer (some ⟨Bw, 0, none⟩)], .agg #[.int .i64 W, .int .i64 H, .slice ao N cap, .int .i64 ((x.1 : Int)), .int .i64 ((x.2 : Int)), .int .i64 ((x.1 : Int) + (wi : Int) - 1), .int .i64 ((x.2 : Int) + (hi : Int) - 1)], undef, undef, undef, undef, undef], defers := [] })
    (fun x a' _ X Y row hs hg hr => by
      obtain ⟨Z, h1, h2, h3⟩ := hs
      exact ⟨Z, h1, sev_own h2 hg (fun r e => (hr r e).2), h3⟩)
    ?assign ?body ?done ?stop
  case assign =>
    rintro l pre x X K' hI hK'
    have hsX : w.heap.size + 1 ≤ X.heap.size := by obtain ⟨v, h1, _, h3⟩ := hI; have := h1.lt; omega
    gi_wp2
    have hbZ : Below X.heap.size X (X.alloc (.cells #[.int .i64 W, .int .i64 H, .slice ao N cap, .int .i64 ((x.1 : Int)), .int .i64 ((x.2 : Int)), .int .i64 ((x.1 : Int) + (wi : Int) - 1), .int .i64 ((x.2 : Int) + (hi : Int) - 1)] 86)) := (Below.refl _ _).alloc (Nat.le_refl _) _
    exact hK' _ _ (keepsFrom_of_below hbZ) (KB.of_below hbZ (fun k hk => by omega)) ((coB_own (Bd := w4.heap.size) (by omega)).alloc _ hI) ⟨X.heap.size, hsX, Sev.new X _ _ _ _ _ _ _, rfl⟩
  case body =>
    rintro l pre x a' X _ _ hI ⟨Z, lZ, hZ, rfl⟩ hlen
    obtain ⟨v, hBx, hrow, hbX⟩ := hI
    have lX := hBx.lt
    have cX := hBx.cell
    have hs1 := hbX.size
    have hcnt : ny * nx ≤ 65 * 65 := Nat.mul_le_mul (show ny ≤ 65 by omega) (show nx ≤ 65 by omega)
    have eL : (pre ++ [x]).flatMap (bC W H wi hi ao N cap) = pre.flatMap (bC W H wi hi ao N cap) ++ bC W H wi hi ao N cap x := by simp
    obtain ⟨p, hp⟩ : ∃ p : Int, p = (x.1 : Int) := ⟨_, rfl⟩
    obtain ⟨q, hq⟩ : ∃ q : Int, q = (x.2 : Int) := ⟨_, rfl⟩
    obtain ⟨bx, hbx⟩ : ∃ bx : Int, bx = (x.1 : Int) + (wi : Int) - 1 := ⟨_, rfl⟩
    obtain ⟨yb, hyb⟩ : ∃ yb : Int, yb = (x.2 : Int) + (hi : Int) - 1 := ⟨_, rfl⟩
    have eB : bC W H wi hi ao N cap x = [.int .i64 W, .int .i64 H, .slice ao N cap, .int .i64 p, .int .i64 q, .int .i64 bx, .int .i64 yb] := by unfold bC; rw [hp, hq, hbx, hyb]
    rw [eB] at eL
    rw [← hbx, ← hyb, ← hp, ← hq] at hZ ⊢
    have m0 := hZ.at 0 _ rfl
    have m1 := hZ.at 1 _ rfl
    have m2 := hZ.at 2 _ rfl
    have m3 := hZ.at 3 _ rfl
    have m4 := hZ.at 4 _ rfl
    have m5 := hZ.at 5 _ rfl
    have m6 := hZ.at 6 _ rfl
    have lZX := hZ.lt
    have EL := Lib.hid eL
    have HBX := Lib.hid hBx
    have HRW := Lib.hid hrow
    have HBW := Lib.hid hbX
    have HX := Lib.hid (And.intro lg (And.intro lh lw))
    have hfX : X.frozen? ⟨w.heap.size, 0, none⟩ = false := by simp [World.frozen?, show X.heap[w.heap.size]? = _ from hBx]
    clear hBx hrow hbX bA hbW c0 c1 c2 cw ch eL eB hp hq hbx hyb hZ
    have hne : ∀ {Y : World} {u : Value} {k : Nat} {xs : List Value}, Y.ownsRow (w.heap.size + 1) 86 7 u k xs → some w.heap.size ≠ u.ownBlock := fun h e => by
      rcases h.2 with ⟨rfl, _⟩ | ⟨g, cap, cur, rfl, hg, _⟩
      · cases e
      · simp [Value.ownBlock] at e
        omega
    gi_wp2_with (first | (gi_at_builtin; refine wpListIn_append_own _ rfl _ _ 104 rfl (w.heap.size + 1) 86 i0 (.agg #[.int .i64 0, .int .i64 0, .slice none 0 0, .int .i64 0, .int .i64 0, .int .i64 0, .int .i64 0]) 7 72 Tryd.underlying104 hif hz0 hz1 hz2 rfl (by decide) _ _ _ rfl (HRW.out.alloc _) ⟨X.heap.size, 0, none⟩ 1 1 [.int .i64 W, .int .i64 H, .slice ao N cap, .int .i64 p, .int .i64 q, .int .i64 bx, .int .i64 yb] rfl rfl (seven_new _ _ _ _ _ _ _ _ _) (by intro u hu; simp at hu; rcases hu with rfl | rfl | rfl | rfl | rfl | rfl | rfl <;> rfl) (by unfold maxLen; omega) (by omega) (by simp; omega) ?_; intro v' w3 hown' hg3 hnil; clear hnil; obtain ⟨g', cap', rfl⟩ := row_form7 hown'; have hB3 := ((HBX.out.alloc (.cells #[.int .i64 W, .int .i64 H, .slice ao N cap, .int .i64 p, .int .i64 q, .int .i64 bx, .int .i64 yb] 86)).kept hg3 (hne HRW.out)); have hc3 := hB3.cell; have hf3 : w3.frozen? ⟨w.heap.size, 0, none⟩ = false := by simp [World.frozen?, show w3.heap[w.heap.size]? = _ from hB3]) | gi_round_op_a)
    have hg3' : (X.alloc (.cells #[.int .i64 W, .int .i64 H, .slice ao N cap, .int .i64 p, .int .i64 q, .int .i64 bx, .int .i64 yb] 86)).grownBy w3 v.ownBlock := hg3
    clear hg3
    have hkf : KeepsFrom w4.heap.size X (w3.setCell ⟨w.heap.size, 0, none⟩ (.slice (some ⟨g', 0, none⟩) (pre.length + 1) cap')) := ((KeepsOthers.alloc X _).trans ((KeepsOthers.of_grownBy hg3' (fun j o hj ho => row_cells (HRW.out.alloc _) j o hj ho)).trans (KeepsOthers.setCell _ _ _))).from _
    have hb3 : Below w.heap.size w w3 := (HBW.out.alloc hs1 _).grown hg3' (by simp; omega) (fun k e => by have := (HRW.out.lt k e).1; omega)
    have hb4 : Below w.heap.size w (w3.setCell ⟨w.heap.size, 0, none⟩ (.slice (some ⟨g', 0, none⟩) (pre.length + 1) cap')) := hb3.setCell (p := ⟨w.heap.size, 0, none⟩) (Nat.le_refl _) _
    refine ⟨hkf, kb_two HBW.out hb4 hkf.size (fun k hk => hk), _, hB3.set _, ?_, hb4⟩
    rw [EL.out, List.length_append, List.length_singleton]
    exact hown'.kept (grownBy_setCell' w3 w.heap.size _) (.inr fun e => hne hown' e.symm)
  case done =>
    rintro D ys X hD hys hI hK'
    obtain ⟨v, hBx, hrow, hbX⟩ := hI
    have cX := hBx.cell
    rw [show ys = recP nx ny from hys] at hrow
    have HRW := Lib.hid hrow
    have HBX := Lib.hid hbX
    clear hBx hrow hbX hys bA hbW
    gi_wp2
    refine ⟨by simp, .inl ⟨_, _, rfl, run_takeDeferred hK', ?_⟩⟩
    refine ⟨_, results_tmp rfl _ _ _, v, rfl, ?_, ?_⟩
    · refine ownsRow_base_a (HRW.out.kept (grownBy_putObj' X D (.deferred none)) ?_) (by omega)
      exact .inr fun e => by have := row_cells HRW.out D _ e hK'; cases this
    · exact HBX.out.grown (grownBy_putObj' X D (.deferred none)) HBX.out.size (fun k e => by cases e; omega)
  case stop =>
    rintro D c pre X _ _ h _
    exact h.elim

theorem collectB_in (Bg Bh Bw W H wi hi nx ny : Nat) (ao : Option Addr) (N cap : Nat) (w : World) (lg : Bg < w.heap.size) (lh : Bh < w.heap.size) (lw : Bw < w.heap.size)
    (hW : W ≤ 64) (hH : H ≤ 64) (hnx : nx + wi = W + 1) (hny : ny + hi = H + 1)
    (c0 : w.cell? ⟨Bg, 0, none⟩ = some (.int .i64 W)) (c1 : w.cell? ⟨Bg, 1, none⟩ = some (.int .i64 H)) (c2 : w.cell? ⟨Bg, 2, none⟩ = some (.slice ao N cap)) (cw : w.cell? ⟨Bw, 0, none⟩ = some (.int .i64 wi)) (ch : w.cell? ⟨Bh, 0, none⟩ = some (.int .i64 hi)) :
    Calls Tryd.prog 134 #[.func (.func 133) #[] #[.pointer (some ⟨Bg, 0, none⟩), .pointer (some ⟨Bh, 0, none⟩), .pointer (some ⟨Bw, 0, none⟩)]] w fun e w' => ∃ v, e = .returned v ∧ w'.ownsRow w.heap.size 86 7 v (recP nx ny).length ((recP nx ny).flatMap (bC W H wi hi ao N cap)) ∧ Below w.heap.size w w' := by
  have A := Lib.hid (callsIn_wide.1 (appSeqB_in Bg Bh Bw W H wi hi nx ny ao N cap w lg lh lw hW hH hnx hny c0 c1 c2 cw ch))
  clear c0 c1 c2 cw ch
  go_enter Tryd.func134, Tryd.ntmps134
  go_wp2_with fail
  go_at_call 171
  refine A.out.mono ?_
  rintro e w2 ⟨v, rfl, hr, hb⟩
  have HR := Lib.hid hr
  have HB := Lib.hid hb
  clear hr hb
  go_wp2
  go_ret
  exact ⟨v, rfl, HR.out, HB.out⟩
end Go.Proofs.YtmdeooflgkjbbaaDoor
