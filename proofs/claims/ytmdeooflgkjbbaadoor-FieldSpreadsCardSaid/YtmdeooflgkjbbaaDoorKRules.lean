/- The rules of steps: what a run of rules yields, one round after another. -/
import Derived.RangeFuncNested
import Derived.RangeFuncBound
import Derived.RangeFuncCalls
import Derived.RangeFuncLeaves
import Derived.Shelf.Abstract
import Derived.Shelf.RegionOpen
import Derived.WalkKit
import Derived.OwnWalkIn
import Derived.TacticsInMore
import Derived.LoopNIn
import Derived.LoopIn
import Derived.Test.YtmdeooflgkjbbaaDoorKColl
namespace Go.Proofs.YtmdeooflgkjbbaaDoor
set_option linter.unusedSimpArgs false
set_option linter.unusedVariables false
open Go.RowKit Go.Shelf
attribute [local go_sem] Oper.semAt_some

/-- What has come when k rounds are over. -/
def upto {α : Type} (f : Nat → α) (k : Nat) : List α := (List.range k).map f
theorem upto_succ {α : Type} (f : Nat → α) (k : Nat) : upto f (k + 1) = upto f k ++ [f k] := by simp [upto, List.range_succ]
theorem upto_length {α : Type} (f : Nat → α) (k : Nat) : (upto f k).length = k := by simp [upto]

/-- Some blocks are kept as they are. -/
def KB (S : Nat → Prop) (A B : World) : Prop := A.heap.size ≤ B.heap.size ∧ ∀ k, S k → B.heap[k]? = A.heap[k]?
theorem KB.refl (S : Nat → Prop) (A : World) : KB S A A := ⟨Nat.le_refl _, fun _ _ => rfl⟩
theorem KB.trans {S : Nat → Prop} {A B C : World} (h : KB S A B) (g : KB S B C) : KB S A C := ⟨Nat.le_trans h.1 g.1, fun k hk => (g.2 k hk).trans (h.2 k hk)⟩
theorem KB.of_below {S : Nat → Prop} {n : Nat} {A B : World} (h : Below n A B) (hS : ∀ k, S k → k < n) : KB S A B := ⟨h.size, fun k hk => h.block k (hS k hk)⟩
theorem KB.cell {S : Nat → Prop} {A B : World} (h : KB S A B) {b o : Nat} (hb : S b) : B.cell? ⟨b, o, none⟩ = A.cell? ⟨b, o, none⟩ := World.cell?_of_block (a := ⟨b, o, none⟩) (h.2 b hb)
theorem KB.set {S : Nat → Prop} {A : World} {b o : Nat} {v : Value} (hb : ¬ S b) : KB S A (A.setCell ⟨b, o, none⟩ v) := ⟨by simp [World.setCell], fun k hk => Below.heap_setCell _ _ _ _ (fun e => hb (by rw [← show k = b from e]; exact hk))⟩
theorem KB.alloc {S : Nat → Prop} {A B : World} (h : KB S A B) (hS : ∀ k, S k → k < A.heap.size) (o : Obj) : KB S A (B.alloc o) := h.trans ⟨by simp, fun k hk => Below.heap_alloc _ _ _ (Nat.lt_of_lt_of_le (hS k hk) h.1)⟩
theorem kb_drew (S : Nat → Prop) (A : World) : KB S A A.drew := ⟨Nat.le_refl _, fun _ _ => rfl⟩
theorem kb_put {S : Nat → Prop} {w : World} (hS : ∀ k, S k → k < w.heap.size) : ∀ (W : World) (l : Nat) (o o' : Obj), w.heap.size ≤ l → W.heap[l]? = some o → o.isCells = false → o.isWalk = false → KB S W (W.putObj l o') :=
  fun W l o o' hl ho _ _ => ⟨by simp [World.putObj], fun k hk => World.putObj_heap_other (by have := hS k hk; omega)⟩

/-- The rules lie there. -/
def RulesAt (w : World) (b off n : Nat) (R : Nat → Int × Int) : Prop := ∀ i, i < n → w.cell? ⟨b, off + i * 2, none⟩ = some (.int .i64 ((R i).1)) ∧ w.cell? ⟨b, off + i * 2 + 1, none⟩ = some (.int .i64 ((R i).2))

/-- How a round ends: it goes on, or it has said no more. -/
def RoundEnd (A B : World → Prop) (bb : Bool) (W' : World) : Prop := (bb = true ∧ A W') ∨ (bb = false ∧ B W')
def RoundDone (A B : World → Prop) (e : Ending) (W' : World) : Prop := ∃ bb, e = .returned (.bool bb) ∧ RoundEnd A B bb W'
theorem roundDone {A B : World → Prop} {e : Ending} {W' : World} (h : (e = .returned (.bool true) ∧ A W') ∨ (e = .returned (.bool false) ∧ B W')) : RoundDone A B e W' := by
  rcases h with ⟨h, a⟩ | ⟨h, b⟩
  · exact ⟨true, h, .inl ⟨rfl, a⟩⟩
  · exact ⟨false, h, .inr ⟨rfl, b⟩⟩

set_option maxRecDepth 100000 in
set_option maxHeartbeats 4000000 in
/-- The rounds of a run of rules. -/
theorem run1_in (n : Nat) (hn : 1 ≤ n) (l Bn Bl Bf b off len cap first cnt : Nat) (R : Nat → Int × Int) (S : Nat → Prop) (hSl : S Bl) (hSf : S Bf) (hSb : S b) (hlen : 1 ≤ len) (hlen' : len ≤ 1000) (hfirst : first ≤ 4000000) (hcnt : cnt ≤ 4000000)
    (J Jx : List (Int × Int) → World → Prop) (W : World) (hJ : AbidesFrom W.heap.size J)
    (hY : ∀ pre x W1, J pre W1 → pre.length < cnt → YieldAt Fence.wide (n - 1) Tryd.prog l #[.agg #[.int .i64 x.1, .int .i64 x.2]] W1 fun e W' =>
      (e = .returned (.bool true) ∧ J (pre ++ [x]) W' ∧ KB S W1 W') ∨ (e = .returned (.bool false) ∧ Jx (pre ++ [x]) W'))
    (hBn : W.cell? ⟨Bn, 0, none⟩ = some (.int .i64 cnt)) (hBl : W.cell? ⟨Bl, 0, none⟩ = some (.slice (some ⟨b, off, none⟩) len cap)) (hBf : W.cell? ⟨Bf, 0, none⟩ = some (.int .i64 first)) (hR : RulesAt W b off len R) (h0 : J [] W) :
    CallsIn Fence.wide n Tryd.prog 216 #[.func (.yield l) #[] #[], .pointer (some ⟨Bn, 0, none⟩), .pointer (some ⟨Bl, 0, none⟩), .pointer (some ⟨Bf, 0, none⟩)] W fun e W' => (∃ v, e = .returned v) ∧
      ((∃ ys, ys = upto (fun j => R ((first + j) % len)) cnt ∧ J ys W') ∨ (∃ pre, (∃ k, k ≤ cnt ∧ pre = upto (fun j => R ((first + j) % len)) k) ∧ Jx pre W')) := by
  have hmx : Tryd.prog.follows .mixedOrders = true := by kernel_rfl
  refine callsIn_of_wp Tryd.func216 rfl trivial ?_ rfl
  simp only [Tryd.ntmps216, List.size_toArray, List.length_cons, List.length_nil, Nat.reduceAdd, Nat.reduceSub, Array.replicate_succ, Array.replicate_zero, List.push_toArray, List.append_toArray, List.nil_append, List.cons_append]
  gi_wp2
  gi_loopw [7] (fun i wr => ∃ k : Nat, k ≤ cnt ∧ i = .int .i64 k ∧ J (upto (fun j => R ((first + j) % len)) k) wr ∧ KB S W wr)
    (fun i _ => cnt - (intOf i).toNat)
  case atStart => exact ⟨0, Nat.zero_le _, rfl, h0, KB.refl _ _⟩
  case round =>
    obtain ⟨k, hk, rfl, hJs, hnx⟩ := hrel
    by_cases hlt : k < cnt
    · obtain ⟨q, hq⟩ : ∃ q, q = (first + k) % len := ⟨_, rfl⟩
      have hql : q < len := by rw [hq]; exact Nat.mod_lt _ hlen
      have hc0 : wr.cell? ⟨b, off + q * 2, none⟩ = some (.int .i64 ((R q).1)) := (hnx.cell hSb).trans (hR q hql).1
      have hc1 : wr.cell? ⟨b, off + q * 2 + 1, none⟩ = some (.int .i64 ((R q).2)) := (hnx.cell hSb).trans (hR q hql).2
      have hcl : wr.cell? ⟨Bl, 0, none⟩ = some (.slice (some ⟨b, off, none⟩) len cap) := (hnx.cell hSl).trans hBl
      have hcf : wr.cell? ⟨Bf, 0, none⟩ = some (.int .i64 first) := (hnx.cell hSf).trans hBf
      have hJd : J (upto (fun j => R ((first + j) % len)) k) wr.drew := hJ _ wr _ none hJs ⟨rfl, rfl, rfl, Nat.le_refl _, fun _ _ _ => rfl⟩ (by simp)
      obtain ⟨fn, tmps, assign, body, hy, hRd⟩ := hY _ (R q) wr.drew hJd (by rw [upto_length]; exact hlt)
      have e1 : IntKind.i64.wrap ((first : Int) + (k : Int)) = (first : Int) + (k : Int) := IntWalk.i64_in _ ⟨by omega, by omega⟩
      have e2 : ((first : Int) + (k : Int)) % (len : Int) = (q : Int) := by rw [hq, Int.natCast_emod, Int.natCast_add]
      have HQ := Lib.hid hq
      have HL := Lib.hid hlt
      have p1 : (0 : Int) ≤ (q : Int) := by omega
      have p2 : (q : Int) < (len : Int) := by omega
      clear hq hBn hBl hBf hR hY h0 hJs hJd
      gi_wp2
      have hRd := hRd.mono (R' := RoundDone (fun W' => J (upto (fun j => R ((first + j) % len)) k ++ [R q]) W' ∧ KB S wr.drew W') (Jx (upto (fun j => R ((first + j) % len)) k ++ [R q]))) (fun _ _ h => roundDone h)
      gi_region_with_o (refine hRd.mono ?_; rintro e W3 ⟨bb, rfl, hh⟩)
      all_goals
        clear hRd hy hmx
        rcases hh with ⟨rfl, hJ3, hk3⟩ | ⟨rfl, hx3⟩
        · gi_wp2
          go_roundw
          case rel => exact ⟨k + 1, by omega, by simp, by rw [upto_succ, ← HQ.out]; exact hJ3, hnx.trans ((kb_drew S wr).trans hk3)⟩
          case measure => simp [intOf]; have := HL.out; omega
        · gi_wp2
          refine bodyPost_ret (results_none rfl _ _ _) rfl ?_
          exact ⟨⟨_, rfl⟩, .inr ⟨_, ⟨k + 1, by have := HL.out; omega, by rw [upto_succ, ← HQ.out]⟩, hx3⟩⟩
    · obtain rfl : k = cnt := by omega
      gi_wp2
      go_end0
      exact ⟨⟨_, rfl⟩, .inl ⟨_, rfl, hJs⟩⟩
end Go.Proofs.YtmdeooflgkjbbaaDoor

/- Whether rules are valid, and the rule of a step: by the program and by the reference. -/

namespace Go.Proofs.YtmdeooflgkjbbaaDoor
set_option linter.unusedSimpArgs false
set_option linter.unusedVariables false
open Go.RowKit Go.Shelf
attribute [local go_sem] Oper.semAt_some

/-- One to eight rules, all of them valid. -/
def OkRs (n : Nat) (R : Nat → Int × Int) : Prop := 1 ≤ n ∧ n ≤ 8 ∧ ∀ i, i < n → OkR (R i).1 (R i).2

/-- A block of two cells. -/
def Two (W : World) (B : Nat) (t : TypeId) (x y : Value) : Prop := W.heap[B]? = some (.cells #[x, y] t (0, 0))
theorem Two.lt {W : World} {B : Nat} {t : TypeId} {x y : Value} (h : Two W B t x y) : B < W.heap.size := (Array.getElem?_eq_some_iff.1 h).1
theorem Two.c0 {W : World} {B : Nat} {t : TypeId} {x y : Value} (h : Two W B t x y) : W.cell? ⟨B, 0, none⟩ = some x := by simp [World.cell?, show W.heap[B]? = _ from h]
theorem Two.c1 {W : World} {B : Nat} {t : TypeId} {x y : Value} (h : Two W B t x y) : W.cell? ⟨B, 1, none⟩ = some y := by simp [World.cell?, show W.heap[B]? = _ from h]
theorem Two.f0 {W : World} {B : Nat} {t : TypeId} {x y : Value} (h : Two W B t x y) (i : Nat) : W.frozen? ⟨B, i, none⟩ = false := by simp [World.frozen?, show W.heap[B]? = _ from h]
theorem Two.new (W : World) (t : TypeId) (x y : Value) : Two (W.alloc (.cells #[x, y] t)) W.heap.size t x y := World.alloc_heap_new W _
theorem Two.kept {W W' : World} {row : Option Nat} {B : Nat} {t : TypeId} {x y : Value} (h : Two W B t x y) (hg : W.grownBy W' row) (hne : some B ≠ row) : Two W' B t x y := (hg.block B h.lt hne).trans h
theorem Two.alloc {W : World} {B : Nat} {t : TypeId} {x y : Value} (h : Two W B t x y) (o : Obj) : Two (W.alloc o) B t x y := h.kept (World.grownBy_alloc W o none) (by simp)
theorem Two.below {n : Nat} {W W' : World} {B : Nat} {t : TypeId} {x y : Value} (h : Two W B t x y) (hb : Below n W W') (hB : B < n) : Two W' B t x y := (hb.block B hB).trans h
theorem Two.set2 {W : World} {B : Nat} {t : TypeId} {x y : Value} (h : Two W B t x y) (u v : Value) : Two ((W.setCell ⟨B, 0, none⟩ u).setCell ⟨B, 1, none⟩ v) B t u v := by
  unfold Two at *
  simp only [World.setCell, Array.getElem?_modify, ↓reduceIte, h, Option.map_some]
  rfl
theorem Two.other {W : World} {B B' : Nat} {t : TypeId} {x y : Value} (h : Two W B t x y) (hne : B ≠ B') (i : Nat) (u : Value) : Two (W.setCell ⟨B', i, none⟩ u) B t x y := (Below.heap_setCell W ⟨B', i, none⟩ u B hne).trans h
theorem two_own {β : Type} (B : Nat) (t : TypeId) (f g : β → Value) : Own (fun s W => Two W B t (f s) (g s)) := fun s X Y row hs hg hrow =>
  hs.kept hg (fun e' => by obtain ⟨o, ho, hc⟩ := hrow B e'.symm; rw [show X.heap[B]? = _ from hs] at ho; cases ho; cases hc)

theorem run_in (n : Nat) (ao : Option Addr) (len cap : Nat) (first cnt : Int) (w : World) :
    CallsIn Fence.wide n Tryd.prog 201 #[.slice ao len cap, .int .i64 first, .int .i64 cnt] w fun e w' => e = .returned (.func (.func 216) #[] #[.pointer (some ⟨w.heap.size + 1 + 1, 0, none⟩), .pointer (some ⟨w.heap.size, 0, none⟩), .pointer (some ⟨w.heap.size + 1, 0, none⟩)]) ∧
      w' = ((w.alloc (.cells #[.slice ao len cap] 50)).alloc (.cells #[.int .i64 first] 3)).alloc (.cells #[.int .i64 cnt] 3) := by
  refine callsIn_of_wp Tryd.func201 rfl trivial ?_ rfl
  simp only [Tryd.ntmps201, List.size_toArray, List.length_cons, List.length_nil, Nat.reduceAdd, Nat.reduceSub, Array.replicate_succ, Array.replicate_zero, List.push_toArray, List.append_toArray, List.nil_append, List.cons_append]
  gi_wp2
  go_ret
  exact ⟨rfl, rfl⟩

/-- What a run of rules has kept, in the world behind it. -/
theorem run_stops (n : Nat) (hn : 1 ≤ n) (b off len cap first cnt m : Nat) (R : Nat → Int × Int) (w W : World) (hlen : 1 ≤ len) (hlen' : len ≤ 1000) (hfirst : first ≤ 4000000) (hcnt : cnt ≤ 4000000) (hb : b < m)
    (hc0 : w.cell? ⟨m, 0, none⟩ = some (.slice (some ⟨b, off, none⟩) len cap)) (hc1 : w.cell? ⟨m + 1, 0, none⟩ = some (.int .i64 first)) (hc2 : w.cell? ⟨m + 1 + 1, 0, none⟩ = some (.int .i64 cnt)) (hm : m + 1 + 1 < w.heap.size) (hR : RulesAt w b off len R) :
    SeqStopsK Fence.wide n Tryd.prog 216 #[.pointer (some ⟨m + 1 + 1, 0, none⟩), .pointer (some ⟨m, 0, none⟩), .pointer (some ⟨m + 1, 0, none⟩)] (fun x : Int × Int => #[.agg #[.int .i64 x.1, .int .i64 x.2]]) (KB (fun k => k = b ∨ k = m ∨ k = m + 1))
      (fun ys => ys = upto (fun j => R ((first + j) % len)) cnt) (fun pre => ∃ k, k ≤ cnt ∧ pre = upto (fun j => R ((first + j) % len)) k) cnt w := fun l J Jx W' hW hJ hJx hY h0 =>
  run1_in n hn l (m + 1 + 1) m (m + 1) b off len cap first cnt R (fun k => k = b ∨ k = m ∨ k = m + 1) (.inr (.inl rfl)) (.inr (.inr rfl)) (.inl rfl) hlen hlen' hfirst hcnt J Jx W' hJ hY
    ((hW.cell (p := ⟨m + 1 + 1, 0, none⟩) hm).trans hc2) ((hW.cell (p := ⟨m, 0, none⟩) (show m < w.heap.size by omega)).trans hc0) ((hW.cell (p := ⟨m + 1, 0, none⟩) (show m + 1 < w.heap.size by omega)).trans hc1)
    (fun i hi => ⟨(hW.cell (p := ⟨b, off + i * 2, none⟩) (show b < w.heap.size by omega)).trans (hR i hi).1, (hW.cell (p := ⟨b, off + i * 2 + 1, none⟩) (show b < w.heap.size by omega)).trans (hR i hi).2⟩) h0

theorem keepsFrom_of_below {B : Nat} {W W' : World} (h : Below W.heap.size W W') : KeepsFrom B W W' :=
  ⟨h.size, fun k o _ hk _ => (h.block k (Array.getElem?_eq_some_iff.1 hk).1).trans hk⟩

theorem ownFrom_size {β : Type} (B m : Nat) : OwnFrom B (fun (_ : β) W => m ≤ W.heap.size) := fun _ _ _ _ hs hg _ => Nat.le_trans hs hg.size

def AllOk (len : Nat) (R : Nat → Int × Int) (bb : Bool) : Prop := bb = true ↔ ∀ i, i < len → OkR (R i).1 (R i).2
def Ans (len : Nat) (R : Nat → Int × Int) (w : World) (e : Ending) (w' : World) : Prop := ∃ bb : Bool, e = .returned (.bool bb) ∧ AllOk len R bb ∧ Below w.heap.size w w'

set_option maxRecDepth 100000 in
set_option maxHeartbeats 4000000 in
theorem validRules_in (b off len cap : Nat) (R : Nat → Int × Int) (w : World) (hlen : 1 ≤ len) (hlen' : len ≤ 8) (hb : b < w.heap.size) (hR : RulesAt w b off len R) :
    CallsIn Fence.wide 5 Tryd.prog 173 #[.slice (some ⟨b, off, none⟩) len cap] w (Ans len R w) := by
  have d1 : decide ((len : Int) < 1) = false := by simp; omega
  have d2 : decide ((8 : Int) < (len : Int)) = false := by simp; omega
  refine callsIn_of_wp_marks Tryd.func173 rfl trivial ?_ rfl
  simp only [Tryd.ntmps173, List.size_toArray, List.length_cons, List.length_nil, Nat.reduceAdd, Nat.reduceSub, Array.replicate_succ, Array.replicate_zero, List.push_toArray, List.append_toArray, List.nil_append, List.cons_append]
  gi_wp2_with (refine ⟨trivial, ?_⟩; gi_at_call 201; refine (run_in _ _ _ _ _ _ _).mono ?_; rintro e w' ⟨rfl, rfl⟩)
  have hB0 : Below w.heap.size w ((((w.alloc (.cells #[.bool false] 4)).alloc (.cells #[.slice (some ⟨b, off, none⟩) len cap] 50)).alloc (.cells #[.int .i64 0] 3)).alloc (.cells #[.int .i64 len] 3)) := ((((Below.refl _ w).alloc (Nat.le_refl _) _).alloc (by simp) _).alloc (by simp; omega) _).alloc (by simp; omega) _
  have bR := ((((Boxed.new w 4 (.bool false)).alloc (.cells #[.slice (some ⟨b, off, none⟩) len cap] 50)).alloc (.cells #[.int .i64 0] 3)).alloc (.cells #[.int .i64 len] 3))
  have bL := ((Boxed.new (w.alloc (.cells #[.bool false] 4)) 50 (.slice (some ⟨b, off, none⟩) len cap)).alloc (.cells #[.int .i64 0] 3)).alloc (.cells #[.int .i64 len] 3)
  have bF := (Boxed.new ((w.alloc (.cells #[.bool false] 4)).alloc (.cells #[.slice (some ⟨b, off, none⟩) len cap] 50)) 3 (.int .i64 0)).alloc (.cells #[.int .i64 len] 3)
  have bN := Boxed.new (((w.alloc (.cells #[.bool false] 4)).alloc (.cells #[.slice (some ⟨b, off, none⟩) len cap] 50)).alloc (.cells #[.int .i64 0] 3)) 3 (.int .i64 len)
  have hsz : ((((w.alloc (.cells #[.bool false] 4)).alloc (.cells #[.slice (some ⟨b, off, none⟩) len cap] 50)).alloc (.cells #[.int .i64 0] 3)).alloc (.cells #[.int .i64 len] 3)).heap.size = w.heap.size + 4 := by simp
  simp only [World.size_alloc] at bL bF bN
  obtain ⟨W0, hW0⟩ : ∃ W0, (((w.alloc (.cells #[.bool false] 4)).alloc (.cells #[.slice (some ⟨b, off, none⟩) len cap] 50)).alloc (.cells #[.int .i64 0] 3)).alloc (.cells #[.int .i64 len] 3) = W0 := ⟨_, rfl⟩
  rw [hW0] at hB0 bR bL bF bN hsz ⊢
  clear hW0
  refine wpIn_rangeFunc_ownH (α := Int × Int) rfl (by omega) (gf := 216) (lb := #[.pointer (some ⟨w.heap.size + 1 + 1 + 1, 0, none⟩), .pointer (some ⟨w.heap.size + 1, 0, none⟩), .pointer (some ⟨w.heap.size + 1 + 1, 0, none⟩)]) rfl trivial (enters_of Tryd.func216 (by kernel_rfl) rfl)
    (run_stops 4 (by omega) b off len cap 0 len (w.heap.size + 1) R W0 W0 hlen (by omega) (by omega) (by omega) (by omega) bL.cell bF.cell bN.cell (by omega) (fun i hi => ⟨(hB0.cell (p := ⟨b, off + i * 2, none⟩) hb).trans (hR i hi).1, (hB0.cell (p := ⟨b, off + i * 2 + 1, none⟩) hb).trans (hR i hi).2⟩))
    (fun h g => KB.trans h g) (kb_put (fun k hk => by rcases hk with rfl | rfl | rfl <;> omega)) (Below.refl _ _) (fun _ => rfl)
    (fun pre W => ((∀ p ∈ pre, OkR p.1 p.2) ∧ Boxed W w.heap.size 4 (.bool false)) ∧ Below w.heap.size w W ∧ w.heap.size + 4 ≤ W.heap.size)
    (fun c pre W => ((c = .ret ∧ ∃ p ∈ pre, ¬ OkR p.1 p.2) ∧ Boxed W w.heap.size 4 (.bool false)) ∧ Below w.heap.size w W ∧ w.heap.size + 4 ≤ W.heap.size)
    (OwnFrom.and (OwnFrom.and (ownFrom_pure _ _) (Own.from (boxed_own _ _ _) _)) (OwnFrom.and (ownFrom_below (Nat.le_refl _) (by omega)) (ownFrom_size _ _)))
    (fun c => OwnFrom.and (OwnFrom.and (ownFrom_pure _ _) (Own.from (boxed_own _ _ _) _)) (OwnFrom.and (ownFrom_below (Nat.le_refl _) (by omega)) (ownFrom_size _ _)))
    ⟨⟨by simp, bR⟩, hB0, by omega⟩
    (fun x a' W => ∃ Bx, w.heap.size + 3 < Bx ∧ Two W Bx 154 (.int .i64 x.1) (.int .i64 x.2) ∧ a' = { tmps := #[.slice (some ⟨b, off, none⟩) len cap, undef, .pointer (some ⟨w.heap.size, 0, none⟩), .pointer (some ⟨Bx, 0, none⟩), .slice (some ⟨b, off, none⟩) len cap, .int .i64 len, .bool false, .bool false, .slice (some ⟨b, off, none⟩) len cap, .int .i64 len, .bool false, .bool false, .slice (some ⟨b, off, none⟩) len cap, .slice (some ⟨b, off, none⟩) len cap, .int .i64 len,
      .func (.func 216) #[] #[.pointer (some ⟨w.heap.size + 1 + 1 + 1, 0, none⟩), .pointer (some ⟨w.heap.size + 1, 0, none⟩), .pointer (some ⟨w.heap.size + 1 + 1, 0, none⟩)], .agg #[.int .i64 x.1, .int .i64 x.2], undef, undef, undef], defers := [] })
    (fun x a' _ X Y row hs hg hr => by obtain ⟨Bx, h1, h2, h3⟩ := hs; exact ⟨Bx, h1, two_own Bx 154 (fun (_ : Unit) => .int .i64 x.1) (fun _ => .int .i64 x.2) () X Y row h2 hg (fun r e => (hr r e).2), h3⟩)
    ?assign ?body ?done ?stop
  case assign =>
    rintro l pre x W K ⟨⟨hp, bR1⟩, hB1, hs1⟩ hK
    have hs2 := hB1.size
    gi_wp2
    exact hK _ _ ((KeepsOthers.alloc _ _).from _) ((KB.refl _ W).alloc (fun k hk => by rcases hk with rfl | rfl | rfl <;> omega) _) ⟨⟨hp, bR1.alloc _⟩, hB1.alloc hs2 _, by simp; omega⟩ ⟨W.heap.size, by omega, Two.new W _ _ _, rfl⟩
  case body =>
    rintro l pre x a' W _ _ ⟨⟨hp, bR1⟩, hB1, hs1⟩ ⟨Bx, hBx, tX, rfl⟩ _
    have c0 := tX.c0
    have c1 := tX.c1
    have cR := bR1.cell
    have fR := bR1.frozen
    have hlB := bR1.lt
    have hs2 := hB1.size
    by_cases hx : OkR x.1 x.2
    · have HX := Lib.hid hx
      clear hx
      gi_wp2_with (refine ⟨trivial, ?_⟩; gi_at_call 182; refine (CallsIn.inRound l (callsIn_wide.2 (validRule_ok _ _ _ HX.out))).mono ?_; rintro e w' ⟨rfl, hb⟩)
      exact ⟨keepsFrom_of_below hb, KB.of_below hb (fun k hk => by rcases hk with rfl | rfl | rfl <;> omega), ⟨⟨fun p hp' => (List.mem_append.1 hp').elim (hp p) (fun e => by simp at e; subst e; exact HX.out), (hb.block _ hlB).trans bR1⟩, hB1.trans (hb.mono hs2), Nat.le_trans hs1 hb.size⟩⟩
    · have HX := Lib.hid hx
      clear hx
      gi_wp2_with (refine ⟨trivial, ?_⟩; gi_at_call 182; refine (CallsIn.inRound l (callsIn_wide.2 (validRule_bad _ _ _ HX.out))).mono ?_; rintro e w' ⟨rfl, hb⟩; have cR' := (hb.cell (p := ⟨w.heap.size, 0, none⟩) hlB).trans cR; have fR' := (hb.frozen (p := ⟨w.heap.size, 0, none⟩) hlB).trans fR)
      exact ⟨(keepsFrom_of_below hb).trans ((KeepsOthers.setCell _ _ _).from _), ⟨⟨rfl, x, List.mem_append.2 (.inr (by simp)), HX.out⟩, Boxed.set _ ((hb.block _ hlB).trans bR1)⟩, (hB1.trans (hb.mono hs2)).setCell (p := ⟨w.heap.size, 0, none⟩) (Nat.le_refl _) _, Nat.le_trans hs1 (Nat.le_trans hb.size (by simp [World.setCell]))⟩
  case done =>
    rintro D ys W hD rfl ⟨⟨hp, bR1⟩, hB1, hs1⟩ hK
    have cR := bR1.cell
    have fR := bR1.frozen
    gi_wp2
    have hK' := (KeepsOthers.setCell W ⟨w.heap.size, 0, none⟩ (.bool true)).same D _ hK rfl
    refine ⟨by simp, .inl ⟨_, _, rfl, run_takeDeferred hK', ?_⟩⟩
    have hc5 := cell_kept (World.cell?_setCell_same' W ⟨w.heap.size, 0, none⟩ (.bool true) (by rw [cR]; rfl)) (grownBy_putObj' _ D (.deferred none)) (fun r e => by cases e; exact ⟨_, hK', rfl⟩)
    refine ⟨.bool true, by simp [results, Tryd.results173, go_sem, hc5], true, rfl, ⟨fun _ i hi => hp (R i) ?_, fun _ => rfl⟩, (hB1.setCell (p := ⟨w.heap.size, 0, none⟩) (Nat.le_refl _) _).trans (belowK_b (w := w) (Nat.le_refl _) _ D _ _ (by omega) hK' rfl rfl)⟩
    simp only [upto, List.mem_map, List.mem_range]
    exact ⟨i, hi, by rw [Nat.zero_add, Nat.mod_eq_of_lt hi]⟩
  case stop =>
    rintro D c pre W hD ⟨k, hk, rfl⟩ ⟨⟨⟨rfl, p, hp, hbad⟩, bR1⟩, hB1, hs1⟩ hK
    have cR := bR1.cell
    gi_wp2
    refine ⟨by simp, .inl ⟨_, _, rfl, run_takeDeferred hK, ?_⟩⟩
    have hc5 := cell_kept cR (grownBy_putObj' _ D (.deferred none)) (fun r e => by cases e; exact ⟨_, hK, rfl⟩)
    refine ⟨.bool false, by simp [results, Tryd.results173, go_sem, hc5], false, rfl, ⟨fun h => by simp at h, fun h => ?_⟩, hB1.trans (belowK_b (w := w) (Nat.le_refl _) _ D _ _ (by omega) hK rfl rfl)⟩
    simp only [upto, List.mem_map, List.mem_range] at hp
    obtain ⟨j, hj, rfl⟩ := hp
    exact absurd (h ((0 + j) % len) (Nat.mod_lt _ hlen)) hbad

/-- Rules of an argument: where there is one it lies in memory. -/
def RulesIn (w : World) (ao : Option Addr) (n : Nat) (R : Nat → Int × Int) : Prop := n = 0 ∨ ∃ b off, ao = some ⟨b, off, none⟩ ∧ b < w.heap.size ∧ RulesAt w b off n R
theorem RulesIn.below {w w' : World} {ao : Option Addr} {n : Nat} {R : Nat → Int × Int} (h : RulesIn w ao n R) (hb : Below w.heap.size w w') : RulesIn w' ao n R := by
  rcases h with h | ⟨b, off, rfl, hlt, hR⟩
  · exact .inl h
  · exact .inr ⟨b, off, rfl, Nat.lt_of_lt_of_le hlt hb.size, fun i hi => ⟨(hb.cell (p := ⟨b, off + i * 2, none⟩) hlt).trans (hR i hi).1, (hb.cell (p := ⟨b, off + i * 2 + 1, none⟩) hlt).trans (hR i hi).2⟩⟩

set_option maxHeartbeats 1000000 in
theorem validRules_few (ao : Option Addr) (len cap : Nat) (w : World) (h : len < 1 ∨ 8 < len) (hm : len ≤ 1000000000000) :
    Calls Tryd.prog 173 #[.slice ao len cap] w fun e w' => e = .returned (.bool false) ∧ Below w.heap.size w w' := by
  rcases h with h | h
  · obtain rfl : len = 0 := by omega
    go_enter Tryd.func173, Tryd.ntmps173
    go_wp2
    refine bodyPost_ret (v := .bool false) (by simp [results, Tryd.results173, go_sem, ↓IntWalk.iteOmega, *]) rfl ⟨rfl, ?_⟩
    (repeat' (first | (with_reducible exact Below.refl _ _) | (with_reducible refine Below.setCell ?_ (by first | omega | (simp; done) | (simp; omega)) _) | (with_reducible refine Below.alloc ?_ (by first | omega | (simp; done) | (simp; omega)) _) | (with_reducible refine Below.drew ?_) | (with_reducible refine below_drewN ?_ _) | (with_reducible refine Below.trans ?_ (Below.mono (by assumption) (by first | omega | (simp; done) | (simp; omega))))))
  · have h1 : ¬ ((len : Int) < 1) := by omega
    have h2 : (8 : Int) < (len : Int) := by omega
    clear h
    go_enter Tryd.func173, Tryd.ntmps173
    go_wp2
    refine bodyPost_ret (v := .bool false) (by simp [results, Tryd.results173, go_sem, ↓IntWalk.iteOmega, *]) rfl ⟨rfl, ?_⟩
    (repeat' (first | (with_reducible exact Below.refl _ _) | (with_reducible refine Below.setCell ?_ (by first | omega | (simp; done) | (simp; omega)) _) | (with_reducible refine Below.alloc ?_ (by first | omega | (simp; done) | (simp; omega)) _) | (with_reducible refine Below.drew ?_) | (with_reducible refine below_drewN ?_ _) | (with_reducible refine Below.trans ?_ (Below.mono (by assumption) (by first | omega | (simp; done) | (simp; omega))))))

theorem validRules_ok (ao : Option Addr) (len cap : Nat) (R : Nat → Int × Int) (w : World) (hm : len ≤ 1000000000000) (h : RulesIn w ao len R) (hk : OkRs len R) :
    Calls Tryd.prog 173 #[.slice ao len cap] w fun e w' => e = .returned (.bool true) ∧ Below w.heap.size w w' := by
  obtain ⟨h1, h2, h3⟩ := hk
  rcases h with h | ⟨b, off, rfl, hlt, hR⟩
  · omega
  · refine (callsIn_wide.1 (validRules_in b off len cap R w h1 h2 hlt hR)).mono fun e w' ⟨bb, he, ha, hb⟩ => ⟨?_, hb⟩
    rw [he, ha.2 h3]
theorem validRules_bad (ao : Option Addr) (len cap : Nat) (R : Nat → Int × Int) (w : World) (hm : len ≤ 1000000000000) (h : RulesIn w ao len R) (hk : ¬ OkRs len R) :
    Calls Tryd.prog 173 #[.slice ao len cap] w fun e w' => e = .returned (.bool false) ∧ Below w.heap.size w w' := by
  by_cases hl : len < 1 ∨ 8 < len
  · exact validRules_few ao len cap w hl hm
  · rcases h with h | ⟨b, off, rfl, hlt, hR⟩
    · omega
    · refine (callsIn_wide.1 (validRules_in b off len cap R w (by omega) (by omega) hlt hR)).mono fun e w' ⟨bb, he, ha, hb⟩ => ⟨?_, hb⟩
      cases bb with
      | true => exact absurd ⟨by omega, by omega, ha.1 rfl⟩ hk
      | false => exact he
end Go.Proofs.YtmdeooflgkjbbaaDoor

/- The rule of a step: by the program. -/

namespace Go.Proofs.YtmdeooflgkjbbaaDoor
set_option linter.unusedSimpArgs false
set_option linter.unusedVariables false
open Go.RowKit Go.Shelf
attribute [local go_sem] Oper.semAt_some

/-- The last one that came. -/
def lastOf (pre : List (Int × Int)) : Int × Int := pre.getLastD (0, 0)
theorem lastOf_snoc (pre : List (Int × Int)) (x : Int × Int) : lastOf (pre ++ [x]) = x := by simp [lastOf]

set_option maxRecDepth 100000 in
set_option maxHeartbeats 4000000 in
theorem at_in (b off len cap step : Nat) (R : Nat → Int × Int) (w : World) (hk : OkRs len R) (hb : b < w.heap.size) (hR : RulesAt w b off len R) (hs : step ≤ 1000000) :
    CallsIn Fence.wide 5 Tryd.prog 202 #[.slice (some ⟨b, off, none⟩) len cap, .int .i64 step] w fun e w' => e = .returned (.tuple #[.agg #[.int .i64 ((R (step % len)).1), .int .i64 ((R (step % len)).2)], .int .i64 0]) ∧ Below w.heap.size w w' := by
  have HK := Lib.hid hk
  obtain ⟨hlen, hlen', _⟩ := hk
  have HR := Lib.hid (show RulesIn w (some ⟨b, off, none⟩) len R from .inr ⟨b, off, rfl, hb, hR⟩)
  have s0 : decide ((step : Int) < 0) = false := decide_eq_false (by omega)
  have s1 : decide ((1000000 : Int) < (step : Int)) = false := decide_eq_false (by omega)
  refine callsIn_of_wp_marks Tryd.func202 rfl trivial ?_ rfl
  simp only [Tryd.ntmps202, List.size_toArray, List.length_cons, List.length_nil, Nat.reduceAdd, Nat.reduceSub, Array.replicate_succ, Array.replicate_zero, List.push_toArray, List.append_toArray, List.nil_append, List.cons_append]
  gi_wp2_with (first | (refine ⟨trivial, ?_⟩; gi_at_call 173; refine (callsIn_wide.2 (validRules_ok _ _ _ R _ (by omega) ((HR.out).below ((Below.refl _ w).alloc (Nat.le_refl _) _)) HK.out)).mono ?_; rintro e w1 ⟨rfl, hb1⟩) | (refine ⟨trivial, ?_⟩; gi_at_call 201; refine (run_in _ _ _ _ _ _ _).mono ?_; rintro e w' ⟨rfl, rfl⟩))
  have hbw : Below w.heap.size w w1 := ((Below.refl _ w).alloc (Nat.le_refl _) _).trans (hb1.mono (by simp))
  have hsw : w.heap.size + 1 ≤ w1.heap.size := by have := hb1.size; simp at this; exact this
  have tRes : Two w1 w.heap.size 154 (.int .i64 0) (.int .i64 0) := (Two.new w 154 (.int .i64 0) (.int .i64 0)).below hb1 (by simp)
  have hB0 : Below w.heap.size w ((((w1.alloc (.cells #[.int .i64 0, .int .i64 0] 154)).alloc (.cells #[.slice (some ⟨b, off, none⟩) len cap] 50)).alloc (.cells #[.int .i64 step] 3)).alloc (.cells #[.int .i64 1] 3)) := (((hbw.alloc (by omega) _).alloc (by simp; omega) _).alloc (by simp; omega) _).alloc (by simp; omega) _
  have bR := (((tRes.alloc (.cells #[.int .i64 0, .int .i64 0] 154)).alloc (.cells #[.slice (some ⟨b, off, none⟩) len cap] 50)).alloc (.cells #[.int .i64 step] 3)).alloc (.cells #[.int .i64 1] 3)
  have bA := (((Two.new w1 154 (.int .i64 0) (.int .i64 0)).alloc (.cells #[.slice (some ⟨b, off, none⟩) len cap] 50)).alloc (.cells #[.int .i64 step] 3)).alloc (.cells #[.int .i64 1] 3)
  have bL := ((Boxed.new (w1.alloc (.cells #[.int .i64 0, .int .i64 0] 154)) 50 (.slice (some ⟨b, off, none⟩) len cap)).alloc (.cells #[.int .i64 step] 3)).alloc (.cells #[.int .i64 1] 3)
  have bF := (Boxed.new ((w1.alloc (.cells #[.int .i64 0, .int .i64 0] 154)).alloc (.cells #[.slice (some ⟨b, off, none⟩) len cap] 50)) 3 (.int .i64 step)).alloc (.cells #[.int .i64 1] 3)
  have bN := Boxed.new (((w1.alloc (.cells #[.int .i64 0, .int .i64 0] 154)).alloc (.cells #[.slice (some ⟨b, off, none⟩) len cap] 50)).alloc (.cells #[.int .i64 step] 3)) 3 (.int .i64 1)
  have hsz : ((((w1.alloc (.cells #[.int .i64 0, .int .i64 0] 154)).alloc (.cells #[.slice (some ⟨b, off, none⟩) len cap] 50)).alloc (.cells #[.int .i64 step] 3)).alloc (.cells #[.int .i64 1] 3)).heap.size = w1.heap.size + 4 := by simp
  simp only [World.size_alloc] at bL bF bN
  obtain ⟨W0, hW0⟩ : ∃ W0, (((w1.alloc (.cells #[.int .i64 0, .int .i64 0] 154)).alloc (.cells #[.slice (some ⟨b, off, none⟩) len cap] 50)).alloc (.cells #[.int .i64 step] 3)).alloc (.cells #[.int .i64 1] 3) = W0 := ⟨_, rfl⟩
  rw [hW0] at hB0 bR bA bL bF bN hsz ⊢
  clear hW0 tRes hb1
  refine wpIn_rangeFunc_ownH (α := Int × Int) rfl (by omega) (gf := 216) (lb := #[.pointer (some ⟨w1.heap.size + 1 + 1 + 1, 0, none⟩), .pointer (some ⟨w1.heap.size + 1, 0, none⟩), .pointer (some ⟨w1.heap.size + 1 + 1, 0, none⟩)]) rfl trivial (enters_of Tryd.func216 (by kernel_rfl) rfl)
    (run_stops 4 (by omega) b off len cap step 1 (w1.heap.size + 1) R W0 W0 hlen (by omega) (by omega) (by omega) (by omega) bL.cell bF.cell bN.cell (by omega) (fun i hi => ⟨(hB0.cell (p := ⟨b, off + i * 2, none⟩) hb).trans (hR i hi).1, (hB0.cell (p := ⟨b, off + i * 2 + 1, none⟩) hb).trans (hR i hi).2⟩))
    (fun h g => KB.trans h g) (kb_put (fun k hk => by rcases hk with rfl | rfl | rfl <;> omega)) (Below.refl _ _) (fun _ => rfl)
    (fun pre W => (Two W w.heap.size 154 (.int .i64 0) (.int .i64 0) ∧ Two W w1.heap.size 154 (.int .i64 ((lastOf pre).1)) (.int .i64 ((lastOf pre).2))) ∧ Below w.heap.size w W ∧ w1.heap.size + 4 ≤ W.heap.size)
    (fun _ _ _ => False)
    (OwnFrom.and (OwnFrom.and (Own.from (two_own _ _ (fun _ => .int .i64 0) (fun _ => .int .i64 0)) _) (Own.from (two_own _ _ (fun pre => .int .i64 ((lastOf pre).1)) (fun pre => .int .i64 ((lastOf pre).2))) _)) (OwnFrom.and (ownFrom_below (Nat.le_refl _) (by omega)) (ownFrom_size _ _)))
    (fun _ _ _ _ _ hs _ _ => hs)
    ⟨⟨bR, bA⟩, hB0, by omega⟩
    (fun x a' W => ∃ Bx, w1.heap.size + 3 < Bx ∧ Two W Bx 154 (.int .i64 x.1) (.int .i64 x.2) ∧ a' = { tmps := #[.slice (some ⟨b, off, none⟩) len cap, .int .i64 step, undef, undef, .pointer (some ⟨w.heap.size, 0, none⟩), .int .i64 0, .pointer (some ⟨w1.heap.size, 0, none⟩), .pointer (some ⟨Bx, 0, none⟩), .slice (some ⟨b, off, none⟩) len cap, .bool true, .bool false, undef, .int .i64 step, .bool false, .bool false, .int .i64 step, .bool false, .bool false, undef, .slice (some ⟨b, off, none⟩) len cap, .int .i64 step,
      .func (.func 216) #[] #[.pointer (some ⟨w1.heap.size + 1 + 1 + 1, 0, none⟩), .pointer (some ⟨w1.heap.size + 1, 0, none⟩), .pointer (some ⟨w1.heap.size + 1 + 1, 0, none⟩)], .agg #[.int .i64 x.1, .int .i64 x.2], undef, undef], defers := [] })
    (fun x a' _ X Y row hs hg hr => by obtain ⟨Bx, h1, h2, h3⟩ := hs; exact ⟨Bx, h1, two_own Bx 154 (fun (_ : Unit) => .int .i64 x.1) (fun _ => .int .i64 x.2) () X Y row h2 hg (fun r e => (hr r e).2), h3⟩)
    ?assign ?body ?done ?stop
  case assign =>
    rintro l pre x W K ⟨⟨bR1, bA1⟩, hB1, hs1⟩ hK
    have hs2 := hB1.size
    gi_wp2
    exact hK _ _ ((KeepsOthers.alloc _ _).from _) ((KB.refl _ W).alloc (fun k hk => by rcases hk with rfl | rfl | rfl <;> omega) _) ⟨⟨bR1.alloc _, bA1.alloc _⟩, hB1.alloc hs2 _, by simp; omega⟩ ⟨W.heap.size, by omega, Two.new W _ _ _, rfl⟩
  case body =>
    rintro l pre x a' W _ _ ⟨⟨bR1, bA1⟩, hB1, hs1⟩ ⟨Bx, hBx, tX, rfl⟩ _
    have c0 := tX.c0
    have c1 := tX.c1
    have cA0 := bA1.c0
    have cA1 := bA1.c1
    have fA0 := bA1.f0 0
    have fA1 := bA1.f0 1
    have hs2 := hB1.size
    gi_wp2
    exact ⟨((KeepsOthers.setCell _ _ _).from _).trans ((KeepsOthers.setCell _ _ _).from _), (KB.set (by omega)).trans (KB.set (by omega)), ⟨⟨(bR1.other (by omega) 0 _).other (by omega) 1 _, by rw [lastOf_snoc]; exact bA1.set2 _ _⟩, (hB1.setCell (p := ⟨w1.heap.size, 0, none⟩) (show w.heap.size ≤ w1.heap.size by omega) _).setCell (p := ⟨w1.heap.size, 1, none⟩) (show w.heap.size ≤ w1.heap.size by omega) _, by simp [World.setCell]; exact hs1⟩⟩
  case done =>
    rintro D ys W hD rfl ⟨⟨bR1, bA1⟩, hB1, hs1⟩ hK
    have e1 : lastOf (upto (fun j => R ((step + j) % len)) 1) = R (step % len) := by simp [upto, lastOf]
    rw [e1] at bA1
    clear e1
    have cA0 := bA1.c0
    have cA1 := bA1.c1
    have cR0 := bR1.c0
    have cR1 := bR1.c1
    have fR0 := bR1.f0 0
    have fR1 := bR1.f0 1
    gi_wp2
    have hK1 := (KeepsOthers.setCell W ⟨w.heap.size, 0, none⟩ (.int .i64 ((R (step % len)).1))).same D _ hK rfl
    have hK' := (KeepsOthers.setCell (W.setCell ⟨w.heap.size, 0, none⟩ (.int .i64 ((R (step % len)).1))) ⟨w.heap.size, 1, none⟩ (.int .i64 ((R (step % len)).2))).same D _ hK1 rfl
    refine ⟨by simp, .inl ⟨_, _, rfl, run_takeDeferred hK', ?_⟩⟩
    have t2 := (bR1.set2 (.int .i64 ((R (step % len)).1)) (.int .i64 ((R (step % len)).2))).kept (grownBy_putObj' _ D (.deferred none)) (fun e => by cases e; have := (show _ = some (Obj.cells _ _ _) from bR1.set2 (.int .i64 ((R (step % len)).1)) (.int .i64 ((R (step % len)).2))).symm.trans hK'; cases this)
    have hc0 := t2.c0
    have hc1 := t2.c1
    refine ⟨.tuple #[.agg #[.int .i64 ((R (step % len)).1), .int .i64 ((R (step % len)).2)], .int .i64 0], by simp [results, Tryd.results202, go_sem, hc0, hc1], rfl, ((hB1.setCell (p := ⟨w.heap.size, 0, none⟩) (Nat.le_refl _) _).setCell (p := ⟨w.heap.size, 1, none⟩) (Nat.le_refl _) _).trans (belowK_b (w := w) (Nat.le_refl _) _ D _ _ (by omega) hK' rfl rfl)⟩
  case stop =>
    rintro D c pre W _ _ h _
    exact h.elim

theorem at_ok (ao : Option Addr) (len cap : Nat) (step : Int) (R : Nat → Int × Int) (w : World) (h : RulesIn w ao len R) (hk : OkRs len R) (h0 : 0 ≤ step) (h1 : step ≤ 1000000) :
    Calls Tryd.prog 202 #[.slice ao len cap, .int .i64 step] w fun e w' => e = .returned (.tuple #[.agg #[.int .i64 ((R (step.toNat % len)).1), .int .i64 ((R (step.toNat % len)).2)], .int .i64 0]) ∧ Below w.heap.size w w' := by
  obtain ⟨s, rfl⟩ := Int.eq_ofNat_of_zero_le h0
  rcases h with h | ⟨b, off, rfl, hlt, hR⟩
  · have := hk.1
    omega
  · exact callsIn_wide.1 (at_in b off len cap s R w hk hlt hR (by omega))

set_option maxHeartbeats 1000000 in
theorem at_bad (ao : Option Addr) (len cap : Nat) (step : Int) (R : Nat → Int × Int) (w : World) (hm : len ≤ 1000000000000) (h : RulesIn w ao len R) (hk : ¬ OkRs len R) :
    Calls Tryd.prog 202 #[.slice ao len cap, .int .i64 step] w fun e w' => e = .returned (.tuple #[.agg #[.int .i64 0, .int .i64 0], .int .i64 1]) ∧ Below w.heap.size w w' := by
  have H := Lib.hid h; clear h
  have K := Lib.hid hk; clear hk
  go_enter Tryd.func202, Tryd.ntmps202
  go_wp2_with (go_at_call 173; (with_reducible refine (validRules_bad ao len cap R _ hm (H.out.below ((Below.refl _ w).alloc (Nat.le_refl _) _)) K.out).mono ?_); rintro e w1 ⟨rfl, hb⟩; obtain ⟨hc, hf, hz⟩ := bcall hb; (try simp at hc hf hz))
  refine bodyPost_ret (v := .tuple #[.agg #[.int .i64 0, .int .i64 0], .int .i64 1]) (by simp [results, Tryd.results202, go_sem, ↓IntWalk.iteOmega, *]) rfl ⟨rfl, ?_⟩
  (repeat' (first | (with_reducible exact Below.refl _ _) | (with_reducible refine Below.setCell ?_ (by first | omega | (simp; done) | (simp; omega)) _) | (with_reducible refine Below.alloc ?_ (by first | omega | (simp; done) | (simp; omega)) _) | (with_reducible refine Below.drew ?_) | (with_reducible refine below_drewN ?_ _) | (with_reducible refine Below.trans ?_ (Below.mono (by assumption) (by first | omega | (simp; done) | (simp; omega))))))

set_option maxHeartbeats 1000000 in
theorem at_range (ao : Option Addr) (len cap : Nat) (step : Int) (R : Nat → Int × Int) (w : World) (hm : len ≤ 1000000000000) (h : RulesIn w ao len R) (hk : OkRs len R) (hs : step < 0 ∨ 1000000 < step) :
    Calls Tryd.prog 202 #[.slice ao len cap, .int .i64 step] w fun e w' => e = .returned (.tuple #[.agg #[.int .i64 0, .int .i64 0], .int .i64 7]) ∧ Below w.heap.size w w' := by
  have H := Lib.hid h; clear h
  have K := Lib.hid hk; clear hk
  rcases hs with hs | hs
  · go_enter Tryd.func202, Tryd.ntmps202
    go_wp2_with (go_at_call 173; (with_reducible refine (validRules_ok ao len cap R _ hm (H.out.below ((Below.refl _ w).alloc (Nat.le_refl _) _)) K.out).mono ?_); rintro e w1 ⟨rfl, hb⟩; obtain ⟨hc, hf, hz⟩ := bcall hb; (try simp at hc hf hz))
    refine bodyPost_ret (v := .tuple #[.agg #[.int .i64 0, .int .i64 0], .int .i64 7]) (by simp [results, Tryd.results202, go_sem, ↓IntWalk.iteOmega, *]) rfl ⟨rfl, ?_⟩
    (repeat' (first | (with_reducible exact Below.refl _ _) | (with_reducible refine Below.setCell ?_ (by first | omega | (simp; done) | (simp; omega)) _) | (with_reducible refine Below.alloc ?_ (by first | omega | (simp; done) | (simp; omega)) _) | (with_reducible refine Below.drew ?_) | (with_reducible refine below_drewN ?_ _) | (with_reducible refine Below.trans ?_ (Below.mono (by assumption) (by first | omega | (simp; done) | (simp; omega))))))
  · have hs' : ¬ step < 0 := by omega
    go_enter Tryd.func202, Tryd.ntmps202
    go_wp2_with (go_at_call 173; (with_reducible refine (validRules_ok ao len cap R _ hm (H.out.below ((Below.refl _ w).alloc (Nat.le_refl _) _)) K.out).mono ?_); rintro e w1 ⟨rfl, hb⟩; obtain ⟨hc, hf, hz⟩ := bcall hb; (try simp at hc hf hz))
    refine bodyPost_ret (v := .tuple #[.agg #[.int .i64 0, .int .i64 0], .int .i64 7]) (by simp [results, Tryd.results202, go_sem, ↓IntWalk.iteOmega, *]) rfl ⟨rfl, ?_⟩
    (repeat' (first | (with_reducible exact Below.refl _ _) | (with_reducible refine Below.setCell ?_ (by first | omega | (simp; done) | (simp; omega)) _) | (with_reducible refine Below.alloc ?_ (by first | omega | (simp; done) | (simp; omega)) _) | (with_reducible refine Below.drew ?_) | (with_reducible refine below_drewN ?_ _) | (with_reducible refine Below.trans ?_ (Below.mono (by assumption) (by first | omega | (simp; done) | (simp; omega))))))
end Go.Proofs.YtmdeooflgkjbbaaDoor

/- The numbers of steps, one round after another. -/

namespace Go.Proofs.YtmdeooflgkjbbaaDoor
set_option linter.unusedSimpArgs false
set_option linter.unusedVariables false
open Go.RowKit Go.Shelf
attribute [local go_sem] Oper.semAt_some

/-- A step's number. -/
abbrev Stp := { x : Nat // x ≤ 1000000 }

set_option maxRecDepth 100000 in
set_option maxHeartbeats 4000000 in
theorem nums1_in (n : Nat) (hn : 1 ≤ n) (l Bn Bf Bb cnt : Nat) (first by' : Int) (f : Nat → Stp) (S : Nat → Prop) (hSf : S Bf) (hSb : S Bb) (hcnt : cnt ≤ 1000) (hf0 : -2000000 ≤ first) (hf1 : first ≤ 2000000) (hb0 : -1 ≤ by') (hb1 : by' ≤ 1)
    (hf : ∀ j, j < cnt → ((f j).1 : Int) = first + by' * j) (J Jx : List Stp → World → Prop) (W : World)
    (hY : ∀ pre x W1, J pre W1 → pre.length < cnt → YieldAt Fence.wide (n - 1) Tryd.prog l #[.int .i64 x.1] W1 fun e W' =>
      (e = .returned (.bool true) ∧ J (pre ++ [x]) W' ∧ KB S W1 W') ∨ (e = .returned (.bool false) ∧ Jx (pre ++ [x]) W'))
    (hBn : W.cell? ⟨Bn, 0, none⟩ = some (.int .i64 cnt)) (hBf : W.cell? ⟨Bf, 0, none⟩ = some (.int .i64 first)) (hBb : W.cell? ⟨Bb, 0, none⟩ = some (.int .i64 by')) (h0 : J [] W) :
    CallsIn Fence.wide n Tryd.prog 177 #[.func (.yield l) #[] #[], .pointer (some ⟨Bn, 0, none⟩), .pointer (some ⟨Bf, 0, none⟩), .pointer (some ⟨Bb, 0, none⟩)] W fun e W' => (∃ v, e = .returned v) ∧
      ((∃ ys, ys = upto f cnt ∧ J ys W') ∨ (∃ pre, (∃ k, k ≤ cnt ∧ pre = upto f k) ∧ Jx pre W')) := by
  refine callsIn_of_wp Tryd.func177 rfl trivial ?_ rfl
  simp only [Tryd.ntmps177, List.size_toArray, List.length_cons, List.length_nil, Nat.reduceAdd, Nat.reduceSub, Array.replicate_succ, Array.replicate_zero, List.push_toArray, List.append_toArray, List.nil_append, List.cons_append]
  gi_wp2
  gi_loopw [7] (fun i wr => ∃ k : Nat, k ≤ cnt ∧ i = .int .i64 k ∧ J (upto f k) wr ∧ KB S W wr)
    (fun i _ => cnt - (intOf i).toNat)
  case atStart => exact ⟨0, Nat.zero_le _, rfl, h0, KB.refl _ _⟩
  case round =>
    obtain ⟨k, hk, rfl, hJs, hnx⟩ := hrel
    by_cases hlt : k < cnt
    · have hcb : wr.cell? ⟨Bb, 0, none⟩ = some (.int .i64 by') := (hnx.cell hSb).trans hBb
      have hcf : wr.cell? ⟨Bf, 0, none⟩ = some (.int .i64 first) := (hnx.cell hSf).trans hBf
      have e0 := hf k hlt
      have hx := (f k).2
      have m0 : -1000 ≤ by' * (k : Int) ∧ by' * (k : Int) ≤ 1000 := by
        rcases (show by' = -1 ∨ by' = 0 ∨ by' = 1 by omega) with rfl | rfl | rfl <;> omega
      obtain ⟨m1, m2⟩ := m0
      have e2 : first + by' * (k : Int) = ((f k).1 : Int) := e0.symm
      obtain ⟨fn, tmps, assign, body, hy, hRd⟩ := hY _ (f k) wr hJs (by rw [upto_length]; exact hlt)
      clear e0 hf hBn hBf hBb hY h0
      gi_wp2
      refine hRd.mono ?_
      rintro e W3 (⟨rfl, hJ3, hk3⟩ | ⟨rfl, hJx3⟩)
      · clear m1 m2 e2
        gi_wp2
        go_roundw
        case rel => exact ⟨k + 1, by omega, by simp, by rw [upto_succ]; exact hJ3, hnx.trans hk3⟩
        case measure => simp [intOf]; omega
      · clear m1 m2 e2
        gi_wp2
        refine bodyPost_ret (results_none rfl _ _ _) rfl ?_
        exact ⟨⟨_, rfl⟩, .inr ⟨_, ⟨k + 1, by omega, (upto_succ _ _).symm⟩, hJx3⟩⟩
    · obtain rfl : k = cnt := by omega
      gi_wp2
      go_end0
      exact ⟨⟨_, rfl⟩, .inl ⟨_, rfl, hJs⟩⟩

theorem nums_in (n : Nat) (first by' cnt : Int) (w : World) :
    CallsIn Fence.wide n Tryd.prog 145 #[.int .i64 first, .int .i64 by', .int .i64 cnt] w fun e w' => e = .returned (.func (.func 177) #[] #[.pointer (some ⟨w.heap.size + 1 + 1, 0, none⟩), .pointer (some ⟨w.heap.size, 0, none⟩), .pointer (some ⟨w.heap.size + 1, 0, none⟩)]) ∧
      w' = ((w.alloc (.cells #[.int .i64 first] 3)).alloc (.cells #[.int .i64 by'] 3)).alloc (.cells #[.int .i64 cnt] 3) := by
  refine callsIn_of_wp Tryd.func145 rfl trivial ?_ rfl
  simp only [Tryd.ntmps145, List.size_toArray, List.length_cons, List.length_nil, Nat.reduceAdd, Nat.reduceSub, Array.replicate_succ, Array.replicate_zero, List.push_toArray, List.append_toArray, List.nil_append, List.cons_append]
  gi_wp2
  go_ret
  exact ⟨rfl, rfl⟩

theorem nums_stops (n : Nat) (hn : 1 ≤ n) (cnt m : Nat) (first by' : Int) (f : Nat → Stp) (w : World) (hcnt : cnt ≤ 1000) (hf0 : -2000000 ≤ first) (hf1 : first ≤ 2000000) (hb0 : -1 ≤ by') (hb1 : by' ≤ 1) (hf : ∀ j, j < cnt → ((f j).1 : Int) = first + by' * j)
    (hc0 : w.cell? ⟨m, 0, none⟩ = some (.int .i64 first)) (hc1 : w.cell? ⟨m + 1, 0, none⟩ = some (.int .i64 by')) (hc2 : w.cell? ⟨m + 1 + 1, 0, none⟩ = some (.int .i64 cnt)) (hm : m + 1 + 1 < w.heap.size) :
    SeqStopsK Fence.wide n Tryd.prog 177 #[.pointer (some ⟨m + 1 + 1, 0, none⟩), .pointer (some ⟨m, 0, none⟩), .pointer (some ⟨m + 1, 0, none⟩)] (fun x : Stp => #[.int .i64 x.1]) (KB (fun k => k = m ∨ k = m + 1))
      (fun ys => ys = upto f cnt) (fun pre => ∃ k, k ≤ cnt ∧ pre = upto f k) cnt w := fun l J Jx W' hW hJ hJx hY h0 =>
  nums1_in n hn l (m + 1 + 1) m (m + 1) cnt first by' f (fun k => k = m ∨ k = m + 1) (.inl rfl) (.inr rfl) hcnt hf0 hf1 hb0 hb1 hf J Jx W' hY
    ((hW.cell (p := ⟨m + 1 + 1, 0, none⟩) hm).trans hc2) ((hW.cell (p := ⟨m, 0, none⟩) (show m < w.heap.size by omega)).trans hc0) ((hW.cell (p := ⟨m + 1, 0, none⟩) (show m + 1 < w.heap.size by omega)).trans hc1) h0
end Go.Proofs.YtmdeooflgkjbbaaDoor
