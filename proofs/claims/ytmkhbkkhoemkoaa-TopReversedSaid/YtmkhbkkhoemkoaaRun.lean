/- The rules of steps: what a run of rules yields, one round after another. -/
import Derived.RangeFuncNested
import Derived.RangeFuncBound
import Derived.RangeFuncCalls
import Derived.RangeFuncLeaves
import Derived.Shelf.Abstract
import Derived.Shelf.RegionOpen
import Derived.WalkKit
import Derived.OwnWalkIn
import Derived.TacticsInMore
import Derived.LoopNIn
import Derived.LoopIn
import Derived.Test.YtmkhbkkhoemkoaaRule
namespace Go.Proofs.Ytmkhbkkhoemkoaa
set_option linter.unusedSimpArgs false
set_option linter.unusedVariables false
open Go.RowKit Go.Shelf
attribute [local go_sem] Oper.semAt_some

/-- What has come when k rounds are over. -/
def upto {α : Type} (f : Nat → α) (k : Nat) : List α := (List.range k).map f
theorem upto_succ {α : Type} (f : Nat → α) (k : Nat) : upto f (k + 1) = upto f k ++ [f k] := by simp [upto, List.range_succ]
theorem upto_length {α : Type} (f : Nat → α) (k : Nat) : (upto f k).length = k := by simp [upto]

/-- Some blocks are kept as they are. -/
def KB (S : Nat → Prop) (A B : World) : Prop := A.heap.size ≤ B.heap.size ∧ ∀ k, S k → B.heap[k]? = A.heap[k]?
theorem KB.refl (S : Nat → Prop) (A : World) : KB S A A := ⟨Nat.le_refl _, fun _ _ => rfl⟩
theorem KB.trans {S : Nat → Prop} {A B C : World} (h : KB S A B) (g : KB S B C) : KB S A C := ⟨Nat.le_trans h.1 g.1, fun k hk => (g.2 k hk).trans (h.2 k hk)⟩
theorem KB.of_below {S : Nat → Prop} {n : Nat} {A B : World} (h : Below n A B) (hS : ∀ k, S k → k < n) : KB S A B := ⟨h.size, fun k hk => h.block k (hS k hk)⟩
theorem KB.cell {S : Nat → Prop} {A B : World} (h : KB S A B) {b o : Nat} (hb : S b) : B.cell? ⟨b, o, none⟩ = A.cell? ⟨b, o, none⟩ := World.cell?_of_block (a := ⟨b, o, none⟩) (h.2 b hb)
theorem KB.set {S : Nat → Prop} {A : World} {b o : Nat} {v : Value} (hb : ¬ S b) : KB S A (A.setCell ⟨b, o, none⟩ v) := ⟨by simp [World.setCell], fun k hk => Below.heap_setCell _ _ _ _ (fun e => hb (by rw [← show k = b from e]; exact hk))⟩
theorem KB.alloc {S : Nat → Prop} {A B : World} (h : KB S A B) (hS : ∀ k, S k → k < A.heap.size) (o : Obj) : KB S A (B.alloc o) := h.trans ⟨by simp, fun k hk => Below.heap_alloc _ _ _ (Nat.lt_of_lt_of_le (hS k hk) h.1)⟩
theorem kb_drew (S : Nat → Prop) (A : World) : KB S A A.drew := ⟨Nat.le_refl _, fun _ _ => rfl⟩
theorem kb_put {S : Nat → Prop} {w : World} (hS : ∀ k, S k → k < w.heap.size) : ∀ (W : World) (l : Nat) (o o' : Obj), w.heap.size ≤ l → W.heap[l]? = some o → o.isCells = false → o.isWalk = false → KB S W (W.putObj l o') :=
  fun W l o o' hl ho _ _ => ⟨by simp [World.putObj], fun k hk => World.putObj_heap_other (by have := hS k hk; omega)⟩

/-- The rules lie there. -/
def RulesAt (w : World) (b off n : Nat) (R : Nat → Int × Int) : Prop := ∀ i, i < n → w.cell? ⟨b, off + i * 2, none⟩ = some (.int .i64 ((R i).1)) ∧ w.cell? ⟨b, off + i * 2 + 1, none⟩ = some (.int .i64 ((R i).2))

/-- How a round ends: it goes on, or it has said no more. -/
def RoundEnd (A B : World → Prop) (bb : Bool) (W' : World) : Prop := (bb = true ∧ A W') ∨ (bb = false ∧ B W')
def RoundDone (A B : World → Prop) (e : Ending) (W' : World) : Prop := ∃ bb, e = .returned (.bool bb) ∧ RoundEnd A B bb W'
theorem roundDone {A B : World → Prop} {e : Ending} {W' : World} (h : (e = .returned (.bool true) ∧ A W') ∨ (e = .returned (.bool false) ∧ B W')) : RoundDone A B e W' := by
  rcases h with ⟨h, a⟩ | ⟨h, b⟩
  · exact ⟨true, h, .inl ⟨rfl, a⟩⟩
  · exact ⟨false, h, .inr ⟨rfl, b⟩⟩

set_option maxRecDepth 100000 in
set_option maxHeartbeats 4000000 in
/-- The rounds of a run of rules. -/
theorem run1_in (n : Nat) (hn : 1 ≤ n) (l Bn Bl Bf b off len cap first cnt : Nat) (R : Nat → Int × Int) (S : Nat → Prop) (hSl : S Bl) (hSf : S Bf) (hSb : S b) (hlen : 1 ≤ len) (hlen' : len ≤ 1000) (hfirst : first ≤ 4000000) (hcnt : cnt ≤ 4000000)
    (J Jx : List (Int × Int) → World → Prop) (W : World) (hJ : AbidesFrom W.heap.size J)
    (hY : ∀ pre x W1, J pre W1 → pre.length < cnt → YieldAt Fence.wide (n - 1) Try.prog l #[.agg #[.int .i64 x.1, .int .i64 x.2]] W1 fun e W' =>
      (e = .returned (.bool true) ∧ J (pre ++ [x]) W' ∧ KB S W1 W') ∨ (e = .returned (.bool false) ∧ Jx (pre ++ [x]) W'))
    (hBn : W.cell? ⟨Bn, 0, none⟩ = some (.int .i64 cnt)) (hBl : W.cell? ⟨Bl, 0, none⟩ = some (.slice (some ⟨b, off, none⟩) len cap)) (hBf : W.cell? ⟨Bf, 0, none⟩ = some (.int .i64 first)) (hR : RulesAt W b off len R) (h0 : J [] W) :
    CallsIn Fence.wide n Try.prog 47 #[.func (.yield l) #[] #[], .pointer (some ⟨Bn, 0, none⟩), .pointer (some ⟨Bl, 0, none⟩), .pointer (some ⟨Bf, 0, none⟩)] W fun e W' => (∃ v, e = .returned v) ∧
      ((∃ ys, ys = upto (fun j => R ((first + j) % len)) cnt ∧ J ys W') ∨ (∃ pre, (∃ k, k ≤ cnt ∧ pre = upto (fun j => R ((first + j) % len)) k) ∧ Jx pre W')) := by
  have hmx : Try.prog.follows .mixedOrders = true := by kernel_rfl
  refine callsIn_of_wp Try.func47 rfl trivial ?_ rfl
  simp only [Try.ntmps47, List.size_toArray, List.length_cons, List.length_nil, Nat.reduceAdd, Nat.reduceSub, Array.replicate_succ, Array.replicate_zero, List.push_toArray, List.append_toArray, List.nil_append, List.cons_append]
  gi_wp2
  gi_loopw [7] (fun i wr => ∃ k : Nat, k ≤ cnt ∧ i = .int .i64 k ∧ J (upto (fun j => R ((first + j) % len)) k) wr ∧ KB S W wr)
    (fun i _ => cnt - (intOf i).toNat)
  case atStart => exact ⟨0, Nat.zero_le _, rfl, h0, KB.refl _ _⟩
  case round =>
    obtain ⟨k, hk, rfl, hJs, hnx⟩ := hrel
    by_cases hlt : k < cnt
    · obtain ⟨q, hq⟩ : ∃ q, q = (first + k) % len := ⟨_, rfl⟩
      have hql : q < len := by rw [hq]; exact Nat.mod_lt _ hlen
      have hc0 : wr.cell? ⟨b, off + q * 2, none⟩ = some (.int .i64 ((R q).1)) := (hnx.cell hSb).trans (hR q hql).1
      have hc1 : wr.cell? ⟨b, off + q * 2 + 1, none⟩ = some (.int .i64 ((R q).2)) := (hnx.cell hSb).trans (hR q hql).2
      have hcl : wr.cell? ⟨Bl, 0, none⟩ = some (.slice (some ⟨b, off, none⟩) len cap) := (hnx.cell hSl).trans hBl
      have hcf : wr.cell? ⟨Bf, 0, none⟩ = some (.int .i64 first) := (hnx.cell hSf).trans hBf
      have hJd : J (upto (fun j => R ((first + j) % len)) k) wr.drew := hJ _ wr _ none hJs ⟨rfl, rfl, rfl, Nat.le_refl _, fun _ _ _ => rfl⟩ (by simp)
      obtain ⟨fn, tmps, assign, body, hy, hRd⟩ := hY _ (R q) wr.drew hJd (by rw [upto_length]; exact hlt)
      have e1 : IntKind.i64.wrap ((first : Int) + (k : Int)) = (first : Int) + (k : Int) := IntWalk.i64_in _ ⟨by omega, by omega⟩
      have e2 : ((first : Int) + (k : Int)) % (len : Int) = (q : Int) := by rw [hq, Int.natCast_emod, Int.natCast_add]
      have HQ := Lib.hid hq
      have HL := Lib.hid hlt
      have p1 : (0 : Int) ≤ (q : Int) := by omega
      have p2 : (q : Int) < (len : Int) := by omega
      clear hq hBn hBl hBf hR hY h0 hJs hJd
      gi_wp2
      have hRd := hRd.mono (R' := RoundDone (fun W' => J (upto (fun j => R ((first + j) % len)) k ++ [R q]) W' ∧ KB S wr.drew W') (Jx (upto (fun j => R ((first + j) % len)) k ++ [R q]))) (fun _ _ h => roundDone h)
      gi_region_with_o (refine hRd.mono ?_; rintro e W3 ⟨bb, rfl, hh⟩)
      all_goals
        clear hRd hy hmx
        rcases hh with ⟨rfl, hJ3, hk3⟩ | ⟨rfl, hx3⟩
        · gi_wp2
          go_roundw
          case rel => exact ⟨k + 1, by omega, by simp, by rw [upto_succ, ← HQ.out]; exact hJ3, hnx.trans ((kb_drew S wr).trans hk3)⟩
          case measure => simp [intOf]; have := HL.out; omega
        · gi_wp2
          refine bodyPost_ret (results_none rfl _ _ _) rfl ?_
          exact ⟨⟨_, rfl⟩, .inr ⟨_, ⟨k + 1, by have := HL.out; omega, by rw [upto_succ, ← HQ.out]⟩, hx3⟩⟩
    · obtain rfl : k = cnt := by omega
      gi_wp2
      go_end0
      exact ⟨⟨_, rfl⟩, .inl ⟨_, rfl, hJs⟩⟩
end Go.Proofs.Ytmkhbkkhoemkoaa
