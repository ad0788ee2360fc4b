/- The numbers of steps, one round after another. -/
import Derived.Test.YtmkhbkkhoemkoaaRules
namespace Go.Proofs.Ytmkhbkkhoemkoaa
set_option linter.unusedSimpArgs false
set_option linter.unusedVariables false
open Go.RowKit Go.Shelf
attribute [local go_sem] Oper.semAt_some

/-- A step's number. -/
abbrev Stp := { x : Nat // x ≤ 1000000 }

set_option maxRecDepth 100000 in
set_option maxHeartbeats 4000000 in
theorem nums1_in (n : Nat) (hn : 1 ≤ n) (l Bn Bf Bb cnt : Nat) (first by' : Int) (f : Nat → Stp) (S : Nat → Prop) (hSf : S Bf) (hSb : S Bb) (hcnt : cnt ≤ 1000) (hf0 : -2000000 ≤ first) (hf1 : first ≤ 2000000) (hb0 : -1 ≤ by') (hb1 : by' ≤ 1)
    (hf : ∀ j, j < cnt → ((f j).1 : Int) = first + by' * j) (J Jx : List Stp → World → Prop) (W : World)
    (hY : ∀ pre x W1, J pre W1 → pre.length < cnt → YieldAt Fence.wide (n - 1) Try.prog l #[.int .i64 x.1] W1 fun e W' =>
      (e = .returned (.bool true) ∧ J (pre ++ [x]) W' ∧ KB S W1 W') ∨ (e = .returned (.bool false) ∧ Jx (pre ++ [x]) W'))
    (hBn : W.cell? ⟨Bn, 0, none⟩ = some (.int .i64 cnt)) (hBf : W.cell? ⟨Bf, 0, none⟩ = some (.int .i64 first)) (hBb : W.cell? ⟨Bb, 0, none⟩ = some (.int .i64 by')) (h0 : J [] W) :
    CallsIn Fence.wide n Try.prog 56 #[.func (.yield l) #[] #[], .pointer (some ⟨Bn, 0, none⟩), .pointer (some ⟨Bf, 0, none⟩), .pointer (some ⟨Bb, 0, none⟩)] W fun e W' => (∃ v, e = .returned v) ∧
      ((∃ ys, ys = upto f cnt ∧ J ys W') ∨ (∃ pre, (∃ k, k ≤ cnt ∧ pre = upto f k) ∧ Jx pre W')) := by
  refine callsIn_of_wp Try.func56 rfl trivial ?_ rfl
  simp only [Try.ntmps56, List.size_toArray, List.length_cons, List.length_nil, Nat.reduceAdd, Nat.reduceSub, Array.replicate_succ, Array.replicate_zero, List.push_toArray, List.append_toArray, List.nil_append, List.cons_append]
  gi_wp2
  gi_loopw [7] (fun i wr => ∃ k : Nat, k ≤ cnt ∧ i = .int .i64 k ∧ J (upto f k) wr ∧ KB S W wr)
    (fun i _ => cnt - (intOf i).toNat)
  case atStart => exact ⟨0, Nat.zero_le _, rfl, h0, KB.refl _ _⟩
  case round =>
    obtain ⟨k, hk, rfl, hJs, hnx⟩ := hrel
    by_cases hlt : k < cnt
    · have hcb : wr.cell? ⟨Bb, 0, none⟩ = some (.int .i64 by') := (hnx.cell hSb).trans hBb
      have hcf : wr.cell? ⟨Bf, 0, none⟩ = some (.int .i64 first) := (hnx.cell hSf).trans hBf
      have e0 := hf k hlt
      have hx := (f k).2
      have m0 : -1000 ≤ by' * (k : Int) ∧ by' * (k : Int) ≤ 1000 := by
        rcases (show by' = -1 ∨ by' = 0 ∨ by' = 1 by omega) with rfl | rfl | rfl <;> omega
      obtain ⟨m1, m2⟩ := m0
      have e2 : first + by' * (k : Int) = ((f k).1 : Int) := e0.symm
      obtain ⟨fn, tmps, assign, body, hy, hRd⟩ := hY _ (f k) wr hJs (by rw [upto_length]; exact hlt)
      clear e0 hf hBn hBf hBb hY h0
      gi_wp2
      refine hRd.mono ?_
      rintro e W3 (⟨rfl, hJ3, hk3⟩ | ⟨rfl, hJx3⟩)
      · clear m1 m2 e2
        gi_wp2
        go_roundw
        case rel => exact ⟨k + 1, by omega, by simp, by rw [upto_succ]; exact hJ3, hnx.trans hk3⟩
        case measure => simp [intOf]; omega
      · clear m1 m2 e2
        gi_wp2
        refine bodyPost_ret (results_none rfl _ _ _) rfl ?_
        exact ⟨⟨_, rfl⟩, .inr ⟨_, ⟨k + 1, by omega, (upto_succ _ _).symm⟩, hJx3⟩⟩
    · obtain rfl : k = cnt := by omega
      gi_wp2
      go_end0
      exact ⟨⟨_, rfl⟩, .inl ⟨_, rfl, hJs⟩⟩

theorem nums_in (n : Nat) (first by' cnt : Int) (w : World) :
    CallsIn Fence.wide n Try.prog 37 #[.int .i64 first, .int .i64 by', .int .i64 cnt] w fun e w' => e = .returned (.func (.func 56) #[] #[.pointer (some ⟨w.heap.size + 1 + 1, 0, none⟩), .pointer (some ⟨w.heap.size, 0, none⟩), .pointer (some ⟨w.heap.size + 1, 0, none⟩)]) ∧
      w' = ((w.alloc (.cells #[.int .i64 first] 3)).alloc (.cells #[.int .i64 by'] 3)).alloc (.cells #[.int .i64 cnt] 3) := by
  refine callsIn_of_wp Try.func37 rfl trivial ?_ rfl
  simp only [Try.ntmps37, List.size_toArray, List.length_cons, List.length_nil, Nat.reduceAdd, Nat.reduceSub, Array.replicate_succ, Array.replicate_zero, List.push_toArray, List.append_toArray, List.nil_append, List.cons_append]
  gi_wp2
  go_ret
  exact ⟨rfl, rfl⟩

theorem nums_stops (n : Nat) (hn : 1 ≤ n) (cnt m : Nat) (first by' : Int) (f : Nat → Stp) (w : World) (hcnt : cnt ≤ 1000) (hf0 : -2000000 ≤ first) (hf1 : first ≤ 2000000) (hb0 : -1 ≤ by') (hb1 : by' ≤ 1) (hf : ∀ j, j < cnt → ((f j).1 : Int) = first + by' * j)
    (hc0 : w.cell? ⟨m, 0, none⟩ = some (.int .i64 first)) (hc1 : w.cell? ⟨m + 1, 0, none⟩ = some (.int .i64 by')) (hc2 : w.cell? ⟨m + 1 + 1, 0, none⟩ = some (.int .i64 cnt)) (hm : m + 1 + 1 < w.heap.size) :
    SeqStopsK Fence.wide n Try.prog 56 #[.pointer (some ⟨m + 1 + 1, 0, none⟩), .pointer (some ⟨m, 0, none⟩), .pointer (some ⟨m + 1, 0, none⟩)] (fun x : Stp => #[.int .i64 x.1]) (KB (fun k => k = m ∨ k = m + 1))
      (fun ys => ys = upto f cnt) (fun pre => ∃ k, k ≤ cnt ∧ pre = upto f k) cnt w := fun l J Jx W' hW hJ hJx hY h0 =>
  nums1_in n hn l (m + 1 + 1) m (m + 1) cnt first by' f (fun k => k = m ∨ k = m + 1) (.inl rfl) (.inr rfl) hcnt hf0 hf1 hb0 hb1 hf J Jx W' hY
    ((hW.cell (p := ⟨m + 1 + 1, 0, none⟩) hm).trans hc2) ((hW.cell (p := ⟨m, 0, none⟩) (show m < w.heap.size by omega)).trans hc0) ((hW.cell (p := ⟨m + 1, 0, none⟩) (show m + 1 < w.heap.size by omega)).trans hc1) h0
end Go.Proofs.Ytmkhbkkhoemkoaa
