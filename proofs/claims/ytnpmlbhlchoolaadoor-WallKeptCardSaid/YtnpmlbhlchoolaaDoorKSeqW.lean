/- The cells of a body, one after another: by the program. -/
import Derived.Test.YtnpmlbhlchoolaaDoorKCntW
import Derived.Test.YtnpmlbhlchoolaaDoorKRules
namespace Go.Proofs.YtnpmlbhlchoolaaDoor
set_option linter.unusedSimpArgs false
set_option linter.unusedVariables false
open Go.RowKit Go.Shelf
attribute [local go_sem] Oper.semAt_some

/-- The cells of a body below k. -/
def ownN (B : Nat → Int) (b : Int) : Nat → List Nat
  | 0 => []
  | k + 1 => if B k = b then ownN B b k ++ [k] else ownN B b k
theorem ownN_pre (B : Nat → Int) (b : Int) {i j : Nat} (h : i ≤ j) : ownN B b i <+: ownN B b j := by
  induction j with
  | zero =>
    obtain rfl : i = 0 := by omega
    exact List.prefix_refl _
  | succ j ih =>
    by_cases e : i = j + 1
    · subst e; exact List.prefix_refl _
    · simp only [ownN]
      split
      · exact (ih (by omega)).trans (List.prefix_append _ _)
      · exact ih (by omega)
theorem ownN_mem {B : Nat → Int} {b : Int} {k i : Nat} (h : i ∈ ownN B b k) : i < k ∧ B i = b := by
  induction k with
  | zero => simp [ownN] at h
  | succ k ih =>
    simp only [ownN] at h
    split at h
    · rcases List.mem_append.1 h with h | h
      · have := ih h
        exact ⟨by omega, this.2⟩
      · obtain rfl := List.mem_singleton.1 h
        exact ⟨by omega, by assumption⟩
    · have := ih h
      exact ⟨by omega, this.2⟩
theorem ownN_len (B : Nat → Int) (b : Int) (k : Nat) : (ownN B b k).length = cntB B b k := by
  induction k with
  | zero => rfl
  | succ k ih =>
    simp only [ownN, cntB]
    split <;> simp [ih]

set_option maxRecDepth 100000 in
set_option maxHeartbeats 8000000 in
theorem cells1_in (n : Nat) (hn : 1 ≤ n) (l Bw Bb bb ob N cb : Nat) (B : Nat → Int) (b : Int) (S : Nat → Prop) (hS1 : S Bw) (hS2 : S Bb) (hS3 : S bb) (hN : N ≤ 1024)
    (J Jx : List Nat → World → Prop) (w : World)
    (hY : ∀ pre x W1, J pre W1 → pre.length < N → pre ++ [x] <+: ownN B b N → YieldAt Fence.wide (n - 1) Tryd.prog l #[.int .i64 (((x : Nat) : Int))] W1 fun e W' =>
      (e = .returned (.bool true) ∧ J (pre ++ [x]) W' ∧ KB S W1 W') ∨ (e = .returned (.bool false) ∧ Jx (pre ++ [x]) W'))
    (c1 : w.cell? ⟨Bw, 1, none⟩ = some (.slice (some ⟨bb, ob, none⟩) N cb)) (cB : w.cell? ⟨Bb, 0, none⟩ = some (.int .i64 b)) (hB : NumsAt w bb ob N B) (h0 : J [] w) :
    CallsIn Fence.wide n Tryd.prog 100 #[.func (.yield l) #[] #[], .pointer (some ⟨Bw, 0, none⟩), .pointer (some ⟨Bb, 0, none⟩)] w fun e W' => (∃ v, e = .returned v) ∧
      ((∃ ys, ys = ownN B b N ∧ J ys W') ∨ (∃ pre, pre <+: ownN B b N ∧ Jx pre W')) := by
  have HB := Lib.hid hB; clear hB
  refine callsIn_of_wp Tryd.func100 rfl trivial ?_ rfl
  simp only [Tryd.ntmps100, List.size_toArray, List.length_cons, List.length_nil, Nat.reduceAdd, Nat.reduceSub, Array.replicate_succ, Array.replicate_zero, List.push_toArray, List.append_toArray, List.nil_append, List.cons_append]
  gi_wp2
  have kb0 : KB S w w := ⟨Nat.le_refl _, fun _ _ => rfl⟩
  gi_loopw [9] (fun i wr => ∃ k : Nat, k ≤ N ∧ i = .int .i64 k ∧ J (ownN B b k) wr ∧ KB S w wr) (fun i _ => N - (intOf i).toNat)
  case atStart => exact ⟨0, Nat.zero_le _, rfl, h0, kb0⟩
  case round =>
    obtain ⟨k, hk, rfl, hJs, hnx⟩ := hrel
    by_cases hlk : k < N
    · have d1 := (hnx.cell hS2).trans cB
      have d2 := (hnx.cell hS3).trans (HB.out k hlk)
      have p0 : (0 : Int) ≤ (k : Int) := by omega
      have p1 : (k : Int) < (N : Int) := by omega
      obtain ⟨v, hv⟩ : ∃ v, v = B k := ⟨_, rfl⟩
      rw [← hv] at d2
      by_cases hb : v = b
      · subst hb
        have HV := Lib.hid hv.symm; clear hv
        have ho : ownN B v (k + 1) = ownN B v k ++ [k] := by simp only [ownN]; rw [if_pos HV.out]
        have hpre : ownN B v k ++ [k] <+: ownN B v N := by rw [← ho]; exact ownN_pre B v (by omega)
        have hlen : (ownN B v k).length < N := by rw [ownN_len]; have := cntB_le B v k; omega
        obtain ⟨fn, tmps, assign, body, hy, hRd⟩ := hY _ k wr hJs hlen hpre
        have HPRE := Lib.hid hpre; clear hpre
        have HO := Lib.hid ho; clear ho
        have hRd := hRd.mono (R' := RoundDone (fun W' => J (ownN B v k ++ [k]) W' ∧ KB S wr W') (Jx (ownN B v k ++ [k]))) (fun _ _ h => roundDone h)
        have ev : ((v : Int) == (v : Int)) = true := by simp
        gi_wp2
        refine hRd.mono ?_
        rintro e W3 ⟨bb, rfl, hh⟩
        rcases hh with ⟨rfl, hJ3, hk3⟩ | ⟨rfl, hx3⟩
        · gi_wp2
          go_roundw
          case rel => exact ⟨k + 1, by omega, by go_num, by rw [HO.out]; exact hJ3, hnx.trans hk3⟩
          case measure => simp [intOf]; omega
        · gi_wp2
          refine bodyPost_ret (results_none rfl _ _ _) rfl ?_
          exact ⟨⟨_, rfl⟩, .inr ⟨_, HPRE.out, hx3⟩⟩
      · have ho : ownN B b (k + 1) = ownN B b k := by simp only [ownN]; rw [if_neg (by rw [← hv]; exact hb)]
        have HO := Lib.hid ho; clear ho
        have ev : (v == b) = false := beq_eq_false_iff_ne.2 hb
        clear hv hb
        gi_wp2
        refine ⟨(fun f hf => nomatch hf), ?_⟩
        gi_wp2
        go_roundw
        case rel => exact ⟨k + 1, by omega, by go_num, by rw [HO.out]; exact hJs, hnx⟩
        case measure => simp [intOf]; omega
    · obtain rfl : k = N := by omega
      gi_wp2
      go_end0
      exact ⟨⟨_, rfl⟩, .inl ⟨_, rfl, hJs⟩⟩

/-- A cell of a grid, by its number. -/
abbrev CelW (N : Nat) := {i : Nat // i < N}
theorem cells_stops (n : Nat) (hn : 1 ≤ n) (Bw Bb bb ob N cb : Nat) (B : Nat → Int) (b : Int) (w : World) (hN : N ≤ 1024) (lw : Bw < w.heap.size) (lb : Bb < w.heap.size) (lbb : bb < w.heap.size)
    (c1 : w.cell? ⟨Bw, 1, none⟩ = some (.slice (some ⟨bb, ob, none⟩) N cb)) (cB : w.cell? ⟨Bb, 0, none⟩ = some (.int .i64 b)) (hB : NumsAt w bb ob N B) :
    SeqStopsK Fence.wide n Tryd.prog 100 #[.pointer (some ⟨Bw, 0, none⟩), .pointer (some ⟨Bb, 0, none⟩)] (fun x : CelW N => #[.int .i64 ((x.1 : Int))]) (KB (fun z => z = Bw ∨ z = Bb ∨ z = bb))
      (fun ys => ys.map (·.1) = ownN B b N) (fun pre => pre.map (·.1) <+: ownN B b N) N w := fun l J Jx W' hW' hJ hJx hY h0 =>
  (cells1_in n hn l Bw Bb bb ob N cb B b (fun z => z = Bw ∨ z = Bb ∨ z = bb) (.inl rfl) (.inr (.inl rfl)) (.inr (.inr rfl)) hN (fun L X => ∃ l' : List (CelW N), l'.map (·.1) = L ∧ J l' X) (fun L X => ∃ l' : List (CelW N), l'.map (·.1) = L ∧ Jx l' X) W'
    (fun pre x W1 hj hlen hpre => by
      obtain ⟨l', e, hj⟩ := hj
      have hx2 : x < N := (ownN_mem (hpre.subset (by simp))).1
      obtain ⟨fn, tmps, assign, body, hy, hRd⟩ := hY l' ⟨x, hx2⟩ W1 hj (by rw [← e] at hlen; simpa using hlen)
      refine ⟨fn, tmps, assign, body, hy, hRd.mono fun e2 W2 h => ?_⟩
      rcases h with ⟨h1, h2, h3⟩ | ⟨h1, h2⟩
      · exact .inl ⟨h1, ⟨l' ++ [⟨x, hx2⟩], by simp [e], h2⟩, h3⟩
      · exact .inr ⟨h1, ⟨l' ++ [⟨x, hx2⟩], by simp [e], h2⟩⟩)
    ((hW'.cell (p := ⟨Bw, 1, none⟩) lw).trans c1) ((hW'.cell (p := ⟨Bb, 0, none⟩) lb).trans cB) (fun i hi => (hW'.cell (p := ⟨bb, ob + i, none⟩) lbb).trans (hB i hi)) ⟨[], rfl, h0⟩).mono fun e W2 h => by
    obtain ⟨hv, h⟩ := h
    refine ⟨hv, ?_⟩
    rcases h with ⟨ys, hy, l', e, hj⟩ | ⟨pre, hp, l', e, hj⟩
    · exact .inl ⟨l', by show l'.map (·.1) = _; rw [e, hy], hj⟩
    · exact .inr ⟨l', by show l'.map (·.1) <+: _; rw [e]; exact hp, hj⟩

theorem cellsOf_in (n : Nat) (ak : Option Addr) (nk ck : Nat) (ab : Option Addr) (nb cb : Nat) (b : Int) (w : World) :
    CallsIn Fence.wide n Tryd.prog 62 #[.agg #[.slice (ak) nk ck, .slice (ab) nb cb], .int .i64 b] w fun e w' => e = .returned (.func (.func 100) #[] #[.pointer (some ⟨w.heap.size, 0, none⟩), .pointer (some ⟨w.heap.size + 1, 0, none⟩)]) ∧
      w' = (w.alloc (.cells #[.slice ak nk ck, .slice ab nb cb] 27)).alloc (.cells #[.int .i64 b] 3) := by
  refine callsIn_of_wp Tryd.func62 rfl trivial ?_ rfl
  simp only [Tryd.ntmps62, List.size_toArray, List.length_cons, List.length_nil, Nat.reduceAdd, Nat.reduceSub, Array.replicate_succ, Array.replicate_zero, List.push_toArray, List.append_toArray, List.nil_append, List.cons_append]
  gi_wp2
  go_ret
  exact ⟨rfl, rfl⟩
end Go.Proofs.YtnpmlbhlchoolaaDoor
