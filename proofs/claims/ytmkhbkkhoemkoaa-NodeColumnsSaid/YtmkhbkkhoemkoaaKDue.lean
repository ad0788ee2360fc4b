/- The notes that are due to a node, one after another: by the program. -/
import Derived.Test.YtmkhbkkhoemkoaaKRules
import Derived.Test.YtmkhbkkhoemkoaaKDueM
import Derived.Test.YtmkhbkkhoemkoaaKChartD
import Derived.Test.YtmkhbkkhoemkoaaKRef
namespace Go.Proofs.Ytmkhbkkhoemkoaa
set_option linter.unusedSimpArgs false
set_option linter.unusedVariables false
open Go.RowKit Go.Shelf
attribute [local go_sem] Oper.semAt_some

/-- A due note as a value. -/
def ntV (s v : Nat) (x : Nt) : Value := .agg #[.int .i64 s, .int .i64 x.1, .int .i64 v, .int .i64 x.2.1, .int .i64 x.2.2, .int .i64 0]
/-- What the notes that are due read: the chart's block, the node's cells, from where particles come, the owners. -/
structure DueAt (w : World) (S : Nat → Prop) (C : Nat) (W H N v : Nat) (o : Nat → Nat) (L : List Nat) : Prop where
  c : S C
  own : ∃ qa qc, w.cell? ⟨C, 2 + v, none⟩ = some (.slice qa L.length qc) ∧ ∀ k, k < L.length → ∃ g, qa = some ⟨g, 0, none⟩ ∧ S g ∧ w.cell? ⟨g, k, none⟩ = some (.int .i64 ((L.getD k 0 : Nat)))
  lt : ∀ k, k < L.length → L.getD k 0 < N
  frm : ∃ f cf, S f ∧ w.cell? ⟨C, 11, none⟩ = some (.slice (some ⟨f, 0, none⟩) N cf) ∧ ∀ i, i < N → ∀ d, d < 4 → w.cell? ⟨f, i * 4 + d, none⟩ = some (.int .i64 ((nb W H (-1) i d : Nat)))
  owner : ∃ b off oc, S b ∧ w.cell? ⟨C, 0, none⟩ = some (.slice (some ⟨b, off, none⟩) N oc) ∧ ∀ i, i < N → w.cell? ⟨b, off + i, none⟩ = some (.int .i64 ((o i : Nat)))
theorem index_cellV (G : Nat → Int) (d : Nat) (hd : d < 4) (w : World) : (Instr.index 40 (.agg #[.int .i64 (G 0), .int .i64 (G 1), .int .i64 (G 2), .int .i64 (G 3)]) (.int .i64 ((d : Int)))).run Try.prog w = .ok (.int .i64 (G d)) w := by
  match d, hd with
  | 0, _ => exact index_cell0 w _ _ _ _
  | 1, _ => exact index_cell1 w _ _ _ _
  | 2, _ => exact index_cell2 w _ _ _ _
  | 3, _ => exact index_cell3 w _ _ _ _

set_option maxRecDepth 100000 in
set_option maxHeartbeats 8000000 in
theorem due1_in (n : Nat) (hn : 1 ≤ n) (l Bs Bc Bv C W H N v s cnt : Nat) (o : Nat → Nat) (L : List Nat) (S : Nat → Prop) (hS1 : S Bs) (hS2 : S Bc) (hS3 : S Bv) (hs : 1 ≤ s) (hs1 : s ≤ 1000000) (hv : v < 8) (hN : N = W * H) (hN1 : N ≤ 1024) (ho : ∀ i, i < N → o i < 8)
    (J Jx : List Nt → World → Prop) (w : World) (hJ : AbidesFrom w.heap.size J) (hcnt : (dueN o W H v L L.length).length ≤ cnt) (hL : L.length ≤ 1024)
    (hY : ∀ pre x W1, J pre W1 → pre.length < cnt → YieldAt Fence.wide (n - 1) Try.prog l #[ntV s v x] W1 fun e W' =>
      (e = .returned (.bool true) ∧ J (pre ++ [x]) W' ∧ KB S W1 W') ∨ (e = .returned (.bool false) ∧ Jx (pre ++ [x]) W'))
    (hBs : w.cell? ⟨Bs, 0, none⟩ = some (.int .i64 s)) (hBc : w.cell? ⟨Bc, 0, none⟩ = some (.pointer (some ⟨C, 0, none⟩))) (hBv : w.cell? ⟨Bv, 0, none⟩ = some (.int .i64 v)) (hD : DueAt w S C W H N v o L) (h0 : J [] w) :
    CallsIn Fence.wide n Try.prog 60 #[.func (.yield l) #[] #[], .pointer (some ⟨Bs, 0, none⟩), .pointer (some ⟨Bc, 0, none⟩), .pointer (some ⟨Bv, 0, none⟩)] w fun e W' => (∃ v, e = .returned v) ∧
      ((∃ ys, ys = dueN o W H v L L.length ∧ J ys W') ∨ (∃ pre, pre <+: dueN o W H v L L.length ∧ Jx pre W')) := by
  have hmx : Try.prog.follows .mixedOrders = true := by kernel_rfl
  obtain ⟨hSC, ⟨qa, qc, hq, hqc⟩, hlt, ⟨f, cf, hSf, hf, hfc⟩, ⟨b, off, oc, hSb, hb, hbc⟩⟩ := hD
  have j0 : (0 : Int) ≤ (v : Int) := by omega
  have j1 : (v : Int) < 8 := by omega
  have es : ((s : Int) == 0) = false := by simp; omega
  have HQ := Lib.hid hqc
  have HF := Lib.hid hfc
  have HB := Lib.hid hbc
  have HL := Lib.hid hlt
  have HO := Lib.hid ho
  have HN := Lib.hid hN
  obtain ⟨m, hm⟩ : ∃ m, m = L.length := ⟨_, rfl⟩
  rw [← hm] at hq hcnt hL
  have HM := Lib.hid hm
  clear hqc hfc hbc hlt ho hN hm
  refine callsIn_of_wp Try.func60 rfl trivial ?_ rfl
  simp only [Try.ntmps60, List.size_toArray, List.length_cons, List.length_nil, Nat.reduceAdd, Nat.reduceSub, Array.replicate_succ, Array.replicate_zero, List.push_toArray, List.append_toArray, List.nil_append, List.cons_append]
  gi_wp2
  gi_region_with_o (fail)
  all_goals
    gi_wp2
    have hJ1 : J [] w.drew := hJ _ w _ none h0 ⟨rfl, rfl, rfl, Nat.le_refl _, fun _ _ _ => rfl⟩ (by simp)
    gi_loopw [19, 6, 7, 8, 9, 30] (fun i _ _ _ _ _ wr => ∃ k : Nat, k ≤ m ∧ i = .int .i64 k ∧ J (dueN o W H v L k) wr ∧ KB S w wr) (fun i _ _ _ _ _ _ => m - (intOf i).toNat)
    case atStart => exact ⟨0, Nat.zero_le _, rfl, hJ1, kb_drew _ _⟩
    case round =>
      obtain ⟨k, hk, rfl, hJs, hnx⟩ := hrel
      by_cases hlk : k < m
      · obtain ⟨g, rfl, hSg, hgk⟩ := HQ.out k (by rw [← HM.out]; exact hlk)
        obtain ⟨x, hx⟩ : ∃ x, x = L.getD k 0 := ⟨_, rfl⟩
        rw [← hx] at hgk
        have hxN : x < N := by rw [hx]; exact HL.out k (by rw [← HM.out]; exact hlk)
        have c0 := (hnx.cell hSg).trans hgk
        have c1 := (hnx.cell hS2).trans hBc
        have c2 := (hnx.cell hSC).trans hf
        have c3 := (hnx.cell hSf).trans (HF.out x hxN 0 (by omega))
        have c4 := (hnx.cell hSf).trans (HF.out x hxN 1 (by omega))
        have c5 := (hnx.cell hSf).trans (HF.out x hxN 2 (by omega))
        have c6 := (hnx.cell hSf).trans (HF.out x hxN 3 (by omega))
        rw [Nat.add_zero] at c3
        have p0 : (0 : Int) ≤ (x : Int) := by omega
        have p1 : (x : Int) < (N : Int) := by omega
        have HX := Lib.hid hx; clear hx hgk
        have p2 : (0 : Int) ≤ (k : Int) := by omega
        have p3 : (k : Int) < (m : Int) := by omega
        gi_wp2
        obtain ⟨wo, hwo⟩ : ∃ wo, wo = wr := ⟨_, rfl⟩
        subst hwo
        clear c0 c1 c2 c3 c4 c5 c6
        gi_loopw [30, 7, 8, 9] (fun i _ _ _ wr => ∃ d : Nat, d ≤ 4 ∧ i = .int .i64 d ∧ J (dueN o W H v L k ++ dueC o W H v x d) wr ∧ KB S w wr) (fun i _ _ _ _ => 4 - (intOf i).toNat)
        case atStart => exact ⟨0, Nat.zero_le _, rfl, by rw [show dueC o W H v x 0 = [] from rfl, List.append_nil]; exact hJs, hnx⟩
        case round =>
          obtain ⟨d, hd, rfl, hJd, hnd⟩ := hrel
          by_cases hld : d < 4
          · obtain ⟨q, hqe⟩ : ∃ q, q = nb W H (-1) x d := ⟨_, rfl⟩
            have hqN : q < N := by rw [hqe]; exact nb_lt HN.out hxN d
            have IX := fun w => index_cellV (fun d => ((nb W H (-1) x d : Nat) : Int)) d hld w
            simp only [← hqe] at IX
            have e1 := (hnd.cell hS1).trans hBs
            have e2 := (hnd.cell hS2).trans hBc
            have e3 := (hnd.cell hS3).trans hBv
            have e4 := (hnd.cell hSC).trans hb
            have e5 := (hnd.cell hSb).trans (HB.out q hqN)
            have r0 : (0 : Int) ≤ (q : Int) := by omega
            have r1 : (q : Int) < (N : Int) := by omega
            have HQE := Lib.hid hqe; clear hqe
            by_cases hsv : o q = v
            · rw [hsv] at e5
              have HSV := Lib.hid hsv; clear hsv
              have ev2 : ((v : Int) != (v : Int)) = false := by simp
              gi_wp2
              refine ⟨(fun f hf => nomatch hf), ?_⟩
              gi_wp2
              go_roundw
              case rel => exact ⟨d + 1, by omega, by go_num, by rw [dueC_same (by rw [← HQE.out]; exact HSV.out)]; exact hJd, hnd⟩
              case measure => simp [intOf]; omega
            · have hpre := due_pre o W H v L (m := L.length) (d := d + 1) (by rw [← HM.out]; exact hlk) (by omega)
              rw [← HX.out, dueC_more (by rw [← HQE.out]; exact hsv), ← List.append_assoc, ← HQE.out] at hpre
              have hlen : (dueN o W H v L k ++ dueC o W H v x d).length < cnt := by
                have := hpre.length_le
                rw [List.length_append, List.length_singleton, ← HM.out] at this
                omega
              obtain ⟨fn, tmps, assign, body, hy, hRd⟩ := hY _ (o q, x, d) wr hJd hlen
              have ev : (((o q : Nat) : Int) == (v : Int)) = false := by simp; omega
              have ev2 : (((o q : Nat) : Int) != (v : Int)) = true := by simp [bne, ev]
              have HSV := Lib.hid hsv; clear hsv
              have HPRE := Lib.hid hpre; clear hpre
              have hRd := hRd.mono (R' := RoundDone (fun W' => J (dueN o W H v L k ++ dueC o W H v x d ++ [(o q, x, d)]) W' ∧ KB S wr W') (Jx (dueN o W H v L k ++ dueC o W H v x d ++ [(o q, x, d)]))) (fun _ _ h => roundDone h)
              dsimp only [ntV] at hy
              gi_wp2
              refine hRd.mono ?_
              rintro e W3 ⟨bb, rfl, hh⟩
              rcases hh with ⟨rfl, hJ3, hk3⟩ | ⟨rfl, hx3⟩
              · gi_wp2
                go_roundw
                case rel => exact ⟨d + 1, by omega, by go_num, by rw [dueC_more (by rw [← HQE.out]; exact HSV.out), ← HQE.out, ← List.append_assoc]; exact hJ3, hnd.trans hk3⟩
                case measure => simp [intOf]; omega
              · gi_wp2
                refine bodyPost_ret (results_none rfl _ _ _) rfl ?_
                exact ⟨⟨_, rfl⟩, .inr ⟨_, HPRE.out, hx3⟩⟩
          · obtain rfl : d = 4 := by omega
            gi_wp2
            go_roundw
            case rel => exact ⟨k + 1, by omega, by go_num, by simp only [dueN]; rw [← HX.out]; exact hJd, hnd⟩
            case measure => simp [intOf]; omega
      · obtain rfl : k = m := by omega
        gi_wp2
        go_end0
        exact ⟨⟨_, rfl⟩, .inl ⟨_, by rw [HM.out], hJs⟩⟩

set_option maxRecDepth 100000 in
set_option maxHeartbeats 2000000 in
/-- Nothing is due for the step 0. -/
theorem due1_none (n : Nat) (l Bs Bc Bv : Nat) (J Jx : List Nt → World → Prop) (w : World) (hBs : w.cell? ⟨Bs, 0, none⟩ = some (.int .i64 0)) (h0 : J [] w) :
    CallsIn Fence.wide n Try.prog 60 #[.func (.yield l) #[] #[], .pointer (some ⟨Bs, 0, none⟩), .pointer (some ⟨Bc, 0, none⟩), .pointer (some ⟨Bv, 0, none⟩)] w fun e W' => (∃ v, e = .returned v) ∧
      ((∃ ys, ys = [] ∧ J ys W') ∨ (∃ pre, pre <+: ([] : List Nt) ∧ Jx pre W')) := by
  refine callsIn_of_wp Try.func60 rfl trivial ?_ rfl
  simp only [Try.ntmps60, List.size_toArray, List.length_cons, List.length_nil, Nat.reduceAdd, Nat.reduceSub, Array.replicate_succ, Array.replicate_zero, List.push_toArray, List.append_toArray, List.nil_append, List.cons_append]
  gi_wp2
  refine bodyPost_ret (results_none rfl _ _ _) rfl ?_
  exact ⟨⟨_, rfl⟩, .inl ⟨_, rfl, h0⟩⟩

theorem due_in (n C : Nat) (v s : Int) (w : World) :
    CallsIn Fence.wide n Try.prog 41 #[.pointer (some ⟨C, 0, none⟩), .int .i64 v, .int .i64 s] w fun e w' => e = .returned (.func (.func 60) #[] #[.pointer (some ⟨w.heap.size + 1 + 1, 0, none⟩), .pointer (some ⟨w.heap.size, 0, none⟩), .pointer (some ⟨w.heap.size + 1, 0, none⟩)]) ∧
      w' = ((w.alloc (.cells #[.pointer (some ⟨C, 0, none⟩)] 52)).alloc (.cells #[.int .i64 v] 3)).alloc (.cells #[.int .i64 s] 3) := by
  refine callsIn_of_wp Try.func41 rfl trivial ?_ rfl
  simp only [Try.ntmps41, List.size_toArray, List.length_cons, List.length_nil, Nat.reduceAdd, Nat.reduceSub, Array.replicate_succ, Array.replicate_zero, List.push_toArray, List.append_toArray, List.nil_append, List.cons_append]
  gi_wp2
  go_ret
  exact ⟨rfl, rfl⟩

/-- The blocks that the due notes read. -/
def DueS (C f b m : Nat) (qa : Option Addr) : Nat → Prop := fun k => k = C ∨ k = f ∨ k = b ∨ k = m ∨ k = m + 1 ∨ k = m + 1 + 1 ∨ qa = some ⟨k, 0, none⟩
end Go.Proofs.Ytmkhbkkhoemkoaa
