/- The cells of a block of the fields, one after another: by the program. -/
import Derived.Test.YtmdeooflgkjbbaaDoorKRect
import Derived.Test.YtmdeooflgkjbbaaDoorKMach
import Derived.Test.YtmdeooflgkjbbaaDoorKRecM
import Derived.Test.YtmdeooflgkjbbaaDoorKQuad
import Derived.Test.YtmdeooflgkjbbaaDoorKSeqW
import Derived.Test.YtmdeooflgkjbbaaDoorKInQ
import Derived.Test.YtmdeooflgkjbbaaDoorKChecks
namespace Go.Proofs.YtmdeooflgkjbbaaDoor
set_option linter.unusedSimpArgs false
set_option linter.unusedVariables false
open Go.RowKit Go.Shelf
attribute [local go_sem] Oper.semAt_some

set_option maxRecDepth 100000 in
set_option maxHeartbeats 8000000 in
theorem cells1F_in (n : Nat) (hn : 1 ≤ n) (l Bp W x0 nx y0 ny cnt b off N cap : Nat) (G : Nat → Nat → Int) (bx yb : Int) (S : Nat → Prop) (hS : S Bp) (hSb : S b) (hW : W ≤ 64) (hx : x0 + nx ≤ W) (hy : y0 + ny ≤ 64) (hN : W * (y0 + ny) ≤ N) (hN1 : N ≤ 1024) (hbx : bx + 1 = ((x0 + nx : Nat) : Int)) (hby : yb + 1 = ((y0 + ny : Nat) : Int))
    (J Jx : List Nat → World → Prop) (w : World) (hcnt : ny * nx ≤ cnt)
    (hY : ∀ pre x W1, J pre W1 → pre.length < cnt → pre ++ [x] <+: recN W x0 nx y0 ny → YieldAt Fence.wide (n - 1) Tryd.prog l #[.agg #[.int .i64 (G x 0), .int .i64 (G x 1), .int .i64 (G x 2), .int .i64 (G x 3)]] W1 fun e W' =>
      (e = .returned (.bool true) ∧ J (pre ++ [x]) W' ∧ KB S W1 W') ∨ (e = .returned (.bool false) ∧ Jx (pre ++ [x]) W'))
    (c0 : w.cell? ⟨Bp, 0, none⟩ = some (.int .i64 W)) (c3 : w.cell? ⟨Bp, 3, none⟩ = some (.int .i64 x0)) (c4 : w.cell? ⟨Bp, 4, none⟩ = some (.int .i64 y0)) (c5 : w.cell? ⟨Bp, 5, none⟩ = some (.int .i64 bx)) (c6 : w.cell? ⟨Bp, 6, none⟩ = some (.int .i64 yb)) (c2 : w.cell? ⟨Bp, 2, none⟩ = some (.slice (some ⟨b, off, none⟩) N cap)) (hG : Grd w b off N G) (h0 : J [] w) :
    CallsIn Fence.wide n Tryd.prog 147 #[.func (.yield l) #[] #[], .pointer (some ⟨Bp, 0, none⟩)] w fun e W' => (∃ v, e = .returned v) ∧
      ((∃ ys, ys = recN W x0 nx y0 ny ∧ J ys W') ∨ (∃ pre, pre <+: recN W x0 nx y0 ny ∧ Jx pre W')) := by
  obtain ⟨x1, hx1⟩ : ∃ x1, x1 = x0 + nx := ⟨_, rfl⟩
  obtain ⟨y1, hy1⟩ : ∃ y1, y1 = y0 + ny := ⟨_, rfl⟩
  rw [← hx1] at hbx hx
  rw [← hy1] at hby hy hN
  have HG := Lib.hid hG
  clear hG
  have HX1 := Lib.hid hx1
  have HY1 := Lib.hid hy1
  clear hx1 hy1
  refine callsIn_of_wp Tryd.func147 rfl trivial ?_ rfl
  simp only [Tryd.ntmps147, List.size_toArray, List.length_cons, List.length_nil, Nat.reduceAdd, Nat.reduceSub, Array.replicate_succ, Array.replicate_zero, List.push_toArray, List.append_toArray, List.nil_append, List.cons_append]
  gi_wp2
  have kb0 : KB S w w := ⟨Nat.le_refl _, fun _ _ => rfl⟩
  gi_loopw [3, 4] (fun y _ wr => ∃ k : Nat, k ≤ ny ∧ y = .int .i64 ((y0 + k : Nat) : Int) ∧ J (recN W x0 nx y0 k) wr ∧ KB S w wr) (fun y _ _ => y1 - (intOf y).toNat)
  case atStart => exact ⟨0, Nat.zero_le _, rfl, h0, kb0⟩
  case round =>
    obtain ⟨k, hk, rfl, hJs, hnx⟩ := hrel
    have d3 := (hnx.cell hS).trans c3
    have d6 := (hnx.cell hS).trans c6
    have hyy := HY1.out
    have hxx := HX1.out
    obtain ⟨y, hyk⟩ : ∃ y, y = y0 + k := ⟨_, rfl⟩
    rw [← hyk]
    by_cases hlk : y < y1
    · have p0 : (y : Int) ≤ yb := by omega
      have HK := Lib.hid hyk
      have hlk2 : k < ny := by omega
      clear hyk hyy hxx
      gi_wp2
      obtain ⟨wo, hwo⟩ : ∃ wo, wo = wr := ⟨_, rfl⟩
      subst hwo
      clear d3 d6
      gi_loopw [4] (fun x wr => ∃ j : Nat, j ≤ nx ∧ x = .int .i64 ((x0 + j : Nat) : Int) ∧ J (recN W x0 nx y0 k ++ rowN W x0 y j) wr ∧ KB S w wr) (fun x _ => x1 - (intOf x).toNat)
      case atStart => exact ⟨0, Nat.zero_le _, rfl, by rw [show rowN W x0 y 0 = [] from rfl, List.append_nil]; exact hJs, hnx⟩
      case round =>
        obtain ⟨j, hj, rfl, hJd, hnd⟩ := hrel
        have e0 := (hnd.cell hS).trans c0
        have e5 := (hnd.cell hS).trans c5
        obtain ⟨x, hxj⟩ : ∃ x, x = x0 + j := ⟨_, rfl⟩
        rw [← hxj]
        by_cases hlj : x < x1
        · have hxx := HX1.out
          have hyx := HY1.out
          have hyk := HK.out
          have p1 : (x : Int) ≤ bx := by omega
          have e2 := (hnd.cell hS).trans c2
          have hm : W * (y + 1) ≤ W * y1 := Nat.mul_le_mul_left W hlk
          have hm2 : W * (y + 1) = W * y + W := by rw [Nat.mul_add, Nat.mul_one]
          obtain ⟨q, hq⟩ : ∃ q, q = x + W * y := ⟨_, rfl⟩
          have hqN : q < N := by omega
          obtain ⟨a0, a1, a2, a3⟩ := HG.out q hqN
          have k0 := (hnd.cell hSb).trans a0
          have k1 := (hnd.cell hSb).trans a1
          have k2 := (hnd.cell hSb).trans a2
          have k3 := (hnd.cell hSb).trans a3
          have pq0 : (0 : Int) ≤ (q : Int) := by omega
          have pq1 : (q : Int) < (N : Int) := by omega
          have wq : (W : Int) * (y : Int) = (q : Int) - (x : Int) := by rw [hq]; push_cast; omega
          have wq2 : (x : Int) + ((q : Int) - (x : Int)) = (q : Int) := by omega
          have hpre := rec_pre W x0 nx y0 (j := j + 1) hlk2 (show j + 1 ≤ nx by omega)
          rw [← HK.out] at hpre
          simp only [rowN] at hpre
          rw [← hxj, ← hq, ← List.append_assoc] at hpre
          have hlen : (recN W x0 nx y0 k ++ rowN W x0 y j).length < cnt := by
            have := hpre.length_le
            rw [List.length_append, List.length_singleton, recN_len] at this
            omega
          obtain ⟨fn, tmps, assign, body, hyy, hRd⟩ := hY _ q wr hJd hlen hpre
          have HPRE := Lib.hid hpre; clear hpre
          have HR := Lib.hid (show rowN W x0 y (j + 1) = rowN W x0 y j ++ [q] from by simp only [rowN]; rw [← hxj, ← hq])
          have hq2 : q ≤ 5000 := by omega
          have HXJ := Lib.hid hxj
          clear hq hxj hm hm2 hxx hyx hyk a0 a1 a2 a3
          have hRd := hRd.mono (R' := RoundDone (fun W' => J (recN W x0 nx y0 k ++ rowN W x0 y j ++ [q]) W' ∧ KB S wr W') (Jx (recN W x0 nx y0 k ++ rowN W x0 y j ++ [q]))) (fun _ _ h => roundDone h)
          gi_wp2
          refine hRd.mono ?_
          rintro e W3 ⟨bb, rfl, hh⟩
          rcases hh with ⟨rfl, hJ3, hk3⟩ | ⟨rfl, hx3⟩
          · gi_wp2
            go_roundw
            case rel => exact ⟨j + 1, by have := HX1.out; have := HXJ.out; omega, by rw [← Nat.add_assoc, ← HXJ.out]; go_num, by rw [HR.out, ← List.append_assoc]; exact hJ3, hnd.trans hk3⟩
            case measure => simp [intOf]; omega
          · gi_wp2
            refine bodyPost_ret (results_none rfl _ _ _) rfl ?_
            exact ⟨⟨_, rfl⟩, .inr ⟨_, HPRE.out, hx3⟩⟩
        · have p1n : ¬ ((x : Int) ≤ bx) := by omega
          have hjn : j = nx := by have := HX1.out; omega
          subst hjn
          have HXJ := Lib.hid hxj
          clear hxj
          gi_wp2
          go_roundw
          case rel => exact ⟨k + 1, by omega, by rw [← Nat.add_assoc, ← HK.out]; go_num, by simp only [recN]; rw [← HK.out]; exact hJd, hnd⟩
          case measure => simp [intOf]; omega
    · have p0n : ¬ ((y : Int) ≤ yb) := by omega
      have hkn : k = ny := by omega
      subst hkn
      have HK := Lib.hid hyk
      clear hyk hyy hxx
      gi_wp2
      go_end0
      exact ⟨⟨_, rfl⟩, .inl (by first | exact hJs | exact ⟨_, rfl, hJs⟩)⟩
end Go.Proofs.YtmdeooflgkjbbaaDoor

/- The sum over a block's cells: by the program of the fields. -/





namespace Go.Proofs.YtmdeooflgkjbbaaDoor
set_option linter.unusedSimpArgs false
set_option linter.unusedVariables false
open Go.RowKit Go.Shelf
attribute [local go_sem] Oper.semAt_some

/-- What a function tells of cells, summed up. -/
def sumT (tv : Nat → Int) : List Nat → Int
  | [] => 0
  | q :: L => tv q + sumT tv L
theorem sumT_app (tv : Nat → Int) (L : List Nat) (q : Nat) : sumT tv (L ++ [q]) = sumT tv L + tv q := by
  induction L with
  | nil => simp [sumT]
  | cons a L ih => simp only [List.cons_append, sumT, ih]; omega
theorem sumT_bd {N : Nat} {tv : Nat → Int} (h : ∀ q, q < N → -1000000000 ≤ tv q ∧ tv q ≤ 1000000000) (L : List (CelW N)) : -(1000000000 * (L.length : Int)) ≤ sumT tv (L.map (·.1)) ∧ sumT tv (L.map (·.1)) ≤ 1000000000 * (L.length : Int) := by
  induction L with
  | nil => simp [sumT]
  | cons a L ih =>
    have := h a.1 a.2
    simp only [List.map_cons, sumT, List.length_cons]
    push_cast
    omega
/-- A function value that tells a number of each cell of a grid. -/
def Tells (w : World) (fn : Nat) (cs : Array Value) (N : Nat) (G : Nat → Nat → Int) (tv : Nat → Int) : Prop :=
  (∀ args wx, (callFunc fn args).run Tryd.prog wx = .ok (.enter fn args) wx) ∧
  ∀ wx q, KB (fun k => k < w.heap.size) w wx → q < N → Calls Tryd.prog fn (#[.agg #[.int .i64 (G q 0), .int .i64 (G q 1), .int .i64 (G q 2), .int .i64 (G q 3)]] ++ cs) wx fun e w' => e = .returned (.int .i64 (tv q)) ∧ Below wx.heap.size wx w'
theorem cellsF_stops (n : Nat) (hn : 1 ≤ n) (Bp W H x0 nx y0 ny b off N cap : Nat) (G : Nat → Nat → Int) (bx yb : Int) (S : Nat → Prop) (hS : S Bp) (hSb : S b) (w : World) (hSl : ∀ k, S k → k < w.heap.size) (hW : W ≤ 64) (hH : H ≤ 64) (hx : x0 + nx ≤ W) (hy : y0 + ny ≤ H) (hN : N = W * H) (hN1 : N ≤ 1024) (hbx : bx + 1 = ((x0 + nx : Nat) : Int)) (hby : yb + 1 = ((y0 + ny : Nat) : Int))
    (c0 : w.cell? ⟨Bp, 0, none⟩ = some (.int .i64 W)) (c3 : w.cell? ⟨Bp, 3, none⟩ = some (.int .i64 x0)) (c4 : w.cell? ⟨Bp, 4, none⟩ = some (.int .i64 y0)) (c5 : w.cell? ⟨Bp, 5, none⟩ = some (.int .i64 bx)) (c6 : w.cell? ⟨Bp, 6, none⟩ = some (.int .i64 yb)) (c2 : w.cell? ⟨Bp, 2, none⟩ = some (.slice (some ⟨b, off, none⟩) N cap)) (hG : Grd w b off N G) :
    SeqStopsK Fence.wide n Tryd.prog 147 #[.pointer (some ⟨Bp, 0, none⟩)] (fun x : CelW N => #[.agg #[.int .i64 (G x.1 0), .int .i64 (G x.1 1), .int .i64 (G x.1 2), .int .i64 (G x.1 3)]]) (KB S)
      (fun ys => ys.map (·.1) = recN W x0 nx y0 ny) (fun pre => pre.map (·.1) <+: recN W x0 nx y0 ny) (ny * nx) w := fun l J Jx W' hW' hJ hJx hY h0 =>
  (cells1F_in n hn l Bp W x0 nx y0 ny _ b off N cap G bx yb S hS hSb hW hx (Nat.le_trans hy hH) (by rw [hN]; exact Nat.mul_le_mul_left W hy) hN1 hbx hby (fun L X => ∃ l' : List (CelW N), l'.map (·.1) = L ∧ J l' X) (fun L X => ∃ l' : List (CelW N), l'.map (·.1) = L ∧ Jx l' X) W' (Nat.le_refl _)
    (fun pre x W1 hj hlen hpre => by
      obtain ⟨l', e, hj⟩ := hj
      have hx2 : x < N := by
        rw [hN]
        exact recN_lt (hpre.subset (by simp)) hx hy
      obtain ⟨fn, tmps, assign, body, hy, hRd⟩ := hY l' ⟨x, hx2⟩ W1 hj (by rw [← e] at hlen; simpa using hlen)
      refine ⟨fn, tmps, assign, body, hy, hRd.mono fun e2 W2 h => ?_⟩
      rcases h with ⟨h1, h2, h3⟩ | ⟨h1, h2⟩
      · exact .inl ⟨h1, ⟨l' ++ [⟨x, hx2⟩], by simp [e], h2⟩, h3⟩
      · exact .inr ⟨h1, ⟨l' ++ [⟨x, hx2⟩], by simp [e], h2⟩⟩)
    ((hW'.cell (p := ⟨Bp, 0, none⟩) (hSl _ hS)).trans c0) ((hW'.cell (p := ⟨Bp, 3, none⟩) (hSl _ hS)).trans c3) ((hW'.cell (p := ⟨Bp, 4, none⟩) (hSl _ hS)).trans c4) ((hW'.cell (p := ⟨Bp, 5, none⟩) (hSl _ hS)).trans c5) ((hW'.cell (p := ⟨Bp, 6, none⟩) (hSl _ hS)).trans c6) ((hW'.cell (p := ⟨Bp, 2, none⟩) (hSl _ hS)).trans c2) (hG.below hW' (hSl _ hSb)) ⟨[], rfl, h0⟩).mono fun e W2 h => by
    obtain ⟨hv, h⟩ := h
    refine ⟨hv, ?_⟩
    rcases h with ⟨ys, hy, l', e, hj⟩ | ⟨pre, hp, l', e, hj⟩
    · exact .inl ⟨l', by show l'.map (·.1) = _; rw [e, hy], hj⟩
    · exact .inr ⟨l', by show l'.map (·.1) <+: _; rw [e]; exact hp, hj⟩

theorem cellsF_in (v : Value) (w : World) (h : ∃ a b c d e f g, v = .agg #[a, b, c, d, e, f, g]) : Calls Tryd.prog 95 #[v] w fun e w' => e = .returned (.func (.func 147) #[] #[.pointer (some ⟨w.heap.size, 0, none⟩)]) ∧ w' = w.alloc (.cells v.cells 86) := by
  obtain ⟨a, b, c, d, e, f, g, rfl⟩ := h
  go_enter Tryd.func95, Tryd.ntmps95
  go_wp2
  go_ret
  exact ⟨rfl, rfl⟩

/-- What stands while cells are summed up. -/
structure SuI (N : Nat) (w : World) (tv : Nat → Int) (tell : Value) (lo : Nat) (pre : List (CelW N)) (X : World) : Prop where
  tot : Boxed X (w.heap.size + 2) 3 (.int .i64 (sumT tv (pre.map (·.1))))
  tel : Boxed X (w.heap.size + 1) 60 tell
  below : Below w.heap.size w X
  size : lo ≤ X.heap.size
theorem suI_own {N : Nat} {w : World} {tv : Nat → Int} {tell : Value} {lo Bd : Nat} (hB : w.heap.size ≤ Bd) : OwnFrom Bd (SuI N w tv tell lo) := fun s X Y row hs hg hr => by
  have hr' : ∀ r, row = some r → ∃ o : Obj, X.heap[r]? = some o ∧ o.isCells = false := fun r e => (hr r e).2
  exact ⟨boxed_own (β := Unit) _ _ (fun _ => .int .i64 (sumT tv (s.map (·.1)))) () X Y row hs.tot hg hr', boxed_own (β := Unit) _ _ (fun _ => tell) () X Y row hs.tel hg hr', ownFrom_below (β := Unit) (Nat.le_refl _) hB () X Y row hs.below hg hr, Nat.le_trans hs.size hg.size⟩
theorem quad_own {X Y : World} {row : Option Nat} {E : Nat} {a b c d : Int} (h : Quad X E a b c d) (hg : X.grownBy Y row) (hr : ∀ r, row = some r → ∃ o : Obj, X.heap[r]? = some o ∧ o.isCells = false) : Quad Y E a b c d :=
  (hg.block E h.lt (fun e' => by obtain ⟨o, ho, hc⟩ := hr E e'.symm; rw [show X.heap[E]? = _ from h] at ho; cases ho; cases hc)).trans h
theorem suI_step {N : Nat} {w : World} {tv : Nat → Int} {tell : Value} {lo : Nat} {pre : List (CelW N)} {X Y : World} {q : Nat} (hq : q < N) (h : SuI N w tv tell lo pre X) (hb : Below X.heap.size X Y) (s : Int) (hs : s = sumT tv (pre.map (·.1)) + tv q) :
    SuI N w tv tell lo (pre ++ [⟨q, hq⟩]) (Y.setCell ⟨w.heap.size + 2, 0, none⟩ (.int .i64 s)) := by
  have em : (pre ++ [(⟨q, hq⟩ : CelW N)]).map (·.1) = pre.map (·.1) ++ [q] := by simp
  have ht : Boxed Y (w.heap.size + 2) 3 (.int .i64 (sumT tv (pre.map (·.1)))) := (hb.block _ h.tot.lt).trans h.tot
  have x : Ex (fun k => k = w.heap.size + 2) Y (Y.setCell ⟨w.heap.size + 2, 0, none⟩ (.int .i64 s)) := by
    refine Ex.setCell (Ex.refl _ _) ?_ _
    rfl
  refine ⟨?_, ?_, ?_, ?_⟩
  · rw [em, sumT_app, ← hs]
    exact ht.set _
  · exact (x.block _ (Nat.lt_of_lt_of_le h.tel.lt hb.size) (show ¬ (w.heap.size + 1 = w.heap.size + 2) by omega)).trans ((hb.block _ h.tel.lt).trans h.tel)
  · exact (h.below.trans (hb.mono h.below.size)).setCell (p := ⟨w.heap.size + 2, 0, none⟩) (show w.heap.size ≤ w.heap.size + 2 by omega) _
  · have := h.size
    have := hb.size
    simp [World.setCell]
    omega

set_option maxRecDepth 100000 in
set_option maxHeartbeats 16000000 in
theorem fsum_in (W H x0 nx y0 ny b off N cap : Nat) (G : Nat → Nat → Int) (bx yb : Int) (fn : Nat) (cs : Array Value) (tv : Nat → Int) (w : World) (hW : W ≤ 64) (hH : H ≤ 64) (hx : x0 + nx ≤ W) (hy : y0 + ny ≤ H) (hN : N = W * H) (hN1 : N ≤ 1024) (hbx : bx + 1 = ((x0 + nx : Nat) : Int)) (hby : yb + 1 = ((y0 + ny : Nat) : Int))
    (lb : b < w.heap.size) (hG : Grd w b off N G) (hT : Tells w fn cs N G tv) (hbd : ∀ q, q < N → -1000000000 ≤ tv q ∧ tv q ≤ 1000000000) :
    CallsIn Fence.wide 6 Tryd.prog 66 #[.agg #[.int .i64 W, .int .i64 H, .slice (some ⟨b, off, none⟩) N cap, .int .i64 x0, .int .i64 y0, .int .i64 bx, .int .i64 yb], .func (.func fn) #[] cs] w fun e w' => e = .returned (.int .i64 (sumT tv (recN W x0 nx y0 ny))) ∧ Below w.heap.size w w' := by
  have HG := Lib.hid hG
  have HNN := Lib.hid hN
  have HT := Lib.hid hT
  have HBD := Lib.hid hbd
  clear hG hT hbd hN
  have eT := HT.out.1
  refine callsIn_of_wp_marks Tryd.func66 rfl trivial ?_ rfl
  simp only [Tryd.ntmps66, List.size_toArray, List.length_cons, List.length_nil, Nat.reduceAdd, Nat.reduceSub, Array.replicate_succ, Array.replicate_zero, List.push_toArray, List.append_toArray, List.nil_append, List.cons_append]
  gi_wp2_with (refine ⟨trivial, ?_⟩; gi_at_call 95; (with_reducible refine (callsIn_wide.2 (cellsF_in _ _ ⟨_, _, _, _, _, _, _, rfl⟩)).mono ?_); rintro e wD ⟨rfl, rfl⟩)
  have b1 := ((Boxed.new (w.alloc (.cells #[.int .i64 W, .int .i64 H, .slice (some ⟨b, off, none⟩) N cap, .int .i64 x0, .int .i64 y0, .int .i64 bx, .int .i64 yb] 86)) 60 (.func (.func fn) #[] cs)).alloc (.cells #[.int .i64 0] 3)).alloc (.cells #[.int .i64 W, .int .i64 H, .slice (some ⟨b, off, none⟩) N cap, .int .i64 x0, .int .i64 y0, .int .i64 bx, .int .i64 yb] 86)
  have b2 := (Boxed.new ((w.alloc (.cells #[.int .i64 W, .int .i64 H, .slice (some ⟨b, off, none⟩) N cap, .int .i64 x0, .int .i64 y0, .int .i64 bx, .int .i64 yb] 86)).alloc (.cells #[.func (.func fn) #[] cs] 60)) 3 (.int .i64 0)).alloc (.cells #[.int .i64 W, .int .i64 H, .slice (some ⟨b, off, none⟩) N cap, .int .i64 x0, .int .i64 y0, .int .i64 bx, .int .i64 yb] 86)
  simp only [World.size_alloc] at b1 b2
  have qq : ∀ k v, (#[.int .i64 W, .int .i64 H, .slice (some ⟨b, off, none⟩) N cap, .int .i64 x0, .int .i64 y0, .int .i64 bx, .int .i64 yb] : Array Value)[k]? = some v → ((((w.alloc (.cells #[.int .i64 W, .int .i64 H, .slice (some ⟨b, off, none⟩) N cap, .int .i64 x0, .int .i64 y0, .int .i64 bx, .int .i64 yb] 86)).alloc (.cells #[.func (.func fn) #[] cs] 60)).alloc (.cells #[.int .i64 0] 3)).alloc (.cells #[.int .i64 W, .int .i64 H, .slice (some ⟨b, off, none⟩) N cap, .int .i64 x0, .int .i64 y0, .int .i64 bx, .int .i64 yb] 86)).cell? ⟨w.heap.size + 3, k, none⟩ = some v := fun k v h => (World.cell?_alloc_at _ _ _ _ (by simp)).trans h
  have c0 := qq 0 _ rfl
  have c2 := qq 2 _ rfl
  have c3 := qq 3 _ rfl
  have c4 := qq 4 _ rfl
  have c5 := qq 5 _ rfl
  have c6 := qq 6 _ rfl
  have hbW : Below w.heap.size w ((((w.alloc (.cells #[.int .i64 W, .int .i64 H, .slice (some ⟨b, off, none⟩) N cap, .int .i64 x0, .int .i64 y0, .int .i64 bx, .int .i64 yb] 86)).alloc (.cells #[.func (.func fn) #[] cs] 60)).alloc (.cells #[.int .i64 0] 3)).alloc (.cells #[.int .i64 W, .int .i64 H, .slice (some ⟨b, off, none⟩) N cap, .int .i64 x0, .int .i64 y0, .int .i64 bx, .int .i64 yb] 86)) := by (repeat' (first | (with_reducible exact Below.refl _ _) | (with_reducible refine Below.setCell ?_ (by first | omega | (simp; done) | (simp; omega)) _) | (with_reducible refine Below.alloc ?_ (by first | omega | (simp; done) | (simp; omega)) _) | (with_reducible refine Below.drew ?_) | (with_reducible refine below_drewN ?_ _) | (with_reducible refine Below.trans ?_ (Below.mono (by assumption) (by first | omega | (simp; done) | (simp; omega))))))
  have hsz : ((((w.alloc (.cells #[.int .i64 W, .int .i64 H, .slice (some ⟨b, off, none⟩) N cap, .int .i64 x0, .int .i64 y0, .int .i64 bx, .int .i64 yb] 86)).alloc (.cells #[.func (.func fn) #[] cs] 60)).alloc (.cells #[.int .i64 0] 3)).alloc (.cells #[.int .i64 W, .int .i64 H, .slice (some ⟨b, off, none⟩) N cap, .int .i64 x0, .int .i64 y0, .int .i64 bx, .int .i64 yb] 86)).heap.size = w.heap.size + 4 := by simp
  obtain ⟨w4, hw4⟩ : ∃ w4, w4 = (((w.alloc (.cells #[.int .i64 W, .int .i64 H, .slice (some ⟨b, off, none⟩) N cap, .int .i64 x0, .int .i64 y0, .int .i64 bx, .int .i64 yb] 86)).alloc (.cells #[.func (.func fn) #[] cs] 60)).alloc (.cells #[.int .i64 0] 3)).alloc (.cells #[.int .i64 W, .int .i64 H, .slice (some ⟨b, off, none⟩) N cap, .int .i64 x0, .int .i64 y0, .int .i64 bx, .int .i64 yb] 86) := ⟨_, rfl⟩
  rw [← hw4] at b1 b2 c0 c2 c3 c4 c5 c6 hbW hsz ⊢
  clear hw4 qq
  have i0 : SuI N w tv (.func (.func fn) #[] cs) (w.heap.size + 4) [] w4 := ⟨b2, b1, hbW, by omega⟩
  have hcnt : ny * nx ≤ 4096 := Nat.mul_le_mul (show ny ≤ 64 by omega) (show nx ≤ 64 by omega)
  refine wpIn_rangeFunc_ownH (α := CelW N) rfl (by omega) (gf := 147) (lb := #[.pointer (some ⟨w.heap.size + 1 + 1 + 1, 0, none⟩)]) rfl trivial (enters_of Tryd.func147 (by kernel_rfl) rfl)
    (cellsF_stops 5 (by omega) (w.heap.size + 3) W H x0 nx y0 ny b off N cap G bx yb (fun k => k < w.heap.size ∨ k = w.heap.size + 3) (.inr rfl) (.inl lb) w4 (fun k hk => by omega) hW hH hx hy HNN.out hN1 hbx hby c0 c3 c4 c5 c6 c2 (HG.out.below hbW lb))
    (fun h g => KB.trans h g) (kb_put (fun k hk => by omega)) (Below.refl _ _) (fun _ => rfl)
    (SuI N w tv (.func (.func fn) #[] cs) (w.heap.size + 4)) (fun _ _ _ => False) (suI_own (by omega)) (fun _ => ownFrom_pure _ _)
    i0
    (fun x a' X => ∃ Z, w.heap.size + 4 ≤ Z ∧ Quad X Z (G x.1 0) (G x.1 1) (G x.1 2) (G x.1 3) ∧ a' = { tmps := #[.agg #[.int .i64 W, .int .i64 H, .slice (some ⟨b, off, none⟩) N cap, .int .i64 x0, .int .i64 y0, .int .i64 bx, .int .i64 yb], .func (.func fn) #[] cs, .pointer (some ⟨w.heap.size, 0, none⟩), .pointer (some ⟨w.heap.size + 1, 0, none⟩), .int .i64 0, .pointer (some ⟨w.heap.size + 1 + 1, 0, none⟩), .pointer (some ⟨Z, 0, none⟩), .agg #[.int .i64 W, .int .i64 H, .slice (some ⟨b, off, none⟩) N cap, .int .i64 x0, .int .i64 y0, .int .i64 bx, .int .i64 yb], .func (.func 147) #[] #[.pointer (some ⟨w.heap.size + 1 + 1 + 1, 0, none⟩)], .agg #[.int .i64 (G x.1 0), .int .i64 (G x.1 1), .int .i64 (G x.1 2), .int .i64 (G x.1 3)], undef, undef, undef, undef, undef, undef], defers := [] })
    (fun x a' _ X Y row hs hg hr => by
      obtain ⟨Z, h1, h2, h3⟩ := hs
      exact ⟨Z, h1, quad_own h2 hg (fun r e => (hr r e).2), h3⟩)
    ?assign ?body ?done ?stop
  case assign =>
    rintro l pre x X K' hI hK'
    gi_wp2
    have hbZ : Below X.heap.size X (X.alloc (.cells #[.int .i64 (G x.1 0), .int .i64 (G x.1 1), .int .i64 (G x.1 2), .int .i64 (G x.1 3)] 62)) := (Below.refl _ _).alloc (Nat.le_refl _) _
    exact hK' _ _ (keepsFrom_of_below hbZ) (KB.of_below hbZ (fun k hk => by have := hI.size; omega)) ((suI_own (Bd := w4.heap.size) (by omega)).alloc _ hI) ⟨X.heap.size, hI.size, World.alloc_heap_new X _, rfl⟩
  case body =>
    rintro l pre x a' X _ _ hI ⟨Z, lZ, hZ, rfl⟩ hlen
    obtain ⟨q, hq⟩ := x
    dsimp only at hZ ⊢
    have hbX := hI.below
    have hsX := hI.size
    have CL := Lib.hid (fun wx (hb : Below X.heap.size X wx) => HT.out.2 wx q (KB.of_below (hbX.trans (hb.mono hbX.size)) (fun _ h => h)) hq)
    have t0 := hI.tot.cell
    have f0 := hI.tot.frozen
    have lt := hI.tot.lt
    have tl := hI.tel.cell
    have lte := hI.tel.lt
    have z0 := hZ.c0
    have z1 := hZ.c1
    have z2 := hZ.c2
    have z3 := hZ.c3
    have lZX := hZ.lt
    obtain ⟨g0, hg0⟩ : ∃ g, g = G q 0 := ⟨_, rfl⟩
    obtain ⟨g1, hg1⟩ : ∃ g, g = G q 1 := ⟨_, rfl⟩
    obtain ⟨g2, hg2⟩ : ∃ g, g = G q 2 := ⟨_, rfl⟩
    obtain ⟨g3, hg3⟩ : ∃ g, g = G q 3 := ⟨_, rfl⟩
    rw [← hg0] at z0 CL ⊢
    rw [← hg1] at z1 CL ⊢
    rw [← hg2] at z2 CL ⊢
    rw [← hg3] at z3 CL ⊢
    have hbdq := HBD.out q hq
    have hbds := sumT_bd HBD.out pre
    obtain ⟨s, hs⟩ : ∃ s, s = sumT tv (pre.map (·.1)) := ⟨_, rfl⟩
    obtain ⟨v, hv⟩ : ∃ v, v = tv q := ⟨_, rfl⟩
    rw [← hs] at t0 hbds
    rw [← hv] at CL hbdq
    have hsv : IntKind.i64.wrap (s + v) = s + v := IntWalk.i64_in _ ⟨by omega, by omega⟩
    have HSV := Lib.hid (show s + v = sumT tv (pre.map (·.1)) + tv q from by rw [hs, hv])
    have HI := Lib.hid hI
    clear hI hZ hg0 hg1 hg2 hg3 hs hv hbds hbdq b1 b2 c0 c2 c3 c4 c5 c6
    gi_wp2
    refine region_inRound l _ (S := (fun w' => w'.cell? ⟨w.heap.size + 1, 0, none⟩ = some (.func (.func fn) #[] cs) ∧ w'.cell? ⟨Z, 0, none⟩ = some (.int .i64 g0) ∧ w'.cell? ⟨Z, 1, none⟩ = some (.int .i64 g1) ∧ w'.cell? ⟨Z, 2, none⟩ = some (.int .i64 g2) ∧ w'.cell? ⟨Z, 3, none⟩ = some (.int .i64 g3))) (by kernel_rfl) (by kernel_rfl) ?_ (fun hHeld => ?_)
    · ((try dsimp only); (first | (go_split_ands; (try dsimp only); refine ⟨?_, ?_, ?_, ?_, ?_⟩ <;> (first | (with_reducible assumption) | (with_reducible exact keep_cell (by assumption) (by first | omega | (simp; done) | (simp; omega)) (by assumption)) | (with_reducible exact (World.cell?_alloc_past _ _ _ (by show _ < _; omega)).trans (by assumption)) | (with_reducible exact (World.cell?_alloc_past _ _ _ (by show _ < _; omega)).trans ((World.cell?_alloc_past _ _ _ (by show _ < _; omega)).symm.trans (by assumption))) | (simp [go_sem]; with_reducible assumption))) | (simp [go_sem, ↓IntWalk.iteOmega, *]; done)))
    refine wpAnyH_take (i := 1) (v := ?_) rfl (by kernel_rfl) (by kernel_rfl) (by kernel_rfl) (fun _ _ _ h => h) (Or.inl ⟨by rfl, ?_⟩) (by assumption) ?_
    rotate_left
    · (intro w hSw; (try dsimp only at hSw); go_simp; (try with_reducible rfl))
    (try simp only [Act.put, List.setIfInBounds_toArray, List.set_cons_zero, List.set_cons_succ])
    refine wpAnyH_take (i := 2) (v := ?_) rfl (by kernel_rfl) (by kernel_rfl) (by kernel_rfl) (fun _ _ _ h => h) (Or.inl ⟨by rfl, ?_⟩) (by assumption) ?_
    rotate_left
    · (intro w hSw; (try dsimp only at hSw); go_simp; (try with_reducible rfl))
    (try simp only [Act.put, List.setIfInBounds_toArray, List.set_cons_zero, List.set_cons_succ])
    refine wpAnyH_ready (rs := [0, 3]) (by kernel_rfl) (by simp) ?_
    refine AllReadyH.cons rfl (fun K hK => ?_) (AllReadyH.cons rfl (fun K hK => ?_) AllReadyH.nil)
    · go_simp
      refine hK.out _ _ ?_ (fun hHeld => ?_)
      · ((try dsimp only); (first | (go_split_ands; (try dsimp only); refine ⟨?_, ?_, ?_, ?_, ?_⟩ <;> (first | (with_reducible assumption) | (with_reducible exact keep_cell (by assumption) (by first | omega | (simp; done) | (simp; omega)) (by assumption)) | (with_reducible exact (World.cell?_alloc_past _ _ _ (by show _ < _; omega)).trans (by assumption)) | (with_reducible exact (World.cell?_alloc_past _ _ _ (by show _ < _; omega)).trans ((World.cell?_alloc_past _ _ _ (by show _ < _; omega)).symm.trans (by assumption))) | (simp [go_sem]; with_reducible assumption))) | (simp [go_sem, ↓IntWalk.iteOmega, *]; done)))
      clear hK K
      (try simp only [Act.put, List.setIfInBounds_toArray, List.set_cons_zero, List.set_cons_succ])
      refine wpAnyH_ready (rs := [3]) (by kernel_rfl) (by simp) ?_
      refine AllReadyH.cons rfl (fun K hK => ?_) AllReadyH.nil
      go_simp; (refine (CL.out _ (by (repeat' (first | (with_reducible exact Below.refl _ _) | (with_reducible refine Below.setCell ?_ (by first | omega | (simp; done) | (simp; omega)) _) | (with_reducible refine Below.alloc ?_ (by first | omega | (simp; done) | (simp; omega)) _) | (with_reducible refine Below.drew ?_) | (with_reducible refine below_drewN ?_ _) | (with_reducible refine Below.trans ?_ (Below.mono (by assumption) (by first | omega | (simp; done) | (simp; omega)))))))).mono ?_); rintro e w7 ⟨rfl, hb7⟩; obtain ⟨hc7, hf7, hz7⟩ := bcall hb7; (try simp at hc7 hf7 hz7)
      refine hK.out _ _ ?_ (fun hHeld => ?_)
      · ((try dsimp only); (first | (go_split_ands; (try dsimp only); refine ⟨?_, ?_, ?_, ?_, ?_⟩ <;> (first | (with_reducible assumption) | (with_reducible exact keep_cell (by assumption) (by first | omega | (simp; done) | (simp; omega)) (by assumption)) | (with_reducible exact (World.cell?_alloc_past _ _ _ (by show _ < _; omega)).trans (by assumption)) | (with_reducible exact (World.cell?_alloc_past _ _ _ (by show _ < _; omega)).trans ((World.cell?_alloc_past _ _ _ (by show _ < _; omega)).symm.trans (by assumption))) | (simp [go_sem]; with_reducible assumption))) | (simp [go_sem, ↓IntWalk.iteOmega, *]; done)))
      clear hK K
      (try simp only [Act.put, List.setIfInBounds_toArray, List.set_cons_zero, List.set_cons_succ])
      refine wpAnyH_take (i := 4) (v := ?_) rfl (by kernel_rfl) (by kernel_rfl) (by kernel_rfl) (fun _ _ _ h => h) (Or.inl ⟨by rfl, ?_⟩) (by assumption) ?_
      rotate_left
      · (intro w hSw; (try dsimp only at hSw); go_simp; (try with_reducible rfl))
      (try simp only [Act.put, List.setIfInBounds_toArray, List.set_cons_zero, List.set_cons_succ])
      refine wpAnyH_ready (rs := [5]) (by kernel_rfl) (by simp) ?_
      refine AllReadyH.cons rfl (fun K hK => ?_) AllReadyH.nil
      go_simp
      refine hK.out _ _ ?_ (fun hHeld => ?_)
      · ((try dsimp only); (first | (go_split_ands; (try dsimp only); refine ⟨?_, ?_, ?_, ?_, ?_⟩ <;> (first | (with_reducible assumption) | (with_reducible exact keep_cell (by assumption) (by first | omega | (simp; done) | (simp; omega)) (by assumption)) | (with_reducible exact (World.cell?_alloc_past _ _ _ (by show _ < _; omega)).trans (by assumption)) | (with_reducible exact (World.cell?_alloc_past _ _ _ (by show _ < _; omega)).trans ((World.cell?_alloc_past _ _ _ (by show _ < _; omega)).symm.trans (by assumption))) | (simp [go_sem]; with_reducible assumption))) | (simp [go_sem, ↓IntWalk.iteOmega, *]; done)))
      clear hK K
      (try simp only [Act.put, List.setIfInBounds_toArray, List.set_cons_zero, List.set_cons_succ])
      refine wpAnyH_done (by kernel_rfl) ?_ _
      refine OnlyN.normal ?_
      gi_wp2
      have hX7 : Below X.heap.size X w7 := by (repeat' (first | (with_reducible exact Below.refl _ _) | (with_reducible refine Below.setCell ?_ (by first | omega | (simp; done) | (simp; omega)) _) | (with_reducible refine Below.alloc ?_ (by first | omega | (simp; done) | (simp; omega)) _) | (with_reducible refine Below.drew ?_) | (with_reducible refine below_drewN ?_ _) | (with_reducible refine Below.trans ?_ (Below.mono (by assumption) (by first | omega | (simp; done) | (simp; omega))))))
      exact ⟨(keepsFrom_of_below hX7).trans ((KeepsOthers.setCell _ _ _).from _), (KB.of_below hX7 (fun k hk => by omega)).trans (KB.set (fun hk => by omega)), suI_step hq HI.out hX7 _ HSV.out⟩
    · go_simp; (refine (CL.out _ (by (repeat' (first | (with_reducible exact Below.refl _ _) | (with_reducible refine Below.setCell ?_ (by first | omega | (simp; done) | (simp; omega)) _) | (with_reducible refine Below.alloc ?_ (by first | omega | (simp; done) | (simp; omega)) _) | (with_reducible refine Below.drew ?_) | (with_reducible refine below_drewN ?_ _) | (with_reducible refine Below.trans ?_ (Below.mono (by assumption) (by first | omega | (simp; done) | (simp; omega)))))))).mono ?_); rintro e w7 ⟨rfl, hb7⟩; obtain ⟨hc7, hf7, hz7⟩ := bcall hb7; (try simp at hc7 hf7 hz7)
      refine hK.out _ _ ?_ (fun hHeld => ?_)
      · ((try dsimp only); (first | (go_split_ands; (try dsimp only); refine ⟨?_, ?_, ?_, ?_, ?_⟩ <;> (first | (with_reducible assumption) | (with_reducible exact keep_cell (by assumption) (by first | omega | (simp; done) | (simp; omega)) (by assumption)) | (with_reducible exact (World.cell?_alloc_past _ _ _ (by show _ < _; omega)).trans (by assumption)) | (with_reducible exact (World.cell?_alloc_past _ _ _ (by show _ < _; omega)).trans ((World.cell?_alloc_past _ _ _ (by show _ < _; omega)).symm.trans (by assumption))) | (simp [go_sem]; with_reducible assumption))) | (simp [go_sem, ↓IntWalk.iteOmega, *]; done)))
      clear hK K
      (try simp only [Act.put, List.setIfInBounds_toArray, List.set_cons_zero, List.set_cons_succ])
      refine wpAnyH_ready (rs := [0]) (by kernel_rfl) (by simp) ?_
      refine AllReadyH.cons rfl (fun K hK => ?_) AllReadyH.nil
      go_simp
      refine hK.out _ _ ?_ (fun hHeld => ?_)
      · ((try dsimp only); (first | (go_split_ands; (try dsimp only); refine ⟨?_, ?_, ?_, ?_, ?_⟩ <;> (first | (with_reducible assumption) | (with_reducible exact keep_cell (by assumption) (by first | omega | (simp; done) | (simp; omega)) (by assumption)) | (with_reducible exact (World.cell?_alloc_past _ _ _ (by show _ < _; omega)).trans (by assumption)) | (with_reducible exact (World.cell?_alloc_past _ _ _ (by show _ < _; omega)).trans ((World.cell?_alloc_past _ _ _ (by show _ < _; omega)).symm.trans (by assumption))) | (simp [go_sem]; with_reducible assumption))) | (simp [go_sem, ↓IntWalk.iteOmega, *]; done)))
      clear hK K
      (try simp only [Act.put, List.setIfInBounds_toArray, List.set_cons_zero, List.set_cons_succ])
      refine wpAnyH_take (i := 4) (v := ?_) rfl (by kernel_rfl) (by kernel_rfl) (by kernel_rfl) (fun _ _ _ h => h) (Or.inl ⟨by rfl, ?_⟩) (by assumption) ?_
      rotate_left
      · (intro w hSw; (try dsimp only at hSw); go_simp; (try with_reducible rfl))
      (try simp only [Act.put, List.setIfInBounds_toArray, List.set_cons_zero, List.set_cons_succ])
      refine wpAnyH_ready (rs := [5]) (by kernel_rfl) (by simp) ?_
      refine AllReadyH.cons rfl (fun K hK => ?_) AllReadyH.nil
      go_simp
      refine hK.out _ _ ?_ (fun hHeld => ?_)
      · ((try dsimp only); (first | (go_split_ands; (try dsimp only); refine ⟨?_, ?_, ?_, ?_, ?_⟩ <;> (first | (with_reducible assumption) | (with_reducible exact keep_cell (by assumption) (by first | omega | (simp; done) | (simp; omega)) (by assumption)) | (with_reducible exact (World.cell?_alloc_past _ _ _ (by show _ < _; omega)).trans (by assumption)) | (with_reducible exact (World.cell?_alloc_past _ _ _ (by show _ < _; omega)).trans ((World.cell?_alloc_past _ _ _ (by show _ < _; omega)).symm.trans (by assumption))) | (simp [go_sem]; with_reducible assumption))) | (simp [go_sem, ↓IntWalk.iteOmega, *]; done)))
      clear hK K
      (try simp only [Act.put, List.setIfInBounds_toArray, List.set_cons_zero, List.set_cons_succ])
      refine wpAnyH_done (by kernel_rfl) ?_ _
      refine OnlyN.normal ?_
      gi_wp2
      have hX7 : Below X.heap.size X w7 := by (repeat' (first | (with_reducible exact Below.refl _ _) | (with_reducible refine Below.setCell ?_ (by first | omega | (simp; done) | (simp; omega)) _) | (with_reducible refine Below.alloc ?_ (by first | omega | (simp; done) | (simp; omega)) _) | (with_reducible refine Below.drew ?_) | (with_reducible refine below_drewN ?_ _) | (with_reducible refine Below.trans ?_ (Below.mono (by assumption) (by first | omega | (simp; done) | (simp; omega))))))
      exact ⟨(keepsFrom_of_below hX7).trans ((KeepsOthers.setCell _ _ _).from _), (KB.of_below hX7 (fun k hk => by omega)).trans (KB.set (fun hk => by omega)), suI_step hq HI.out hX7 _ HSV.out⟩
  case done =>
    rintro D ys X hD hys hI hK'
    have pc0 := hI.tot.cell
    have lp := hI.tot.lt
    have hy : ys.map (·.1) = recN W x0 nx y0 ny := hys
    rw [hy] at pc0
    have HI := Lib.hid hI
    clear hI hys hy
    gi_wp2
    refine ⟨by simp, .inl ⟨_, _, rfl, run_takeDeferred hK', ?_⟩⟩
    refine ⟨.int .i64 (sumT tv (recN W x0 nx y0 ny)), by simp [results, Tryd.results66, go_sem], rfl, ?_⟩
    exact HI.out.below.trans (belowK_b (w := w) (Nat.le_refl _) _ D _ _ (by omega) hK' rfl rfl)
  case stop =>
    rintro D c pre X _ _ h _
    exact h.elim
end Go.Proofs.YtmdeooflgkjbbaaDoor

/- What is told of a cell; a block: by the program of the fields. -/


namespace Go.Proofs.YtmdeooflgkjbbaaDoor
set_option linter.unusedSimpArgs false
set_option linter.unusedVariables false
open Go.RowKit Go.Shelf
attribute [local go_sem] Oper.semAt_some

set_option maxHeartbeats 1000000 in
theorem massOf_in (a b c d : Int) (w : World) (h : Ok4 a b c d) : Calls Tryd.prog 67 #[.agg #[.int .i64 a, .int .i64 b, .int .i64 c, .int .i64 d]] w fun e w' => e = .returned (.int .i64 (a + b + c + d)) ∧ Below w.heap.size w w' := by
  obtain ⟨h0, h1, h2, h3, h4⟩ := id h
  have s1 : IntKind.i64.wrap (a + b) = a + b := IntWalk.i64_in _ ⟨by omega, by omega⟩
  have s2 : IntKind.i64.wrap (a + b + c) = a + b + c := IntWalk.i64_in _ ⟨by omega, by omega⟩
  have s3 : IntKind.i64.wrap (a + b + c + d) = a + b + c + d := IntWalk.i64_in _ ⟨by omega, by omega⟩
  clear h h0 h1 h2 h3 h4
  go_enter Tryd.func67, Tryd.ntmps67
  go_wp2
  go_ret
  refine ⟨rfl, ?_⟩
  (repeat' (first | (with_reducible exact Below.refl _ _) | (with_reducible refine Below.setCell ?_ (by first | omega | (simp; done) | (simp; omega)) _) | (with_reducible refine Below.alloc ?_ (by first | omega | (simp; done) | (simp; omega)) _) | (with_reducible refine Below.drew ?_) | (with_reducible refine below_drewN ?_ _) | (with_reducible refine Below.trans ?_ (Below.mono (by assumption) (by first | omega | (simp; done) | (simp; omega))))))
set_option maxHeartbeats 1000000 in
theorem eastOf_in (a b c d : Int) (w : World) (h : Ok4 a b c d) : Calls Tryd.prog 70 #[.agg #[.int .i64 a, .int .i64 b, .int .i64 c, .int .i64 d]] w fun e w' => e = .returned (.int .i64 (a - c)) ∧ Below w.heap.size w w' := by
  obtain ⟨h0, h1, h2, h3, h4⟩ := id h
  have s1 : IntKind.i64.wrap (a - c) = a - c := IntWalk.i64_in _ ⟨by omega, by omega⟩
  clear h h0 h1 h2 h3 h4
  go_enter Tryd.func70, Tryd.ntmps70
  go_wp2
  go_ret
  refine ⟨rfl, ?_⟩
  (repeat' (first | (with_reducible exact Below.refl _ _) | (with_reducible refine Below.setCell ?_ (by first | omega | (simp; done) | (simp; omega)) _) | (with_reducible refine Below.alloc ?_ (by first | omega | (simp; done) | (simp; omega)) _) | (with_reducible refine Below.drew ?_) | (with_reducible refine below_drewN ?_ _) | (with_reducible refine Below.trans ?_ (Below.mono (by assumption) (by first | omega | (simp; done) | (simp; omega))))))
set_option maxHeartbeats 1000000 in
theorem northOf_in (a b c d : Int) (w : World) (h : Ok4 a b c d) : Calls Tryd.prog 71 #[.agg #[.int .i64 a, .int .i64 b, .int .i64 c, .int .i64 d]] w fun e w' => e = .returned (.int .i64 (b - d)) ∧ Below w.heap.size w w' := by
  obtain ⟨h0, h1, h2, h3, h4⟩ := id h
  have s1 : IntKind.i64.wrap (b - d) = b - d := IntWalk.i64_in _ ⟨by omega, by omega⟩
  clear h h0 h1 h2 h3 h4
  go_enter Tryd.func71, Tryd.ntmps71
  go_wp2
  go_ret
  refine ⟨rfl, ?_⟩
  (repeat' (first | (with_reducible exact Below.refl _ _) | (with_reducible refine Below.setCell ?_ (by first | omega | (simp; done) | (simp; omega)) _) | (with_reducible refine Below.alloc ?_ (by first | omega | (simp; done) | (simp; omega)) _) | (with_reducible refine Below.drew ?_) | (with_reducible refine below_drewN ?_ _) | (with_reducible refine Below.trans ?_ (Below.mono (by assumption) (by first | omega | (simp; done) | (simp; omega))))))
/-- The mass, the momentum east and north of cells. -/
def msC (G : Nat → Nat → Int) (q : Nat) : Int := G q 0 + G q 1 + G q 2 + G q 3
def eaC (G : Nat → Nat → Int) (q : Nat) : Int := G q 0 - G q 2
def noC (G : Nat → Nat → Int) (q : Nat) : Int := G q 1 - G q 3
theorem tells_mass (w : World) (N : Nat) (G : Nat → Nat → Int) (hO : OkG N G) : Tells w 67 #[] N G (msC G) :=
  ⟨enters_of Tryd.func67 (by kernel_rfl) rfl, fun wx q _ hq => massOf_in _ _ _ _ wx (hO.1 q hq)⟩
theorem tells_east (w : World) (N : Nat) (G : Nat → Nat → Int) (hO : OkG N G) : Tells w 70 #[] N G (eaC G) :=
  ⟨enters_of Tryd.func70 (by kernel_rfl) rfl, fun wx q _ hq => eastOf_in _ _ _ _ wx (hO.1 q hq)⟩
theorem tells_north (w : World) (N : Nat) (G : Nat → Nat → Int) (hO : OkG N G) : Tells w 71 #[] N G (noC G) :=
  ⟨enters_of Tryd.func71 (by kernel_rfl) rfl, fun wx q _ hq => northOf_in _ _ _ _ wx (hO.1 q hq)⟩
theorem tells_bd {N : Nat} {G : Nat → Nat → Int} (hO : OkG N G) : (∀ q, q < N → -1000000000 ≤ msC G q ∧ msC G q ≤ 1000000000) ∧ (∀ q, q < N → -1000000000 ≤ eaC G q ∧ eaC G q ≤ 1000000000) ∧ (∀ q, q < N → -1000000000 ≤ noC G q ∧ noC G q ≤ 1000000000) := by
  refine ⟨fun q hq => ?_, fun q hq => ?_, fun q hq => ?_⟩
  all_goals
    obtain ⟨h0, h1, h2, h3, h4⟩ := hO.1 q hq
    first | unfold msC | unfold eaC | unfold noC
    omega

set_option maxHeartbeats 1000000 in
theorem fIsOn_yes (W H x y : Int) (ao : Option Addr) (n cap : Nat) (w : World) (h : OnG W H x y) : Calls Tryd.prog 131 #[.agg #[.int .i64 W, .int .i64 H, .slice (ao) n cap], .agg #[.int .i64 x, .int .i64 y]] w fun e w' => e = .returned (.bool true) ∧ Below w.heap.size w w' := by
  obtain ⟨⟨h1, h2⟩, h3, h4⟩ := h
  go_enter Tryd.func131, Tryd.ntmps131
  go_wp2
  go_ret
  refine ⟨rfl, ?_⟩
  (repeat' (first | (with_reducible exact Below.refl _ _) | (with_reducible refine Below.setCell ?_ (by first | omega | (simp; done) | (simp; omega)) _) | (with_reducible refine Below.alloc ?_ (by first | omega | (simp; done) | (simp; omega)) _) | (with_reducible refine Below.drew ?_) | (with_reducible refine below_drewN ?_ _) | (with_reducible refine Below.trans ?_ (Below.mono (by assumption) (by first | omega | (simp; done) | (simp; omega))))))
set_option maxHeartbeats 1000000 in
theorem fIsOn_no (W H x y : Int) (ao : Option Addr) (n cap : Nat) (w : World) (h : ¬ OnG W H x y) : Calls Tryd.prog 131 #[.agg #[.int .i64 W, .int .i64 H, .slice (ao) n cap], .agg #[.int .i64 x, .int .i64 y]] w fun e w' => e = .returned (.bool false) ∧ Below w.heap.size w w' := by
  unfold OnG at h
  by_cases h1 : 0 ≤ x
  · by_cases h2 : x < W
    · by_cases h3 : 0 ≤ y
      · have h4 : ¬ y < H := by omega
        clear h
        go_enter Tryd.func131, Tryd.ntmps131
        go_wp2
        go_ret
        refine ⟨by simp [h4], ?_⟩
        (repeat' (first | (with_reducible exact Below.refl _ _) | (with_reducible refine Below.setCell ?_ (by first | omega | (simp; done) | (simp; omega)) _) | (with_reducible refine Below.alloc ?_ (by first | omega | (simp; done) | (simp; omega)) _) | (with_reducible refine Below.drew ?_) | (with_reducible refine below_drewN ?_ _) | (with_reducible refine Below.trans ?_ (Below.mono (by assumption) (by first | omega | (simp; done) | (simp; omega))))))
      · clear h
        go_enter Tryd.func131, Tryd.ntmps131
        go_wp2
        go_ret
        refine ⟨rfl, ?_⟩
        (repeat' (first | (with_reducible exact Below.refl _ _) | (with_reducible refine Below.setCell ?_ (by first | omega | (simp; done) | (simp; omega)) _) | (with_reducible refine Below.alloc ?_ (by first | omega | (simp; done) | (simp; omega)) _) | (with_reducible refine Below.drew ?_) | (with_reducible refine below_drewN ?_ _) | (with_reducible refine Below.trans ?_ (Below.mono (by assumption) (by first | omega | (simp; done) | (simp; omega))))))
    · clear h
      go_enter Tryd.func131, Tryd.ntmps131
      go_wp2
      go_ret
      refine ⟨rfl, ?_⟩
      (repeat' (first | (with_reducible exact Below.refl _ _) | (with_reducible refine Below.setCell ?_ (by first | omega | (simp; done) | (simp; omega)) _) | (with_reducible refine Below.alloc ?_ (by first | omega | (simp; done) | (simp; omega)) _) | (with_reducible refine Below.drew ?_) | (with_reducible refine below_drewN ?_ _) | (with_reducible refine Below.trans ?_ (Below.mono (by assumption) (by first | omega | (simp; done) | (simp; omega))))))
  · clear h
    go_enter Tryd.func131, Tryd.ntmps131
    go_wp2
    go_ret
    refine ⟨rfl, ?_⟩
    (repeat' (first | (with_reducible exact Below.refl _ _) | (with_reducible refine Below.setCell ?_ (by first | omega | (simp; done) | (simp; omega)) _) | (with_reducible refine Below.alloc ?_ (by first | omega | (simp; done) | (simp; omega)) _) | (with_reducible refine Below.drew ?_) | (with_reducible refine below_drewN ?_ _) | (with_reducible refine Below.trans ?_ (Below.mono (by assumption) (by first | omega | (simp; done) | (simp; omega))))))
/-- The corners of a block. -/
def BlkOk (W H ax ay bx yb : Int) : Prop := (OnG W H ax ay ∧ OnG W H bx yb) ∧ ax ≤ bx ∧ ay ≤ yb

set_option maxRecDepth 100000 in
set_option maxHeartbeats 4000000 in
theorem newBlock_ok (W H : Int) (ao : Option Addr) (n cap : Nat) (G : Nat → Nat → Int) (ax ay bx yb : Int) (w : World) (hv : VG W H n G) (hG : CellsIn w ao n G) (h : BlkOk W H ax ay bx yb) :
    Calls Tryd.prog 61 #[.agg #[.int .i64 W, .int .i64 H, .slice (ao) n cap], .agg #[.int .i64 ax, .int .i64 ay], .agg #[.int .i64 bx, .int .i64 yb]] w fun e w' => e = .returned (.tuple #[.agg #[.int .i64 W, .int .i64 H, .slice ao n cap, .int .i64 ax, .int .i64 ay, .int .i64 bx, .int .i64 yb], .int .i64 0]) ∧ Below w.heap.size w w' := by
  obtain ⟨⟨h0, h1⟩, h2, h3⟩ := h
  have HV := Lib.hid hv
  have HC := Lib.hid hG
  have H0 := Lib.hid h0
  have H1 := Lib.hid h1
  clear hv hG h0 h1
  go_enter Tryd.func61, Tryd.ntmps61
  go_wp2_with (first | (go_at_call 89; (with_reducible refine (gValid_ok W H ao n cap G _ HV.out (HC.out.below (by (repeat' (first | (with_reducible exact Below.refl _ _) | (with_reducible refine Below.setCell ?_ (by first | omega | (simp; done) | (simp; omega)) _) | (with_reducible refine Below.alloc ?_ (by first | omega | (simp; done) | (simp; omega)) _) | (with_reducible refine Below.drew ?_) | (with_reducible refine below_drewN ?_ _) | (with_reducible refine Below.trans ?_ (Below.mono (by assumption) (by first | omega | (simp; done) | (simp; omega))))))))).mono ?_); rintro e w1 ⟨rfl, hb⟩; obtain ⟨hc, hf, hz⟩ := bcall hb; (try simp at hc hf hz)) | (go_at_call 131; (with_reducible refine (fIsOn_yes W H ax ay ao n cap _ H0.out).mono ?_); rintro e w1 ⟨rfl, hb⟩; obtain ⟨hc, hf, hz⟩ := bcall hb; (try simp at hc hf hz)) | (go_at_call 131; (with_reducible refine (fIsOn_yes W H bx yb ao n cap _ H1.out).mono ?_); rintro e w1 ⟨rfl, hb⟩; obtain ⟨hc, hf, hz⟩ := bcall hb; (try simp at hc hf hz)))
  refine bodyPost_ret (v := .tuple #[.agg #[.int .i64 W, .int .i64 H, .slice ao n cap, .int .i64 ax, .int .i64 ay, .int .i64 bx, .int .i64 yb], .int .i64 0]) (by simp [results, Tryd.results61, go_sem, ↓IntWalk.iteOmega, *]) rfl ⟨rfl, ?_⟩
  (repeat' (first | (with_reducible exact Below.refl _ _) | (with_reducible refine Below.setCell ?_ (by first | omega | (simp; done) | (simp; omega)) _) | (with_reducible refine Below.alloc ?_ (by first | omega | (simp; done) | (simp; omega)) _) | (with_reducible refine Below.drew ?_) | (with_reducible refine below_drewN ?_ _) | (with_reducible refine Below.trans ?_ (Below.mono (by assumption) (by first | omega | (simp; done) | (simp; omega))))))
set_option maxRecDepth 100000 in
set_option maxHeartbeats 4000000 in
theorem newBlock_bad (W H : Int) (ao : Option Addr) (n cap : Nat) (G : Nat → Nat → Int) (ax ay bx yb : Int) (w : World) (hv : ¬ VG W H n G) (hG : CellsIn w ao n G) :
    Calls Tryd.prog 61 #[.agg #[.int .i64 W, .int .i64 H, .slice (ao) n cap], .agg #[.int .i64 ax, .int .i64 ay], .agg #[.int .i64 bx, .int .i64 yb]] w fun e w' => e = .returned (.tuple #[.agg #[.int .i64 0, .int .i64 0, .slice none 0 0, .int .i64 0, .int .i64 0, .int .i64 0, .int .i64 0], .int .i64 1]) ∧ Below w.heap.size w w' := by
  have HV := Lib.hid hv
  have HC := Lib.hid hG
  clear hv hG
  go_enter Tryd.func61, Tryd.ntmps61
  go_wp2_with (go_at_call 89; (with_reducible refine (gValid_bad W H ao n cap G _ HV.out (HC.out.below (by (repeat' (first | (with_reducible exact Below.refl _ _) | (with_reducible refine Below.setCell ?_ (by first | omega | (simp; done) | (simp; omega)) _) | (with_reducible refine Below.alloc ?_ (by first | omega | (simp; done) | (simp; omega)) _) | (with_reducible refine Below.drew ?_) | (with_reducible refine below_drewN ?_ _) | (with_reducible refine Below.trans ?_ (Below.mono (by assumption) (by first | omega | (simp; done) | (simp; omega))))))))).mono ?_); rintro e w1 ⟨rfl, hb⟩; obtain ⟨hc, hf, hz⟩ := bcall hb; (try simp at hc hf hz))
  refine bodyPost_ret (v := .tuple #[.agg #[.int .i64 0, .int .i64 0, .slice none 0 0, .int .i64 0, .int .i64 0, .int .i64 0, .int .i64 0], .int .i64 1]) (by simp [results, Tryd.results61, go_sem, ↓IntWalk.iteOmega, *]) rfl ⟨rfl, ?_⟩
  (repeat' (first | (with_reducible exact Below.refl _ _) | (with_reducible refine Below.setCell ?_ (by first | omega | (simp; done) | (simp; omega)) _) | (with_reducible refine Below.alloc ?_ (by first | omega | (simp; done) | (simp; omega)) _) | (with_reducible refine Below.drew ?_) | (with_reducible refine below_drewN ?_ _) | (with_reducible refine Below.trans ?_ (Below.mono (by assumption) (by first | omega | (simp; done) | (simp; omega))))))
set_option maxRecDepth 100000 in
set_option maxHeartbeats 4000000 in
theorem newBlock_rng (W H : Int) (ao : Option Addr) (n cap : Nat) (G : Nat → Nat → Int) (ax ay bx yb : Int) (w : World) (hv : VG W H n G) (hG : CellsIn w ao n G) (h : ¬ BlkOk W H ax ay bx yb) :
    Calls Tryd.prog 61 #[.agg #[.int .i64 W, .int .i64 H, .slice (ao) n cap], .agg #[.int .i64 ax, .int .i64 ay], .agg #[.int .i64 bx, .int .i64 yb]] w fun e w' => e = .returned (.tuple #[.agg #[.int .i64 0, .int .i64 0, .slice none 0 0, .int .i64 0, .int .i64 0, .int .i64 0, .int .i64 0], .int .i64 7]) ∧ Below w.heap.size w w' := by
  have HV := Lib.hid hv
  have HC := Lib.hid hG
  clear hv hG
  unfold BlkOk at h
  by_cases h0 : OnG W H ax ay
  · by_cases h1 : OnG W H bx yb
    · have H0 := Lib.hid h0
      have H1 := Lib.hid h1
      have h2 : bx < ax ∨ (ax ≤ bx ∧ yb < ay) := by
        by_cases h3 : ax ≤ bx
        · by_cases h4 : ay ≤ yb
          · exact absurd ⟨⟨h0, h1⟩, h3, h4⟩ h
          · exact .inr ⟨h3, by omega⟩
        · exact .inl (by omega)
      clear h h0 h1
      rcases h2 with h2 | ⟨h2, h3⟩
      all_goals
        go_enter Tryd.func61, Tryd.ntmps61
        go_wp2_with (first | (go_at_call 89; (with_reducible refine (gValid_ok W H ao n cap G _ HV.out (HC.out.below (by (repeat' (first | (with_reducible exact Below.refl _ _) | (with_reducible refine Below.setCell ?_ (by first | omega | (simp; done) | (simp; omega)) _) | (with_reducible refine Below.alloc ?_ (by first | omega | (simp; done) | (simp; omega)) _) | (with_reducible refine Below.drew ?_) | (with_reducible refine below_drewN ?_ _) | (with_reducible refine Below.trans ?_ (Below.mono (by assumption) (by first | omega | (simp; done) | (simp; omega))))))))).mono ?_); rintro e w1 ⟨rfl, hb⟩; obtain ⟨hc, hf, hz⟩ := bcall hb; (try simp at hc hf hz)) | (go_at_call 131; (with_reducible refine (fIsOn_yes W H ax ay ao n cap _ H0.out).mono ?_); rintro e w1 ⟨rfl, hb⟩; obtain ⟨hc, hf, hz⟩ := bcall hb; (try simp at hc hf hz)) | (go_at_call 131; (with_reducible refine (fIsOn_yes W H bx yb ao n cap _ H1.out).mono ?_); rintro e w1 ⟨rfl, hb⟩; obtain ⟨hc, hf, hz⟩ := bcall hb; (try simp at hc hf hz)))
        refine bodyPost_ret (v := .tuple #[.agg #[.int .i64 0, .int .i64 0, .slice none 0 0, .int .i64 0, .int .i64 0, .int .i64 0, .int .i64 0], .int .i64 7]) (by simp [results, Tryd.results61, go_sem, ↓IntWalk.iteOmega, *]) rfl ⟨rfl, ?_⟩
        (repeat' (first | (with_reducible exact Below.refl _ _) | (with_reducible refine Below.setCell ?_ (by first | omega | (simp; done) | (simp; omega)) _) | (with_reducible refine Below.alloc ?_ (by first | omega | (simp; done) | (simp; omega)) _) | (with_reducible refine Below.drew ?_) | (with_reducible refine below_drewN ?_ _) | (with_reducible refine Below.trans ?_ (Below.mono (by assumption) (by first | omega | (simp; done) | (simp; omega))))))
    · have H0 := Lib.hid h0
      have H1 := Lib.hid h1
      clear h h0 h1
      go_enter Tryd.func61, Tryd.ntmps61
      go_wp2_with (first | (go_at_call 89; (with_reducible refine (gValid_ok W H ao n cap G _ HV.out (HC.out.below (by (repeat' (first | (with_reducible exact Below.refl _ _) | (with_reducible refine Below.setCell ?_ (by first | omega | (simp; done) | (simp; omega)) _) | (with_reducible refine Below.alloc ?_ (by first | omega | (simp; done) | (simp; omega)) _) | (with_reducible refine Below.drew ?_) | (with_reducible refine below_drewN ?_ _) | (with_reducible refine Below.trans ?_ (Below.mono (by assumption) (by first | omega | (simp; done) | (simp; omega))))))))).mono ?_); rintro e w1 ⟨rfl, hb⟩; obtain ⟨hc, hf, hz⟩ := bcall hb; (try simp at hc hf hz)) | (go_at_call 131; (with_reducible refine (fIsOn_yes W H ax ay ao n cap _ H0.out).mono ?_); rintro e w1 ⟨rfl, hb⟩; obtain ⟨hc, hf, hz⟩ := bcall hb; (try simp at hc hf hz)) | (go_at_call 131; (with_reducible refine (fIsOn_no W H bx yb ao n cap _ H1.out).mono ?_); rintro e w1 ⟨rfl, hb⟩; obtain ⟨hc, hf, hz⟩ := bcall hb; (try simp at hc hf hz)))
      refine bodyPost_ret (v := .tuple #[.agg #[.int .i64 0, .int .i64 0, .slice none 0 0, .int .i64 0, .int .i64 0, .int .i64 0, .int .i64 0], .int .i64 7]) (by simp [results, Tryd.results61, go_sem, ↓IntWalk.iteOmega, *]) rfl ⟨rfl, ?_⟩
      (repeat' (first | (with_reducible exact Below.refl _ _) | (with_reducible refine Below.setCell ?_ (by first | omega | (simp; done) | (simp; omega)) _) | (with_reducible refine Below.alloc ?_ (by first | omega | (simp; done) | (simp; omega)) _) | (with_reducible refine Below.drew ?_) | (with_reducible refine below_drewN ?_ _) | (with_reducible refine Below.trans ?_ (Below.mono (by assumption) (by first | omega | (simp; done) | (simp; omega))))))
  · have H0 := Lib.hid h0
    clear h h0
    go_enter Tryd.func61, Tryd.ntmps61
    go_wp2_with (first | (go_at_call 89; (with_reducible refine (gValid_ok W H ao n cap G _ HV.out (HC.out.below (by (repeat' (first | (with_reducible exact Below.refl _ _) | (with_reducible refine Below.setCell ?_ (by first | omega | (simp; done) | (simp; omega)) _) | (with_reducible refine Below.alloc ?_ (by first | omega | (simp; done) | (simp; omega)) _) | (with_reducible refine Below.drew ?_) | (with_reducible refine below_drewN ?_ _) | (with_reducible refine Below.trans ?_ (Below.mono (by assumption) (by first | omega | (simp; done) | (simp; omega))))))))).mono ?_); rintro e w1 ⟨rfl, hb⟩; obtain ⟨hc, hf, hz⟩ := bcall hb; (try simp at hc hf hz)) | (go_at_call 131; (with_reducible refine (fIsOn_no W H ax ay ao n cap _ H0.out).mono ?_); rintro e w1 ⟨rfl, hb⟩; obtain ⟨hc, hf, hz⟩ := bcall hb; (try simp at hc hf hz)))
    refine bodyPost_ret (v := .tuple #[.agg #[.int .i64 0, .int .i64 0, .slice none 0 0, .int .i64 0, .int .i64 0, .int .i64 0, .int .i64 0], .int .i64 7]) (by simp [results, Tryd.results61, go_sem, ↓IntWalk.iteOmega, *]) rfl ⟨rfl, ?_⟩
    (repeat' (first | (with_reducible exact Below.refl _ _) | (with_reducible refine Below.setCell ?_ (by first | omega | (simp; done) | (simp; omega)) _) | (with_reducible refine Below.alloc ?_ (by first | omega | (simp; done) | (simp; omega)) _) | (with_reducible refine Below.drew ?_) | (with_reducible refine below_drewN ?_ _) | (with_reducible refine Below.trans ?_ (Below.mono (by assumption) (by first | omega | (simp; done) | (simp; omega))))))
end Go.Proofs.YtmdeooflgkjbbaaDoor
