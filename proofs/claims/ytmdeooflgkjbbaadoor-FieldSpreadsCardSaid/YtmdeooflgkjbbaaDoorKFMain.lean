/- Numbers out of a slice, one after another (slices.Values), and the greatest by what is told of them: by the program of the fields. -/
import Derived.Test.YtmdeooflgkjbbaaDoorKFTell
namespace Go.Proofs.YtmdeooflgkjbbaaDoor
set_option linter.unusedSimpArgs false
set_option linter.unusedVariables false
open Go.RowKit Go.Shelf
attribute [local go_sem] Oper.semAt_some

/-- The numbers below k. -/
def upN : Nat → List Nat
  | 0 => []
  | k + 1 => upN k ++ [k]
theorem upN_len (k : Nat) : (upN k).length = k := by
  induction k with
  | zero => rfl
  | succ k ih => simp [upN, ih]
theorem upN_pre {i j : Nat} (h : i ≤ j) : upN i <+: upN j := by
  induction j with
  | zero =>
    obtain rfl : i = 0 := by omega
    exact List.prefix_refl _
  | succ j ih =>
    by_cases e : i = j + 1
    · subst e; exact List.prefix_refl _
    · exact (ih (by omega)).trans (List.prefix_append _ _)
theorem upN_mem {k i : Nat} (h : i ∈ upN k) : i < k := by
  induction k with
  | zero => simp [upN] at h
  | succ k ih =>
    rcases List.mem_append.1 h with h | h
    · have := ih h; omega
    · obtain rfl := List.mem_singleton.1 h; omega

set_option maxRecDepth 100000 in
set_option maxHeartbeats 8000000 in
theorem vals1_in (n : Nat) (hn : 1 ≤ n) (l Bw bb ob N cb : Nat) (B : Nat → Int) (S : Nat → Prop) (hS1 : S Bw) (hS3 : S bb) (hN : N ≤ 1024)
    (J Jx : List Nat → World → Prop) (w : World)
    (hY : ∀ pre x W1, J pre W1 → pre.length < N → pre ++ [x] <+: upN N → YieldAt Fence.wide (n - 1) Tryd.prog l #[.int .i64 (B x)] W1 fun e W' =>
      (e = .returned (.bool true) ∧ J (pre ++ [x]) W' ∧ KB S W1 W') ∨ (e = .returned (.bool false) ∧ Jx (pre ++ [x]) W'))
    (c1 : w.cell? ⟨Bw, 0, none⟩ = some (.slice (some ⟨bb, ob, none⟩) N cb)) (hB : NumsAt w bb ob N B) (h0 : J [] w) :
    CallsIn Fence.wide n Tryd.prog 204 #[.func (.yield l) #[] #[], .pointer (some ⟨Bw, 0, none⟩)] w fun e W' => (∃ v, e = .returned v) ∧
      ((∃ ys, ys = upN N ∧ J ys W') ∨ (∃ pre, pre <+: upN N ∧ Jx pre W')) := by
  have HB := Lib.hid hB; clear hB
  refine callsIn_of_wp Tryd.func204 rfl trivial ?_ rfl
  simp only [Tryd.ntmps204, List.size_toArray, List.length_cons, List.length_nil, Nat.reduceAdd, Nat.reduceSub, Array.replicate_succ, Array.replicate_zero, List.push_toArray, List.append_toArray, List.nil_append, List.cons_append]
  gi_wp2
  have kb0 : KB S w w := ⟨Nat.le_refl _, fun _ _ => rfl⟩
  gi_loopw [7] (fun i wr => ∃ k : Nat, k ≤ N ∧ i = .int .i64 k ∧ J (upN k) wr ∧ KB S w wr) (fun i _ => N - (intOf i).toNat)
  case atStart => exact ⟨0, Nat.zero_le _, rfl, h0, kb0⟩
  case round =>
    obtain ⟨k, hk, rfl, hJs, hnx⟩ := hrel
    by_cases hlk : k < N
    · have d2 := (hnx.cell hS3).trans (HB.out k hlk)
      have p0 : (0 : Int) ≤ (k : Int) := by omega
      have p1 : (k : Int) < (N : Int) := by omega
      obtain ⟨v, hv⟩ : ∃ v, v = B k := ⟨_, rfl⟩
      have hpre : upN k ++ [k] <+: upN N := upN_pre (i := k + 1) (by omega)
      have hlen : (upN k).length < N := by rw [upN_len]; omega
      obtain ⟨fn, tmps, assign, body, hy, hRd⟩ := hY _ k wr hJs hlen hpre
      rw [← hv] at d2 hy
      clear hv
      have HPRE := Lib.hid hpre; clear hpre
      have hRd := hRd.mono (R' := RoundDone (fun W' => J (upN k ++ [k]) W' ∧ KB S wr W') (Jx (upN k ++ [k]))) (fun _ _ h => roundDone h)
      gi_wp2
      refine hRd.mono ?_
      rintro e W3 ⟨bb, rfl, hh⟩
      rcases hh with ⟨rfl, hJ3, hk3⟩ | ⟨rfl, hx3⟩
      · gi_wp2
        go_roundw
        case rel => exact ⟨k + 1, by omega, by go_num, hJ3, hnx.trans hk3⟩
        case measure => simp [intOf]; omega
      · gi_wp2
        refine bodyPost_ret (results_none rfl _ _ _) rfl ?_
        exact ⟨⟨_, rfl⟩, .inr ⟨_, HPRE.out, hx3⟩⟩
    · obtain rfl : k = N := by omega
      gi_wp2
      go_end0
      exact ⟨⟨_, rfl⟩, .inl ⟨_, rfl, hJs⟩⟩
theorem vals_stops (n : Nat) (hn : 1 ≤ n) (Bw bb ob N cb : Nat) (B : Nat → Int) (S : Nat → Prop) (hS1 : S Bw) (hS3 : S bb) (w : World) (hSl : ∀ k, S k → k < w.heap.size) (hN : N ≤ 1024)
    (c1 : w.cell? ⟨Bw, 0, none⟩ = some (.slice (some ⟨bb, ob, none⟩) N cb)) (hB : NumsAt w bb ob N B) :
    SeqStopsK Fence.wide n Tryd.prog 204 #[.pointer (some ⟨Bw, 0, none⟩)] (fun x : CelW N => #[.int .i64 (B x.1)]) (KB S)
      (fun ys => ys.map (·.1) = upN N) (fun pre => pre.map (·.1) <+: upN N) N w := fun l J Jx W' hW' hJ hJx hY h0 =>
  (vals1_in n hn l Bw bb ob N cb B S hS1 hS3 hN (fun L X => ∃ l' : List (CelW N), l'.map (·.1) = L ∧ J l' X) (fun L X => ∃ l' : List (CelW N), l'.map (·.1) = L ∧ Jx l' X) W'
    (fun pre x W1 hj hlen hpre => by
      obtain ⟨l', e, hj⟩ := hj
      have hx2 : x < N := upN_mem (hpre.subset (by simp))
      obtain ⟨fn, tmps, assign, body, hy, hRd⟩ := hY l' ⟨x, hx2⟩ W1 hj (by rw [← e] at hlen; simpa using hlen)
      refine ⟨fn, tmps, assign, body, hy, hRd.mono fun e2 W2 h => ?_⟩
      rcases h with ⟨h1, h2, h3⟩ | ⟨h1, h2⟩
      · exact .inl ⟨h1, ⟨l' ++ [⟨x, hx2⟩], by simp [e], h2⟩, h3⟩
      · exact .inr ⟨h1, ⟨l' ++ [⟨x, hx2⟩], by simp [e], h2⟩⟩)
    ((hW'.cell (p := ⟨Bw, 0, none⟩) (hSl _ hS1)).trans c1) (fun i hi => (hW'.cell (p := ⟨bb, ob + i, none⟩) (hSl _ hS3)).trans (hB i hi)) ⟨[], rfl, h0⟩).mono fun e W2 h => by
    obtain ⟨hv, h⟩ := h
    refine ⟨hv, ?_⟩
    rcases h with ⟨ys, hy, l', e, hj⟩ | ⟨pre, hp, l', e, hj⟩
    · exact .inl ⟨l', by show l'.map (·.1) = _; rw [e, hy], hj⟩
    · exact .inr ⟨l', by show l'.map (·.1) <+: _; rw [e]; exact hp, hj⟩

/-- The greatest by what is told, of several the first: after one more. -/
def stp (tv : Int → Int) (s : Int × Int × Bool) (x : Int) : Int × Int × Bool := if s.2.2 = true ∧ ¬ s.2.1 < tv x then s else (x, tv x, true)
def bst (tv : Int → Int) (L : List Int) : Int × Int × Bool := L.foldl (stp tv) (0, 0, false)
theorem bst_app (tv : Int → Int) (L : List Int) (x : Int) : bst tv (L ++ [x]) = stp tv (bst tv L) x := by simp [bst, List.foldl_append]
/-- A function value that tells a number of each of the numbers that K says. -/
def TellsI (w : World) (fn : Nat) (cs : Array Value) (K : Int → Prop) (tv : Int → Int) : Prop :=
  (∀ args wx, (callFunc fn args).run Tryd.prog wx = .ok (.enter fn args) wx) ∧
  ∀ wx q, KB (fun k => k < w.heap.size) w wx → K q → Calls Tryd.prog fn (#[.int .i64 q] ++ cs) wx fun e w' => e = .returned (.int .i64 (tv q)) ∧ Below wx.heap.size wx w'
end Go.Proofs.YtmdeooflgkjbbaaDoor

/- The greatest of numbers by what is told of them: by the program of the fields. -/

namespace Go.Proofs.YtmdeooflgkjbbaaDoor
set_option linter.unusedSimpArgs false
set_option linter.unusedVariables false
open Go.RowKit Go.Shelf
attribute [local go_sem] Oper.semAt_some

theorem boxed_other {X : World} {P Q : Nat} {t : TypeId} {v : Value} (h : Boxed X P t v) (hn : P ≠ Q) (u : Value) : Boxed (X.setCell ⟨Q, 0, none⟩ u) P t v :=
  ((Ex.setCell (S := fun k => k = Q) (Ex.refl _ _) rfl u).block _ h.lt hn).trans h
/-- What stands while the greatest is looked for. -/
structure GrI (w : World) (tv : Int → Int) (tell : Value) (L : List Int) (X : World) : Prop where
  tel : Boxed X w.heap.size 118 tell
  bes : Boxed X (w.heap.size + 1) 3 (.int .i64 ((bst tv L).1))
  mos : Boxed X (w.heap.size + 2) 3 (.int .i64 ((bst tv L).2.1))
  kno : Boxed X (w.heap.size + 3) 4 (.bool (bst tv L).2.2)
  below : Below w.heap.size w X
  size : w.heap.size + 4 ≤ X.heap.size
theorem grI_own {w : World} {tv : Int → Int} {tell : Value} {Bd : Nat} (hB : w.heap.size ≤ Bd) {α : Type} (f : α → List Int) : OwnFrom Bd (fun s X => GrI w tv tell (f s) X) := fun s X Y row hs hg hr => by
  have hr' : ∀ r, row = some r → ∃ o : Obj, X.heap[r]? = some o ∧ o.isCells = false := fun r e => (hr r e).2
  exact ⟨boxed_own (β := Unit) _ _ (fun _ => tell) () X Y row hs.tel hg hr', boxed_own (β := Unit) _ _ (fun _ => .int .i64 ((bst tv (f s)).1)) () X Y row hs.bes hg hr', boxed_own (β := Unit) _ _ (fun _ => .int .i64 ((bst tv (f s)).2.1)) () X Y row hs.mos hg hr', boxed_own (β := Unit) _ _ (fun _ => .bool (bst tv (f s)).2.2) () X Y row hs.kno hg hr', ownFrom_below (β := Unit) (Nat.le_refl _) hB () X Y row hs.below hg hr, Nat.le_trans hs.size hg.size⟩
theorem grI_below {w : World} {tv : Int → Int} {tell : Value} {L : List Int} {X Y : World} (h : GrI w tv tell L X) (hb : Below X.heap.size X Y) : GrI w tv tell L Y :=
  ⟨(hb.block _ h.tel.lt).trans h.tel, (hb.block _ h.bes.lt).trans h.bes, (hb.block _ h.mos.lt).trans h.mos, (hb.block _ h.kno.lt).trans h.kno, h.below.trans (hb.mono h.below.size), Nat.le_trans h.size hb.size⟩
theorem grI_same {w : World} {tv : Int → Int} {tell : Value} {L : List Int} {X : World} {x : Int} (h : GrI w tv tell L X) (hk : (bst tv L).2.2 = true) (hm : ¬ (bst tv L).2.1 < tv x) : GrI w tv tell (L ++ [x]) X := by
  have e : bst tv (L ++ [x]) = bst tv L := by rw [bst_app]; unfold stp; rw [if_pos ⟨hk, hm⟩]
  exact ⟨h.tel, by rw [e]; exact h.bes, by rw [e]; exact h.mos, by rw [e]; exact h.kno, h.below, h.size⟩
theorem grI_new {w : World} {tv : Int → Int} {tell : Value} {L : List Int} {X : World} {x : Int} (h : GrI w tv tell L X) (hm : (bst tv L).2.2 = true → (bst tv L).2.1 < tv x) (v : Int) (hv : v = tv x) :
    GrI w tv tell (L ++ [x]) (((X.setCell ⟨w.heap.size + 1, 0, none⟩ (.int .i64 x)).setCell ⟨w.heap.size + 2, 0, none⟩ (.int .i64 v)).setCell ⟨w.heap.size + 3, 0, none⟩ (.bool true)) := by
  subst hv
  have e : bst tv (L ++ [x]) = (x, tv x, true) := by rw [bst_app]; unfold stp; rw [if_neg (fun hh => hh.2 (hm hh.1))]
  refine ⟨boxed_other (boxed_other (boxed_other h.tel (by omega) _) (by omega) _) (by omega) _, ?_, ?_, ?_, ?_, ?_⟩
  · rw [e]; exact boxed_other (boxed_other (h.bes.set _) (by omega) _) (by omega) _
  · rw [e]; exact boxed_other ((boxed_other h.mos (by omega) _).set _) (by omega) _
  · rw [e]; exact (boxed_other (boxed_other h.kno (by omega) _) (by omega) _).set _
  · exact ((h.below.setCell (p := ⟨w.heap.size + 1, 0, none⟩) (show w.heap.size ≤ w.heap.size + 1 by omega) _).setCell (p := ⟨w.heap.size + 2, 0, none⟩) (show w.heap.size ≤ w.heap.size + 2 by omega) _).setCell (p := ⟨w.heap.size + 3, 0, none⟩) (show w.heap.size ≤ w.heap.size + 3 by omega) _
  · have := h.size
    simp [World.setCell]
    omega

set_option maxRecDepth 100000 in
set_option maxHeartbeats 16000000 in
theorem great_in (Bw bb ob N cb : Nat) (B : Nat → Int) (fn : Nat) (cs : Array Value) (K : Int → Prop) (tv : Int → Int) (w : World) (hN : N ≤ 1024) (lw : Bw < w.heap.size) (lb : bb < w.heap.size)
    (c1 : w.cell? ⟨Bw, 0, none⟩ = some (.slice (some ⟨bb, ob, none⟩) N cb)) (hB : NumsAt w bb ob N B) (hT : TellsI w fn cs K tv) (hK : ∀ i, i < N → K (B i)) :
    CallsIn Fence.wide 6 Tryd.prog 180 #[.func (.func 204) #[] #[.pointer (some ⟨Bw, 0, none⟩)], .func (.func fn) #[] cs] w fun e w' => e = .returned (.int .i64 ((bst tv ((upN N).map B)).1)) ∧ Below w.heap.size w w' := by
  have HB := Lib.hid hB
  have HT := Lib.hid hT
  have HKK := Lib.hid hK
  have eT := hT.1
  clear hB hT hK
  refine callsIn_of_wp_marks Tryd.func180 rfl trivial ?_ rfl
  simp only [Tryd.ntmps180, List.size_toArray, List.length_cons, List.length_nil, Nat.reduceAdd, Nat.reduceSub, Array.replicate_succ, Array.replicate_zero, List.push_toArray, List.append_toArray, List.nil_append, List.cons_append]
  gi_wp2
  have b0 := (((Boxed.new w 118 (.func (.func fn) #[] cs)).alloc (.cells #[.int .i64 0] 3)).alloc (.cells #[.int .i64 0] 3)).alloc (.cells #[.bool false] 4)
  have b1 := ((Boxed.new (w.alloc (.cells #[.func (.func fn) #[] cs] 118)) 3 (.int .i64 0)).alloc (.cells #[.int .i64 0] 3)).alloc (.cells #[.bool false] 4)
  have b2 := (Boxed.new ((w.alloc (.cells #[.func (.func fn) #[] cs] 118)).alloc (.cells #[.int .i64 0] 3)) 3 (.int .i64 0)).alloc (.cells #[.bool false] 4)
  have b3 := Boxed.new (((w.alloc (.cells #[.func (.func fn) #[] cs] 118)).alloc (.cells #[.int .i64 0] 3)).alloc (.cells #[.int .i64 0] 3)) 4 (.bool false)
  simp only [World.size_alloc] at b1 b2 b3
  have hbW : Below w.heap.size w ((((w.alloc (.cells #[.func (.func fn) #[] cs] 118)).alloc (.cells #[.int .i64 0] 3)).alloc (.cells #[.int .i64 0] 3)).alloc (.cells #[.bool false] 4)) := by (repeat' (first | (with_reducible exact Below.refl _ _) | (with_reducible refine Below.setCell ?_ (by first | omega | (simp; done) | (simp; omega)) _) | (with_reducible refine Below.alloc ?_ (by first | omega | (simp; done) | (simp; omega)) _) | (with_reducible refine Below.drew ?_) | (with_reducible refine below_drewN ?_ _) | (with_reducible refine Below.trans ?_ (Below.mono (by assumption) (by first | omega | (simp; done) | (simp; omega))))))
  have hsz : ((((w.alloc (.cells #[.func (.func fn) #[] cs] 118)).alloc (.cells #[.int .i64 0] 3)).alloc (.cells #[.int .i64 0] 3)).alloc (.cells #[.bool false] 4)).heap.size = w.heap.size + 4 := by simp
  obtain ⟨w4, hw4⟩ : ∃ w4, w4 = (((w.alloc (.cells #[.func (.func fn) #[] cs] 118)).alloc (.cells #[.int .i64 0] 3)).alloc (.cells #[.int .i64 0] 3)).alloc (.cells #[.bool false] 4) := ⟨_, rfl⟩
  rw [← hw4] at b0 b1 b2 b3 hbW hsz ⊢
  clear hw4
  have i0 : GrI w tv (.func (.func fn) #[] cs) [] w4 := ⟨b0, b1, b2, b3, hbW, by omega⟩
  refine wpIn_rangeFunc_ownH (α := CelW N) rfl (by omega) (gf := 204) (lb := #[.pointer (some ⟨Bw, 0, none⟩)]) rfl trivial (enters_of Tryd.func204 (by kernel_rfl) rfl)
    (vals_stops 5 (by omega) Bw bb ob N cb B (fun k => k < w.heap.size) lw lb w4 (fun k hk => by omega) hN ((hbW.cell (p := ⟨Bw, 0, none⟩) lw).trans c1) (HB.out.below hbW lb))
    (fun h g => KB.trans h g) (kb_put (fun k hk => by omega)) (Below.refl _ _) (fun _ => rfl)
    (fun pre X => GrI w tv (.func (.func fn) #[] cs) (pre.map (fun x => B x.1)) X) (fun _ _ _ => False) (grI_own (by omega) _) (fun _ => ownFrom_pure _ _)
    i0
    (fun x a' X => a' = { tmps := #[.func (.func 204) #[] #[.pointer (some ⟨Bw, 0, none⟩)], .func (.func fn) #[] cs, undef, .pointer (some ⟨w.heap.size, 0, none⟩), .int .i64 0, .pointer (some ⟨w.heap.size + 1, 0, none⟩), .pointer (some ⟨w.heap.size + 1 + 1, 0, none⟩), .pointer (some ⟨w.heap.size + 1 + 1 + 1, 0, none⟩), .int .i64 (B x.1), undef, .func (.func 204) #[] #[.pointer (some ⟨Bw, 0, none⟩)], .int .i64 (B x.1), undef, undef, undef, undef, undef, undef, undef, undef, undef, undef, undef, undef, undef], defers := [] })
    (fun _ _ _ _ _ _ hs _ _ => hs)
    ?assign ?body ?done ?stop
  case assign =>
    rintro l pre x X K' hI hK'
    gi_wp2
    exact hK' _ _ (KeepsFrom.refl _ _) (KB.refl _ _) hI rfl
  case body =>
    rintro l pre x a' X _ _ hI rfl hlen
    obtain ⟨q, hq⟩ := x
    dsimp only
    have eL : (pre ++ [(⟨q, hq⟩ : CelW N)]).map (fun x => B x.1) = pre.map (fun x => B x.1) ++ [B q] := by simp
    obtain ⟨L, hL⟩ : ∃ L, L = pre.map (fun x => B x.1) := ⟨_, rfl⟩
    have hkq := HKK.out q hq
    obtain ⟨z, hz⟩ : ∃ z, z = B q := ⟨_, rfl⟩
    rw [← hL] at hI eL
    rw [← hz] at hkq eL ⊢
    have EL := Lib.hid eL
    clear eL
    have hbX := hI.below
    have hsX := hI.size
    have CL := Lib.hid (fun wx (hb : Below X.heap.size X wx) => HT.out.2 wx z (KB.of_below (hbX.trans (hb.mono hbX.size)) (fun _ h => h)) hkq)
    obtain ⟨v, hv⟩ : ∃ v, v = tv z := ⟨_, rfl⟩
    rw [← hv] at CL
    have t0 := hI.tel.cell
    have t1 := hI.bes.cell
    have t2 := hI.mos.cell
    have t3 := hI.kno.cell
    have f1 := hI.bes.frozen
    have f2 := hI.mos.frozen
    have f3 := hI.kno.frozen
    have HS := Lib.hid (show GrI w tv (.func (.func fn) #[] cs) L X ∧ v = tv z from ⟨hI, hv⟩)
    obtain ⟨m, hm⟩ : ∃ m, m = (bst tv L).2.1 := ⟨_, rfl⟩
    rw [← hm] at t2
    have lX0 := hI.tel.lt
    clear hI hL hlen hz hkq b0 b1 b2 b3
    by_cases hk : (bst tv L).2.2 = true
    · rw [hk] at t3
      by_cases hlt : m < v
      · have HM := Lib.hid (show (bst tv L).2.2 = true → (bst tv L).2.1 < tv z from fun _ => by rw [← hm, ← HS.out.2]; exact hlt)
        clear hm hv hk
        gi_wp2_with (refine ⟨trivial, ?_⟩; go_must ((refine (callsIn_wide.2 (CL.out _ (by (repeat' (first | (with_reducible exact Below.refl _ _) | (with_reducible refine Below.setCell ?_ (by first | omega | (simp; done) | (simp; omega)) _) | (with_reducible refine Below.alloc ?_ (by first | omega | (simp; done) | (simp; omega)) _) | (with_reducible refine Below.drew ?_) | (with_reducible refine below_drewN ?_ _) | (with_reducible refine Below.trans ?_ (Below.mono (by assumption) (by first | omega | (simp; done) | (simp; omega))))))))).mono ?_); rintro e w7 ⟨rfl, hb7⟩; obtain ⟨hc7, hf7, hz7⟩ := bcall hb7; (try simp at hc7 hf7 hz7)))
        have hX7 : Below X.heap.size X w7 := by (repeat' (first | (with_reducible exact Below.refl _ _) | (with_reducible refine Below.setCell ?_ (by first | omega | (simp; done) | (simp; omega)) _) | (with_reducible refine Below.alloc ?_ (by first | omega | (simp; done) | (simp; omega)) _) | (with_reducible refine Below.drew ?_) | (with_reducible refine below_drewN ?_ _) | (with_reducible refine Below.trans ?_ (Below.mono (by assumption) (by first | omega | (simp; done) | (simp; omega))))))
        refine ⟨(keepsFrom_of_below hX7).trans (((KeepsOthers.setCell _ _ _).trans ((KeepsOthers.setCell _ _ _).trans (KeepsOthers.setCell _ _ _))).from _), (KB.of_below hX7 (fun k hk => by omega)).trans ((KB.set (fun hk => by omega)).trans ((KB.set (fun hk => by omega)).trans (KB.set (fun hk => by omega)))), ?_⟩
        show GrI w tv _ (List.map (fun x : CelW N => B x.val) _) _
        rw [EL.out]
        exact grI_new (grI_below HS.out.1 hX7) HM.out v HS.out.2
      · have HM := Lib.hid (show (bst tv L).2.2 = true ∧ ¬ (bst tv L).2.1 < tv z from ⟨hk, by rw [← hm, ← HS.out.2]; exact hlt⟩)
        clear hm hv hk
        gi_wp2_with (refine ⟨trivial, ?_⟩; go_must ((refine (callsIn_wide.2 (CL.out _ (by (repeat' (first | (with_reducible exact Below.refl _ _) | (with_reducible refine Below.setCell ?_ (by first | omega | (simp; done) | (simp; omega)) _) | (with_reducible refine Below.alloc ?_ (by first | omega | (simp; done) | (simp; omega)) _) | (with_reducible refine Below.drew ?_) | (with_reducible refine below_drewN ?_ _) | (with_reducible refine Below.trans ?_ (Below.mono (by assumption) (by first | omega | (simp; done) | (simp; omega))))))))).mono ?_); rintro e w7 ⟨rfl, hb7⟩; obtain ⟨hc7, hf7, hz7⟩ := bcall hb7; (try simp at hc7 hf7 hz7)))
        have hX7 : Below X.heap.size X w7 := by (repeat' (first | (with_reducible exact Below.refl _ _) | (with_reducible refine Below.setCell ?_ (by first | omega | (simp; done) | (simp; omega)) _) | (with_reducible refine Below.alloc ?_ (by first | omega | (simp; done) | (simp; omega)) _) | (with_reducible refine Below.drew ?_) | (with_reducible refine below_drewN ?_ _) | (with_reducible refine Below.trans ?_ (Below.mono (by assumption) (by first | omega | (simp; done) | (simp; omega))))))
        refine ⟨(keepsFrom_of_below hX7), (KB.of_below hX7 (fun k hk => by omega)), ?_⟩
        show GrI w tv _ (List.map (fun x : CelW N => B x.val) _) _
        rw [EL.out]
        exact grI_same (grI_below HS.out.1 hX7) HM.out.1 (by have := HM.out.2; omega)
    · have HM := Lib.hid (show (bst tv L).2.2 = true → (bst tv L).2.1 < tv z from fun h => absurd h hk)
      have hkf : (bst tv L).2.2 = false := by simpa using hk
      rw [hkf] at t3
      clear hm hv hk hkf
      gi_wp2_with (refine ⟨trivial, ?_⟩; go_must ((refine (callsIn_wide.2 (CL.out _ (by (repeat' (first | (with_reducible exact Below.refl _ _) | (with_reducible refine Below.setCell ?_ (by first | omega | (simp; done) | (simp; omega)) _) | (with_reducible refine Below.alloc ?_ (by first | omega | (simp; done) | (simp; omega)) _) | (with_reducible refine Below.drew ?_) | (with_reducible refine below_drewN ?_ _) | (with_reducible refine Below.trans ?_ (Below.mono (by assumption) (by first | omega | (simp; done) | (simp; omega))))))))).mono ?_); rintro e w7 ⟨rfl, hb7⟩; obtain ⟨hc7, hf7, hz7⟩ := bcall hb7; (try simp at hc7 hf7 hz7)))
      have hX7 : Below X.heap.size X w7 := by (repeat' (first | (with_reducible exact Below.refl _ _) | (with_reducible refine Below.setCell ?_ (by first | omega | (simp; done) | (simp; omega)) _) | (with_reducible refine Below.alloc ?_ (by first | omega | (simp; done) | (simp; omega)) _) | (with_reducible refine Below.drew ?_) | (with_reducible refine below_drewN ?_ _) | (with_reducible refine Below.trans ?_ (Below.mono (by assumption) (by first | omega | (simp; done) | (simp; omega))))))
      refine ⟨(keepsFrom_of_below hX7).trans (((KeepsOthers.setCell _ _ _).trans ((KeepsOthers.setCell _ _ _).trans (KeepsOthers.setCell _ _ _))).from _), (KB.of_below hX7 (fun k hk => by omega)).trans ((KB.set (fun hk => by omega)).trans ((KB.set (fun hk => by omega)).trans (KB.set (fun hk => by omega)))), ?_⟩
      show GrI w tv _ (List.map (fun x : CelW N => B x.val) _) _
      rw [EL.out]
      exact grI_new (grI_below HS.out.1 hX7) HM.out v HS.out.2
  case done =>
    rintro D ys X hD hys hI hK'
    have pc0 := hI.bes.cell
    have lp := hI.bes.lt
    have hy : ys.map (fun x : CelW N => B x.1) = (upN N).map B := by rw [← show ys.map (·.1) = upN N from hys, List.map_map]; rfl
    rw [hy] at pc0
    have HI := Lib.hid hI
    clear hI hys hy
    gi_wp2
    refine ⟨by simp, .inl ⟨_, _, rfl, run_takeDeferred hK', ?_⟩⟩
    refine ⟨.int .i64 ((bst tv ((upN N).map B)).1), by simp [results, Tryd.results180, go_sem], rfl, ?_⟩
    exact HI.out.below.trans (belowK_b (w := w) (Nat.le_refl _) _ D _ _ (by omega) hK' rfl rfl)
  case stop =>
    rintro D c pre X _ _ h _
    exact h.elim
end Go.Proofs.YtmdeooflgkjbbaaDoor

/- A cell's main way: by the program of the fields. -/

namespace Go.Proofs.YtmdeooflgkjbbaaDoor
set_option linter.unusedSimpArgs false
set_option linter.unusedVariables false
open Go.RowKit Go.Shelf
attribute [local go_sem] Oper.semAt_some

theorem values_in (ao : Option Addr) (n cap : Nat) (w : World) : Calls Tryd.prog 179 #[.slice ao n cap] w fun e w' => e = .returned (.func (.func 204) #[] #[.pointer (some ⟨w.heap.size, 0, none⟩)]) ∧ w' = w.alloc (.cells #[.slice ao n cap] 40) := by
  go_enter Tryd.func179, Tryd.ntmps179
  go_wp2
  go_ret
  exact ⟨rfl, rfl⟩
/-- The stream of a cell in a direction. -/
def pk4 (a b c d q : Int) : Int := if q = 0 then a else if q = 1 then b else if q = 2 then c else d
set_option maxHeartbeats 1000000 in
theorem mw1_in (a b c d q : Int) (P : Nat) (w : World) (h : Quad w P a b c d) (hq : 0 ≤ q ∧ q < 4) : Calls Tryd.prog 181 #[.int .i64 q, .pointer (some ⟨P, 0, none⟩)] w fun e w' => e = .returned (.int .i64 (pk4 a b c d q)) ∧ Below w.heap.size w w' := by
  have z0 := h.c0
  have z1 := h.c1
  have z2 := h.c2
  have z3 := h.c3
  clear h
  have hh : q = 0 ∨ q = 1 ∨ q = 2 ∨ q = 3 := by omega
  rcases hh with rfl | rfl | rfl | rfl
  all_goals
    clear hq
    go_enter Tryd.func181, Tryd.ntmps181
    go_wp2
    go_ret
    refine ⟨by simp [pk4], ?_⟩
    (repeat' (first | (with_reducible exact Below.refl _ _) | (with_reducible refine Below.setCell ?_ (by first | omega | (simp; done) | (simp; omega)) _) | (with_reducible refine Below.alloc ?_ (by first | omega | (simp; done) | (simp; omega)) _) | (with_reducible refine Below.drew ?_) | (with_reducible refine below_drewN ?_ _) | (with_reducible refine Below.trans ?_ (Below.mono (by assumption) (by first | omega | (simp; done) | (simp; omega))))))
theorem tells_mw (w : World) (a b c d : Int) (P : Nat) (h : Quad w P a b c d) : TellsI w 181 #[.pointer (some ⟨P, 0, none⟩)] (fun q => 0 ≤ q ∧ q < 4) (pk4 a b c d) :=
  ⟨enters_of Tryd.func181 (by kernel_rfl) rfl, fun wx q hb hq => mw1_in a b c d q P wx ((hb.2 P h.lt).trans h) hq⟩
/-- The main way of a cell that is not empty. -/
def mwy (a b c d : Int) : Int := (bst (pk4 a b c d) [0, 1, 2, 3]).1
set_option maxRecDepth 100000 in
set_option maxHeartbeats 4000000 in
theorem mainWay_empty (w : World) : Calls Tryd.prog 149 #[.agg #[.int .i64 0, .int .i64 0, .int .i64 0, .int .i64 0]] w fun e w' => e = .returned (.tuple #[.int .i64 0, .bool false]) ∧ Below w.heap.size w w' := by
  go_enter Tryd.func149, Tryd.ntmps149
  go_wp2
  refine bodyPost_ret (v := .tuple #[.int .i64 0, .bool false]) (by simp [results, Tryd.results149, go_sem, ↓IntWalk.iteOmega, *]) rfl ⟨rfl, ?_⟩
  (repeat' (first | (with_reducible exact Below.refl _ _) | (with_reducible refine Below.setCell ?_ (by first | omega | (simp; done) | (simp; omega)) _) | (with_reducible refine Below.alloc ?_ (by first | omega | (simp; done) | (simp; omega)) _) | (with_reducible refine Below.drew ?_) | (with_reducible refine below_drewN ?_ _) | (with_reducible refine Below.trans ?_ (Below.mono (by assumption) (by first | omega | (simp; done) | (simp; omega))))))
set_option maxRecDepth 100000 in
set_option maxHeartbeats 4000000 in
theorem great4_in (a b c d : Int) (w : World) : Calls Tryd.prog 180 #[.func (.func 204) #[] #[.pointer (some ⟨w.heap.size + 1 + 1, 0, none⟩)], .func (.func 181) #[] #[.pointer (some ⟨w.heap.size, 0, none⟩)]]
    (((w.alloc (.cells #[.int .i64 a, .int .i64 b, .int .i64 c, .int .i64 d] 62)).alloc (.cells #[.int .i64 0, .int .i64 1, .int .i64 2, .int .i64 3] 3)).alloc (.cells #[.slice (some ⟨w.heap.size + 1, 0, none⟩) 4 4] 40)) fun e w' => e = .returned (.int .i64 (mwy a b c d)) ∧ Below (((w.alloc (.cells #[.int .i64 a, .int .i64 b, .int .i64 c, .int .i64 d] 62)).alloc (.cells #[.int .i64 0, .int .i64 1, .int .i64 2, .int .i64 3] 3)).alloc (.cells #[.slice (some ⟨w.heap.size + 1, 0, none⟩) 4 4] 40)).heap.size (((w.alloc (.cells #[.int .i64 a, .int .i64 b, .int .i64 c, .int .i64 d] 62)).alloc (.cells #[.int .i64 0, .int .i64 1, .int .i64 2, .int .i64 3] 3)).alloc (.cells #[.slice (some ⟨w.heap.size + 1, 0, none⟩) 4 4] 40)) w' := by
  have q0 : Quad (((w.alloc (.cells #[.int .i64 a, .int .i64 b, .int .i64 c, .int .i64 d] 62)).alloc (.cells #[.int .i64 0, .int .i64 1, .int .i64 2, .int .i64 3] 3)).alloc (.cells #[.slice (some ⟨w.heap.size + 1, 0, none⟩) 4 4] 40)) w.heap.size a b c d := by
    have h0 : Quad (w.alloc (.cells #[.int .i64 a, .int .i64 b, .int .i64 c, .int .i64 d] 62)) w.heap.size a b c d := World.alloc_heap_new w _
    exact ((Below.heap_alloc _ _ _ (by simp; omega)).trans ((Below.heap_alloc _ _ _ (by simp)).trans h0))
  have n0 : NumsAt (((w.alloc (.cells #[.int .i64 a, .int .i64 b, .int .i64 c, .int .i64 d] 62)).alloc (.cells #[.int .i64 0, .int .i64 1, .int .i64 2, .int .i64 3] 3)).alloc (.cells #[.slice (some ⟨w.heap.size + 1, 0, none⟩) 4 4] 40)) (w.heap.size + 1) 0 4 (fun i => (i : Int)) := fun i hi => by
    refine (World.cell?_alloc_past _ _ _ (by show _ < _; simp)).trans ?_
    refine (World.cell?_alloc_at _ _ _ _ (by simp)).trans ?_
    have : i = 0 ∨ i = 1 ∨ i = 2 ∨ i = 3 := by omega
    rcases this with rfl | rfl | rfl | rfl <;> rfl
  have A := callsIn_wide.1 (great_in (w.heap.size + 1 + 1) (w.heap.size + 1) 0 4 4 (fun i => (i : Int)) 181 #[.pointer (some ⟨w.heap.size, 0, none⟩)] (fun q => 0 ≤ q ∧ q < 4) (pk4 a b c d) (((w.alloc (.cells #[.int .i64 a, .int .i64 b, .int .i64 c, .int .i64 d] 62)).alloc (.cells #[.int .i64 0, .int .i64 1, .int .i64 2, .int .i64 3] 3)).alloc (.cells #[.slice (some ⟨w.heap.size + 1, 0, none⟩) 4 4] 40)) (by omega) (by simp) (by simp) ((World.cell?_alloc_at _ _ _ _ (by simp)).trans rfl) n0 (tells_mw _ a b c d w.heap.size q0) (fun i hi => ⟨by omega, by omega⟩))
  exact A
set_option maxRecDepth 100000 in
set_option maxHeartbeats 4000000 in
theorem mainWay_in (a b c d : Int) (w : World) (h : ¬ (a = 0 ∧ b = 0 ∧ c = 0 ∧ d = 0)) : Calls Tryd.prog 149 #[.agg #[.int .i64 a, .int .i64 b, .int .i64 c, .int .i64 d]] w fun e w' => e = .returned (.tuple #[.int .i64 (mwy a b c d), .bool true]) ∧ Below w.heap.size w w' := by
  have he : (a == 0 && (b == 0 && (c == 0 && d == 0))) = false := by
    by_cases h0 : a = 0
    · by_cases h1 : b = 0
      · by_cases h2 : c = 0
        · by_cases h3 : d = 0
          · exact absurd ⟨h0, h1, h2, h3⟩ h
          · simp [h3]
        · simp [h2]
      · simp [h1]
    · simp [h0]
  go_enter Tryd.func149, Tryd.ntmps149
  go_wp2_with (first | (go_at_call 179; (with_reducible refine (values_in _ _ _ _).mono ?_); rintro e w1 ⟨rfl, rfl⟩) | (go_at_call 180; (with_reducible refine (great4_in a b c d w).mono ?_); rintro e w1 ⟨rfl, hb⟩; obtain ⟨hc, hf, hz⟩ := bcall hb; (try simp at hc hf hz)))
  refine bodyPost_ret (v := .tuple #[.int .i64 (mwy a b c d), .bool true]) (by simp [results, Tryd.results149, go_sem, ↓IntWalk.iteOmega, *]) rfl ⟨rfl, ?_⟩
  (repeat' (first | (with_reducible exact Below.refl _ _) | (with_reducible refine Below.setCell ?_ (by first | omega | (simp; done) | (simp; omega)) _) | (with_reducible refine Below.alloc ?_ (by first | omega | (simp; done) | (simp; omega)) _) | (with_reducible refine Below.drew ?_) | (with_reducible refine below_drewN ?_ _) | (with_reducible refine Below.trans ?_ (Below.mono (by assumption) (by first | omega | (simp; done) | (simp; omega))))))
end Go.Proofs.YtmdeooflgkjbbaaDoor
