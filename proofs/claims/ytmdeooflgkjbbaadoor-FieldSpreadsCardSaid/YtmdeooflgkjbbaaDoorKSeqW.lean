/- How many cells each body has, and whether one has any: by the program. -/
import Derived.Test.YtmdeooflgkjbbaaDoorKTunS
import Derived.Maps.OwnOps
import Derived.Maps.Views
import Derived.Test.YtmdeooflgkjbbaaDoorKRules
namespace Go.Proofs.YtmdeooflgkjbbaaDoor
set_option linter.unusedSimpArgs false
set_option linter.unusedVariables false
open Go.RowKit Go.Maps

/-- How many of the first k cells are of a body. -/
def cntB (B : Nat → Int) (b : Int) : Nat → Nat
  | 0 => 0
  | k + 1 => cntB B b k + if B k = b then 1 else 0
theorem cntB_le (B : Nat → Int) (b : Int) (k : Nat) : cntB B b k ≤ k := by
  induction k with
  | zero => exact Nat.le_refl _
  | succ k ih => simp only [cntB]; split <;> omega
/-- What the map holds after k cells. -/
def CntD (D : DataW Unit) (k : Nat) (B : Nat → Int) : Prop := Tidy D ∧ (∀ b : Int, b ≠ 0 → D.atKey (.int .i64 b) (.lit (.int .i64 0)) = .lit (.int .i64 (cntB B b k))) ∧ (∀ b : Int, Maps.has D (.int .i64 b) = decide (b ≠ 0 ∧ 0 < cntB B b k))
theorem cntD_zero (B : Nat → Int) : CntD (.map []) 0 B := ⟨tidy_empty, fun b _ => rfl, fun b => by simp [cntB, Maps.has]⟩
theorem cntD_skip {D : DataW Unit} {k : Nat} {B : Nat → Int} (h : CntD D k B) (h0 : B k = 0) : CntD D (k + 1) B := by
  refine ⟨h.1, fun b hb => ?_, fun b => ?_⟩
  · have e : cntB B b (k + 1) = cntB B b k := by simp only [cntB]; rw [if_neg (by omega)]; rfl
    rw [e]
    exact h.2.1 b hb
  · rw [h.2.2 b]
    by_cases hb : b = 0
    · simp [hb]
    · have e : cntB B b (k + 1) = cntB B b k := by simp only [cntB]; rw [if_neg (by omega)]; rfl
      rw [e]
theorem cntD_step {D : DataW Unit} {k : Nat} {B : Nat → Int} (h : CntD D k B) (h0 : B k ≠ 0) {c : Int} (hat : D.atKey (.int .i64 (B k)) (.lit (.int .i64 0)) = .lit (.int .i64 c)) {z : Int} (hz : z = c + 1) : CntD (D.put (.int .i64 (B k)) (.lit (.int .i64 z))) (k + 1) B := by
  have hc : c = cntB B (B k) k := by
    have := (h.2.1 (B k) h0).symm.trans hat
    simp at this
    exact this.symm
  have hk : WideAt.IsKeyLit (.int .i64 (B k)) := trivial
  refine ⟨h.1.put hk _, fun b hb => ?_, fun b => ?_⟩
  · by_cases e : b = B k
    · subst e
      rw [atKey_put_same h.1.isMap hk]
      simp [cntB, hz, hc]
    · rw [atKey_put_other (by simpa using e), h.2.1 b hb]
      have e2 : cntB B b (k + 1) = cntB B b k := by simp only [cntB]; rw [if_neg (fun x => e x.symm)]; rfl
      rw [e2]
  · by_cases e : b = B k
    · subst e
      rw [has_put_same h.1.isMap hk]
      simp [cntB, h0]
    · rw [has_put_other (by simpa using e), h.2.2 b]
      have e2 : cntB B b (k + 1) = cntB B b k := by simp only [cntB]; rw [if_neg (fun x => e x.symm)]; rfl
      rw [e2]

theorem lawI : Keyed Tryd.prog 3 := int_keyed Tryd.underlying3
theorem zeroI (w : World) : (zeroValue 3).run Tryd.prog w = .ok (.int .i64 0) w := by kernel_rfl

set_option maxRecDepth 100000 in
set_option maxHeartbeats 4000000 in
theorem wcounts_in (ak : Option Addr) (nk ck bb ob n cb : Nat) (B : Nat → Int) (w : World) (hn : n ≤ 1024) (hb : bb < w.heap.size) (hB : NumsAt w bb ob n B) (hP : ∀ i, i < n → 0 ≤ B i ∧ B i ≤ 9) :
    Calls Tryd.prog 153 #[.agg #[.slice (ak) nk ck, .slice (some ⟨bb, ob, none⟩) n cb]] w fun e w' => ∃ (m : Nat) (D : DataW Unit), e = .returned (.map (some m)) ∧ Hid (w'.ownsMap Tryd.prog 3 (plainElem Tryd.prog 3) m n D ∧ CntD D n B) ∧ w.heap.size ≤ m ∧ Below w.heap.size w w' := by
  have hmm := @run_makeMap Tryd.prog
  have HB := Lib.hid hB; clear hB
  have HP := Lib.hid hP; clear hP
  go_enter Tryd.func153, Tryd.ntmps153
  go_wp2
  have hb0 : Below w.heap.size w ((w.alloc (.cells #[.slice ak nk ck, .slice (some ⟨bb, ob, none⟩) n cb] 64)).alloc (.map #[] 0)) := by (repeat' (first | (with_reducible exact Below.refl _ _) | (with_reducible refine Below.setCell ?_ (by first | omega | (simp; done) | (simp; omega)) _) | (with_reducible refine Below.alloc ?_ (by first | omega | (simp; done) | (simp; omega)) _) | (with_reducible refine Below.drew ?_) | (with_reducible refine below_drewN ?_ _) | (with_reducible refine Below.trans ?_ (Below.mono (by assumption) (by first | omega | (simp; done) | (simp; omega))))))
  have h0 : ((w.alloc (.cells #[.slice ak nk ck, .slice (some ⟨bb, ob, none⟩) n cb] 64)).alloc (.map #[] 0)).ownsMap Tryd.prog 3 (plainElem (H := Unit) Tryd.prog 3) (w.heap.size + 1) 0 (.map []) := by
    have := World.ownsMap_made (w.alloc (.cells #[.slice ak nk ck, .slice (some ⟨bb, ob, none⟩) n cb] 64)) Tryd.prog 3 (plainElem (H := Unit) Tryd.prog 3)
    rw [World.size_alloc] at this
    exact this
  obtain ⟨w2, hw2⟩ : ∃ w2, w2 = (w.alloc (.cells #[.slice ak nk ck, .slice (some ⟨bb, ob, none⟩) n cb] 64)).alloc (.map #[] 0) := ⟨_, rfl⟩
  rw [← hw2] at hb0 h0 ⊢
  have H0 := Lib.hid h0
  have HBB := Lib.hid hb0
  clear hw2 hb0 h0 hmm
  go_loopw [10] (fun i wr => ∃ (k : Nat) (D : DataW Unit), k ≤ n ∧ i = .int .i64 k ∧ wr.ownsMap Tryd.prog 3 (plainElem Tryd.prog 3) (w.heap.size + 1) k D ∧ Hid (CntD D k B) ∧ Below w.heap.size w wr) (fun i _ => n - (intOf i).toNat)
  case atStart => exact ⟨0, _, Nat.zero_le _, rfl, H0.out, Lib.hid (cntD_zero B), HBB.out⟩
  case round =>
    obtain ⟨k, D, hk, rfl, hown, hD, hnx⟩ := hrel
    by_cases hlk : k < n
    · have c0 := (hnx.cell (p := ⟨bb, ob + k, none⟩) hb).trans (HB.out k hlk)
      have hp := HP.out k hlk
      obtain ⟨v, hv⟩ : ∃ v, v = B k := ⟨_, rfl⟩
      rw [← hv] at c0 hp
      have HV := Lib.hid hv
      have hkey : keyOf Tryd.prog 3 (.int .i64 v) = some (.int .i64 v) := keyOf_int_mk Tryd.underlying3 (show (Lit.int .i64 v).wf = true from WalkArith.wf_i64 (by omega))
      by_cases h0 : v = 0
      · have e0 := Lib.hid h0
        subst h0
        clear hv hkey
        go_wp2
        go_roundw
        case rel => exact ⟨k + 1, D, by omega, by go_num, hown.mono (by omega), Lib.hid (cntD_skip hD.out HV.out.symm), hnx⟩
        case measure => simp [intOf]; omega
      · have e1 : (v == 0) = false := beq_eq_false_iff_ne.2 h0
        have e2 : (v != 0) = true := by simp [bne, e1]
        have H0 := Lib.hid h0
        clear hv h0 e1
        go_wp2_with (first | (at_lookup; refine wpList_lookup_own_int _ rfl _ _ 185 rfl 3 3 .i64 lawI Tryd.underlying185 Tryd.underlying3 (zeroI _) (w.heap.size + 1) k _ rfl hown _ _ rfl hkey ?_; intro c hat hwc) | (at_mapUpdate; refine wpList_mapUpdate_own _ rfl _ _ _ 185 rfl 3 3 lawI Tryd.underlying185 _ (w.heap.size + 1) k _ rfl hown (by unfold maxLen; omega) _ _ _ rfl rfl hkey _ [] (plainElem_int Tryd.underlying3 (wrap64_wf _)) ?_; intro w1 hown1 hgrow1))
        go_roundw
        case rel =>
          refine ⟨k + 1, _, by omega, by go_num, hown1, Lib.hid ?_, hnx.grown hgrow1 hnx.size (fun j hj => by cases hj; omega)⟩
          have e := (hD.out.2.1 v H0.out).symm.trans hat
          simp at e
          have := cntB_le B v k
          rw [HV.out] at hat ⊢
          refine cntD_step hD.out (by rw [← HV.out]; exact H0.out) hat ?_
          exact IntWalk.wrap64_in (c + 1) ⟨by omega, by omega⟩
        case measure => simp [intOf]; omega
    · obtain rfl : n = k := by omega
      go_wp2
      go_ret
      exact ⟨_, D, rfl, Lib.hid ⟨hown, hD.out⟩, by omega, hnx⟩

set_option maxRecDepth 100000 in
set_option maxHeartbeats 4000000 in
theorem whas_in (ak : Option Addr) (nk ck bb ob n cb : Nat) (B : Nat → Int) (b : Int) (w : World) (hn : n ≤ 1024) (hb : bb < w.heap.size) (hB : NumsAt w bb ob n B) (hP : ∀ i, i < n → 0 ≤ B i ∧ B i ≤ 9) (hb1 : 1 ≤ b) (hb9 : b ≤ 9) :
    Calls Tryd.prog 102 #[.agg #[.slice (ak) nk ck, .slice (some ⟨bb, ob, none⟩) n cb], .int .i64 b] w fun e w' => e = .returned (.bool (decide (0 < cntB B b n))) ∧ Below w.heap.size w w' := by
  have C := Lib.hid (fun wx (hx : Below w.heap.size w wx) => wcounts_in ak nk ck bb ob n cb B wx hn (Nat.lt_of_lt_of_le hb hx.size) (hB.below hx hb) hP)
  have hkey : keyOf Tryd.prog 3 (.int .i64 b) = some (.int .i64 b) := keyOf_int_mk Tryd.underlying3 (show (Lit.int .i64 b).wf = true from WalkArith.wf_i64 (by omega))
  clear hB hP
  go_enter Tryd.func102, Tryd.ntmps102
  go_wp2_with (first | (go_at_call 153; (with_reducible refine (C.out _ (by (repeat' (first | (with_reducible exact Below.refl _ _) | (with_reducible refine Below.setCell ?_ (by first | omega | (simp; done) | (simp; omega)) _) | (with_reducible refine Below.alloc ?_ (by first | omega | (simp; done) | (simp; omega)) _) | (with_reducible refine Below.drew ?_) | (with_reducible refine below_drewN ?_ _) | (with_reducible refine Below.trans ?_ (Below.mono (by assumption) (by first | omega | (simp; done) | (simp; omega)))))))).mono ?_); rintro e w1 ⟨m, D, rfl, hO, lo, hb1⟩; have hown := hO.out.1; have HD := Lib.hid hO.out.2; clear hO) | (at_lookup; refine wpList_lookup_own_int _ rfl _ _ 185 rfl 3 3 .i64 lawI Tryd.underlying185 Tryd.underlying3 (zeroI _) m n _ rfl hown _ _ rfl hkey ?_; intro c hat hwc))
  go_ret
  have e := (HD.out.2.1 b (by omega)).symm.trans hat
  simp at e
  subst e
  refine ⟨by simp, ?_⟩
  (repeat' (first | (with_reducible exact Below.refl _ _) | (with_reducible refine Below.setCell ?_ (by first | omega | (simp; done) | (simp; omega)) _) | (with_reducible refine Below.alloc ?_ (by first | omega | (simp; done) | (simp; omega)) _) | (with_reducible refine Below.drew ?_) | (with_reducible refine below_drewN ?_ _) | (with_reducible refine Below.trans ?_ (Below.mono (by assumption) (by first | omega | (simp; done) | (simp; omega))))))
end Go.Proofs.YtmdeooflgkjbbaaDoor

/- The cells of a body, one after another: by the program. -/


namespace Go.Proofs.YtmdeooflgkjbbaaDoor
set_option linter.unusedSimpArgs false
set_option linter.unusedVariables false
open Go.RowKit Go.Shelf
attribute [local go_sem] Oper.semAt_some

/-- The cells of a body below k. -/
def ownN (B : Nat → Int) (b : Int) : Nat → List Nat
  | 0 => []
  | k + 1 => if B k = b then ownN B b k ++ [k] else ownN B b k
theorem ownN_pre (B : Nat → Int) (b : Int) {i j : Nat} (h : i ≤ j) : ownN B b i <+: ownN B b j := by
  induction j with
  | zero =>
    obtain rfl : i = 0 := by omega
    exact List.prefix_refl _
  | succ j ih =>
    by_cases e : i = j + 1
    · subst e; exact List.prefix_refl _
    · simp only [ownN]
      split
      · exact (ih (by omega)).trans (List.prefix_append _ _)
      · exact ih (by omega)
theorem ownN_mem {B : Nat → Int} {b : Int} {k i : Nat} (h : i ∈ ownN B b k) : i < k ∧ B i = b := by
  induction k with
  | zero => simp [ownN] at h
  | succ k ih =>
    simp only [ownN] at h
    split at h
    · rcases List.mem_append.1 h with h | h
      · have := ih h
        exact ⟨by omega, this.2⟩
      · obtain rfl := List.mem_singleton.1 h
        exact ⟨by omega, by assumption⟩
    · have := ih h
      exact ⟨by omega, this.2⟩
theorem ownN_len (B : Nat → Int) (b : Int) (k : Nat) : (ownN B b k).length = cntB B b k := by
  induction k with
  | zero => rfl
  | succ k ih =>
    simp only [ownN, cntB]
    split <;> simp [ih]

set_option maxRecDepth 100000 in
set_option maxHeartbeats 8000000 in
theorem cells1_in (n : Nat) (hn : 1 ≤ n) (l Bw Bb bb ob N cb : Nat) (B : Nat → Int) (b : Int) (S : Nat → Prop) (hS1 : S Bw) (hS2 : S Bb) (hS3 : S bb) (hN : N ≤ 1024)
    (J Jx : List Nat → World → Prop) (w : World)
    (hY : ∀ pre x W1, J pre W1 → pre.length < N → pre ++ [x] <+: ownN B b N → YieldAt Fence.wide (n - 1) Tryd.prog l #[.int .i64 (((x : Nat) : Int))] W1 fun e W' =>
      (e = .returned (.bool true) ∧ J (pre ++ [x]) W' ∧ KB S W1 W') ∨ (e = .returned (.bool false) ∧ Jx (pre ++ [x]) W'))
    (c1 : w.cell? ⟨Bw, 1, none⟩ = some (.slice (some ⟨bb, ob, none⟩) N cb)) (cB : w.cell? ⟨Bb, 0, none⟩ = some (.int .i64 b)) (hB : NumsAt w bb ob N B) (h0 : J [] w) :
    CallsIn Fence.wide n Tryd.prog 155 #[.func (.yield l) #[] #[], .pointer (some ⟨Bw, 0, none⟩), .pointer (some ⟨Bb, 0, none⟩)] w fun e W' => (∃ v, e = .returned v) ∧
      ((∃ ys, ys = ownN B b N ∧ J ys W') ∨ (∃ pre, pre <+: ownN B b N ∧ Jx pre W')) := by
  have HB := Lib.hid hB; clear hB
  refine callsIn_of_wp Tryd.func155 rfl trivial ?_ rfl
  simp only [Tryd.ntmps155, List.size_toArray, List.length_cons, List.length_nil, Nat.reduceAdd, Nat.reduceSub, Array.replicate_succ, Array.replicate_zero, List.push_toArray, List.append_toArray, List.nil_append, List.cons_append]
  gi_wp2
  have kb0 : KB S w w := ⟨Nat.le_refl _, fun _ _ => rfl⟩
  gi_loopw [9] (fun i wr => ∃ k : Nat, k ≤ N ∧ i = .int .i64 k ∧ J (ownN B b k) wr ∧ KB S w wr) (fun i _ => N - (intOf i).toNat)
  case atStart => exact ⟨0, Nat.zero_le _, rfl, h0, kb0⟩
  case round =>
    obtain ⟨k, hk, rfl, hJs, hnx⟩ := hrel
    by_cases hlk : k < N
    · have d1 := (hnx.cell hS2).trans cB
      have d2 := (hnx.cell hS3).trans (HB.out k hlk)
      have p0 : (0 : Int) ≤ (k : Int) := by omega
      have p1 : (k : Int) < (N : Int) := by omega
      obtain ⟨v, hv⟩ : ∃ v, v = B k := ⟨_, rfl⟩
      rw [← hv] at d2
      by_cases hb : v = b
      · subst hb
        have HV := Lib.hid hv.symm; clear hv
        have ho : ownN B v (k + 1) = ownN B v k ++ [k] := by simp only [ownN]; rw [if_pos HV.out]
        have hpre : ownN B v k ++ [k] <+: ownN B v N := by rw [← ho]; exact ownN_pre B v (by omega)
        have hlen : (ownN B v k).length < N := by rw [ownN_len]; have := cntB_le B v k; omega
        obtain ⟨fn, tmps, assign, body, hy, hRd⟩ := hY _ k wr hJs hlen hpre
        have HPRE := Lib.hid hpre; clear hpre
        have HO := Lib.hid ho; clear ho
        have hRd := hRd.mono (R' := RoundDone (fun W' => J (ownN B v k ++ [k]) W' ∧ KB S wr W') (Jx (ownN B v k ++ [k]))) (fun _ _ h => roundDone h)
        have ev : ((v : Int) == (v : Int)) = true := by simp
        gi_wp2
        refine hRd.mono ?_
        rintro e W3 ⟨bb, rfl, hh⟩
        rcases hh with ⟨rfl, hJ3, hk3⟩ | ⟨rfl, hx3⟩
        · gi_wp2
          go_roundw
          case rel => exact ⟨k + 1, by omega, by go_num, by rw [HO.out]; exact hJ3, hnx.trans hk3⟩
          case measure => simp [intOf]; omega
        · gi_wp2
          refine bodyPost_ret (results_none rfl _ _ _) rfl ?_
          exact ⟨⟨_, rfl⟩, .inr ⟨_, HPRE.out, hx3⟩⟩
      · have ho : ownN B b (k + 1) = ownN B b k := by simp only [ownN]; rw [if_neg (by rw [← hv]; exact hb)]
        have HO := Lib.hid ho; clear ho
        have ev : (v == b) = false := beq_eq_false_iff_ne.2 hb
        clear hv hb
        gi_wp2
        refine ⟨(fun f hf => nomatch hf), ?_⟩
        gi_wp2
        go_roundw
        case rel => exact ⟨k + 1, by omega, by go_num, by rw [HO.out]; exact hJs, hnx⟩
        case measure => simp [intOf]; omega
    · obtain rfl : k = N := by omega
      gi_wp2
      go_end0
      exact ⟨⟨_, rfl⟩, .inl ⟨_, rfl, hJs⟩⟩

/-- A cell of a grid, by its number. -/
abbrev CelW (N : Nat) := {i : Nat // i < N}
theorem cells_stops (n : Nat) (hn : 1 ≤ n) (Bw Bb bb ob N cb : Nat) (B : Nat → Int) (b : Int) (w : World) (hN : N ≤ 1024) (lw : Bw < w.heap.size) (lb : Bb < w.heap.size) (lbb : bb < w.heap.size)
    (c1 : w.cell? ⟨Bw, 1, none⟩ = some (.slice (some ⟨bb, ob, none⟩) N cb)) (cB : w.cell? ⟨Bb, 0, none⟩ = some (.int .i64 b)) (hB : NumsAt w bb ob N B) :
    SeqStopsK Fence.wide n Tryd.prog 155 #[.pointer (some ⟨Bw, 0, none⟩), .pointer (some ⟨Bb, 0, none⟩)] (fun x : CelW N => #[.int .i64 ((x.1 : Int))]) (KB (fun z => z = Bw ∨ z = Bb ∨ z = bb))
      (fun ys => ys.map (·.1) = ownN B b N) (fun pre => pre.map (·.1) <+: ownN B b N) N w := fun l J Jx W' hW' hJ hJx hY h0 =>
  (cells1_in n hn l Bw Bb bb ob N cb B b (fun z => z = Bw ∨ z = Bb ∨ z = bb) (.inl rfl) (.inr (.inl rfl)) (.inr (.inr rfl)) hN (fun L X => ∃ l' : List (CelW N), l'.map (·.1) = L ∧ J l' X) (fun L X => ∃ l' : List (CelW N), l'.map (·.1) = L ∧ Jx l' X) W'
    (fun pre x W1 hj hlen hpre => by
      obtain ⟨l', e, hj⟩ := hj
      have hx2 : x < N := (ownN_mem (hpre.subset (by simp))).1
      obtain ⟨fn, tmps, assign, body, hy, hRd⟩ := hY l' ⟨x, hx2⟩ W1 hj (by rw [← e] at hlen; simpa using hlen)
      refine ⟨fn, tmps, assign, body, hy, hRd.mono fun e2 W2 h => ?_⟩
      rcases h with ⟨h1, h2, h3⟩ | ⟨h1, h2⟩
      · exact .inl ⟨h1, ⟨l' ++ [⟨x, hx2⟩], by simp [e], h2⟩, h3⟩
      · exact .inr ⟨h1, ⟨l' ++ [⟨x, hx2⟩], by simp [e], h2⟩⟩)
    ((hW'.cell (p := ⟨Bw, 1, none⟩) lw).trans c1) ((hW'.cell (p := ⟨Bb, 0, none⟩) lb).trans cB) (fun i hi => (hW'.cell (p := ⟨bb, ob + i, none⟩) lbb).trans (hB i hi)) ⟨[], rfl, h0⟩).mono fun e W2 h => by
    obtain ⟨hv, h⟩ := h
    refine ⟨hv, ?_⟩
    rcases h with ⟨ys, hy, l', e, hj⟩ | ⟨pre, hp, l', e, hj⟩
    · exact .inl ⟨l', by show l'.map (·.1) = _; rw [e, hy], hj⟩
    · exact .inr ⟨l', by show l'.map (·.1) <+: _; rw [e]; exact hp, hj⟩

theorem cellsOf_in (n : Nat) (ak : Option Addr) (nk ck : Nat) (ab : Option Addr) (nb cb : Nat) (b : Int) (w : World) :
    CallsIn Fence.wide n Tryd.prog 104 #[.agg #[.slice (ak) nk ck, .slice (ab) nb cb], .int .i64 b] w fun e w' => e = .returned (.func (.func 155) #[] #[.pointer (some ⟨w.heap.size, 0, none⟩), .pointer (some ⟨w.heap.size + 1, 0, none⟩)]) ∧
      w' = (w.alloc (.cells #[.slice ak nk ck, .slice ab nb cb] 64)).alloc (.cells #[.int .i64 b] 3) := by
  refine callsIn_of_wp Tryd.func104 rfl trivial ?_ rfl
  simp only [Tryd.ntmps104, List.size_toArray, List.length_cons, List.length_nil, Nat.reduceAdd, Nat.reduceSub, Array.replicate_succ, Array.replicate_zero, List.push_toArray, List.append_toArray, List.nil_append, List.cons_append]
  gi_wp2
  go_ret
  exact ⟨rfl, rfl⟩
end Go.Proofs.YtmdeooflgkjbbaaDoor
