/- slices.Collect over the cells of a body: by the program. -/
import Derived.Test.YtdbehbeaigfpcaaDoorKSeqW
import Derived.Test.YtdbehbeaigfpcaaDoorKInRound
import Derived.Maps.OwnIn
import Derived.Shelf.SlIterI.Nil
namespace Go.Proofs.YtdbehbeaigfpcaaDoor
set_option linter.unusedSimpArgs false
set_option linter.unusedVariables false
open Go.RowKit Go.Maps Go.Shelf Go.Sort

theorem info_intC : (Tryd.prog.info? 3).map (fun i => (i.zero, i.size, i.bytes)) = some (some (.int .i64 0), 1, 8) := by kernel_rfl

/-- The box holds a row of one's own above it, with what has come. -/
def ColI (N : Nat) (w : World) (pre : List (CelW N)) (X : World) : Prop :=
  ∃ v, Boxed X w.heap.size 25 v ∧ X.ownsRow (w.heap.size + 1) 3 1 v pre.length ((List.map (fun x : CelW N => (x.1 : Int)) pre).map encZ) ∧ Below w.heap.size w X
theorem colI_own {N Bd : Nat} {w : World} (hB : w.heap.size ≤ Bd) : OwnFrom Bd (ColI N w) := fun s X Y row hs hg hr => by
  obtain ⟨v, h1, h2, h3⟩ := hs
  have hr' : ∀ r, row = some r → ∃ o : Obj, X.heap[r]? = some o ∧ o.isCells = false := fun r e => (hr r e).2
  refine ⟨v, boxed_own _ _ (fun (_ : Unit) => v) () X Y row h1 hg hr', h2.kept hg ?_, ownFrom_below (β := Unit) (Nat.le_refl _) hB () X Y row h3 hg hr⟩
  rcases h2.2 with ⟨rfl, _⟩ | ⟨g, cap, cur, rfl, _, hgb, _⟩
  · exact .inl rfl
  · refine .inr fun e' => ?_
    obtain ⟨o, ho, hw⟩ := hr' g (by simpa [Value.ownBlock] using e'.symm)
    rw [hgb] at ho
    cases ho
    cases hw
theorem kb_two {S : Nat → Prop} {w A B : World} (hA : Below w.heap.size w A) (hB : Below w.heap.size w B) (hs : A.heap.size ≤ B.heap.size) (hS : ∀ k, S k → k < w.heap.size) : KB S A B := ⟨hs, fun k hk => (hB.block k (hS k hk)).trans (hA.block k (hS k hk)).symm⟩
theorem row_cells {w : World} {base : Nat} {e : TypeId} {size : Nat} {v : Value} {k : Nat} {xs : List Value} (h : w.ownsRow base e size v k xs) : ∀ (j : Nat) (o : Obj), v.ownBlock = some j → w.heap[j]? = some o → o.isCells = true := fun j o hj ho => by
  rcases h.2 with ⟨rfl, _⟩ | ⟨g, cap, cur, rfl, _, hgb, _⟩
  · cases hj
  · have : g = j := by simpa [Value.ownBlock] using hj
    subst this
    rw [hgb] at ho
    cases ho
    rfl

theorem row_form {w : World} {base : Nat} {e : TypeId} {size : Nat} {v : Value} {k : Nat} {xs : List Value} (h : w.ownsRow base e size v (k + 1) xs) : ∃ g cap, v = .slice (some ⟨g, 0, none⟩) (k + 1) cap := by
  rcases h.2 with ⟨_, h0⟩ | ⟨g, cap, cur, rfl, _⟩
  · omega
  · exact ⟨g, cap, rfl⟩

set_option maxRecDepth 100000 in
set_option maxHeartbeats 8000000 in
theorem appSeq_in (Bw Bb bb ob N cb : Nat) (B : Nat → Int) (b : Int) (w : World) (hN : N ≤ 1024) (lw : Bw < w.heap.size) (lb : Bb < w.heap.size) (lbb : bb < w.heap.size)
    (c1 : w.cell? ⟨Bw, 1, none⟩ = some (.slice (some ⟨bb, ob, none⟩) N cb)) (cB : w.cell? ⟨Bb, 0, none⟩ = some (.int .i64 b)) (hB : NumsAt w bb ob N B) :
    CallsIn Fence.wide 7 Tryd.prog 50 #[.slice none 0 0, .func (.func 51) #[] #[.pointer (some ⟨Bw, 0, none⟩), .pointer (some ⟨Bb, 0, none⟩)]] w fun e w' => ∃ v, e = .returned v ∧ w'.ownsRow w.heap.size 3 1 v (ownN B b N).length ((List.map (fun i : Nat => (i : Int)) (ownN B b N)).map encZ) ∧ Below w.heap.size w w' := by
  obtain ⟨i0, hi, hz0, hz1, hz2⟩ := info_parts info_intC
  have HB := Lib.hid hB; clear hB
  refine callsIn_of_wp_marks Tryd.func50 rfl trivial ?_ rfl
  simp only [Tryd.ntmps50, List.size_toArray, List.length_cons, List.length_nil, Nat.reduceAdd, Nat.reduceSub, Array.replicate_succ, Array.replicate_zero, List.push_toArray, List.append_toArray, List.nil_append, List.cons_append]
  gi_wp2
  have bA := Boxed.new w 25 (.slice none 0 0)
  have hbW : Below w.heap.size w (w.alloc (.cells #[.slice none 0 0] 25)) := (Below.refl _ w).alloc (Nat.le_refl _) _
  have hsz : (w.alloc (.cells #[.slice none 0 0] 25)).heap.size = w.heap.size + 1 := by simp
  obtain ⟨w4, hw4⟩ : ∃ w4, w4 = w.alloc (.cells #[.slice none 0 0] 25) := ⟨_, rfl⟩
  rw [← hw4] at bA hbW hsz ⊢
  have HB4 := Lib.hid (HB.out.below hbW lbb)
  have c14 := (hbW.cell (p := ⟨Bw, 1, none⟩) lw).trans c1
  have cB4 := (hbW.cell (p := ⟨Bb, 0, none⟩) lb).trans cB
  clear hw4
  refine wpIn_rangeFunc_ownH (α := CelW N) rfl (by omega) (gf := 51) (lb := #[.pointer (some ⟨Bw, 0, none⟩), .pointer (some ⟨Bb, 0, none⟩)]) rfl trivial (enters_of Tryd.func51 (by kernel_rfl) rfl)
    (cells_stops 6 (by omega) Bw Bb bb ob N cb B b w4 hN (by omega) (by omega) (by omega) c14 cB4 HB4.out)
    (fun h g => KB.trans h g) (kb_put (fun k hk => by omega)) (Below.refl _ _) (fun _ => rfl)
    (ColI N w) (fun _ _ _ => False) (colI_own (by omega)) (fun _ _ _ _ _ hs _ _ => hs)
    ⟨_, bA, ⟨rfl, .inl ⟨rfl, rfl⟩⟩, hbW⟩
    (fun x a' _ => a' = { tmps := #[.slice none 0 0, .func (.func 51) #[] #[.pointer (some ⟨Bw, 0, none⟩), .pointer (some ⟨Bb, 0, none⟩)], .pointer (some ⟨w.heap.size, 0, none⟩), undef, .slice none 0 0, .int .i64 ((x.1 : Int)), .func (.func 51) #[] #[.pointer (some ⟨Bw, 0, none⟩), .pointer (some ⟨Bb, 0, none⟩)], .int .i64 ((x.1 : Int)), undef, undef, undef, undef, undef], defers := [] })
    (fun _ _ _ _ _ _ hs _ _ => hs)
    ?assign ?body ?done ?stop
  case assign =>
    rintro l pre x X K' hI hK'
    gi_wp2_with gi_round_op_a
    exact hK' _ _ (KeepsFrom.refl _ _) (KB.refl _ _) hI rfl
  case body =>
    rintro l pre x a' X _ _ hI rfl hlen
    obtain ⟨v, hBx, hrow, hbX⟩ := hI
    have lX := hBx.lt
    have cX := hBx.cell
    have hs1 := hbX.size
    have eL : (List.map (fun x : CelW N => (x.1 : Int)) (pre ++ [x])).map encZ = (List.map (fun x : CelW N => (x.1 : Int)) pre).map encZ ++ [.int .i64 ((x.1 : Int))] := by simp [encZ]
    have HBX := Lib.hid hBx
    have HRW := Lib.hid hrow
    have HBW := Lib.hid hbX
    have hfX : X.frozen? ⟨w.heap.size, 0, none⟩ = false := by simp [World.frozen?, show X.heap[w.heap.size]? = _ from hBx]
    clear hBx hrow hbX HB HB4 c14 cB4 c1 cB bA hbW
    have hne : ∀ {Y : World} {u : Value} {k : Nat} {xs : List Value}, Y.ownsRow (w.heap.size + 1) 3 1 u k xs → some w.heap.size ≠ u.ownBlock := fun h e => by
      rcases h.2 with ⟨rfl, _⟩ | ⟨g, cap, cur, rfl, hg, _⟩
      · cases e
      · simp [Value.ownBlock] at e
        omega
    gi_wp2_with (first | (gi_at_builtin; refine wpListIn_append_own _ rfl _ _ 25 rfl (w.heap.size + 1) 3 i0 (.int .i64 0) 1 8 Tryd.underlying25 hi hz0 hz1 hz2 rfl (by decide) _ _ _ rfl (HRW.out.alloc _) ⟨X.heap.size, 0, none⟩ 1 1 [.int .i64 ((x.1 : Int))] rfl rfl (by intro j u hu; match j with | 0 => (simp at hu; subst hu; simp only [Addr.add, Nat.zero_add]; exact (World.cell?_alloc_at _ _ _ _ (by simp)).trans rfl) | _ + 1 => simp at hu) (by intro u hu; simp at hu; subst hu; rfl) (by unfold maxLen; omega) (by omega) (by simp; omega) ?_; intro v' w3 hown' hg3 hnil; clear hnil; obtain ⟨g', cap', rfl⟩ := row_form hown'; have hB3 := ((HBX.out.alloc (.cells #[.int .i64 ((x.1 : Int))] 3)).kept hg3 (hne HRW.out)); have hc3 := hB3.cell; have hf3 : w3.frozen? ⟨w.heap.size, 0, none⟩ = false := by simp [World.frozen?, show w3.heap[w.heap.size]? = _ from hB3]) | gi_round_op_a)
    have hg3' : (X.alloc (.cells #[.int .i64 ((x.1 : Int))] 3)).grownBy w3 v.ownBlock := hg3
    clear hg3
    have hkf : KeepsFrom w4.heap.size X (w3.setCell ⟨w.heap.size, 0, none⟩ (.slice (some ⟨g', 0, none⟩) (pre.length + 1) cap')) := ((KeepsOthers.alloc X _).trans ((KeepsOthers.of_grownBy hg3' (fun j o hj ho => row_cells (HRW.out.alloc _) j o hj ho)).trans (KeepsOthers.setCell _ _ _))).from _
    have hb3 : Below w.heap.size w w3 := (HBW.out.alloc hs1 _).grown hg3' (by simp; omega) (fun k e => by have := (HRW.out.lt k e).1; omega)
    have hb4 : Below w.heap.size w (w3.setCell ⟨w.heap.size, 0, none⟩ (.slice (some ⟨g', 0, none⟩) (pre.length + 1) cap')) := hb3.setCell (p := ⟨w.heap.size, 0, none⟩) (Nat.le_refl _) _
    refine ⟨hkf, kb_two HBW.out hb4 hkf.size (fun k hk => by rcases hk with rfl | rfl | rfl <;> assumption), _, hB3.set _, ?_, hb4⟩
    rw [eL, List.length_append, List.length_singleton]
    exact hown'.kept (grownBy_setCell' w3 w.heap.size _) (.inr fun e => hne hown' e.symm)
  case done =>
    rintro D ys X hD hys hI hK'
    obtain ⟨v, hBx, hrow, hbX⟩ := hI
    have cX := hBx.cell
    have hy : List.map (fun x : CelW N => (x.1 : Int)) ys = List.map (fun i : Nat => (i : Int)) (ownN B b N) := by rw [← show ys.map (·.1) = ownN B b N from hys, List.map_map]; rfl
    have hlen : ys.length = (ownN B b N).length := by rw [← show ys.map (·.1) = ownN B b N from hys, List.length_map]
    rw [hy, hlen] at hrow
    have HRW := Lib.hid hrow
    have HBX := Lib.hid hbX
    clear hBx hrow hbX hy hlen hys HB HB4 c14 cB4 c1 cB bA hbW
    gi_wp2
    refine ⟨by simp, .inl ⟨_, _, rfl, run_takeDeferred hK', ?_⟩⟩
    refine ⟨_, results_tmp rfl _ _ _, v, rfl, ?_, ?_⟩
    · refine ownsRow_base_a (HRW.out.kept (grownBy_putObj' X D (.deferred none)) ?_) (by omega)
      exact .inr fun e => by have := row_cells HRW.out D _ e hK'; cases this
    · exact HBX.out.grown (grownBy_putObj' X D (.deferred none)) HBX.out.size (fun k e => by cases e; omega)
  case stop =>
    rintro D c pre X _ _ h _
    exact h.elim

theorem collect_in (Bw Bb bb ob N cb : Nat) (B : Nat → Int) (b : Int) (w : World) (hN : N ≤ 1024) (lw : Bw < w.heap.size) (lb : Bb < w.heap.size) (lbb : bb < w.heap.size)
    (c1 : w.cell? ⟨Bw, 1, none⟩ = some (.slice (some ⟨bb, ob, none⟩) N cb)) (cB : w.cell? ⟨Bb, 0, none⟩ = some (.int .i64 b)) (hB : NumsAt w bb ob N B) :
    Calls Tryd.prog 31 #[.func (.func 51) #[] #[.pointer (some ⟨Bw, 0, none⟩), .pointer (some ⟨Bb, 0, none⟩)]] w fun e w' => ∃ v, e = .returned v ∧ w'.ownsRow w.heap.size 3 1 v (ownN B b N).length ((List.map (fun i : Nat => (i : Int)) (ownN B b N)).map encZ) ∧ Below w.heap.size w w' := by
  have A := Lib.hid (callsIn_wide.1 (appSeq_in Bw Bb bb ob N cb B b w hN lw lb lbb c1 cB hB))
  clear hB c1 cB
  go_enter Tryd.func31, Tryd.ntmps31
  go_wp2_with fail
  go_at_call 50
  refine A.out.mono ?_
  rintro e w2 ⟨v, rfl, hr, hb⟩
  have HR := Lib.hid hr
  have HB := Lib.hid hb
  clear hr hb
  go_wp2
  go_ret
  exact ⟨v, rfl, HR.out, HB.out⟩

set_option maxRecDepth 100000 in
set_option maxHeartbeats 4000000 in
theorem wcells_in (W H : Int) (ao : Option Addr) (n cap : Nat) (ak : Option Addr) (nk ck bb ob cb : Nat) (B : Nat → Int) (body : Int) (w : World) (hn : n ≤ 1024) (lbb : bb < w.heap.size) (hB : NumsAt w bb ob n B)
    (CB : ∀ wx, Below w.heap.size w wx → Calls Tryd.prog 19 #[.agg #[.int .i64 W, .int .i64 H, .slice (ao) n cap], .agg #[.slice (ak) nk ck, .slice (some ⟨bb, ob, none⟩) n cb], .int .i64 body] wx fun e w' => e = .returned (.int .i64 0) ∧ Below wx.heap.size wx w') :
    Calls Tryd.prog 12 #[.agg #[.int .i64 W, .int .i64 H, .slice (ao) n cap], .agg #[.slice (ak) nk ck, .slice (some ⟨bb, ob, none⟩) n cb], .int .i64 body] w fun e w' => ∃ v, e = .returned (.tuple #[v, .int .i64 0]) ∧ w'.ownsRow w.heap.size 3 1 v (ownN B body n).length ((List.map (fun i : Nat => (i : Int)) (ownN B body n)).map encZ) ∧ Below w.heap.size w w' := by
  have CB := Lib.hid CB
  have HB := Lib.hid hB
  clear hB
  go_enter Tryd.func12, Tryd.ntmps12
  go_wp2_with (go_at_call 19; (with_reducible refine (CB.out _ (by (repeat' (first | (with_reducible exact Below.refl _ _) | (with_reducible refine Below.setCell ?_ (by first | omega | (simp; done) | (simp; omega)) _) | (with_reducible refine Below.alloc ?_ (by first | omega | (simp; done) | (simp; omega)) _) | (with_reducible refine Below.drew ?_) | (with_reducible refine below_drewN ?_ _) | (with_reducible refine Below.trans ?_ (Below.mono (by assumption) (by first | omega | (simp; done) | (simp; omega)))))))).mono ?_); rintro e w1 ⟨rfl, hb⟩; obtain ⟨hc, hf, hz⟩ := bcall hb; (try simp at hc hf hz))
  have hbw := Lib.hid (show Below w.heap.size w w1 from by (repeat' (first | (with_reducible exact Below.refl _ _) | (with_reducible refine Below.setCell ?_ (by first | omega | (simp; done) | (simp; omega)) _) | (with_reducible refine Below.alloc ?_ (by first | omega | (simp; done) | (simp; omega)) _) | (with_reducible refine Below.drew ?_) | (with_reducible refine below_drewN ?_ _) | (with_reducible refine Below.trans ?_ (Below.mono (by assumption) (by first | omega | (simp; done) | (simp; omega)))))))
  clear hc hf hz hb
  go_at_call 32
  refine (callsIn_wide.1 (cellsOf_in 6 _ _ _ _ _ _ _ _)).mono ?_
  rintro e wD ⟨rfl, rfl⟩
  go_wp2_with fail
  have tC := (Two.new w1 27 (.slice ak nk ck) (.slice (some ⟨bb, ob, none⟩) n cb)).alloc (.cells #[.int .i64 body] 3)
  have bC := Boxed.new (w1.alloc (.cells #[.slice ak nk ck, .slice (some ⟨bb, ob, none⟩) n cb] 27)) 3 (.int .i64 body)
  simp only [World.size_alloc] at bC
  have b3 : Below w.heap.size w ((w1.alloc (.cells #[.slice ak nk ck, .slice (some ⟨bb, ob, none⟩) n cb] 27)).alloc (.cells #[.int .i64 body] 3)) := (hbw.out.alloc hbw.out.size _).alloc (by have := hbw.out.size; simp; omega) _
  have hs3 : ((w1.alloc (.cells #[.slice ak nk ck, .slice (some ⟨bb, ob, none⟩) n cb] 27)).alloc (.cells #[.int .i64 body] 3)).heap.size = w1.heap.size + 2 := by simp
  have hs := hbw.out.size
  go_at_call 31
  refine (collect_in w1.heap.size (w1.heap.size + 1) bb ob n cb B body _ hn (by omega) (by omega) (by omega) tC.c1 bC.cell (HB.out.below b3 lbb)).mono ?_
  rintro e w2 ⟨v, rfl, hr, hb⟩
  have HR := Lib.hid (ownsRow_base_a hr (show w.heap.size ≤ _ by omega))
  have HB2 := Lib.hid (b3.trans (hb.mono b3.size))
  clear hr hb b3 tC bC
  go_wp2
  go_ret2
  exact ⟨v, rfl, HR.out, HB2.out⟩
end Go.Proofs.YtdbehbeaigfpcaaDoor
