/- The law WallImpulses: both sides as one form, and the walk. -/
import Derived.Test.YtdbehbeaigfpcaaDoorKColIn
import Derived.Test.YtdbehbeaigfpcaaDoorKRefBod
import Derived.Test.YtdbehbeaigfpcaaDoorKRefCel
import Derived.Test.YtdbehbeaigfpcaaDoorKImpB
import Derived.Test.YtdbehbeaigfpcaaDoorKDragB
import Derived.Test.YtdbehbeaigfpcaaDoorKSameN
import Derived.Test.YtdbehbeaigfpcaaDoorKLawStepsW
namespace Go.Proofs.YtdbehbeaigfpcaaDoor
set_option linter.unusedSimpArgs false
set_option linter.unusedVariables false
open Go.RowKit Go.Maps Go.Sort

/-- Numbers in new memory, and an error. -/
def LZ (m : Nat) (L : Nat → Int) (z : Int) (w : World) (e : Ending) (w' : World) : Prop :=
  ∃ (ao : Option Addr) (c : Nat), e = .returned (.tuple #[.slice ao m c, .int .i64 z]) ∧ Hid (NumsIn w' ao m L) ∧ Below w.heap.size w w'
theorem lz_nil {L : Nat → Int} {z : Int} {w : World} {e : Ending} {w' : World} (h : e = .returned (.tuple #[.slice none 0 0, .int .i64 z]) ∧ Below w.heap.size w w') : LZ 0 L z w e w' := ⟨none, 0, h.1, Lib.hid (.inl rfl), h.2⟩
theorem owns_numsZ {w : World} {base : Nat} {v : Value} {L : List Int} (h : w.ownsRow base 3 1 v L.length (L.map encZ)) : ∃ ao cap, v = .slice ao L.length cap ∧ NumsIn w ao L.length (fun j => L.getD j 0) := by
  rcases h.2 with ⟨rfl, hn⟩ | ⟨g, cap, cur, rfl, hg, hgg, hc, hm, hs, ht⟩
  · exact ⟨none, 0, by rw [hn], .inl hn⟩
  · refine ⟨_, cap, rfl, .inr ⟨g, 0, rfl, (Array.getElem?_eq_some_iff.1 hgg).1, fun j hj => ?_⟩⟩
    simp only [World.cell?, hgg]
    have e : (cur.toList.take (L.length * 1))[j]? = (L.map encZ)[j]? := by rw [ht]
    rw [List.getElem?_take, if_pos (by omega)] at e
    rw [Nat.zero_add, ← Array.getElem?_toList, e]
    simp [List.getElem?_map, List.getElem?_eq_getElem hj, List.getD_eq_getElem?_getD, encZ]
theorem lz_own {w wr : World} {base : Nat} {v : Value} {L : List Int} (h : wr.ownsRow base 3 1 v L.length (L.map encZ)) (hb : Below w.heap.size w wr) : LZ L.length (fun j => L.getD j 0) 0 w (.returned (.tuple #[v, .int .i64 0])) wr := by
  obtain ⟨ao, c, rfl, hf⟩ := owns_numsZ h
  exact ⟨ao, c, rfl, Lib.hid hf, hb⟩
theorem ownZ_getD (l : List Nat) (j : Nat) (hj : j < l.length) : (List.map (fun i : Nat => (i : Int)) l).getD j 0 = ((l.getD j 0 : Nat) : Int) := by
  simp [List.getD_eq_getElem?_getD, List.getElem?_map, List.getElem?_eq_getElem hj]

section
variable (W H : Int) (ao : Option Addr) (n cap : Nat) (G : Nat → Nat → Int) (ak : Option Addr) (nk ck : Nat) (K : Nat → Int) (ab : Option Addr) (nb cb : Nat) (B : Nat → Int) (ro : Option Addr) (len : Nat) (R : Nat → Int × Int) (body : Int)
theorem imp_both :
    ∃ p q z : Int, (∀ w, PreW w ao n G ak nk K ab nb B ro len R → Calls Tryd.prog 7 #[.agg #[.int .i64 W, .int .i64 H, .slice (ao) n cap], .agg #[.slice (ak) nk ck, .slice (ab) nb cb], .int .i64 body] w fun e w' => e = .returned (.tuple #[.agg #[.int .i64 p, .int .i64 q], .int .i64 z]) ∧ Below w.heap.size w w') ∧
      (∀ w, PreW w ao n G ak nk K ab nb B ro len R → Calls Tryd.prog 8 #[.agg #[.int .i64 W, .int .i64 H, .slice (ao) n cap], .agg #[.slice (ak) nk ck, .slice (ab) nb cb], .int .i64 body] w fun e w' => e = .returned (.tuple #[.agg #[.int .i64 p, .int .i64 q], .int .i64 z]) ∧ Below w.heap.size w w') := by
  by_cases hv : WV W H n G nk K nb B
  · have V1 := fun w (hp : PreW w ao n G ak nk K ab nb B ro len R) => wValid_yes W H ao n cap G ak nk ck K ab nb cb B w hv hp.2.1 hp.2.2.1 hp.2.2.2.1
    have V2 := fun w (hp : PreW w ao n G ak nk K ab nb B ro len R) => rwValid_yes W H ao n cap G ak nk ck K ab nb cb B w hv hp.2.1 hp.2.2.1 hp.2.2.2.1
    by_cases hb : 1 ≤ body ∧ body ≤ 9
    · have CB := fun w (hp : PreW w ao n G ak nk K ab nb B ro len R) => by
        have q := checkBody_any W H ao n cap ak nk ck ab nb cb w true body (fun wx hx => V1 wx (hp.below hx))
        rw [show bErr true body = 0 from by unfold bErr; simp [hb]] at q
        exact q
      obtain ⟨h0, e1, e2, hP⟩ := hv
      have e1 := e1.symm
      have e2 := e2.symm
      subst e1
      subst e2
      obtain ⟨W, H, rfl, rfl, s, hG⟩ := Sides.vg h0
      have hn1 := s.n1
      have hpos := vg_pos (vg_of s hG)
      have hK := okK_of hP
      by_cases hc : cntB B body n = 0
      · refine ⟨0, 0, 8, fun w hp => ?_, fun w hp => ?_⟩
        · refine wImpulse_8 W H ao _ cap ak _ ck ab _ cb body w (fun wx hx => CB wx (hp.below hx)) (fun wx hx => ?_)
          obtain ⟨bb, ob, rfl, lbb, hB⟩ := numsAt_of (hp.below hx).2.2.2.1 (by omega)
          exact (whas_in ak _ ck bb ob _ cb B body wx hn1 lbb hB (okP_body hP) hb.1 hb.2).mono fun e w' h => by simpa [hc] using h
        · refine rImpulse_8 W H ao _ cap ak _ ck ab _ cb body w hb.1 hb.2 (fun wx hx => V2 wx (hp.below hx)) (fun wx hx => ?_)
          obtain ⟨bb, ob, rfl, lbb, hB⟩ := numsAt_of (hp.below hx).2.2.2.1 (by omega)
          have hl : (ownN B body n).length = 0 := by rw [ownN_len]; exact hc
          refine (rown_in ak _ ck bb ob _ cb B body wx hn1 lbb hB).mono ?_
          rintro e w' ⟨a3, c3, rfl, _, hb3⟩
          rw [hl]
          exact ⟨a3, c3, rfl, hb3⟩
      · have hc1 : 0 < cntB B body n := by omega
        have hm : 1 ≤ (ownN B body n).length := by rw [ownN_len]; exact hc1
        refine ⟨sumL (dE K G) (ownN B body n), sumL (dN K G) (ownN B body n), 0, fun w hp => ?_, fun w hp => ?_⟩
        · have hp' := hp
          obtain ⟨hT, hC, hN, hB, hR⟩ := hp
          obtain ⟨b, off, rfl, hlt, hC⟩ := cells_of1 s hC
          obtain ⟨bk, ok, rfl, hbk, hN⟩ := numsAt_of hN (by omega)
          obtain ⟨bb, ob, rfl, lbb, hB⟩ := numsAt_of hB (by omega)
          exact wImpulse_in W H n cap b off bk ok ck bb ob cb K B _ G w s hG hlt hC hK hbk hN lbb hB hT hb.1 hb.2 (fun wy hy => V1 wy (hp'.below hy)) (fun wy hy => (whas_in (some ⟨bk, ok, none⟩) n ck bb ob n cb B _ wy hn1 (Nat.lt_of_lt_of_le lbb hy.size) (hB.below hy lbb) (okP_body hP) hb.1 hb.2).mono fun e w' h => by simpa [hc1] using h)
        · have hp' := hp
          obtain ⟨hT, hC, hN, hB, hR⟩ := hp
          obtain ⟨b, off, rfl, hlt, hC⟩ := cells_of1 s hC
          obtain ⟨bk, ok, rfl, hbk, hN⟩ := numsAt_of hN (by omega)
          obtain ⟨bb, ob, rfl, lbb, hB⟩ := numsAt_of hB (by omega)
          exact rImpulse_in W H _ n cap _ n ck _ n cb body w (ownN B body n).length _ _ hm hb.1 hb.2 (fun wy hy => V2 wy (hp'.below hy))
            (fun wy hy => (rown_in _ n ck bb ob n cb B body wy hn1 (Nat.lt_of_lt_of_le lbb hy.size) (hB.below hy lbb)).mono fun e w' h => by obtain ⟨a3, c3, h1, _, h3⟩ := h; exact ⟨a3, c3, h1, h3⟩)
            (fun wy hy => rimpulse_in W H n cap b off bk ok ck bb ob cb K B body G wy hm hn1 hG (Nat.lt_of_lt_of_le hlt hy.size) (hC.below hy hlt) hK (Nat.lt_of_lt_of_le hbk hy.size) (hN.below hy hbk) (Nat.lt_of_lt_of_le lbb hy.size) (hB.below hy lbb))
    · have hb' : body < 1 ∨ 9 < body := by omega
      have CB := fun w (hp : PreW w ao n G ak nk K ab nb B ro len R) => by
        have q := checkBody_any W H ao n cap ak nk ck ab nb cb w true body (fun wx hx => V1 wx (hp.below hx))
        rw [show bErr true body = 7 from by unfold bErr; simp [hb]] at q
        exact q
      exact ⟨0, 0, 7, fun w hp => wImpulse_err W H ao n cap ak nk ck ab nb cb body 7 w (by omega) (fun wx hx => CB wx (hp.below hx)), fun w hp => rImpulse_7 W H ao n cap ak nk ck ab nb cb body w hb' (fun wx hx => V2 wx (hp.below hx))⟩
  · have V1 := fun w (hp : PreW w ao n G ak nk K ab nb B ro len R) => wValid_no W H ao n cap G ak nk ck K ab nb cb B w hv hp.2.1 hp.2.2.1 hp.2.2.2.1
    have V2 := fun w (hp : PreW w ao n G ak nk K ab nb B ro len R) => rwValid_no W H ao n cap G ak nk ck K ab nb cb B w hv hp.2.1 hp.2.2.1 hp.2.2.2.1
    have CB := fun w (hp : PreW w ao n G ak nk K ab nb B ro len R) => by
      have q := checkBody_any W H ao n cap ak nk ck ab nb cb w false body (fun wx hx => V1 wx (hp.below hx))
      rw [show bErr false body = 1 from by unfold bErr; simp] at q
      exact q
    exact ⟨0, 0, 1, fun w hp => wImpulse_err W H ao n cap ak nk ck ab nb cb body 1 w (by omega) (fun wx hx => CB wx (hp.below hx)), fun w hp => rImpulse_1 W H ao n cap ak nk ck ab nb cb body w (fun wx hx => V2 wx (hp.below hx))⟩
theorem bod_both :
    ∃ (m : Nat) (L : Nat → Int) (z : Int), m ≤ 1000000 ∧ (∀ w, PreW w ao n G ak nk K ab nb B ro len R → Calls Tryd.prog 9 #[.agg #[.int .i64 W, .int .i64 H, .slice (ao) n cap], .agg #[.slice (ak) nk ck, .slice (ab) nb cb]] w (LZ m L z w)) ∧
      (∀ w, PreW w ao n G ak nk K ab nb B ro len R → Calls Tryd.prog 10 #[.agg #[.int .i64 W, .int .i64 H, .slice (ao) n cap], .agg #[.slice (ak) nk ck, .slice (ab) nb cb]] w (LZ m L z w)) := by
  by_cases hv : WV W H n G nk K nb B
  · have V1 := fun w (hp : PreW w ao n G ak nk K ab nb B ro len R) => wValid_yes W H ao n cap G ak nk ck K ab nb cb B w hv hp.2.1 hp.2.2.1 hp.2.2.2.1
    have V2 := fun w (hp : PreW w ao n G ak nk K ab nb B ro len R) => rwValid_yes W H ao n cap G ak nk ck K ab nb cb B w hv hp.2.1 hp.2.2.1 hp.2.2.2.1
    obtain ⟨h0, e1, e2, hP⟩ := hv
    have e1 := e1.symm
    have e2 := e2.symm
    subst e1
    subst e2
    obtain ⟨W, H, rfl, rfl, s, hG⟩ := Sides.vg h0
    have hn1 := s.n1
    have hpos := vg_pos (vg_of s hG)
    have hl := bodL_len B n
    refine ⟨(bodL B n).length, fun j => (bodL B n).getD j 0, 0, by omega, fun w hp => ?_, fun w hp => ?_⟩
    · obtain ⟨bb, ob, rfl, lbb, hB⟩ := numsAt_of hp.2.2.2.1 (by omega)
      refine (wbodies_in W H ao n cap ak n ck bb ob cb B w hn1 lbb hB (okP_body hP) (fun wy hy => V1 wy (hp.below hy))).mono ?_
      rintro e w' ⟨v, rfl, hr, hb⟩
      exact lz_own hr hb
    · obtain ⟨bb, ob, rfl, lbb, hB⟩ := numsAt_of hp.2.2.2.1 (by omega)
      refine (rbodies_in W H ao n cap ak n ck bb ob cb B w hn1 lbb hB (fun wy hy => V2 wy (hp.below hy))).mono ?_
      rintro e w' ⟨v, rfl, hr, hb⟩
      exact lz_own hr hb
  · have V1 := fun w (hp : PreW w ao n G ak nk K ab nb B ro len R) => wValid_no W H ao n cap G ak nk ck K ab nb cb B w hv hp.2.1 hp.2.2.1 hp.2.2.2.1
    have V2 := fun w (hp : PreW w ao n G ak nk K ab nb B ro len R) => rwValid_no W H ao n cap G ak nk ck K ab nb cb B w hv hp.2.1 hp.2.2.1 hp.2.2.2.1
    exact ⟨0, fun _ => 0, 1, by omega, fun w hp => (wBodies_1 W H ao n cap ak nk ck ab nb cb w (fun wx hx => V1 wx (hp.below hx))).mono fun _ _ h => lz_nil h, fun w hp => (rBodies_1 W H ao n cap ak nk ck ab nb cb w (fun wx hx => V2 wx (hp.below hx))).mono fun _ _ h => lz_nil h⟩
theorem cel_both :
    ∃ (m : Nat) (L : Nat → Int) (z : Int), m ≤ 1000000 ∧ (∀ w, PreW w ao n G ak nk K ab nb B ro len R → Calls Tryd.prog 12 #[.agg #[.int .i64 W, .int .i64 H, .slice (ao) n cap], .agg #[.slice (ak) nk ck, .slice (ab) nb cb], .int .i64 body] w (LZ m L z w)) ∧
      (∀ w, PreW w ao n G ak nk K ab nb B ro len R → Calls Tryd.prog 13 #[.agg #[.int .i64 W, .int .i64 H, .slice (ao) n cap], .agg #[.slice (ak) nk ck, .slice (ab) nb cb], .int .i64 body] w (LZ m L z w)) := by
  by_cases hv : WV W H n G nk K nb B
  · have V1 := fun w (hp : PreW w ao n G ak nk K ab nb B ro len R) => wValid_yes W H ao n cap G ak nk ck K ab nb cb B w hv hp.2.1 hp.2.2.1 hp.2.2.2.1
    have V2 := fun w (hp : PreW w ao n G ak nk K ab nb B ro len R) => rwValid_yes W H ao n cap G ak nk ck K ab nb cb B w hv hp.2.1 hp.2.2.1 hp.2.2.2.1
    by_cases hb : 1 ≤ body ∧ body ≤ 9
    · have CB := fun w (hp : PreW w ao n G ak nk K ab nb B ro len R) => by
        have q := checkBody_any W H ao n cap ak nk ck ab nb cb w true body (fun wx hx => V1 wx (hp.below hx))
        rw [show bErr true body = 0 from by unfold bErr; simp [hb]] at q
        exact q
      obtain ⟨h0, e1, e2, hP⟩ := hv
      have e1 := e1.symm
      have e2 := e2.symm
      subst e1
      subst e2
      obtain ⟨W, H, rfl, rfl, s, hG⟩ := Sides.vg h0
      have hn1 := s.n1
      have hpos := vg_pos (vg_of s hG)
      have hl : (ownN B body n).length ≤ n := by rw [ownN_len]; exact cntB_le _ _ _
      have el : (List.map (fun i : Nat => (i : Int)) (ownN B body n)).length = (ownN B body n).length := by simp
      refine ⟨(ownN B body n).length, fun j => (List.map (fun i : Nat => (i : Int)) (ownN B body n)).getD j 0, 0, by omega, fun w hp => ?_, fun w hp => ?_⟩
      · obtain ⟨bb, ob, rfl, lbb, hB⟩ := numsAt_of hp.2.2.2.1 (by omega)
        refine (wcells_in W H ao n cap ak n ck bb ob cb B body w hn1 lbb hB (fun wy hy => CB wy (hp.below hy))).mono ?_
        rintro e w' ⟨v, rfl, hr, hb⟩
        rw [← el] at hr ⊢
        exact lz_own hr hb
      · obtain ⟨bb, ob, rfl, lbb, hB⟩ := numsAt_of hp.2.2.2.1 (by omega)
        refine (rcells_in W H ao n cap ak n ck _ n cb body w (ownN B body n).length (fun j => (ownN B body n).getD j 0) hb.1 hb.2 (fun wy hy => V2 wy (hp.below hy))
          (fun wy hy => rown_in ak n ck bb ob n cb B body wy hn1 (Nat.lt_of_lt_of_le lbb hy.size) (hB.below hy lbb))).mono ?_
        rintro e w' ⟨a, c, rfl, hN, hb⟩
        refine ⟨a, c, rfl, Lib.hid ?_, hb⟩
        rcases hN with h | ⟨g, e, hg, hc⟩
        · exact .inl h
        · refine .inr ⟨g, 0, e, hg, fun j hj => ?_⟩
          rw [Nat.zero_add, hc j hj]
          dsimp only
          rw [ownZ_getD _ _ hj]
    · have hb' : body < 1 ∨ 9 < body := by omega
      have CB := fun w (hp : PreW w ao n G ak nk K ab nb B ro len R) => by
        have q := checkBody_any W H ao n cap ak nk ck ab nb cb w true body (fun wx hx => V1 wx (hp.below hx))
        rw [show bErr true body = 7 from by unfold bErr; simp [hb]] at q
        exact q
      exact ⟨0, fun _ => 0, 7, by omega, fun w hp => (wCells_err W H ao n cap ak nk ck ab nb cb body 7 w (by omega) (fun wx hx => CB wx (hp.below hx))).mono fun _ _ h => lz_nil h, fun w hp => (rcells_7 W H ao n cap ak nk ck ab nb cb body w hb' (fun wx hx => V2 wx (hp.below hx))).mono fun _ _ h => lz_nil h⟩
  · have V1 := fun w (hp : PreW w ao n G ak nk K ab nb B ro len R) => wValid_no W H ao n cap G ak nk ck K ab nb cb B w hv hp.2.1 hp.2.2.1 hp.2.2.2.1
    have V2 := fun w (hp : PreW w ao n G ak nk K ab nb B ro len R) => rwValid_no W H ao n cap G ak nk ck K ab nb cb B w hv hp.2.1 hp.2.2.1 hp.2.2.2.1
    have CB := fun w (hp : PreW w ao n G ak nk K ab nb B ro len R) => by
      have q := checkBody_any W H ao n cap ak nk ck ab nb cb w false body (fun wx hx => V1 wx (hp.below hx))
      rw [show bErr false body = 1 from by unfold bErr; simp] at q
      exact q
    exact ⟨0, fun _ => 0, 1, by omega, fun w hp => (wCells_err W H ao n cap ak nk ck ab nb cb body 1 w (by omega) (fun wx hx => CB wx (hp.below hx))).mono fun _ _ h => lz_nil h, fun w hp => (rcells_1 W H ao n cap ak nk ck ab nb cb body w (fun wx hx => V2 wx (hp.below hx))).mono fun _ _ h => lz_nil h⟩
end

section
variable (W H : Int) (ao : Option Addr) (n cap : Nat) (G : Nat → Nat → Int) (ak : Option Addr) (nk ck : Nat) (K : Nat → Int) (ab : Option Addr) (nb cb : Nat) (B : Nat → Int) (ro : Option Addr) (len : Nat) (R : Nat → Int × Int) (body : Int) (w : World)
set_option maxRecDepth 100000 in
set_option maxHeartbeats 8000000 in
theorem wallImpulses_big (hT : Tbl w) (h : ¬ (n ≤ 1200 ∧ nk ≤ 1200 ∧ nb ≤ 1200)) :
    Calls Tryd.prog 3 #[.agg #[.int .i64 W, .int .i64 H, .slice (ao) n cap, .slice (ak) nk ck, .slice (ab) nb cb], .int .i64 body] w fun e w' => e = .returned (.bool true) ∧ Below w.heap.size w w' := by
  have HN := Lib.hid h; clear h
  have T := Lib.hid hT; clear hT
  go_enter Tryd.func3, Tryd.ntmps3
  go_wp2_with (first | (go_at_call 5; (with_reducible refine (small1200_no W H ao n cap ak nk ck ab nb cb _ HN.out).mono ?_); rintro e w1 ⟨rfl, hb⟩; obtain ⟨hc, hf, hz⟩ := bcall hb; (try simp at hc hf hz)) | (go_at_call 6; (with_reducible refine (awake3_any _ (T.out.below (by (repeat' (first | (with_reducible exact Below.refl _ _) | (with_reducible refine Below.setCell ?_ (by first | omega | (simp; done) | (simp; omega)) _) | (with_reducible refine Below.alloc ?_ (by first | omega | (simp; done) | (simp; omega)) _) | (with_reducible refine Below.drew ?_) | (with_reducible refine below_drewN ?_ _) | (with_reducible refine Below.trans ?_ (Below.mono (by assumption) (by first | omega | (simp; done) | (simp; omega))))))))).mono ?_); rintro e w1 ⟨rfl, hb⟩; obtain ⟨hc, hf, hz⟩ := bcall hb; (try simp at hc hf hz)))
  go_ret
  refine ⟨rfl, ?_⟩
  (repeat' (first | (with_reducible exact Below.refl _ _) | (with_reducible refine Below.setCell ?_ (by first | omega | (simp; done) | (simp; omega)) _) | (with_reducible refine Below.alloc ?_ (by first | omega | (simp; done) | (simp; omega)) _) | (with_reducible refine Below.drew ?_) | (with_reducible refine below_drewN ?_ _) | (with_reducible refine Below.trans ?_ (Below.mono (by assumption) (by first | omega | (simp; done) | (simp; omega))))))
set_option maxRecDepth 100000 in
set_option maxHeartbeats 16000000 in
theorem wallImpulses_walk (hp : PreW w ao n G ak nk K ab nb B ro len R) (h : n ≤ 1200 ∧ nk ≤ 1200 ∧ nb ≤ 1200) (p q z1 : Int) (m2 m3 : Nat) (L2 L3 : Nat → Int) (z2 z3 : Int) (l2 : m2 ≤ 1000000) (l3 : m3 ≤ 1000000)
    (o1 : ∀ w, PreW w ao n G ak nk K ab nb B ro len R → Calls Tryd.prog 7 #[.agg #[.int .i64 W, .int .i64 H, .slice (ao) n cap], .agg #[.slice (ak) nk ck, .slice (ab) nb cb], .int .i64 body] w fun e w' => e = .returned (.tuple #[.agg #[.int .i64 p, .int .i64 q], .int .i64 z1]) ∧ Below w.heap.size w w')
    (o2 : ∀ w, PreW w ao n G ak nk K ab nb B ro len R → Calls Tryd.prog 8 #[.agg #[.int .i64 W, .int .i64 H, .slice (ao) n cap], .agg #[.slice (ak) nk ck, .slice (ab) nb cb], .int .i64 body] w fun e w' => e = .returned (.tuple #[.agg #[.int .i64 p, .int .i64 q], .int .i64 z1]) ∧ Below w.heap.size w w')
    (o3 : ∀ w, PreW w ao n G ak nk K ab nb B ro len R → Calls Tryd.prog 9 #[.agg #[.int .i64 W, .int .i64 H, .slice (ao) n cap], .agg #[.slice (ak) nk ck, .slice (ab) nb cb]] w (LZ m2 L2 z2 w))
    (o4 : ∀ w, PreW w ao n G ak nk K ab nb B ro len R → Calls Tryd.prog 10 #[.agg #[.int .i64 W, .int .i64 H, .slice (ao) n cap], .agg #[.slice (ak) nk ck, .slice (ab) nb cb]] w (LZ m2 L2 z2 w))
    (o5 : ∀ w, PreW w ao n G ak nk K ab nb B ro len R → Calls Tryd.prog 12 #[.agg #[.int .i64 W, .int .i64 H, .slice (ao) n cap], .agg #[.slice (ak) nk ck, .slice (ab) nb cb], .int .i64 body] w (LZ m3 L3 z3 w))
    (o6 : ∀ w, PreW w ao n G ak nk K ab nb B ro len R → Calls Tryd.prog 13 #[.agg #[.int .i64 W, .int .i64 H, .slice (ao) n cap], .agg #[.slice (ak) nk ck, .slice (ab) nb cb], .int .i64 body] w (LZ m3 L3 z3 w)) :
    Calls Tryd.prog 3 #[.agg #[.int .i64 W, .int .i64 H, .slice (ao) n cap, .slice (ak) nk ck, .slice (ab) nb cb], .int .i64 body] w fun e w' => e = .returned (.bool true) ∧ Below w.heap.size w w' := by
  have O1 := Lib.hid o1
  have O2 := Lib.hid o2
  have O3 := Lib.hid o3
  have O4 := Lib.hid o4
  have O5 := Lib.hid o5
  have O6 := Lib.hid o6
  have HP := Lib.hid hp
  have HN := Lib.hid h
  clear o1 o2 o3 o4 o5 o6 hp h
  go_enter Tryd.func3, Tryd.ntmps3
  go_wp2_with (first | (go_at_call 5; (with_reducible refine (small1200_yes W H ao n cap ak nk ck ab nb cb _ HN.out).mono ?_); rintro e w1 ⟨rfl, hb⟩; obtain ⟨hc, hf, hz⟩ := bcall hb; (try simp at hc hf hz)) | (go_at_call 7; (with_reducible refine (O1.out _ (HP.out.below (show Below w.heap.size w _ from by (repeat' (first | (with_reducible exact Below.refl _ _) | (with_reducible refine Below.setCell ?_ (by first | omega | (simp; done) | (simp; omega)) _) | (with_reducible refine Below.alloc ?_ (by first | omega | (simp; done) | (simp; omega)) _) | (with_reducible refine Below.drew ?_) | (with_reducible refine below_drewN ?_ _) | (with_reducible refine Below.trans ?_ (Below.mono (by assumption) (by first | omega | (simp; done) | (simp; omega))))))))).mono ?_); rintro e w1 ⟨rfl, hb⟩; obtain ⟨hc, hf, hz⟩ := bcall hb; (try simp at hc hf hz)) | (go_at_call 8; (with_reducible refine (O2.out _ (HP.out.below (show Below w.heap.size w _ from by (repeat' (first | (with_reducible exact Below.refl _ _) | (with_reducible refine Below.setCell ?_ (by first | omega | (simp; done) | (simp; omega)) _) | (with_reducible refine Below.alloc ?_ (by first | omega | (simp; done) | (simp; omega)) _) | (with_reducible refine Below.drew ?_) | (with_reducible refine below_drewN ?_ _) | (with_reducible refine Below.trans ?_ (Below.mono (by assumption) (by first | omega | (simp; done) | (simp; omega))))))))).mono ?_); rintro e w1 ⟨rfl, hb⟩; obtain ⟨hc, hf, hz⟩ := bcall hb; (try simp at hc hf hz)))
  (go_at_call 9; (with_reducible refine (O3.out _ (HP.out.below (show Below w.heap.size w _ from by (repeat' (first | (with_reducible exact Below.refl _ _) | (with_reducible refine Below.setCell ?_ (by first | omega | (simp; done) | (simp; omega)) _) | (with_reducible refine Below.alloc ?_ (by first | omega | (simp; done) | (simp; omega)) _) | (with_reducible refine Below.drew ?_) | (with_reducible refine below_drewN ?_ _) | (with_reducible refine Below.trans ?_ (Below.mono (by assumption) (by first | omega | (simp; done) | (simp; omega))))))))).mono ?_); rintro e wA ⟨aA, cA, rfl, hA, hb⟩; obtain ⟨hc, hf, hz⟩ := bcall hb; (try simp at hc hf hz))
  go_wp2_with fail
  (go_at_call 10; (with_reducible refine (O4.out _ (HP.out.below (show Below w.heap.size w _ from by (repeat' (first | (with_reducible exact Below.refl _ _) | (with_reducible refine Below.setCell ?_ (by first | omega | (simp; done) | (simp; omega)) _) | (with_reducible refine Below.alloc ?_ (by first | omega | (simp; done) | (simp; omega)) _) | (with_reducible refine Below.drew ?_) | (with_reducible refine below_drewN ?_ _) | (with_reducible refine Below.trans ?_ (Below.mono (by assumption) (by first | omega | (simp; done) | (simp; omega))))))))).mono ?_); rintro e wB ⟨aB, cB, rfl, hB, hb2⟩; obtain ⟨hc2, hf2, hz2⟩ := bcall hb2; (try simp at hc2 hf2 hz2))
  go_wp2_with (go_at_call 11; (with_reducible refine (sameNums_yes aA aB m2 cA cB L2 _ l2 (hA.out.below (by (repeat' (first | (with_reducible exact Below.refl _ _) | (with_reducible refine Below.setCell ?_ (by first | omega | (simp; done) | (simp; omega)) _) | (with_reducible refine Below.alloc ?_ (by first | omega | (simp; done) | (simp; omega)) _) | (with_reducible refine Below.drew ?_) | (with_reducible refine below_drewN ?_ _) | (with_reducible refine Below.trans ?_ (Below.mono (by assumption) (by first | omega | (simp; done) | (simp; omega)))))))) (hB.out.below (by (repeat' (first | (with_reducible exact Below.refl _ _) | (with_reducible refine Below.setCell ?_ (by first | omega | (simp; done) | (simp; omega)) _) | (with_reducible refine Below.alloc ?_ (by first | omega | (simp; done) | (simp; omega)) _) | (with_reducible refine Below.drew ?_) | (with_reducible refine below_drewN ?_ _) | (with_reducible refine Below.trans ?_ (Below.mono (by assumption) (by first | omega | (simp; done) | (simp; omega))))))))).mono ?_); rintro e w1 ⟨rfl, hb⟩; obtain ⟨hc, hf, hz⟩ := bcall hb; (try simp at hc hf hz))
  (go_at_call 12; (with_reducible refine (O5.out _ (HP.out.below (show Below w.heap.size w _ from by (repeat' (first | (with_reducible exact Below.refl _ _) | (with_reducible refine Below.setCell ?_ (by first | omega | (simp; done) | (simp; omega)) _) | (with_reducible refine Below.alloc ?_ (by first | omega | (simp; done) | (simp; omega)) _) | (with_reducible refine Below.drew ?_) | (with_reducible refine below_drewN ?_ _) | (with_reducible refine Below.trans ?_ (Below.mono (by assumption) (by first | omega | (simp; done) | (simp; omega))))))))).mono ?_); rintro e wC ⟨aC, cC, rfl, hC, hb3⟩; obtain ⟨hc3, hf3, hz3⟩ := bcall hb3; (try simp at hc3 hf3 hz3))
  go_wp2_with fail
  (go_at_call 13; (with_reducible refine (O6.out _ (HP.out.below (show Below w.heap.size w _ from by (repeat' (first | (with_reducible exact Below.refl _ _) | (with_reducible refine Below.setCell ?_ (by first | omega | (simp; done) | (simp; omega)) _) | (with_reducible refine Below.alloc ?_ (by first | omega | (simp; done) | (simp; omega)) _) | (with_reducible refine Below.drew ?_) | (with_reducible refine below_drewN ?_ _) | (with_reducible refine Below.trans ?_ (Below.mono (by assumption) (by first | omega | (simp; done) | (simp; omega))))))))).mono ?_); rintro e wD ⟨aD, cD, rfl, hD, hb4⟩; obtain ⟨hc4, hf4, hz4⟩ := bcall hb4; (try simp at hc4 hf4 hz4))
  go_wp2_with (first | (go_at_call 11; (with_reducible refine (sameNums_yes aC aD m3 cC cD L3 _ l3 (hC.out.below (by (repeat' (first | (with_reducible exact Below.refl _ _) | (with_reducible refine Below.setCell ?_ (by first | omega | (simp; done) | (simp; omega)) _) | (with_reducible refine Below.alloc ?_ (by first | omega | (simp; done) | (simp; omega)) _) | (with_reducible refine Below.drew ?_) | (with_reducible refine below_drewN ?_ _) | (with_reducible refine Below.trans ?_ (Below.mono (by assumption) (by first | omega | (simp; done) | (simp; omega)))))))) (hD.out.below (by (repeat' (first | (with_reducible exact Below.refl _ _) | (with_reducible refine Below.setCell ?_ (by first | omega | (simp; done) | (simp; omega)) _) | (with_reducible refine Below.alloc ?_ (by first | omega | (simp; done) | (simp; omega)) _) | (with_reducible refine Below.drew ?_) | (with_reducible refine below_drewN ?_ _) | (with_reducible refine Below.trans ?_ (Below.mono (by assumption) (by first | omega | (simp; done) | (simp; omega))))))))).mono ?_); rintro e w1 ⟨rfl, hb⟩; obtain ⟨hc, hf, hz⟩ := bcall hb; (try simp at hc hf hz)) | (go_at_call 6; (with_reducible refine (awake3_any _ (HP.out.tbl.below (show Below w.heap.size w _ from by (repeat' (first | (with_reducible exact Below.refl _ _) | (with_reducible refine Below.setCell ?_ (by first | omega | (simp; done) | (simp; omega)) _) | (with_reducible refine Below.alloc ?_ (by first | omega | (simp; done) | (simp; omega)) _) | (with_reducible refine Below.drew ?_) | (with_reducible refine below_drewN ?_ _) | (with_reducible refine Below.trans ?_ (Below.mono (by assumption) (by first | omega | (simp; done) | (simp; omega))))))))).mono ?_); rintro e w1 ⟨rfl, hb⟩; obtain ⟨hc, hf, hz⟩ := bcall hb; (try simp at hc hf hz)))
  go_ret
  refine ⟨by simp, ?_⟩
  (repeat' (first | (with_reducible exact Below.refl _ _) | (with_reducible refine Below.setCell ?_ (by first | omega | (simp; done) | (simp; omega)) _) | (with_reducible refine Below.alloc ?_ (by first | omega | (simp; done) | (simp; omega)) _) | (with_reducible refine Below.drew ?_) | (with_reducible refine below_drewN ?_ _) | (with_reducible refine Below.trans ?_ (Below.mono (by assumption) (by first | omega | (simp; done) | (simp; omega))))))
end
theorem wallImpulses_any (W H : Int) (ao : Option Addr) (n cap : Nat) (G : Nat → Nat → Int) (ak : Option Addr) (nk ck : Nat) (K : Nat → Int) (ab : Option Addr) (nb cb : Nat) (B : Nat → Int) (body : Int) (w : World) (hT : Tbl w) (wW : Wf W) (wH : Wf H) (hl : n ≤ cap) (hm : cap ≤ maxLen) (hG : CellsIn w ao n G) (hlk : nk ≤ ck) (hmk : ck ≤ maxLen) (hK : NumsIn w ak nk K) (fK : ∀ i, i < nk → Wf (K i)) (hlb : nb ≤ cb) (hmb : cb ≤ maxLen) (hB : NumsIn w ab nb B) (fB : ∀ i, i < nb → Wf (B i)) (wb : Wf body) :
    Calls Tryd.prog 3 #[.agg #[.int .i64 W, .int .i64 H, .slice (ao) n cap, .slice (ak) nk ck, .slice (ab) nb cb], .int .i64 body] w fun e w' => e = .returned (.bool true) ∧ Below w.heap.size w w' := by
  by_cases hs : n ≤ 1200 ∧ nk ≤ 1200 ∧ nb ≤ 1200
  · obtain ⟨p, q, z1, o1, o2⟩ := imp_both W H ao n cap G ak nk ck K ab nb cb B none 0 (fun _ => (0, 0)) body
    obtain ⟨m2, L2, z2, l2, o3, o4⟩ := bod_both W H ao n cap G ak nk ck K ab nb cb B none 0 (fun _ => (0, 0))
    obtain ⟨m3, L3, z3, l3, o5, o6⟩ := cel_both W H ao n cap G ak nk ck K ab nb cb B none 0 (fun _ => (0, 0)) body
    exact wallImpulses_walk W H ao n cap G ak nk ck K ab nb cb B none 0 (fun _ => (0, 0)) body w ⟨hT, hG, hK, hB, .inl rfl⟩ hs p q z1 m2 m3 L2 L3 z2 z3 l2 l3 o1 o2 o3 o4 o5 o6
  · exact wallImpulses_big W H ao n cap ak nk ck ab nb cb body w hT hs
end Go.Proofs.YtdbehbeaigfpcaaDoor
