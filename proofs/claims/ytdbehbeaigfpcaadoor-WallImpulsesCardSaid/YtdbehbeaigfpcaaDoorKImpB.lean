/- What a wall gives a body: by the program. -/
import Derived.Test.YtdbehbeaigfpcaaDoorKImpW
import Derived.Test.YtdbehbeaigfpcaaDoorKChecks
import Derived.Test.YtdbehbeaigfpcaaDoorKRefMet
namespace Go.Proofs.YtdbehbeaigfpcaaDoor
set_option linter.unusedSimpArgs false
set_option linter.unusedVariables false
open Go.RowKit

theorem imp_blocks {w wo : World} {t1 t2 t4 : TypeId} {a b c d e h i : Value} (hb : Below (((w.alloc (.cells #[a, b, c] t1)).alloc (.cells #[d, e] t2)).alloc (.cells #[h, i] t4)).heap.size (((w.alloc (.cells #[a, b, c] t1)).alloc (.cells #[d, e] t2)).alloc (.cells #[h, i] t4)) wo) : Two wo (w.heap.size + 2) t4 h i := (Two.newAt (by simp)).below hb (by simp)
set_option maxRecDepth 100000 in
set_option maxHeartbeats 4000000 in
theorem newTunnel_raw (W H b off n cap nk ck len rc : Nat) (ak ab ra : Option Addr) (nb cb : Nat) (G : Nat → Nat → Int) (w : World) (s : Sides W H n) (hlt : b < w.heap.size) (hG : Grd w b off n G) :
    Calls Tryd.prog 21 #[.agg #[.int .i64 W, .int .i64 H, .slice (some ⟨b, off, none⟩) n cap], .agg #[.slice (ak) nk ck, .slice (ab) nb cb], .slice ra len rc] w fun e w' => ∃ m g c, e = .returned (.pointer (some ⟨m, 0, none⟩)) ∧ Hid (Tun w' m W H n g c (.slice ak nk ck) (.slice ab nb cb) (.slice ra len rc) ∧ Row w' g n G) ∧ Below w.heap.size w w' := by
  have hn1 : n ≤ 1024 := s.n1
  have h1 : 1 ≤ n := by
    rw [s.n0]
    exact Nat.mul_le_mul s.w0 s.h0
  have D := Lib.hid (fun w' (hb : Below w.heap.size w w') => cloneC_any b off n cap G w' h1 (by omega) (Nat.lt_of_lt_of_le hlt hb.size) (hG.below hb hlt))
  clear hG s
  go_enter Tryd.func21, Tryd.ntmps21
  go_wp2_with (go_at_call 42; (with_reducible refine (D.out _ (by (repeat' (first | (with_reducible exact Below.refl _ _) | (with_reducible refine Below.setCell ?_ (by first | omega | (simp; done) | (simp; omega)) _) | (with_reducible refine Below.alloc ?_ (by first | omega | (simp; done) | (simp; omega)) _) | (with_reducible refine Below.drew ?_) | (with_reducible refine below_drewN ?_ _) | (with_reducible refine Below.trans ?_ (Below.mono (by assumption) (by first | omega | (simp; done) | (simp; omega)))))))).mono ?_); rintro e w1 ⟨g, c, rfl, hr, hg, hc1, hm1, hb⟩; have HRo := Lib.hid hr; clear hr; obtain ⟨hc, hf, hz⟩ := bcall hb; (try simp at hc hf hz hg))
  go_ret
  have hl := HRo.out.1
  have hB : Below w.heap.size w (w1.setCell ⟨w.heap.size, 2, none⟩ (.slice (some ⟨g, 0, none⟩) n c)) := by (repeat' (first | (with_reducible exact Below.refl _ _) | (with_reducible refine Below.setCell ?_ (by first | omega | (simp; done) | (simp; omega)) _) | (with_reducible refine Below.alloc ?_ (by first | omega | (simp; done) | (simp; omega)) _) | (with_reducible refine Below.drew ?_) | (with_reducible refine below_drewN ?_ _) | (with_reducible refine Below.trans ?_ (Below.mono (by assumption) (by first | omega | (simp; done) | (simp; omega))))))
  have x : Ex (fun k => k = w.heap.size) w1 (w1.setCell ⟨w.heap.size, 2, none⟩ (.slice (some ⟨g, 0, none⟩) n c)) := by refine Ex.setCell (Ex.refl _ w1) ?_ _; rfl
  have hr2 := HRo.out.ex x (by omega)
  have q : Tun ((w1.setCell ⟨w.heap.size, 2, none⟩ (.slice (some ⟨g, 0, none⟩) n c)).alloc (.cells #[.int .i64 W, .int .i64 H, .slice (some ⟨g, 0, none⟩) n c, .slice ak nk ck, .slice ab nb cb, .slice ra len rc] 73)) w1.heap.size W H n g c (.slice ak nk ck) (.slice ab nb cb) (.slice ra len rc) := by
    have := World.alloc_heap_new (w1.setCell ⟨w.heap.size, 2, none⟩ (.slice (some ⟨g, 0, none⟩) n c)) (.cells #[.int .i64 W, .int .i64 H, .slice (some ⟨g, 0, none⟩) n c, .slice ak nk ck, .slice ab nb cb, .slice ra len rc] 73)
    rw [show (w1.setCell ⟨w.heap.size, 2, none⟩ (.slice (some ⟨g, 0, none⟩) n c)).heap.size = w1.heap.size from by simp] at this
    exact this
  exact ⟨_, g, c, rfl, Lib.hid ⟨q, hr2.below ((Below.refl _ _).alloc (Nat.le_refl _) _) hr2.1⟩, hB.alloc hB.size _⟩

set_option maxRecDepth 100000 in
set_option maxHeartbeats 4000000 in
theorem wImpulse_in (W H n cap b off bk ok ck bb ob cb : Nat) (K B : Nat → Int) (body : Int) (G : Nat → Nat → Int) (w : World) (s : Sides W H n) (hG : OkG n G) (hlt : b < w.heap.size) (hC : Grd w b off n G) (hK : OkK n K) (hbk : bk < w.heap.size) (hN : NumsAt w bk ok n K) (lbb : bb < w.heap.size) (hB : NumsAt w bb ob n B) (hT : Tbl w) (hb1 : 1 ≤ body) (hb9 : body ≤ 9)
    (V : ∀ wx, Below w.heap.size w wx → Calls Tryd.prog 27 #[.agg #[.int .i64 W, .int .i64 H, .slice (some ⟨b, off, none⟩) n cap], .agg #[.slice (some ⟨bk, ok, none⟩) n ck, .slice (some ⟨bb, ob, none⟩) n cb]] wx fun e w' => e = .returned (.bool true) ∧ Below wx.heap.size wx w')
    (HS : ∀ wx, Below w.heap.size w wx → Calls Tryd.prog 20 #[.agg #[.slice (some ⟨bk, ok, none⟩) n ck, .slice (some ⟨bb, ob, none⟩) n cb], .int .i64 body] wx fun e w' => e = .returned (.bool true) ∧ Below wx.heap.size wx w') :
    Calls Tryd.prog 7 #[.agg #[.int .i64 W, .int .i64 H, .slice (some ⟨b, off, none⟩) n cap], .agg #[.slice (some ⟨bk, ok, none⟩) n ck, .slice (some ⟨bb, ob, none⟩) n cb], .int .i64 body] w fun e w' => e = .returned (.tuple #[.agg #[.int .i64 (sumL (dE K G) (ownN B body n)), .int .i64 (sumL (dN K G) (ownN B body n))], .int .i64 0]) ∧ Below w.heap.size w w' := by
  have CB := Lib.hid (fun wx (hb : Below w.heap.size w wx) => by
    have q := checkBody_any W H (some ⟨b, off, none⟩) n cap (some ⟨bk, ok, none⟩) n ck (some ⟨bb, ob, none⟩) n cb wx true body (fun wy hy => V wy (hb.trans (hy.mono hb.size)))
    rw [show bErr true body = 0 from by unfold bErr; simp [hb1, hb9]; try omega] at q
    exact q)
  have HHS := Lib.hid HS
  have NT := Lib.hid (fun wx (hb : Below w.heap.size w wx) => newTunnel_raw W H b off n cap n ck 0 0 (some ⟨bk, ok, none⟩) (some ⟨bb, ob, none⟩) none n cb G wx s (Nat.lt_of_lt_of_le hlt hb.size) (hC.below hb hlt))
  have IM := Lib.hid (fun wx m b1 c1 (hb : Below w.heap.size w wx) (hM : Tun wx m W H n b1 c1 (.slice (some ⟨bk, ok, none⟩) n ck) (.slice (some ⟨bb, ob, none⟩) n cb) (.slice none 0 0)) (hr : Row wx b1 n G) => callsIn_wide.1 (wimpulse_in m W H n b1 c1 bk ok ck bb ob cb (.slice none 0 0) K B body G wx hM hr s.n1 hG hK (hT.below2 hb hT.lt) (Nat.lt_of_lt_of_le hbk hb.size) (hN.below hb hbk) (Nat.lt_of_lt_of_le lbb hb.size) (hB.below hb lbb)))
  clear V HS hC hG hK hN hB hT s
  go_enter Tryd.func7, Tryd.ntmps7
  go_wp2_with (first | (go_at_call 19; (with_reducible refine (CB.out _ (by (repeat' (first | (with_reducible exact Below.refl _ _) | (with_reducible refine Below.setCell ?_ (by first | omega | (simp; done) | (simp; omega)) _) | (with_reducible refine Below.alloc ?_ (by first | omega | (simp; done) | (simp; omega)) _) | (with_reducible refine Below.drew ?_) | (with_reducible refine below_drewN ?_ _) | (with_reducible refine Below.trans ?_ (Below.mono (by assumption) (by first | omega | (simp; done) | (simp; omega)))))))).mono ?_); rintro e w1 ⟨rfl, hb⟩; obtain ⟨hc, hf, hz⟩ := bcall hb; (try simp at hc hf hz)) | (go_at_call 20; (with_reducible refine (HHS.out _ (by (repeat' (first | (with_reducible exact Below.refl _ _) | (with_reducible refine Below.setCell ?_ (by first | omega | (simp; done) | (simp; omega)) _) | (with_reducible refine Below.alloc ?_ (by first | omega | (simp; done) | (simp; omega)) _) | (with_reducible refine Below.drew ?_) | (with_reducible refine below_drewN ?_ _) | (with_reducible refine Below.trans ?_ (Below.mono (by assumption) (by first | omega | (simp; done) | (simp; omega)))))))).mono ?_); rintro e wh ⟨rfl, hbh⟩; obtain ⟨hch, hfh, hzh⟩ := bcall hbh; (try simp at hch hfh hzh)))
  have hbw : Below w.heap.size w wh := by (repeat' (first | (with_reducible exact Below.refl _ _) | (with_reducible refine Below.setCell ?_ (by first | omega | (simp; done) | (simp; omega)) _) | (with_reducible refine Below.alloc ?_ (by first | omega | (simp; done) | (simp; omega)) _) | (with_reducible refine Below.drew ?_) | (with_reducible refine below_drewN ?_ _) | (with_reducible refine Below.trans ?_ (Below.mono (by assumption) (by first | omega | (simp; done) | (simp; omega))))))
  have t2 := imp_blocks (hb.trans (hbh.mono hb.size))
  have T2 := Lib.hid t2
  have l2 := t2.lt
  have HBW := Lib.hid hbw
  clear hc hf hz hb hch hfh hzh hbh hbw t2 CB HHS
  go_at_call 21
  refine (NT.out wh HBW.out).mono ?_
  rintro e w2 ⟨m, g, c, rfl, hTn, hb2⟩
  have HB2 := Lib.hid (HBW.out.trans (hb2.mono HBW.out.size))
  have T3 := Lib.hid (T2.out.below hb2 l2)
  have IM2 := Lib.hid (IM.out w2 m g c HB2.out hTn.out.1 hTn.out.2)
  clear hb2 T2 HBW NT IM hTn
  go_wp2_with fail
  go_at_call 22
  refine IM2.out.mono ?_
  rintro e w3 ⟨rfl, hb3⟩
  have T4 := T3.out.below hb3 T3.out.lt
  have f0 := T4.f0 0
  have f1 := T4.f0 1
  have q0 := T4.c0
  have q1 := T4.c1
  have l4 := T4.lt
  have HB3 := Lib.hid (HB2.out.trans (hb3.mono HB2.out.size))
  have l5 := HB3.out.size
  obtain ⟨sE, hsE⟩ : ∃ s, s = sumL (dE K G) (ownN B body n) := ⟨_, rfl⟩
  obtain ⟨sN, hsN⟩ : ∃ s, s = sumL (dN K G) (ownN B body n) := ⟨_, rfl⟩
  have HE := Lib.hid hsE
  have HN := Lib.hid hsN
  rw [← hsE, ← hsN]
  clear hsE hsN hb3 T4 IM2
  go_wp2
  refine bodyPost_ret (v := .tuple #[.agg #[.int .i64 sE, .int .i64 sN], .int .i64 0]) (by simp [results, Tryd.results7, go_sem, ↓IntWalk.iteOmega, *]) rfl ?_
  have hB := HB3.out
  refine ⟨by rw [HE.out, HN.out], ?_⟩
  (repeat' (first | (with_reducible exact Below.refl _ _) | (with_reducible refine Below.setCell ?_ (by first | omega | (simp; done) | (simp; omega)) _) | (with_reducible refine Below.alloc ?_ (by first | omega | (simp; done) | (simp; omega)) _) | (with_reducible refine Below.drew ?_) | (with_reducible refine below_drewN ?_ _) | (with_reducible refine Below.trans ?_ (Below.mono (by assumption) (by first | omega | (simp; done) | (simp; omega))))))
end Go.Proofs.YtdbehbeaigfpcaaDoor

/- What Impulse and Cells refuse: by the program. -/

namespace Go.Proofs.YtdbehbeaigfpcaaDoor
set_option linter.unusedSimpArgs false
set_option linter.unusedVariables false
open Go.RowKit

section
variable (W H : Int) (ao : Option Addr) (n cap : Nat) (ak : Option Addr) (nk ck : Nat) (ab : Option Addr) (nb cb : Nat) (body z : Int) (w : World)
set_option maxHeartbeats 4000000 in
theorem wImpulse_err (hz : z ≠ 0) (E : ∀ wx, Below w.heap.size w wx → Calls Tryd.prog 19 #[.agg #[.int .i64 W, .int .i64 H, .slice (ao) n cap], .agg #[.slice (ak) nk ck, .slice (ab) nb cb], .int .i64 body] wx fun e w' => e = .returned (.int .i64 z) ∧ Below wx.heap.size wx w') :
    Calls Tryd.prog 7 #[.agg #[.int .i64 W, .int .i64 H, .slice (ao) n cap], .agg #[.slice (ak) nk ck, .slice (ab) nb cb], .int .i64 body] w fun e w' => e = .returned (.tuple #[.agg #[.int .i64 0, .int .i64 0], .int .i64 z]) ∧ Below w.heap.size w w' := by
  have HE := Lib.hid E; clear E
  have e0 : (z == 0) = false := beq_eq_false_iff_ne.2 hz
  have e1 : (z != 0) = true := by simp [bne, e0]
  clear hz e0
  go_enter Tryd.func7, Tryd.ntmps7
  go_wp2_with (go_at_call 19; (with_reducible refine (HE.out _ (by (repeat' (first | (with_reducible exact Below.refl _ _) | (with_reducible refine Below.setCell ?_ (by first | omega | (simp; done) | (simp; omega)) _) | (with_reducible refine Below.alloc ?_ (by first | omega | (simp; done) | (simp; omega)) _) | (with_reducible refine Below.drew ?_) | (with_reducible refine below_drewN ?_ _) | (with_reducible refine Below.trans ?_ (Below.mono (by assumption) (by first | omega | (simp; done) | (simp; omega)))))))).mono ?_); rintro e w1 ⟨rfl, hb⟩; obtain ⟨hc, hf, hz⟩ := bcall hb; (try simp at hc hf hz))
  refine bodyPost_ret (v := .tuple #[.agg #[.int .i64 0, .int .i64 0], .int .i64 z]) (by simp [results, Tryd.results7, go_sem, ↓IntWalk.iteOmega, *]) rfl ⟨rfl, ?_⟩
  (repeat' (first | (with_reducible exact Below.refl _ _) | (with_reducible refine Below.setCell ?_ (by first | omega | (simp; done) | (simp; omega)) _) | (with_reducible refine Below.alloc ?_ (by first | omega | (simp; done) | (simp; omega)) _) | (with_reducible refine Below.drew ?_) | (with_reducible refine below_drewN ?_ _) | (with_reducible refine Below.trans ?_ (Below.mono (by assumption) (by first | omega | (simp; done) | (simp; omega))))))
set_option maxHeartbeats 4000000 in
theorem wImpulse_8 (E : ∀ wx, Below w.heap.size w wx → Calls Tryd.prog 19 #[.agg #[.int .i64 W, .int .i64 H, .slice (ao) n cap], .agg #[.slice (ak) nk ck, .slice (ab) nb cb], .int .i64 body] wx fun e w' => e = .returned (.int .i64 0) ∧ Below wx.heap.size wx w')
    (HS : ∀ wx, Below w.heap.size w wx → Calls Tryd.prog 20 #[.agg #[.slice (ak) nk ck, .slice (ab) nb cb], .int .i64 body] wx fun e w' => e = .returned (.bool false) ∧ Below wx.heap.size wx w') :
    Calls Tryd.prog 7 #[.agg #[.int .i64 W, .int .i64 H, .slice (ao) n cap], .agg #[.slice (ak) nk ck, .slice (ab) nb cb], .int .i64 body] w fun e w' => e = .returned (.tuple #[.agg #[.int .i64 0, .int .i64 0], .int .i64 8]) ∧ Below w.heap.size w w' := by
  have HE := Lib.hid E; clear E
  have HHS := Lib.hid HS; clear HS
  go_enter Tryd.func7, Tryd.ntmps7
  go_wp2_with (first | (go_at_call 19; (with_reducible refine (HE.out _ (by (repeat' (first | (with_reducible exact Below.refl _ _) | (with_reducible refine Below.setCell ?_ (by first | omega | (simp; done) | (simp; omega)) _) | (with_reducible refine Below.alloc ?_ (by first | omega | (simp; done) | (simp; omega)) _) | (with_reducible refine Below.drew ?_) | (with_reducible refine below_drewN ?_ _) | (with_reducible refine Below.trans ?_ (Below.mono (by assumption) (by first | omega | (simp; done) | (simp; omega)))))))).mono ?_); rintro e w1 ⟨rfl, hb⟩; obtain ⟨hc, hf, hz⟩ := bcall hb; (try simp at hc hf hz)) | (go_at_call 20; (with_reducible refine (HHS.out _ (by (repeat' (first | (with_reducible exact Below.refl _ _) | (with_reducible refine Below.setCell ?_ (by first | omega | (simp; done) | (simp; omega)) _) | (with_reducible refine Below.alloc ?_ (by first | omega | (simp; done) | (simp; omega)) _) | (with_reducible refine Below.drew ?_) | (with_reducible refine below_drewN ?_ _) | (with_reducible refine Below.trans ?_ (Below.mono (by assumption) (by first | omega | (simp; done) | (simp; omega)))))))).mono ?_); rintro e wh ⟨rfl, hbh⟩; obtain ⟨hch, hfh, hzh⟩ := bcall hbh; (try simp at hch hfh hzh)))
  refine bodyPost_ret (v := .tuple #[.agg #[.int .i64 0, .int .i64 0], .int .i64 8]) (by simp [results, Tryd.results7, go_sem, ↓IntWalk.iteOmega, *]) rfl ⟨rfl, ?_⟩
  (repeat' (first | (with_reducible exact Below.refl _ _) | (with_reducible refine Below.setCell ?_ (by first | omega | (simp; done) | (simp; omega)) _) | (with_reducible refine Below.alloc ?_ (by first | omega | (simp; done) | (simp; omega)) _) | (with_reducible refine Below.drew ?_) | (with_reducible refine below_drewN ?_ _) | (with_reducible refine Below.trans ?_ (Below.mono (by assumption) (by first | omega | (simp; done) | (simp; omega))))))
set_option maxHeartbeats 4000000 in
theorem wCells_err (hz : z ≠ 0) (E : ∀ wx, Below w.heap.size w wx → Calls Tryd.prog 19 #[.agg #[.int .i64 W, .int .i64 H, .slice (ao) n cap], .agg #[.slice (ak) nk ck, .slice (ab) nb cb], .int .i64 body] wx fun e w' => e = .returned (.int .i64 z) ∧ Below wx.heap.size wx w') :
    Calls Tryd.prog 12 #[.agg #[.int .i64 W, .int .i64 H, .slice (ao) n cap], .agg #[.slice (ak) nk ck, .slice (ab) nb cb], .int .i64 body] w fun e w' => e = .returned (.tuple #[.slice none 0 0, .int .i64 z]) ∧ Below w.heap.size w w' := by
  have HE := Lib.hid E; clear E
  have e0 : (z == 0) = false := beq_eq_false_iff_ne.2 hz
  have e1 : (z != 0) = true := by simp [bne, e0]
  clear hz e0
  go_enter Tryd.func12, Tryd.ntmps12
  go_wp2_with (go_at_call 19; (with_reducible refine (HE.out _ (by (repeat' (first | (with_reducible exact Below.refl _ _) | (with_reducible refine Below.setCell ?_ (by first | omega | (simp; done) | (simp; omega)) _) | (with_reducible refine Below.alloc ?_ (by first | omega | (simp; done) | (simp; omega)) _) | (with_reducible refine Below.drew ?_) | (with_reducible refine below_drewN ?_ _) | (with_reducible refine Below.trans ?_ (Below.mono (by assumption) (by first | omega | (simp; done) | (simp; omega)))))))).mono ?_); rintro e w1 ⟨rfl, hb⟩; obtain ⟨hc, hf, hz⟩ := bcall hb; (try simp at hc hf hz))
  go_ret2
  refine ⟨rfl, ?_⟩
  (repeat' (first | (with_reducible exact Below.refl _ _) | (with_reducible refine Below.setCell ?_ (by first | omega | (simp; done) | (simp; omega)) _) | (with_reducible refine Below.alloc ?_ (by first | omega | (simp; done) | (simp; omega)) _) | (with_reducible refine Below.drew ?_) | (with_reducible refine below_drewN ?_ _) | (with_reducible refine Below.trans ?_ (Below.mono (by assumption) (by first | omega | (simp; done) | (simp; omega))))))
set_option maxHeartbeats 4000000 in
theorem wBodies_1 (V : ∀ wx, Below w.heap.size w wx → Calls Tryd.prog 27 #[.agg #[.int .i64 W, .int .i64 H, .slice (ao) n cap], .agg #[.slice (ak) nk ck, .slice (ab) nb cb]] wx fun e w' => e = .returned (.bool false) ∧ Below wx.heap.size wx w') :
    Calls Tryd.prog 9 #[.agg #[.int .i64 W, .int .i64 H, .slice (ao) n cap], .agg #[.slice (ak) nk ck, .slice (ab) nb cb]] w fun e w' => e = .returned (.tuple #[.slice none 0 0, .int .i64 1]) ∧ Below w.heap.size w w' := by
  have V := Lib.hid V
  go_enter Tryd.func9, Tryd.ntmps9
  go_wp2_with (go_at_call 27; (with_reducible refine (V.out _ (by (repeat' (first | (with_reducible exact Below.refl _ _) | (with_reducible refine Below.setCell ?_ (by first | omega | (simp; done) | (simp; omega)) _) | (with_reducible refine Below.alloc ?_ (by first | omega | (simp; done) | (simp; omega)) _) | (with_reducible refine Below.drew ?_) | (with_reducible refine below_drewN ?_ _) | (with_reducible refine Below.trans ?_ (Below.mono (by assumption) (by first | omega | (simp; done) | (simp; omega)))))))).mono ?_); rintro e w1 ⟨rfl, hb⟩; obtain ⟨hc, hf, hz⟩ := bcall hb; (try simp at hc hf hz))
  go_ret2
  refine ⟨rfl, ?_⟩
  (repeat' (first | (with_reducible exact Below.refl _ _) | (with_reducible refine Below.setCell ?_ (by first | omega | (simp; done) | (simp; omega)) _) | (with_reducible refine Below.alloc ?_ (by first | omega | (simp; done) | (simp; omega)) _) | (with_reducible refine Below.drew ?_) | (with_reducible refine below_drewN ?_ _) | (with_reducible refine Below.trans ?_ (Below.mono (by assumption) (by first | omega | (simp; done) | (simp; omega))))))
set_option maxHeartbeats 4000000 in
theorem rBodies_1 (V : ∀ wx, Below w.heap.size w wx → Calls Tryd.prog 23 #[.agg #[.int .i64 W, .int .i64 H, .slice (ao) n cap], .agg #[.slice (ak) nk ck, .slice (ab) nb cb]] wx fun e w' => e = .returned (.bool false) ∧ Below wx.heap.size wx w') :
    Calls Tryd.prog 10 #[.agg #[.int .i64 W, .int .i64 H, .slice (ao) n cap], .agg #[.slice (ak) nk ck, .slice (ab) nb cb]] w fun e w' => e = .returned (.tuple #[.slice none 0 0, .int .i64 1]) ∧ Below w.heap.size w w' := by
  have V := Lib.hid V
  go_enter Tryd.func10, Tryd.ntmps10
  go_wp2_with (go_at_call 23; (with_reducible refine (V.out _ (by (repeat' (first | (with_reducible exact Below.refl _ _) | (with_reducible refine Below.setCell ?_ (by first | omega | (simp; done) | (simp; omega)) _) | (with_reducible refine Below.alloc ?_ (by first | omega | (simp; done) | (simp; omega)) _) | (with_reducible refine Below.drew ?_) | (with_reducible refine below_drewN ?_ _) | (with_reducible refine Below.trans ?_ (Below.mono (by assumption) (by first | omega | (simp; done) | (simp; omega)))))))).mono ?_); rintro e w1 ⟨rfl, hb⟩; obtain ⟨hc, hf, hz⟩ := bcall hb; (try simp at hc hf hz))
  go_ret2
  refine ⟨rfl, ?_⟩
  (repeat' (first | (with_reducible exact Below.refl _ _) | (with_reducible refine Below.setCell ?_ (by first | omega | (simp; done) | (simp; omega)) _) | (with_reducible refine Below.alloc ?_ (by first | omega | (simp; done) | (simp; omega)) _) | (with_reducible refine Below.drew ?_) | (with_reducible refine below_drewN ?_ _) | (with_reducible refine Below.trans ?_ (Below.mono (by assumption) (by first | omega | (simp; done) | (simp; omega))))))
end
end Go.Proofs.YtdbehbeaigfpcaaDoor
