/- A body's drag: by the program. -/
import Derived.Test.YtdbehbeaigfpcaaDoorKImpW
import Derived.Test.YtdbehbeaigfpcaaDoorKWRun
import Derived.Test.YtdbehbeaigfpcaaDoorKWall
import Derived.Deep.CutRange
namespace Go.Proofs.YtdbehbeaigfpcaaDoor
set_option linter.unusedSimpArgs false
set_option linter.unusedVariables false
open Go.RowKit

theorem blocks322w {w wo : World} {t1 t2 t4 : TypeId} {a b c d e h i : Value} (hb : Below (((w.alloc (.cells #[a, b, c] t1)).alloc (.cells #[d, e] t2)).alloc (.cells #[h, i] t4)).heap.size (((w.alloc (.cells #[a, b, c] t1)).alloc (.cells #[d, e] t2)).alloc (.cells #[h, i] t4)) wo) : Two wo (w.heap.size + 2) t4 h i := (Two.newAt (by simp)).below hb (by simp)
theorem two_exW {w : World} {P : Nat} {u v : Value} : Ex (fun k => k = P) w ((w.setCell ⟨P, 0, none⟩ u).setCell ⟨P, 1, none⟩ v) := by
  refine Ex.setCell (Ex.setCell (Ex.refl _ w) ?_ _) ?_ _ <;> rfl
theorem Two.exW {S : Nat → Prop} {w w' : World} {B : Nat} {t : TypeId} {x y : Value} (h : Two w B t x y) (hx : Ex S w w') (hs : ¬ S B) : Two w' B t x y := (hx.block B h.lt hs).trans h
theorem smW {C : Int} {f : Nat → Int} (hC : 0 ≤ C) (c : Nat) (h : ∀ j, j < c → -C ≤ f j ∧ f j ≤ C) (k : Nat) (hk : k ≤ c) : -(C * (k : Int)) ≤ sm k f ∧ sm k f ≤ C * (k : Int) := by
  induction k with
  | zero => simp [sm]
  | succ k ih =>
    have h1 := ih (by omega)
    have h2 := h k (by omega)
    simp only [sm, Int.natCast_add, Int.mul_add, Int.natCast_one, Int.mul_one]
    omega

set_option maxHeartbeats 4000000 in
theorem tun_stepP (P : Nat) (m W H n bk ok ck : Nat) (bv : Value) (rb ro len rc t : Nat) (K : Nat → Int) (R : Nat → Int × Int) (G : Nat → Nat → Int) (B : Nat) (w : World) (h : TunG w m W H n bk ok ck bv rb ro len rc K R G B) (s : Sides W H n) (hG : OkG n G) (hK : OkK n K) (hk : OkRs len R) (ht : t ≤ 1000000) (hP : P ≠ m) (hPw : P < w.heap.size) (hs : ∀ b1 c1, Tun w m W H n b1 c1 (.slice (some ⟨bk, ok, none⟩) n ck) bv (.slice (some ⟨rb, ro, none⟩) len rc) → P ≠ b1) :
    Calls Tryd.prog 35 #[.pointer (some ⟨m, 0, none⟩), .int .i64 t] w fun e w' => e = .returned (.tuple #[]) ∧ TunG w' m W H n bk ok ck bv rb ro len rc K R (fwdW W H K len R t G) B ∧ Below B w w' ∧ (∀ b1 c1, Tun w' m W H n b1 c1 (.slice (some ⟨bk, ok, none⟩) n ck) bv (.slice (some ⟨rb, ro, none⟩) len rc) → P ≠ b1) ∧ w'.heap[P]? = w.heap[P]? := by
  have HT := Lib.hid h
  obtain ⟨⟨b1, c1, hM, hr1, n1, q0, q1⟩, hN, hR, hT, lbk, lrb, ltb, low⟩ := h
  have hPb := hs b1 c1 hM
  clear hs
  have C := Lib.hid (change_met m W H n b1 c1 bk ok ck rb ro len rc t bv K R G w hM hr1 s.n1 hG hK n1 (by omega) (by omega) hT hN (by omega) hR (by omega) hk ht)
  have HS := Lib.hid s
  have HG := Lib.hid (okG_met hK (k := (R (t % len)).1) (y := (R (t % len)).2) hG)
  have HM := Lib.hid hM
  clear hM hr1 hN hR hT s hG hK hk
  go_enter Tryd.func35, Tryd.ntmps35
  go_wp2_with fail
  go_at_call 56
  refine C.out.mono ?_
  rintro e w1 ⟨rfl, hr, hx⟩
  have hM1 := HM.out.ex hx n1
  have D := Lib.hid (gStreamR_ok W H b1 0 n c1 _ w1 HS.out HG.out hr.1 hr.grd)
  have k0 := hM1.k0
  have k1 := hM1.k1
  have k2 := hM1.k2
  have lm := hM1.lt
  have HX := Lib.hid (hx.below (B := B) low (fun k hk => by omega))
  have HM1 := Lib.hid hM1
  have ls := hx.size
  have HP1 := Lib.hid (hx.block P hPw hPb)
  clear hM1 hx hr C HM
  go_wp2_with fail
  go_at_call 58
  refine D.out.mono ?_
  rintro e w2 ⟨b2, c2, rfl, hr2, lo2, hb2⟩
  have hM2 := HM1.out.below hb2 lm
  have k0 := hM2.k0
  have k1 := hM2.k1
  have k2 := hM2.k2
  have f0 := hM2.free 0
  have f1 := hM2.free 1
  have f2 := hM2.free 2
  have lm2 := hM2.lt
  have hB2 : Below B w w2 := HX.out.trans (hb2.mono (by omega))
  have HP2 := Lib.hid ((hb2.block P (by omega)).trans HP1.out)
  have hP2 : P < w2.heap.size := by have := hb2.size; omega
  have hPb2 : P ≠ b2 := by omega
  have HM2 := Lib.hid hM2
  have HR2 := Lib.hid hr2
  have HB2 := Lib.hid hB2
  clear hM2 hr2 hb2 hB2 D
  go_wp2
  go_end0
  have x : Ex (fun k => k = m) w2 (((w2.setCell ⟨m, 0, none⟩ (.int .i64 W)).setCell ⟨m, 1, none⟩ (.int .i64 H)).setCell ⟨m, 2, none⟩ (.slice (some ⟨b2, 0, none⟩) n c2)) := three_ex
  have hB := HB2.out.trans (x.below (Nat.le_trans low HB2.out.size) (fun k hk => by omega) : Below B w2 _)
  have hM3 := HM2.out.set3 b2 c2
  refine ⟨rfl, HT.out.next hB hM3 (HR2.out.ex x (by omega)) (by omega) (by omega), hB, fun b3 c3 h3 => ?_, (x.block P hP2 hP).trans HP2.out⟩
  have e := hM3.k2.symm.trans h3.k2
  simp at e
  omega

/-- What stands in a round of the program's drag: the tunnel, and the sum apart from it. -/
structure DWI (w : World) (m W H n bk ok ck : Nat) (bv : Value) (rb ro len rc : Nat) (K : Nat → Int) (R : Nat → Int × Int) (G : Nat → Nat → Int) (B P : Nat) (x y : Int) (wr : World) : Prop where
  tun : TunG wr m W H n bk ok ck bv rb ro len rc K R G B
  sep : ∀ b1 c1, Tun wr m W H n b1 c1 (.slice (some ⟨bk, ok, none⟩) n ck) bv (.slice (some ⟨rb, ro, none⟩) len rc) → P ≠ b1
  sum : Two wr P 33 (.int .i64 x) (.int .i64 y)
  res : Two wr (w.heap.size + 2) 33 (.int .i64 0) (.int .i64 0)
  below : Below w.heap.size w wr
  n1 : P ≠ m
  lo : B ≤ P
  lo2 : w.heap.size + 3 ≤ B
section
variable {w wr : World} {m W H n bk ok ck : Nat} {bv : Value} {rb ro len rc : Nat} {K : Nat → Int} {R : Nat → Int × Int} {G : Nat → Nat → Int} {B P : Nat} {x y : Int}
theorem DWI.added (h : DWI w m W H n bk ok ck bv rb ro len rc K R G B P x y wr) {Z : World} (hx : Below wr.heap.size wr Z) (x' y' : Int) : DWI w m W H n bk ok ck bv rb ro len rc K R G B P x' y' ((Z.setCell ⟨P, 0, none⟩ (.int .i64 x')).setCell ⟨P, 1, none⟩ (.int .i64 y')) := by
  have ex : Ex (fun k => k = P) Z ((Z.setCell ⟨P, 0, none⟩ (.int .i64 x')).setCell ⟨P, 1, none⟩ (.int .i64 y')) := two_exW
  have hlo := h.lo
  have hlo2 := h.lo2
  have hn := h.n1
  have hl := h.tun.low
  have hs := hx.size
  have hb1 : Below B wr Z := hx.mono hl
  have hb2 : Below B wr ((Z.setCell ⟨P, 0, none⟩ (.int .i64 x')).setCell ⟨P, 1, none⟩ (.int .i64 y')) := hb1.trans (ex.below (by omega) (fun k hk => by omega))
  have hbw := h.below.size
  obtain ⟨b1, c1, hM, hr, m1, q0, q1⟩ := h.tun.ex
  have hp := h.sep b1 c1 hM
  have hM2 := (hM.below hx hM.lt).ex ex (fun e => hn e.symm)
  have hr2 := (hr.below hx hr.1).ex ex (fun e => hp e.symm)
  refine ⟨h.tun.next hb2 hM2 hr2 m1 q1, fun b3 c3 h3 => ?_, (h.sum.below hx h.sum.lt).set2 _ _, (h.res.below hx h.res.lt).exW ex (by omega), h.below.trans (hb2.mono (by omega)), hn, hlo, hlo2⟩
  have e := hM2.k2.symm.trans h3.k2
  simp at e
  omega
theorem DWI.stepped (h : DWI w m W H n bk ok ck bv rb ro len rc K R G B P x y wr) {w' : World} {G' : Nat → Nat → Int} (ht : TunG w' m W H n bk ok ck bv rb ro len rc K R G' B) (hb : Below B wr w') (hs : ∀ b1 c1, Tun w' m W H n b1 c1 (.slice (some ⟨bk, ok, none⟩) n ck) bv (.slice (some ⟨rb, ro, none⟩) len rc) → P ≠ b1) (hp : w'.heap[P]? = wr.heap[P]?) : DWI w m W H n bk ok ck bv rb ro len rc K R G' B P x y w' := by
  have hlo2 := h.lo2
  exact ⟨ht, hs, hp.trans h.sum, h.res.below hb (by omega), h.below.trans (hb.mono (by omega)), h.n1, h.lo, hlo2⟩
end

set_option maxRecDepth 100000 in
set_option maxHeartbeats 8000000 in
theorem wdrag_in (W H n cap b off bk ok ck rb ro len rc t c bb ob cb : Nat) (K Bd : Nat → Int) (R : Nat → Int × Int) (G : Nat → Nat → Int) (body : Int) (w : World) (s : Sides W H n) (hG : OkG n G) (hlt : b < w.heap.size) (hC : Grd w b off n G) (hK : OkK n K) (hbk : bk < w.heap.size) (hN : NumsAt w bk ok n K) (lbb : bb < w.heap.size) (hB : NumsAt w bb ob n Bd) (hrb : rb < w.heap.size) (hR : RulesAt w rb ro len R) (hk : OkRs len R) (hT : Tbl w) (hr : RunOk t c) (hb1 : 1 ≤ body) (hb9 : body ≤ 9)
    (E : ∀ wx, Below w.heap.size w wx → Calls Tryd.prog 34 #[.agg #[.int .i64 W, .int .i64 H, .slice (some ⟨b, off, none⟩) n cap], .agg #[.slice (some ⟨bk, ok, none⟩) n ck, .slice (some ⟨bb, ob, none⟩) n cb], .slice (some ⟨rb, ro, none⟩) len rc, .int .i64 t, .int .i64 c] wx fun e w' => e = .returned (.int .i64 0) ∧ Below wx.heap.size wx w')
    (HS : ∀ wx, Below w.heap.size w wx → Calls Tryd.prog 20 #[.agg #[.slice (some ⟨bk, ok, none⟩) n ck, .slice (some ⟨bb, ob, none⟩) n cb], .int .i64 body] wx fun e w' => e = .returned (.bool true) ∧ Below wx.heap.size wx w')
    (FE FN : Nat → Int) (hF : ∀ k, k < c → (-2100000000000 ≤ FE k ∧ FE k ≤ 2100000000000)) (hF' : ∀ k, k < c → (-2100000000000 ≤ FN k ∧ FN k ≤ 2100000000000))
    (eE : ∀ k, k < c → FE k = sumL (dE K (runG (fwdW W H K len R) t k G)) (ownN Bd body n)) (eN : ∀ k, k < c → FN k = sumL (dN K (runG (fwdW W H K len R) t k G)) (ownN Bd body n)) :
    Calls Tryd.prog 17 #[.agg #[.int .i64 W, .int .i64 H, .slice (some ⟨b, off, none⟩) n cap], .agg #[.slice (some ⟨bk, ok, none⟩) n ck, .slice (some ⟨bb, ob, none⟩) n cb], .slice (some ⟨rb, ro, none⟩) len rc, .int .i64 t, .int .i64 c, .int .i64 body] w fun e w' => e = .returned (.tuple #[.agg #[.int .i64 (sm c FE), .int .i64 (sm c FN)], .int .i64 0]) ∧ Below w.heap.size w w' := by
  have HE := Lib.hid E; clear E
  have HHS := Lib.hid HS; clear HS
  have NT := Lib.hid (fun wx (hb : Below w.heap.size w wx) => newTunnel_any W H b off n cap bk ok ck rb ro len rc (some ⟨bb, ob, none⟩) n cb K R G wx s (Nat.lt_of_lt_of_le hlt hb.size) (hC.below hb hlt) (Nat.lt_of_lt_of_le hbk hb.size) (hN.below hb hbk) (Nat.lt_of_lt_of_le hrb hb.size) (hR.below2 hb hrb) (hT.below2 hb hT.lt))
  have hc' : c ≤ 1000 := by unfold RunOk at hr; omega
  have ht : t ≤ 1000000 := by unfold RunOk at hr; omega
  have htc : c = 0 ∨ t + c ≤ 1000001 := by unfold RunOk at hr; omega
  have hn1 := s.n1
  have S := Lib.hid s
  have HG := Lib.hid hG
  have HK := Lib.hid hk
  have HKK := Lib.hid hK
  have HB := Lib.hid hB
  have HF := Lib.hid hF
  have HF' := Lib.hid hF'
  have EE := Lib.hid eE
  have EN := Lib.hid eN
  clear hC hR hG s hk hr hN hT hK hB hF hF' eE eN
  go_enter Tryd.func17, Tryd.ntmps17
  go_wp2_with (first | (go_at_call 34; (with_reducible refine (HE.out _ (by (repeat' (first | (with_reducible exact Below.refl _ _) | (with_reducible refine Below.setCell ?_ (by first | omega | (simp; done) | (simp; omega)) _) | (with_reducible refine Below.alloc ?_ (by first | omega | (simp; done) | (simp; omega)) _) | (with_reducible refine Below.drew ?_) | (with_reducible refine below_drewN ?_ _) | (with_reducible refine Below.trans ?_ (Below.mono (by assumption) (by first | omega | (simp; done) | (simp; omega)))))))).mono ?_); rintro e w1 ⟨rfl, hb⟩; obtain ⟨hc, hf, hz⟩ := bcall hb; (try simp at hc hf hz)) | (go_at_call 38; (with_reducible refine (isBody_yes _ _ hb1 hb9).mono ?_); rintro e w1 ⟨rfl, rfl⟩) | (go_at_call 20; (with_reducible refine (HHS.out _ (by (repeat' (first | (with_reducible exact Below.refl _ _) | (with_reducible refine Below.setCell ?_ (by first | omega | (simp; done) | (simp; omega)) _) | (with_reducible refine Below.alloc ?_ (by first | omega | (simp; done) | (simp; omega)) _) | (with_reducible refine Below.drew ?_) | (with_reducible refine below_drewN ?_ _) | (with_reducible refine Below.trans ?_ (Below.mono (by assumption) (by first | omega | (simp; done) | (simp; omega)))))))).mono ?_); rintro e wh ⟨rfl, hbh⟩; obtain ⟨hch, hfh, hzh⟩ := bcall hbh; (try simp at hch hfh hzh)))
  have hbw : Below w.heap.size w wh := by (repeat' (first | (with_reducible exact Below.refl _ _) | (with_reducible refine Below.setCell ?_ (by first | omega | (simp; done) | (simp; omega)) _) | (with_reducible refine Below.alloc ?_ (by first | omega | (simp; done) | (simp; omega)) _) | (with_reducible refine Below.drew ?_) | (with_reducible refine below_drewN ?_ _) | (with_reducible refine Below.trans ?_ (Below.mono (by assumption) (by first | omega | (simp; done) | (simp; omega))))))
  have t2 := blocks322w (hb.trans (hbh.mono hb.size))
  have hsz : w.heap.size + 3 ≤ wh.heap.size := by omega
  have T2 := Lib.hid t2
  have HBW := Lib.hid hbw
  clear hc hf hz hb hch hfh hzh hbh hbw t2 HE HHS
  go_at_call 21
  refine (NT.out wh HBW.out).mono ?_
  rintro e w2 ⟨m, rfl, hTn, hb2⟩
  obtain ⟨Bs, hBs⟩ : ∃ B, B = wh.heap.size := ⟨_, rfl⟩
  rw [← hBs] at hTn hb2 hsz
  have hA : Below w2.heap.size w2 (w2.alloc (.cells #[.int .i64 0, .int .i64 0] 33)) := (Below.refl _ _).alloc (Nat.le_refl _) _
  have hI : DWI w m W H n bk ok ck (.slice (some ⟨bb, ob, none⟩) n cb) rb ro len rc K R G Bs w2.heap.size 0 0 (w2.alloc (.cells #[.int .i64 0, .int .i64 0] 33)) := by
    obtain ⟨b1, c1, hM, hr, m1, q0, q1⟩ := hTn.out.ex
    have hM2 := hM.below hA hM.lt
    have hlow := hTn.out.low
    have hml := hM.lt
    have hbl := hr.1
    have hwh := HBW.out.size
    refine ⟨hTn.out.next (hA.mono hlow) hM2 (hr.below hA hr.1) m1 q1, fun b3 c3 h3 => ?_, Two.new _ _ _ _, (T2.out.below hb2 (by omega)).below hA (by omega), (HBW.out.trans (hb2.mono (by omega))).trans (hA.mono (by omega)), by omega, hlow, hsz⟩
    have e := hM2.k2.symm.trans h3.k2
    simp at e
    omega
  obtain ⟨P, hP⟩ : ∃ P, P = w2.heap.size := ⟨_, rfl⟩
  rw [← hP] at hI
  have HI := Lib.hid hI
  clear hI hA hb2 T2 hTn NT hBs
  go_wp2_with fail
  rw [← hP]
  clear hP
  go_loopw [43] (fun i wr => ∃ k : Nat, k ≤ c ∧ i = .int .i64 k ∧ Hid (DWI w m W H n bk ok ck (.slice (some ⟨bb, ob, none⟩) n cb) rb ro len rc K R (runG (fwdW W H K len R) t k G) Bs P (sm k FE) (sm k FN) wr)) (fun i _ => c - (intOf i).toNat)
  case atStart => exact ⟨0, Nat.zero_le _, rfl, HI⟩
  case round =>
    obtain ⟨k, hk, rfl, HH⟩ := hrel
    by_cases hlk : k < c
    · obtain ⟨b1, c1, hM, hr1, m1, q0, q1⟩ := HH.out.tun.ex
      have hbr := HH.out.below
      have IM := callsIn_wide.1 (wimpulse_in m W H n b1 c1 bk ok ck bb ob cb (.slice (some ⟨rb, ro, none⟩) len rc) K Bd body (runG (fwdW W H K len R) t k G) wr hM hr1 hn1 (okG_runW S.out.n0 HKK.out HG.out) HKK.out HH.out.tun.tbl (Nat.lt_of_lt_of_le hbk hbr.size) HH.out.tun.nums (Nat.lt_of_lt_of_le lbb hbr.size) (HB.out.below hbr lbb))
      rw [← EE.out k hlk, ← EN.out k hlk] at IM
      have IM := Lib.hid IM
      clear hM hr1 m1 q0 q1 hbr
      go_wp2_with fail
      go_at_call 22
      refine IM.out.mono ?_
      rintro e w3 ⟨rfl, hb3⟩
      have q0 : (w3.alloc (.cells #[.int .i64 (FE k), .int .i64 (FN k)] 33)).cell? ⟨w3.heap.size, 0, none⟩ = some (.int .i64 (FE k)) := (Two.new w3 _ _ _).c0
      have q1 : (w3.alloc (.cells #[.int .i64 (FE k), .int .i64 (FN k)] 33)).cell? ⟨w3.heap.size, 1, none⟩ = some (.int .i64 (FN k)) := (Two.new w3 _ _ _).c1
      have lQ : w3.heap.size < (w3.alloc (.cells #[.int .i64 (FE k), .int .i64 (FN k)] 33)).heap.size := by simp
      have ZB : Below wr.heap.size wr (w3.alloc (.cells #[.int .i64 (FE k), .int .i64 (FN k)] 33)) := hb3.alloc hb3.size _
      have hPQ : P < w3.heap.size := by have := HH.out.sum.lt; have := hb3.size; omega
      have tp := HH.out.sum.below ZB HH.out.sum.lt
      have p0 := tp.c0
      have p1 := tp.c1
      have f0 := tp.f0 0
      have f1 := tp.f0 1
      have lP := tp.lt
      have HD := Lib.hid (HH.out.added ZB (sm k FE + FE k) (sm k FN + FN k))
      have b1 := smW (C := 2100000000000) (by omega) c HF.out k (by omega)
      have b2 := smW (C := 2100000000000) (by omega) c HF'.out k (by omega)
      have b3 := HF.out k hlk
      have b4 := HF'.out k hlk
      have s1 : IntKind.i64.wrap (sm k FE + FE k) = sm k FE + FE k := IntWalk.i64_in _ ⟨by omega, by omega⟩
      have s2 : IntKind.i64.wrap (sm k FN + FN k) = sm k FN + FN k := IntWalk.i64_in _ ⟨by omega, by omega⟩
      have e1 : IntKind.i64.wrap ((t : Int) + (k : Int)) = (t : Int) + (k : Int) := IntWalk.i64_in _ ⟨by omega, by omega⟩
      clear b1 b2 b3 b4 ZB tp IM hb3
      go_upto_region 14 with fail
      obtain ⟨Z, hZ⟩ : ∃ Z, Z = w3.alloc (.cells #[.int .i64 (FE k), .int .i64 (FN k)] 33) := ⟨_, rfl⟩
      rw [← hZ] at q0 q1 lQ p0 p1 f0 f1 lP HD
      rw [← hZ]
      obtain ⟨Q, hQ⟩ : ∃ Q, Q = w3.heap.size := ⟨_, rfl⟩
      rw [← hQ] at q0 q1 lQ hPQ
      rw [← hQ]
      clear hZ hQ
      go_wp2_with fail
      go_at_call 35
      have hD := HD.out
      have q := tun_stepP P m W H n bk ok ck (.slice (some ⟨bb, ob, none⟩) n cb) rb ro len rc (t + k) K R (runG (fwdW W H K len R) t k G) Bs _ hD.tun S.out (okG_runW S.out.n0 HKK.out HG.out) HKK.out HK.out (by omega) hD.n1 hD.sum.lt hD.sep
      have ez : ((t : Int) + (k : Int)) = ((t + k : Nat) : Int) := by omega
      rw [← ez] at q
      refine q.mono ?_
      rintro e w5 ⟨rfl, hT5, hb5, hs5, hp5⟩
      have HN := Lib.hid (hD.stepped hT5 hb5 hs5 hp5)
      clear q ez hD hT5 hb5 hs5 hp5 q0 q1 lQ hPQ p0 p1 f0 f1 lP HD s1 s2
      go_wp2
      go_roundw
      case rel => exact ⟨k + 1, by omega, by go_num, HN⟩
      case measure => simp [intOf]; omega
    · obtain rfl : c = k := by omega
      have q0 := HH.out.sum.c0
      have q1 := HH.out.sum.c1
      have lq := HH.out.sum.lt
      have p0 := HH.out.res.c0
      have p1 := HH.out.res.c1
      have f0 := HH.out.res.f0 0
      have f1 := HH.out.res.f0 1
      have lp := HH.out.res.lt
      go_wp2
      refine bodyPost_ret (v := .tuple #[.agg #[.int .i64 (sm c FE), .int .i64 (sm c FN)], .int .i64 0]) (by simp [results, Tryd.results17, go_sem, ↓IntWalk.iteOmega, *]) rfl ?_
      have hB := HH.out.below
      refine ⟨rfl, ?_⟩
      (repeat' (first | (with_reducible exact Below.refl _ _) | (with_reducible refine Below.setCell ?_ (by first | omega | (simp; done) | (simp; omega)) _) | (with_reducible refine Below.alloc ?_ (by first | omega | (simp; done) | (simp; omega)) _) | (with_reducible refine Below.drew ?_) | (with_reducible refine below_drewN ?_ _) | (with_reducible refine Below.trans ?_ (Below.mono (by assumption) (by first | omega | (simp; done) | (simp; omega))))))
end Go.Proofs.YtdbehbeaigfpcaaDoor
