/- A body's drag: by the reference. -/
import Derived.Test.YtnpmlbhlchoolaaDoorKRefImW
import Derived.Test.YtnpmlbhlchoolaaDoorKRefWRun
import Derived.Test.YtnpmlbhlchoolaaDoorKRefShapes
import Derived.Deep.CutRange
namespace Go.Proofs.YtnpmlbhlchoolaaDoor
set_option linter.unusedSimpArgs false
set_option linter.unusedVariables false
open Go.RowKit

/-- The impulse by the reference, as one sum over the body's cells. -/
theorem rimpulse_in (W H : Int) (n cap b off bk ok ck bb ob cb : Nat) (K B : Nat → Int) (body : Int) (G : Nat → Nat → Int) (w : World) (hm : 1 ≤ (ownN B body n).length) (hn : n ≤ 1024) (hG : OkG n G) (hlt : b < w.heap.size) (hC : Grd w b off n G) (hK : OkK n K) (lbk : bk < w.heap.size) (hN : NumsAt w bk ok n K) (lbb : bb < w.heap.size) (hB : NumsAt w bb ob n B) :
    Calls Tryd.prog 60 #[.agg #[.int .i64 W, .int .i64 H, .slice (some ⟨b, off, none⟩) n cap], .agg #[.slice (some ⟨bk, ok, none⟩) n ck, .slice (some ⟨bb, ob, none⟩) n cb], .int .i64 body] w fun e w' => e = .returned (.agg #[.int .i64 (sumL (dE K G) (ownN B body n)), .int .i64 (sumL (dN K G) (ownN B body n))]) ∧ Below w.heap.size w w' := by
  obtain ⟨a1, a2⟩ := sumL_im K G (ownN B body n)
  have hl : (ownN B body n).length ≤ n := by rw [ownN_len]; exact cntB_le _ _ _
  have h := rimp_walk W H n cap b off bk ok ck bb ob cb K B body G w (ownN B body n).length (fun j => (ownN B body n).getD j 0) hm (by omega) hn (fun j hj => by
    rw [List.getD_eq_getElem?_getD, List.getElem?_eq_getElem hj]
    exact (ownN_mem (List.getElem_mem hj)).1) hG hlt hC hK lbk hN (fun wx hb => rown_in _ n ck bb ob n cb B body wx hn (Nat.lt_of_lt_of_le lbb hb.size) (hB.below hb lbb)) _ _ (fun _ _ => rfl) (fun _ _ => rfl)
  rw [a1, a2] at h
  exact h

theorem two_ex {w : World} {P : Nat} {u v : Value} : Ex (fun k => k = P) w ((w.setCell ⟨P, 0, none⟩ u).setCell ⟨P, 1, none⟩ v) := by
  refine Ex.setCell (Ex.setCell (Ex.refl _ w) ?_ _) ?_ _ <;> rfl
theorem Two.exB {S : Nat → Prop} {w w' : World} {B : Nat} {t : TypeId} {x y : Value} (h : Two w B t x y) (hx : Ex S w w') (hs : ¬ S B) : Two w' B t x y := (hx.block B h.lt hs).trans h
theorem Grd.exB {S : Nat → Prop} {w w' : World} {b off n : Nat} {G : Nat → Nat → Int} (h : Grd w b off n G) (hb : b < w.heap.size) (hx : Ex S w w') (hs : ¬ S b) : Grd w' b off n G := fun i hi =>
  ⟨(hx.cell hb hs).trans (h i hi).1, (hx.cell hb hs).trans (h i hi).2.1, (hx.cell hb hs).trans (h i hi).2.2.1, (hx.cell hb hs).trans (h i hi).2.2.2⟩

/-- What stands in a round of the drag. -/
structure RDI (w : World) (W H n P : Nat) (kv bv : Value) (x y : Int) (bb oo cc : Nat) (G : Nat → Nat → Int) (wr : World) : Prop where
  g : Three wr w.heap.size 24 (.int .i64 W) (.int .i64 H) (.slice (some ⟨bb, oo, none⟩) n cc)
  wl : Two wr (w.heap.size + 1) 27 kv bv
  rs : Two wr (w.heap.size + 2) 48 (.int .i64 0) (.int .i64 0)
  sum : Two wr P 48 (.int .i64 x) (.int .i64 y)
  cells : Grd wr bb oo n G
  lt : bb < wr.heap.size
  n1 : bb ≠ w.heap.size
  n2 : bb ≠ P
  below : Below w.heap.size w wr
  lo : w.heap.size + 3 ≤ P
section
variable {w wr : World} {W H n P : Nat} {kv bv : Value} {x y : Int} {bb oo cc : Nat} {G : Nat → Nat → Int}
theorem RDI.added (h : RDI w W H n P kv bv x y bb oo cc G wr) {Z : World} (hx : Below wr.heap.size wr Z) (x' y' : Int) : RDI w W H n P kv bv x' y' bb oo cc G ((Z.setCell ⟨P, 0, none⟩ (.int .i64 x')).setCell ⟨P, 1, none⟩ (.int .i64 y')) := by
  have ex : Ex (fun k => k = P) Z ((Z.setCell ⟨P, 0, none⟩ (.int .i64 x')).setCell ⟨P, 1, none⟩ (.int .i64 y')) := two_ex
  have l := h.lo
  have n2 := h.n2
  have hb := h.below.trans (hx.mono h.below.size)
  exact ⟨(h.g.below hx h.g.lt).ex ex (by omega), (h.wl.below hx h.wl.lt).exB ex (by omega), (h.rs.below hx h.rs.lt).exB ex (by omega), (h.sum.below hx h.sum.lt).set2 _ _, (h.cells.below hx h.lt).exB (Nat.lt_of_lt_of_le h.lt hx.size) ex n2, Nat.lt_of_lt_of_le (Nat.lt_of_lt_of_le h.lt hx.size) ex.size, h.n1, n2, hb.trans (ex.below hb.size (fun k hk => by omega)), l⟩
theorem RDI.drew (h : RDI w W H n P kv bv x y bb oo cc G wr) : RDI w W H n P kv bv x y bb oo cc G wr.drew := ⟨h.g, h.wl, h.rs, h.sum, fun i hi => h.cells i hi, h.lt, h.n1, h.n2, h.below.drew, h.lo⟩
theorem RDI.stepped (h : RDI w W H n P kv bv x y bb oo cc G wr) {Z : World} (hx : Below wr.heap.size wr Z) {p cp : Nat} {G' : Nat → Nat → Int} (hr : Row Z p n G') (hp : wr.heap.size ≤ p) : RDI w W H n P kv bv x y p 0 cp G' (((Z.setCell ⟨w.heap.size, 0, none⟩ (.int .i64 W)).setCell ⟨w.heap.size, 1, none⟩ (.int .i64 H)).setCell ⟨w.heap.size, 2, none⟩ (.slice (some ⟨p, 0, none⟩) n cp)) := by
  have ex : Ex (fun k => k = w.heap.size) Z (((Z.setCell ⟨w.heap.size, 0, none⟩ (.int .i64 W)).setCell ⟨w.heap.size, 1, none⟩ (.int .i64 H)).setCell ⟨w.heap.size, 2, none⟩ (.slice (some ⟨p, 0, none⟩) n cp)) := three_ex
  have l := h.lo
  have hs := h.sum.lt
  have hb := h.below.trans (hx.mono h.below.size)
  have hbw := h.below.size
  have hr' := hr.ex ex (by omega)
  exact ⟨(h.g.below hx h.g.lt).set, (h.wl.below hx h.wl.lt).exB ex (by omega), (h.rs.below hx h.rs.lt).exB ex (by omega), (h.sum.below hx h.sum.lt).exB ex (by omega), hr'.grd, hr'.1, by omega, by omega, hb.trans (ex.below hb.size (fun k hk => by omega)), l⟩
end

theorem smB {C : Int} {f : Nat → Int} (hC : 0 ≤ C) (c : Nat) (h : ∀ j, j < c → -C ≤ f j ∧ f j ≤ C) (k : Nat) (hk : k ≤ c) : -(C * (k : Int)) ≤ sm k f ∧ sm k f ≤ C * (k : Int) := by
  induction k with
  | zero => simp [sm]
  | succ k ih =>
    have h1 := ih (by omega)
    have h2 := h k (by omega)
    simp only [sm, Int.natCast_add, Int.mul_add, Int.natCast_one, Int.mul_one]
    omega

set_option maxRecDepth 100000 in
set_option maxHeartbeats 8000000 in
theorem rdrag_in (W H n cap b off bk ok ck : Nat) (ro : Option Addr) (len rc : Nat) (ab : Option Addr) (nb cb : Nat) (K : Nat → Int) (R : Nat → Int × Int) (G : Nat → Nat → Int) (t c : Nat) (body : Int) (w : World) (s : Sides W H n) (hG : OkG n G) (hlt : b < w.heap.size) (hC : Grd w b off n G) (hK : OkK n K) (hbk : bk < w.heap.size) (hN : NumsAt w bk ok n K) (hR : RulesIn w ro len R) (hk : OkRs len R) (hr : RunOk t c) (hb1 : 1 ≤ body) (hb9 : body ≤ 9) (m : Nat) (LL : Nat → Nat) (hm : 1 ≤ m) (hm1 : m ≤ 1024)
    (E : ∀ wx, Below w.heap.size w wx → Calls Tryd.prog 35 #[.agg #[.int .i64 W, .int .i64 H, .slice (some ⟨b, off, none⟩) n cap], .agg #[.slice (some ⟨bk, ok, none⟩) n ck, .slice (ab) nb cb], .slice ro len rc, .int .i64 t, .int .i64 c] wx fun e w' => e = .returned (.int .i64 0) ∧ Below wx.heap.size wx w')
    (OW : ∀ wx, Below w.heap.size w wx → Calls Tryd.prog 59 #[.agg #[.slice (some ⟨bk, ok, none⟩) n ck, .slice (ab) nb cb], .int .i64 body] wx fun e w' => ∃ ao co, e = .returned (.slice ao m co) ∧ NatsIn w' ao m LL ∧ Below wx.heap.size wx w')
    (FE FN : Nat → Int) (hF : ∀ k, k < c → (-2100000000000 ≤ FE k ∧ FE k ≤ 2100000000000)) (hF' : ∀ k, k < c → (-2100000000000 ≤ FN k ∧ FN k ≤ 2100000000000))
    (IM : ∀ k bb oo cc wx, k < c → Below w.heap.size w wx → bb < wx.heap.size → Grd wx bb oo n (runG (fwdW W H K len R) t k G) → Calls Tryd.prog 60 #[.agg #[.int .i64 W, .int .i64 H, .slice (some ⟨bb, oo, none⟩) n cc], .agg #[.slice (some ⟨bk, ok, none⟩) n ck, .slice (ab) nb cb], .int .i64 body] wx fun e w' => e = .returned (.agg #[.int .i64 (FE k), .int .i64 (FN k)]) ∧ Below wx.heap.size wx w') :
    Calls Tryd.prog 31 #[.agg #[.int .i64 W, .int .i64 H, .slice (some ⟨b, off, none⟩) n cap], .agg #[.slice (some ⟨bk, ok, none⟩) n ck, .slice (ab) nb cb], .slice ro len rc, .int .i64 t, .int .i64 c, .int .i64 body] w fun e w' => e = .returned (.tuple #[.agg #[.int .i64 (sm c FE), .int .i64 (sm c FN)], .int .i64 0]) ∧ Below w.heap.size w w' := by
  have hm0 : ((m : Int) == 0) = false := by simp; omega
  have HE := Lib.hid E; clear E
  have OW := Lib.hid OW
  have IM := Lib.hid IM
  have hc' : c ≤ 1000 := by unfold RunOk at hr; omega
  have ht : t ≤ 1000000 := by unfold RunOk at hr; omega
  have S := Lib.hid s
  have HG := Lib.hid hG
  have HK := Lib.hid hk
  have HR := Lib.hid hR
  have HKK := Lib.hid hK
  have HN := Lib.hid hN
  have HF := Lib.hid hF
  have HF' := Lib.hid hF'
  have HC := Lib.hid hC
  clear hC hR hG s hk hr hK hN hF hF'
  go_enter Tryd.func31, Tryd.ntmps31
  go_wp2_with (first | (go_at_call 35; (with_reducible refine (HE.out _ (by (repeat' (first | (with_reducible exact Below.refl _ _) | (with_reducible refine Below.setCell ?_ (by first | omega | (simp; done) | (simp; omega)) _) | (with_reducible refine Below.alloc ?_ (by first | omega | (simp; done) | (simp; omega)) _) | (with_reducible refine Below.drew ?_) | (with_reducible refine below_drewN ?_ _) | (with_reducible refine Below.trans ?_ (Below.mono (by assumption) (by first | omega | (simp; done) | (simp; omega)))))))).mono ?_); rintro e w1 ⟨rfl, hb⟩; obtain ⟨hc, hf, hz⟩ := bcall hb; (try simp at hc hf hz)) | (go_at_call 58; (with_reducible refine (rIsBody_yes _ _ hb1 hb9).mono ?_); rintro e w1 ⟨rfl, rfl⟩) | (go_at_call 59; (with_reducible refine (OW.out _ (by (repeat' (first | (with_reducible exact Below.refl _ _) | (with_reducible refine Below.setCell ?_ (by first | omega | (simp; done) | (simp; omega)) _) | (with_reducible refine Below.alloc ?_ (by first | omega | (simp; done) | (simp; omega)) _) | (with_reducible refine Below.drew ?_) | (with_reducible refine below_drewN ?_ _) | (with_reducible refine Below.trans ?_ (Below.mono (by assumption) (by first | omega | (simp; done) | (simp; omega)))))))).mono ?_); rintro e wo ⟨ao, co, rfl, hNI, hb3⟩; clear hNI; obtain ⟨hc3, hf3, hz3⟩ := bcall hb3; (try simp at hc3 hf3 hz3)))
  have hbo : Below w.heap.size w wo := by (repeat' (first | (with_reducible exact Below.refl _ _) | (with_reducible refine Below.setCell ?_ (by first | omega | (simp; done) | (simp; omega)) _) | (with_reducible refine Below.alloc ?_ (by first | omega | (simp; done) | (simp; omega)) _) | (with_reducible refine Below.drew ?_) | (with_reducible refine below_drewN ?_ _) | (with_reducible refine Below.trans ?_ (Below.mono (by assumption) (by first | omega | (simp; done) | (simp; omega))))))
  obtain ⟨tg, tw, tp⟩ := blocks322 (hb.trans (hb3.mono hb.size))
  have hA : Below wo.heap.size wo (wo.alloc (.cells #[.int .i64 0, .int .i64 0] 48)) := (Below.refl _ _).alloc (Nat.le_refl _) _
  have hso := hbo.size
  have hlo : w.heap.size + 3 ≤ wo.heap.size := by omega
  have hI : RDI w W H n wo.heap.size (.slice (some ⟨bk, ok, none⟩) n ck) (.slice ab nb cb) 0 0 b off cap G (wo.alloc (.cells #[.int .i64 0, .int .i64 0] 48)) :=
    ⟨tg.below hA tg.lt, tw.below hA tw.lt, tp.below hA tp.lt, Two.new _ _ _ _, (HC.out.below hbo hlt).below hA (by omega), Nat.lt_of_lt_of_le (show b < wo.heap.size by omega) hA.size, by omega, by omega, hbo.trans (hA.mono hso), hlo⟩
  obtain ⟨w0, hw0⟩ : ∃ w0, w0 = wo.alloc (.cells #[.int .i64 0, .int .i64 0] 48) := ⟨_, rfl⟩
  obtain ⟨P, hP⟩ : ∃ P, P = wo.heap.size := ⟨_, rfl⟩
  rw [← hw0, ← hP] at hI
  rw [← hw0, ← hP]
  have HI := Lib.hid hI
  clear hI hw0 hP hA hso hlo hbo tg tw tp hb hc hf hz hb3 hc3 hf3 hz3 HE OW hm0
  go_loopw [16] (fun i wr => ∃ (k bb oo cc : Nat), k ≤ c ∧ i = .int .i64 k ∧ Hid (RDI w W H n P (.slice (some ⟨bk, ok, none⟩) n ck) (.slice ab nb cb) (sm k FE) (sm k FN) bb oo cc (runG (fwdW W H K len R) t k G) wr)) (fun i _ => c - (intOf i).toNat)
  case atStart => exact ⟨0, b, off, cap, Nat.zero_le _, rfl, HI⟩
  case round =>
    obtain ⟨k, bb, oo, cc, hk, rfl, HH⟩ := hrel
    have hlg := HH.out.g.lt
    have k0 := HH.out.g.c0
    have k1 := HH.out.g.c1
    have k2 := HH.out.g.c2
    have lw := HH.out.wl.lt
    have wl0 := HH.out.wl.c0
    have wl1 := HH.out.wl.c1
    by_cases hlk : k < c
    · have IMk := Lib.hid (fun wx (hb : Below wr.heap.size wr wx) => IM.out k bb oo cc wx hlk (HH.out.below.trans (hb.mono HH.out.below.size)) (Nat.lt_of_lt_of_le HH.out.lt hb.size) (HH.out.cells.below hb HH.out.lt))
      go_wp2_with (go_at_call 60; (with_reducible refine (IMk.out _ (by (repeat' (first | (with_reducible exact Below.refl _ _) | (with_reducible refine Below.setCell ?_ (by first | omega | (simp; done) | (simp; omega)) _) | (with_reducible refine Below.alloc ?_ (by first | omega | (simp; done) | (simp; omega)) _) | (with_reducible refine Below.drew ?_) | (with_reducible refine below_drewN ?_ _) | (with_reducible refine Below.trans ?_ (Below.mono (by assumption) (by first | omega | (simp; done) | (simp; omega)))))))).mono ?_); rintro e w1 ⟨rfl, hb⟩; obtain ⟨hc, hf, hz⟩ := bcall hb; (try simp at hc hf hz))
      have q0 : (w1.alloc (.cells #[.int .i64 (FE k), .int .i64 (FN k)] 48)).cell? ⟨w1.heap.size, 0, none⟩ = some (.int .i64 (FE k)) := (Two.new w1 _ _ _).c0
      have q1 : (w1.alloc (.cells #[.int .i64 (FE k), .int .i64 (FN k)] 48)).cell? ⟨w1.heap.size, 1, none⟩ = some (.int .i64 (FN k)) := (Two.new w1 _ _ _).c1
      have lQ : w1.heap.size < (w1.alloc (.cells #[.int .i64 (FE k), .int .i64 (FN k)] 48)).heap.size := by simp
      have ZB : Below wr.heap.size wr (w1.alloc (.cells #[.int .i64 (FE k), .int .i64 (FN k)] 48)) := hb.alloc hb.size _
      obtain ⟨Z, hZ⟩ : ∃ Z, Z = w1.alloc (.cells #[.int .i64 (FE k), .int .i64 (FN k)] 48) := ⟨_, rfl⟩
      rw [← hZ] at q0 q1 lQ ZB ⊢
      obtain ⟨Q, hQ⟩ : ∃ Q, Q = w1.heap.size := ⟨_, rfl⟩
      rw [← hQ] at q0 q1 lQ ⊢
      have hPQ : P < Q := by have := HH.out.sum.lt; omega
      have tp := HH.out.sum.below ZB HH.out.sum.lt
      have p0 := tp.c0
      have p1 := tp.c1
      have f0 := tp.f0 0
      have f1 := tp.f0 1
      have lP := tp.lt
      have hZs := ZB.size
      have ZB := Lib.hid ZB
      clear hZ hQ hb hc hf hz tp IMk k0 k1 k2 wl0 wl1
      have b1 := smB (C := 2100000000000) (by omega) c HF.out k (by omega)
      have b2 := smB (C := 2100000000000) (by omega) c HF'.out k (by omega)
      have b3 := HF.out k hlk
      have b4 := HF'.out k hlk
      have s1 : IntKind.i64.wrap (sm k FE + FE k) = sm k FE + FE k := IntWalk.i64_in _ ⟨by omega, by omega⟩
      have s2 : IntKind.i64.wrap (sm k FN + FN k) = sm k FN + FN k := IntWalk.i64_in _ ⟨by omega, by omega⟩
      clear b1 b2 b3 b4
      have HZ := Lib.hid (show RDI w W H n P (.slice (some ⟨bk, ok, none⟩) n ck) (.slice ab nb cb) (sm (k + 1) FE) (sm (k + 1) FN) bb oo cc (runG (fwdW W H K len R) t k G) ((Z.setCell ⟨P, 0, none⟩ (.int .i64 (sm k FE + FE k))).setCell ⟨P, 1, none⟩ (.int .i64 (sm k FN + FN k))).drew from (HH.out.added ZB.out _ _).drew)
      go_cut [16] from 41 to 69 (fun s16 wy => s16 = .int .i64 k ∧ Hid (RDI w W H n P (.slice (some ⟨bk, ok, none⟩) n ck) (.slice ab nb cb) (sm (k + 1) FE) (sm (k + 1) FN) bb oo cc (runG (fwdW W H K len R) t k G) wy))
      case first =>
        go_region_law (fail)
        all_goals
          go_wp2_with fail
          go_meet
          exact ⟨rfl, HZ⟩
      case rest =>
        obtain ⟨rfl, HJ⟩ := hcut
        clear s1 s2 q0 q1 p0 p1 f0 f1 lP lQ hPQ hZs HZ ZB hlg lw HH
        have hBr := HJ.out.below
        have D1 := Lib.hid (fun w' (hb : Below wc.heap.size wc w') => rwstep1 W H n bb oo cc bk ok ck ab nb cb K (runG (fwdW W H K len R) t k G) (R ((t + k) % len)).1 (R ((t + k) % len)).2 w' S.out (okG_runW S.out.n0 HKK.out HG.out) (HK.out.2.2 _ (Nat.mod_lt _ HK.out.1)) (Nat.lt_of_lt_of_le HJ.out.lt hb.size) (HJ.out.cells.below hb HJ.out.lt) HKK.out (Nat.lt_of_lt_of_le hbk (Nat.le_trans hBr.size hb.size)) ((HN.out.below hBr hbk).below hb (Nat.lt_of_lt_of_le hbk hBr.size)))
        have e1 : IntKind.i64.wrap ((t : Int) + (k : Int)) = (t : Int) + (k : Int) := IntWalk.i64_in _ ⟨by omega, by omega⟩
        have RL := Lib.hid (fun (z : Int) w' (hb : Below wc.heap.size wc w') (ez : z = ((t + k : Nat) : Int)) => refRuleI_int ro len rc (t + k) z R w' (HR.out.below (hBr.trans (hb.mono hBr.size))) HK.out (by omega) ez)
        clear hBr
        have hlg := HJ.out.g.lt
        have k0 := HJ.out.g.c0
        have k1 := HJ.out.g.c1
        have k2 := HJ.out.g.c2
        have g0 := HJ.out.g.free 0
        have g1 := HJ.out.g.free 1
        have g2 := HJ.out.g.free 2
        have lw := HJ.out.wl.lt
        have w0 := HJ.out.wl.c0
        have w1 := HJ.out.wl.c1
        go_wp2
        go_region_with (first | (go_at_call 37; refine (RL.out _ _ (by (repeat' (first | (with_reducible exact Below.refl _ _) | (with_reducible refine Below.setCell ?_ (by first | omega | (simp; done) | (simp; omega)) _) | (with_reducible refine Below.alloc ?_ (by first | omega | (simp; done) | (simp; omega)) _) | (with_reducible refine Below.drew ?_) | (with_reducible refine below_drewN ?_ _) | (with_reducible refine Below.trans ?_ (Below.mono (by assumption) (by first | omega | (simp; done) | (simp; omega))))))) (by omega)).mono ?_; rintro e wq ⟨rfl, hbq⟩; obtain ⟨hcq, hfq, hzq⟩ := bcall hbq; (try simp at hcq hfq hzq)) | (go_at_call 36; (with_reducible refine (D1.out _ (by (repeat' (first | (with_reducible exact Below.refl _ _) | (with_reducible refine Below.setCell ?_ (by first | omega | (simp; done) | (simp; omega)) _) | (with_reducible refine Below.alloc ?_ (by first | omega | (simp; done) | (simp; omega)) _) | (with_reducible refine Below.drew ?_) | (with_reducible refine below_drewN ?_ _) | (with_reducible refine Below.trans ?_ (Below.mono (by assumption) (by first | omega | (simp; done) | (simp; omega)))))))).mono ?_); rintro e wp ⟨p, cp, rfl, hp, lop, hb⟩; have Cp := Lib.hid hp; clear hp; obtain ⟨hc, hf, hz⟩ := bcall hb; (try simp at hc hf hz lop)))
        all_goals
          have HX := Lib.hid (show Below wc.heap.size wc wp from by (repeat' (first | (with_reducible exact Below.refl _ _) | (with_reducible refine Below.setCell ?_ (by first | omega | (simp; done) | (simp; omega)) _) | (with_reducible refine Below.alloc ?_ (by first | omega | (simp; done) | (simp; omega)) _) | (with_reducible refine Below.drew ?_) | (with_reducible refine below_drewN ?_ _) | (with_reducible refine Below.trans ?_ (Below.mono (by assumption) (by first | omega | (simp; done) | (simp; omega)))))))
          have hpp : wc.heap.size ≤ p := by omega
          clear hc hf hb hcq hfq hbq k0 k1 k2 g0 g1 g2 D1 RL
          first | (rename_i Q9 K9 a9; refine a9 _ _ ?_) | (rename_i Q9 K9 a9 z1; refine a9 _ _ ?_) | (rename_i Q9 K9 a9 z1 z2; refine a9 _ _ ?_) | (rename_i Q9 K9 a9 z1 z2 z3; refine a9 _ _ ?_) | (rename_i Q9 K9 a9 z1 z2 z3 z4; refine a9 _ _ ?_)
          dsimp +zetaDelta only
          go_wp2
          go_roundw
          case rel => exact ⟨k + 1, p, 0, cp, by omega, by go_num, Lib.hid (HJ.out.stepped HX.out Cp.out hpp)⟩
          case measure => simp [intOf]; omega
    · obtain rfl : c = k := by omega
      have q0 := HH.out.sum.c0
      have q1 := HH.out.sum.c1
      have lq := HH.out.sum.lt
      have p0 := HH.out.rs.c0
      have p1 := HH.out.rs.c1
      have f0 := HH.out.rs.f0 0
      have f1 := HH.out.rs.f0 1
      have lp := HH.out.rs.lt
      go_wp2
      refine bodyPost_ret (v := .tuple #[.agg #[.int .i64 (sm c FE), .int .i64 (sm c FN)], .int .i64 0]) (by simp [results, Tryd.results31, go_sem, ↓IntWalk.iteOmega, *]) rfl ?_
      have hB := HH.out.below
      refine ⟨rfl, ?_⟩
      (repeat' (first | (with_reducible exact Below.refl _ _) | (with_reducible refine Below.setCell ?_ (by first | omega | (simp; done) | (simp; omega)) _) | (with_reducible refine Below.alloc ?_ (by first | omega | (simp; done) | (simp; omega)) _) | (with_reducible refine Below.drew ?_) | (with_reducible refine below_drewN ?_ _) | (with_reducible refine Below.trans ?_ (Below.mono (by assumption) (by first | omega | (simp; done) | (simp; omega))))))
end Go.Proofs.YtnpmlbhlchoolaaDoor
