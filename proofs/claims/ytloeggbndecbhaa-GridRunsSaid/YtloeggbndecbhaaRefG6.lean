/- Runs and their undoing: by the reference. -/
import Derived.Test.YtloeggbndecbhaaRefG5
namespace Go.Proofs.Ytloeggbndecbhaa
set_option linter.unusedSimpArgs false
set_option linter.unusedVariables false
open Go.RowKit

theorem refRuleI_int (ao : Option Addr) (len cap step : Nat) (si : Int) (R : Nat → Int × Int) (w : World) (h : RulesIn w ao len R) (hk : OkRs len R) (hs : step ≤ 4000000) (e : si = step) :
    Calls Try.prog 80 #[.slice ao len cap, .int .i64 si] w fun e w' => e = .returned (.agg #[.int .i64 ((R (step % len)).1), .int .i64 ((R (step % len)).2)]) ∧ Below w.heap.size w w' := by
  subst e
  exact refRuleI_ok ao len cap step R w h hk hs
theorem okG_runs {W H n len : Nat} {R : Nat → Int × Int} {t c : Nat} {G : Nat → Nat → Int} (hn : n = W * H) (h : OkG n G) : OkG n (runG (fwd W H len R) t c G) := by
  induction c with
  | zero => exact h
  | succ c ih => exact okG_fwd hn ih
theorem run_round {w wr wp : World} {t : TypeId} {x y z0 v0 v1 v2 a b c : Value} {p n : Nat} {K : Nat → Nat → Int} (tg : Three wr w.heap.size t x y z0) (tr : Three wr (w.heap.size + 1) t a b c) (hB : Below w.heap.size w wr) (hx : Below wr.heap.size wr wp) (hr : Row wp p n K) (hp : wr.heap.size ≤ p) :
    Three (((wp.setCell ⟨w.heap.size, 0, none⟩ v0).setCell ⟨w.heap.size, 1, none⟩ v1).setCell ⟨w.heap.size, 2, none⟩ v2) w.heap.size t v0 v1 v2 ∧ Row (((wp.setCell ⟨w.heap.size, 0, none⟩ v0).setCell ⟨w.heap.size, 1, none⟩ v1).setCell ⟨w.heap.size, 2, none⟩ v2) p n K ∧ Three (((wp.setCell ⟨w.heap.size, 0, none⟩ v0).setCell ⟨w.heap.size, 1, none⟩ v1).setCell ⟨w.heap.size, 2, none⟩ v2) (w.heap.size + 1) t a b c ∧ Below w.heap.size w (((wp.setCell ⟨w.heap.size, 0, none⟩ v0).setCell ⟨w.heap.size, 1, none⟩ v1).setCell ⟨w.heap.size, 2, none⟩ v2) ∧ w.heap.size + 2 ≤ p := by
  have l1 := tr.lt
  have x : Ex (fun k => k = w.heap.size) wp (((wp.setCell ⟨w.heap.size, 0, none⟩ v0).setCell ⟨w.heap.size, 1, none⟩ v1).setCell ⟨w.heap.size, 2, none⟩ v2) := three_ex
  have hB2 := hB.trans (hx.mono hB.size)
  exact ⟨(tg.below hx tg.lt).set, hr.ex x (by omega), (tr.below hx tr.lt).ex x (by omega), hB2.trans (x.below hB2.size (fun k hk => by omega)), by omega⟩

set_option maxHeartbeats 1000000 in
theorem rRun_inv (W H : Int) (n cap : Nat) (ao : Option Addr) (G : Nat → Nat → Int) (ro : Option Addr) (len rc : Nat) (R : Nat → Int × Int) (t c : Int) (w : World) (hC : CellsIn w ao n G) (hm : len ≤ 1000000000000) (hR : RulesIn w ro len R) (hk : ¬ (VG W H n G ∧ OkRs len R)) :
    Calls Try.prog 44 #[.agg #[.int .i64 W, .int .i64 H, .slice (ao) n cap], .slice ro len rc, .int .i64 t, .int .i64 c] w fun e w' => e = .returned (.tuple #[.agg #[.int .i64 0, .int .i64 0, .slice (none) 0 0], .int .i64 1]) ∧ Below w.heap.size w w' := by
  have HC := Lib.hid hC; clear hC
  have HR := Lib.hid hR; clear hR
  have HK := Lib.hid hk; clear hk
  go_enter Try.func44, Try.ntmps44
  go_wp2_with (go_at_call 92; (with_reducible refine (runErr_inv W H n cap ao G ro len rc R t c _ (HC.out.below (by (repeat' (first | (with_reducible exact Below.refl _ _) | (with_reducible refine Below.setCell ?_ (by first | omega | (simp; done) | (simp; omega)) _) | (with_reducible refine Below.alloc ?_ (by first | omega | (simp; done) | (simp; omega)) _) | (with_reducible refine Below.drew ?_) | (with_reducible refine below_drewN ?_ _) | (with_reducible refine Below.trans ?_ (Below.mono (by assumption) (by first | omega | (simp; done) | (simp; omega)))))))) hm (HR.out.below (by (repeat' (first | (with_reducible exact Below.refl _ _) | (with_reducible refine Below.setCell ?_ (by first | omega | (simp; done) | (simp; omega)) _) | (with_reducible refine Below.alloc ?_ (by first | omega | (simp; done) | (simp; omega)) _) | (with_reducible refine Below.drew ?_) | (with_reducible refine below_drewN ?_ _) | (with_reducible refine Below.trans ?_ (Below.mono (by assumption) (by first | omega | (simp; done) | (simp; omega)))))))) HK.out).mono ?_); rintro e w1 ⟨rfl, hb⟩; obtain ⟨hc, hf, hz⟩ := bcall hb; (try simp at hc hf hz))
  refine bodyPost_ret (v := .tuple #[.agg #[.int .i64 0, .int .i64 0, .slice (none) 0 0], .int .i64 1]) (by simp [results, Try.results44, go_sem, ↓IntWalk.iteOmega, *]) rfl ⟨rfl, ?_⟩
  (repeat' (first | (with_reducible exact Below.refl _ _) | (with_reducible refine Below.setCell ?_ (by first | omega | (simp; done) | (simp; omega)) _) | (with_reducible refine Below.alloc ?_ (by first | omega | (simp; done) | (simp; omega)) _) | (with_reducible refine Below.drew ?_) | (with_reducible refine below_drewN ?_ _) | (with_reducible refine Below.trans ?_ (Below.mono (by assumption) (by first | omega | (simp; done) | (simp; omega))))))
set_option maxHeartbeats 1000000 in
theorem rRun_range (W H : Int) (n cap : Nat) (ao : Option Addr) (G : Nat → Nat → Int) (ro : Option Addr) (len rc : Nat) (R : Nat → Int × Int) (t c : Int) (w : World) (hv : VG W H n G) (hC : CellsIn w ao n G) (hR : RulesIn w ro len R) (hk : OkRs len R) (hr : ¬ RunOk t c) :
    Calls Try.prog 44 #[.agg #[.int .i64 W, .int .i64 H, .slice (ao) n cap], .slice ro len rc, .int .i64 t, .int .i64 c] w fun e w' => e = .returned (.tuple #[.agg #[.int .i64 0, .int .i64 0, .slice (none) 0 0], .int .i64 7]) ∧ Below w.heap.size w w' := by
  have HV := Lib.hid hv; clear hv
  have HC := Lib.hid hC; clear hC
  have HR := Lib.hid hR; clear hR
  have HK := Lib.hid hk; clear hk
  have HN := Lib.hid hr; clear hr
  go_enter Try.func44, Try.ntmps44
  go_wp2_with (go_at_call 92; (with_reducible refine (runErr_range W H n cap ao G ro len rc R t c _ HV.out (HC.out.below (by (repeat' (first | (with_reducible exact Below.refl _ _) | (with_reducible refine Below.setCell ?_ (by first | omega | (simp; done) | (simp; omega)) _) | (with_reducible refine Below.alloc ?_ (by first | omega | (simp; done) | (simp; omega)) _) | (with_reducible refine Below.drew ?_) | (with_reducible refine below_drewN ?_ _) | (with_reducible refine Below.trans ?_ (Below.mono (by assumption) (by first | omega | (simp; done) | (simp; omega)))))))) (HR.out.below (by (repeat' (first | (with_reducible exact Below.refl _ _) | (with_reducible refine Below.setCell ?_ (by first | omega | (simp; done) | (simp; omega)) _) | (with_reducible refine Below.alloc ?_ (by first | omega | (simp; done) | (simp; omega)) _) | (with_reducible refine Below.drew ?_) | (with_reducible refine below_drewN ?_ _) | (with_reducible refine Below.trans ?_ (Below.mono (by assumption) (by first | omega | (simp; done) | (simp; omega)))))))) HK.out HN.out).mono ?_); rintro e w1 ⟨rfl, hb⟩; obtain ⟨hc, hf, hz⟩ := bcall hb; (try simp at hc hf hz))
  refine bodyPost_ret (v := .tuple #[.agg #[.int .i64 0, .int .i64 0, .slice (none) 0 0], .int .i64 7]) (by simp [results, Try.results44, go_sem, ↓IntWalk.iteOmega, *]) rfl ⟨rfl, ?_⟩
  (repeat' (first | (with_reducible exact Below.refl _ _) | (with_reducible refine Below.setCell ?_ (by first | omega | (simp; done) | (simp; omega)) _) | (with_reducible refine Below.alloc ?_ (by first | omega | (simp; done) | (simp; omega)) _) | (with_reducible refine Below.drew ?_) | (with_reducible refine below_drewN ?_ _) | (with_reducible refine Below.trans ?_ (Below.mono (by assumption) (by first | omega | (simp; done) | (simp; omega))))))

set_option maxRecDepth 100000 in
set_option maxHeartbeats 4000000 in
theorem rRun_ok1 (W H n cap b off : Nat) (G : Nat → Nat → Int) (ro : Option Addr) (len rc : Nat) (R : Nat → Int × Int) (t c : Nat) (w : World) (s : Sides W H n) (hG : OkG n G) (hlt : b < w.heap.size) (hC : Grd w b off n G) (hR : RulesIn w ro len R) (hk : OkRs len R) (hr : RunOk t c) :
    Calls Try.prog 44 #[.agg #[.int .i64 W, .int .i64 H, .slice (some ⟨b, off, none⟩) n cap], .slice ro len rc, .int .i64 t, .int .i64 c] w (Made W H n (runG (fwd W H len R) t c G) w) := by
  have hn0 : 1 ≤ n := by
    rw [s.n0]
    exact Nat.mul_le_mul s.w0 s.h0
  have hn1 := s.n1
  have E := Lib.hid (fun w' (hb : Below w.heap.size w w') => runErr_ok W H n cap (some ⟨b, off, none⟩) G ro len rc R t c w' (vg_of s hG) ((show CellsIn w _ n G from .inr ⟨b, off, rfl, hlt, hC⟩).below hb) (hR.below hb) hk hr)
  have D := Lib.hid (fun w' (hb : Below w.heap.size w w') => rCopy_any W H b off n cap G w' hn0 (by omega) (Nat.lt_of_lt_of_le hlt hb.size) (hC.below hb hlt))
  have hc' : c ≤ 1000 := by unfold RunOk at hr; omega
  have ht : t ≤ 1000000 := by unfold RunOk at hr; omega
  have S := Lib.hid s
  have HG := Lib.hid hG
  have HK := Lib.hid hk
  have HR := Lib.hid hR
  clear hC hR hG s hk hr
  go_enter Try.func44, Try.ntmps44
  go_wp2_with (first | (go_at_call 92; (with_reducible refine (E.out _ (by (repeat' (first | (with_reducible exact Below.refl _ _) | (with_reducible refine Below.setCell ?_ (by first | omega | (simp; done) | (simp; omega)) _) | (with_reducible refine Below.alloc ?_ (by first | omega | (simp; done) | (simp; omega)) _) | (with_reducible refine Below.drew ?_) | (with_reducible refine below_drewN ?_ _) | (with_reducible refine Below.trans ?_ (Below.mono (by assumption) (by first | omega | (simp; done) | (simp; omega)))))))).mono ?_); rintro e w1 ⟨rfl, hb⟩; obtain ⟨hc, hf, hz⟩ := bcall hb; (try simp at hc hf hz)) | (go_at_call 103; (with_reducible refine (D.out _ (by (repeat' (first | (with_reducible exact Below.refl _ _) | (with_reducible refine Below.setCell ?_ (by first | omega | (simp; done) | (simp; omega)) _) | (with_reducible refine Below.alloc ?_ (by first | omega | (simp; done) | (simp; omega)) _) | (with_reducible refine Below.drew ?_) | (with_reducible refine below_drewN ?_ _) | (with_reducible refine Below.trans ?_ (Below.mono (by assumption) (by first | omega | (simp; done) | (simp; omega)))))))).mono ?_); rintro e wo ⟨o, co, rfl, ho, loo, hb⟩; have Co := Lib.hid ho; clear ho; obtain ⟨hc, hf, hz⟩ := bcall hb; (try simp at hc hf hz loo)))
  have hb0 : Below ((w.alloc (.cells #[.int .i64 W, .int .i64 H, .slice (some ⟨b, off, none⟩) n cap] 45)).alloc (.cells #[.int .i64 0, .int .i64 0, .slice none 0 0] 45)).heap.size ((w.alloc (.cells #[.int .i64 W, .int .i64 H, .slice (some ⟨b, off, none⟩) n cap] 45)).alloc (.cells #[.int .i64 0, .int .i64 0, .slice none 0 0] 45)) wo := by (repeat' (first | (with_reducible exact Below.refl _ _) | (with_reducible refine Below.setCell ?_ (by first | omega | (simp; done) | (simp; omega)) _) | (with_reducible refine Below.alloc ?_ (by first | omega | (simp; done) | (simp; omega)) _) | (with_reducible refine Below.drew ?_) | (with_reducible refine below_drewN ?_ _) | (with_reducible refine Below.trans ?_ (Below.mono (by assumption) (by first | omega | (simp; done) | (simp; omega))))))
  have hB : Below w.heap.size w wo := by (repeat' (first | (with_reducible exact Below.refl _ _) | (with_reducible refine Below.setCell ?_ (by first | omega | (simp; done) | (simp; omega)) _) | (with_reducible refine Below.alloc ?_ (by first | omega | (simp; done) | (simp; omega)) _) | (with_reducible refine Below.drew ?_) | (with_reducible refine below_drewN ?_ _) | (with_reducible refine Below.trans ?_ (Below.mono (by assumption) (by first | omega | (simp; done) | (simp; omega))))))
  have tg := (Three.new2 w 45 (.int .i64 W) (.int .i64 H) (.slice (some ⟨b, off, none⟩) n cap) _).below hb0 (by simp; omega)
  have tr := (Three.new1 w _ 45 (.int .i64 0) (.int .i64 0) (.slice none 0 0)).below hb0 (by simp)
  obtain ⟨w0, hw0'⟩ : ∃ w0, w0 = ((wo.setCell ⟨w.heap.size, 0, none⟩ (.int .i64 W)).setCell ⟨w.heap.size, 1, none⟩ (.int .i64 H)).setCell ⟨w.heap.size, 2, none⟩ (.slice (some ⟨o, 0, none⟩) n co) := ⟨_, rfl⟩
  have hno : w.heap.size + 2 ≤ o := by omega
  have x0 : Ex (fun k => k = w.heap.size) wo w0 := by rw [hw0']; exact three_ex
  have TG : Hid (Three w0 w.heap.size 45 (.int .i64 W) (.int .i64 H) (.slice (some ⟨o, 0, none⟩) n co)) := Lib.hid (by rw [hw0']; exact tg.set)
  have TR := Lib.hid (tr.ex x0 (by omega))
  have HRow := Lib.hid (Co.out.ex x0 (by omega))
  have HB := Lib.hid (hB.trans (x0.below hB.size (fun k hk => by omega)))
  rw [← hw0']
  clear hc hf hz hb hB hb0 tg tr x0 Co hw0' D E
  go_loopw [11] (fun i wr => ∃ (k bb cc : Nat), k ≤ c ∧ i = .int .i64 k ∧ Hid (Three wr w.heap.size 45 (.int .i64 W) (.int .i64 H) (.slice (some ⟨bb, 0, none⟩) n cc) ∧ Row wr bb n (runG (fwd W H len R) t k G) ∧ Three wr (w.heap.size + 1) 45 (.int .i64 0) (.int .i64 0) (.slice none 0 0) ∧ Below w.heap.size w wr ∧ w.heap.size + 2 ≤ bb)) (fun i _ => c - (intOf i).toNat)
  case atStart => exact ⟨0, o, co, Nat.zero_le _, rfl, Lib.hid ⟨TG.out, HRow.out, TR.out, HB.out, hno⟩⟩
  case round =>
    obtain ⟨k, bb, cc, hk, rfl, HH⟩ := hrel
    have hlg := HH.out.1.lt
    have k0 := HH.out.1.c0
    have k1 := HH.out.1.c1
    have k2 := HH.out.1.c2
    by_cases hlk : k < c
    · have g0 := HH.out.1.free 0
      have g1 := HH.out.1.free 1
      have g2 := HH.out.1.free 2
      have D1 := Lib.hid (fun w' (hb : Below wr.heap.size wr w') => step1 W H n bb 0 cc (runG (fwd W H len R) t k G) (R ((t + k) % len)).1 (R ((t + k) % len)).2 w' S.out (okG_runs S.out.n0 HG.out) (HK.out.2.2 _ (Nat.mod_lt _ HK.out.1)) (Nat.lt_of_lt_of_le HH.out.2.1.1 hb.size) (HH.out.2.1.grd.below hb HH.out.2.1.1))
      have e1 : IntKind.i64.wrap ((t : Int) + (k : Int)) = (t : Int) + (k : Int) := IntWalk.i64_in _ ⟨by omega, by omega⟩
      have RL := Lib.hid (fun (z : Int) w' (hb : Below wr.heap.size wr w') (ez : z = ((t + k : Nat) : Int)) => refRuleI_int ro len rc (t + k) z R w' (HR.out.below (HH.out.2.2.2.1.trans (hb.mono HH.out.2.2.2.1.size))) HK.out (by omega) ez)
      go_wp2
      go_region_with (first | (go_at_call 80; refine (RL.out _ _ (by (repeat' (first | (with_reducible exact Below.refl _ _) | (with_reducible refine Below.setCell ?_ (by first | omega | (simp; done) | (simp; omega)) _) | (with_reducible refine Below.alloc ?_ (by first | omega | (simp; done) | (simp; omega)) _) | (with_reducible refine Below.drew ?_) | (with_reducible refine below_drewN ?_ _) | (with_reducible refine Below.trans ?_ (Below.mono (by assumption) (by first | omega | (simp; done) | (simp; omega))))))) (by omega)).mono ?_; rintro e wq ⟨rfl, hbq⟩; obtain ⟨hcq, hfq, hzq⟩ := bcall hbq; (try simp at hcq hfq hzq)) | (go_at_call 93; (with_reducible refine (D1.out _ (by (repeat' (first | (with_reducible exact Below.refl _ _) | (with_reducible refine Below.setCell ?_ (by first | omega | (simp; done) | (simp; omega)) _) | (with_reducible refine Below.alloc ?_ (by first | omega | (simp; done) | (simp; omega)) _) | (with_reducible refine Below.drew ?_) | (with_reducible refine below_drewN ?_ _) | (with_reducible refine Below.trans ?_ (Below.mono (by assumption) (by first | omega | (simp; done) | (simp; omega)))))))).mono ?_); rintro e wp ⟨p, cp, rfl, hp, lop, hb⟩; have Cp := Lib.hid hp; clear hp; obtain ⟨hc, hf, hz⟩ := bcall hb; (try simp at hc hf hz lop)))
      all_goals
        have HX := Lib.hid (show Below wr.heap.size wr wp from by (repeat' (first | (with_reducible exact Below.refl _ _) | (with_reducible refine Below.setCell ?_ (by first | omega | (simp; done) | (simp; omega)) _) | (with_reducible refine Below.alloc ?_ (by first | omega | (simp; done) | (simp; omega)) _) | (with_reducible refine Below.drew ?_) | (with_reducible refine below_drewN ?_ _) | (with_reducible refine Below.trans ?_ (Below.mono (by assumption) (by first | omega | (simp; done) | (simp; omega)))))))
        have hpp : wr.heap.size ≤ p := by omega
        clear hc hf hb hcq hfq hbq k0 k1 k2 g0 g1 g2 D1 RL
        first | (rename_i Q9 K9 a9; refine a9 _ _ ?_) | (rename_i Q9 K9 a9 z1; refine a9 _ _ ?_) | (rename_i Q9 K9 a9 z1 z2; refine a9 _ _ ?_) | (rename_i Q9 K9 a9 z1 z2 z3; refine a9 _ _ ?_) | (rename_i Q9 K9 a9 z1 z2 z3 z4; refine a9 _ _ ?_)
        dsimp +zetaDelta only
        go_wp2
        go_roundw
        case rel =>
          obtain ⟨tg, hr, tr, hB, hlo⟩ := HH.out
          exact ⟨k + 1, p, cp, by omega, by go_num, Lib.hid (run_round tg tr hB HX.out Cp.out hpp)⟩
        case measure => simp [intOf]; omega
    · obtain rfl : c = k := by omega
      have p0 := HH.out.2.2.1.free 0
      have p1 := HH.out.2.2.1.free 1
      have p2 := HH.out.2.2.1.free 2
      have q0 := HH.out.2.2.1.c0
      have q1 := HH.out.2.2.1.c1
      have q2 := HH.out.2.2.1.c2
      go_wp2
      refine bodyPost_ret (v := .tuple #[.agg #[.int .i64 W, .int .i64 H, .slice (some ⟨bb, 0, none⟩) n cc], .int .i64 0]) (by simp [results, Try.results44, go_sem, ↓IntWalk.iteOmega, *]) rfl ?_
      exact made_pass HH.out.2.1.cellsIn HH.out.2.2.2.1 (by omega) (by have := HH.out.2.2.2.2; omega)

set_option maxHeartbeats 1000000 in
theorem rUndo_inv (W H : Int) (n cap : Nat) (ao : Option Addr) (G : Nat → Nat → Int) (ro : Option Addr) (len rc : Nat) (R : Nat → Int × Int) (t c : Int) (w : World) (hC : CellsIn w ao n G) (hm : len ≤ 1000000000000) (hR : RulesIn w ro len R) (hk : ¬ (VG W H n G ∧ OkRs len R)) :
    Calls Try.prog 46 #[.agg #[.int .i64 W, .int .i64 H, .slice (ao) n cap], .slice ro len rc, .int .i64 t, .int .i64 c] w fun e w' => e = .returned (.tuple #[.agg #[.int .i64 0, .int .i64 0, .slice (none) 0 0], .int .i64 1]) ∧ Below w.heap.size w w' := by
  have HC := Lib.hid hC; clear hC
  have HR := Lib.hid hR; clear hR
  have HK := Lib.hid hk; clear hk
  go_enter Try.func46, Try.ntmps46
  go_wp2_with (go_at_call 92; (with_reducible refine (runErr_inv W H n cap ao G ro len rc R t c _ (HC.out.below (by (repeat' (first | (with_reducible exact Below.refl _ _) | (with_reducible refine Below.setCell ?_ (by first | omega | (simp; done) | (simp; omega)) _) | (with_reducible refine Below.alloc ?_ (by first | omega | (simp; done) | (simp; omega)) _) | (with_reducible refine Below.drew ?_) | (with_reducible refine below_drewN ?_ _) | (with_reducible refine Below.trans ?_ (Below.mono (by assumption) (by first | omega | (simp; done) | (simp; omega)))))))) hm (HR.out.below (by (repeat' (first | (with_reducible exact Below.refl _ _) | (with_reducible refine Below.setCell ?_ (by first | omega | (simp; done) | (simp; omega)) _) | (with_reducible refine Below.alloc ?_ (by first | omega | (simp; done) | (simp; omega)) _) | (with_reducible refine Below.drew ?_) | (with_reducible refine below_drewN ?_ _) | (with_reducible refine Below.trans ?_ (Below.mono (by assumption) (by first | omega | (simp; done) | (simp; omega)))))))) HK.out).mono ?_); rintro e w1 ⟨rfl, hb⟩; obtain ⟨hc, hf, hz⟩ := bcall hb; (try simp at hc hf hz))
  refine bodyPost_ret (v := .tuple #[.agg #[.int .i64 0, .int .i64 0, .slice (none) 0 0], .int .i64 1]) (by simp [results, Try.results46, go_sem, ↓IntWalk.iteOmega, *]) rfl ⟨rfl, ?_⟩
  (repeat' (first | (with_reducible exact Below.refl _ _) | (with_reducible refine Below.setCell ?_ (by first | omega | (simp; done) | (simp; omega)) _) | (with_reducible refine Below.alloc ?_ (by first | omega | (simp; done) | (simp; omega)) _) | (with_reducible refine Below.drew ?_) | (with_reducible refine below_drewN ?_ _) | (with_reducible refine Below.trans ?_ (Below.mono (by assumption) (by first | omega | (simp; done) | (simp; omega))))))
set_option maxHeartbeats 1000000 in
theorem rUndo_range (W H : Int) (n cap : Nat) (ao : Option Addr) (G : Nat → Nat → Int) (ro : Option Addr) (len rc : Nat) (R : Nat → Int × Int) (t c : Int) (w : World) (hv : VG W H n G) (hC : CellsIn w ao n G) (hR : RulesIn w ro len R) (hk : OkRs len R) (hr : ¬ RunOk t c) :
    Calls Try.prog 46 #[.agg #[.int .i64 W, .int .i64 H, .slice (ao) n cap], .slice ro len rc, .int .i64 t, .int .i64 c] w fun e w' => e = .returned (.tuple #[.agg #[.int .i64 0, .int .i64 0, .slice (none) 0 0], .int .i64 7]) ∧ Below w.heap.size w w' := by
  have HV := Lib.hid hv; clear hv
  have HC := Lib.hid hC; clear hC
  have HR := Lib.hid hR; clear hR
  have HK := Lib.hid hk; clear hk
  have HN := Lib.hid hr; clear hr
  go_enter Try.func46, Try.ntmps46
  go_wp2_with (go_at_call 92; (with_reducible refine (runErr_range W H n cap ao G ro len rc R t c _ HV.out (HC.out.below (by (repeat' (first | (with_reducible exact Below.refl _ _) | (with_reducible refine Below.setCell ?_ (by first | omega | (simp; done) | (simp; omega)) _) | (with_reducible refine Below.alloc ?_ (by first | omega | (simp; done) | (simp; omega)) _) | (with_reducible refine Below.drew ?_) | (with_reducible refine below_drewN ?_ _) | (with_reducible refine Below.trans ?_ (Below.mono (by assumption) (by first | omega | (simp; done) | (simp; omega)))))))) (HR.out.below (by (repeat' (first | (with_reducible exact Below.refl _ _) | (with_reducible refine Below.setCell ?_ (by first | omega | (simp; done) | (simp; omega)) _) | (with_reducible refine Below.alloc ?_ (by first | omega | (simp; done) | (simp; omega)) _) | (with_reducible refine Below.drew ?_) | (with_reducible refine below_drewN ?_ _) | (with_reducible refine Below.trans ?_ (Below.mono (by assumption) (by first | omega | (simp; done) | (simp; omega)))))))) HK.out HN.out).mono ?_); rintro e w1 ⟨rfl, hb⟩; obtain ⟨hc, hf, hz⟩ := bcall hb; (try simp at hc hf hz))
  refine bodyPost_ret (v := .tuple #[.agg #[.int .i64 0, .int .i64 0, .slice (none) 0 0], .int .i64 7]) (by simp [results, Try.results46, go_sem, ↓IntWalk.iteOmega, *]) rfl ⟨rfl, ?_⟩
  (repeat' (first | (with_reducible exact Below.refl _ _) | (with_reducible refine Below.setCell ?_ (by first | omega | (simp; done) | (simp; omega)) _) | (with_reducible refine Below.alloc ?_ (by first | omega | (simp; done) | (simp; omega)) _) | (with_reducible refine Below.drew ?_) | (with_reducible refine below_drewN ?_ _) | (with_reducible refine Below.trans ?_ (Below.mono (by assumption) (by first | omega | (simp; done) | (simp; omega))))))

set_option maxRecDepth 100000 in
set_option maxHeartbeats 4000000 in
theorem rUndo_ok1 (W H n cap b off : Nat) (G : Nat → Nat → Int) (ro : Option Addr) (len rc : Nat) (R : Nat → Int × Int) (t c : Nat) (w : World) (s : Sides W H n) (hG : OkG n G) (hlt : b < w.heap.size) (hC : Grd w b off n G) (hR : RulesIn w ro len R) (hk : OkRs len R) (hr : RunOk t c) :
    Calls Try.prog 46 #[.agg #[.int .i64 W, .int .i64 H, .slice (some ⟨b, off, none⟩) n cap], .slice ro len rc, .int .i64 t, .int .i64 c] w (Made W H n (undoR (bwd W H len R) t c G) w) := by
  have hn0 : 1 ≤ n := by
    rw [s.n0]
    exact Nat.mul_le_mul s.w0 s.h0
  have hn1 := s.n1
  have E := Lib.hid (fun w' (hb : Below w.heap.size w w') => runErr_ok W H n cap (some ⟨b, off, none⟩) G ro len rc R t c w' (vg_of s hG) ((show CellsIn w _ n G from .inr ⟨b, off, rfl, hlt, hC⟩).below hb) (hR.below hb) hk hr)
  have D := Lib.hid (fun w' (hb : Below w.heap.size w w') => rCopy_any W H b off n cap G w' hn0 (by omega) (Nat.lt_of_lt_of_le hlt hb.size) (hC.below hb hlt))
  have hc' : c ≤ 1000 := by unfold RunOk at hr; omega
  have ht : t ≤ 1000000 := by unfold RunOk at hr; omega
  have S := Lib.hid s
  have HG := Lib.hid hG
  have HK := Lib.hid hk
  have HR := Lib.hid hR
  clear hC hR hG s hk hr
  go_enter Try.func46, Try.ntmps46
  go_wp2_with (first | (go_at_call 92; (with_reducible refine (E.out _ (by (repeat' (first | (with_reducible exact Below.refl _ _) | (with_reducible refine Below.setCell ?_ (by first | omega | (simp; done) | (simp; omega)) _) | (with_reducible refine Below.alloc ?_ (by first | omega | (simp; done) | (simp; omega)) _) | (with_reducible refine Below.drew ?_) | (with_reducible refine below_drewN ?_ _) | (with_reducible refine Below.trans ?_ (Below.mono (by assumption) (by first | omega | (simp; done) | (simp; omega)))))))).mono ?_); rintro e w1 ⟨rfl, hb⟩; obtain ⟨hc, hf, hz⟩ := bcall hb; (try simp at hc hf hz)) | (go_at_call 103; (with_reducible refine (D.out _ (by (repeat' (first | (with_reducible exact Below.refl _ _) | (with_reducible refine Below.setCell ?_ (by first | omega | (simp; done) | (simp; omega)) _) | (with_reducible refine Below.alloc ?_ (by first | omega | (simp; done) | (simp; omega)) _) | (with_reducible refine Below.drew ?_) | (with_reducible refine below_drewN ?_ _) | (with_reducible refine Below.trans ?_ (Below.mono (by assumption) (by first | omega | (simp; done) | (simp; omega)))))))).mono ?_); rintro e wo ⟨o, co, rfl, ho, loo, hb⟩; have Co := Lib.hid ho; clear ho; obtain ⟨hc, hf, hz⟩ := bcall hb; (try simp at hc hf hz loo)))
  have hb0 : Below ((w.alloc (.cells #[.int .i64 W, .int .i64 H, .slice (some ⟨b, off, none⟩) n cap] 45)).alloc (.cells #[.int .i64 0, .int .i64 0, .slice none 0 0] 45)).heap.size ((w.alloc (.cells #[.int .i64 W, .int .i64 H, .slice (some ⟨b, off, none⟩) n cap] 45)).alloc (.cells #[.int .i64 0, .int .i64 0, .slice none 0 0] 45)) wo := by (repeat' (first | (with_reducible exact Below.refl _ _) | (with_reducible refine Below.setCell ?_ (by first | omega | (simp; done) | (simp; omega)) _) | (with_reducible refine Below.alloc ?_ (by first | omega | (simp; done) | (simp; omega)) _) | (with_reducible refine Below.drew ?_) | (with_reducible refine below_drewN ?_ _) | (with_reducible refine Below.trans ?_ (Below.mono (by assumption) (by first | omega | (simp; done) | (simp; omega))))))
  have hB : Below w.heap.size w wo := by (repeat' (first | (with_reducible exact Below.refl _ _) | (with_reducible refine Below.setCell ?_ (by first | omega | (simp; done) | (simp; omega)) _) | (with_reducible refine Below.alloc ?_ (by first | omega | (simp; done) | (simp; omega)) _) | (with_reducible refine Below.drew ?_) | (with_reducible refine below_drewN ?_ _) | (with_reducible refine Below.trans ?_ (Below.mono (by assumption) (by first | omega | (simp; done) | (simp; omega))))))
  have tg := (Three.new2 w 45 (.int .i64 W) (.int .i64 H) (.slice (some ⟨b, off, none⟩) n cap) _).below hb0 (by simp; omega)
  have tr := (Three.new1 w _ 45 (.int .i64 0) (.int .i64 0) (.slice none 0 0)).below hb0 (by simp)
  obtain ⟨w0, hw0'⟩ : ∃ w0, w0 = ((wo.setCell ⟨w.heap.size, 0, none⟩ (.int .i64 W)).setCell ⟨w.heap.size, 1, none⟩ (.int .i64 H)).setCell ⟨w.heap.size, 2, none⟩ (.slice (some ⟨o, 0, none⟩) n co) := ⟨_, rfl⟩
  have hno : w.heap.size + 2 ≤ o := by omega
  have x0 : Ex (fun k => k = w.heap.size) wo w0 := by rw [hw0']; exact three_ex
  have TG : Hid (Three w0 w.heap.size 45 (.int .i64 W) (.int .i64 H) (.slice (some ⟨o, 0, none⟩) n co)) := Lib.hid (by rw [hw0']; exact tg.set)
  have TR := Lib.hid (tr.ex x0 (by omega))
  have HRow := Lib.hid (Co.out.ex x0 (by omega))
  have HB := Lib.hid (hB.trans (x0.below hB.size (fun k hk => by omega)))
  rw [← hw0']
  clear hc hf hz hb hB hb0 tg tr x0 Co hw0' D E
  go_loopw [11] (fun i wr => ∃ (k bb cc : Nat) (z : Int) (K : Nat → Nat → Int), k ≤ c ∧ z = (k : Int) - 1 ∧ i = .int .i64 z ∧ Hid (Three wr w.heap.size 45 (.int .i64 W) (.int .i64 H) (.slice (some ⟨bb, 0, none⟩) n cc) ∧ Row wr bb n K ∧ Three wr (w.heap.size + 1) 45 (.int .i64 0) (.int .i64 0) (.slice none 0 0) ∧ Below w.heap.size w wr ∧ w.heap.size + 2 ≤ bb) ∧ Hid (undoR (bwd W H len R) t k K = undoR (bwd W H len R) t c G ∧ OkG n K)) (fun i _ => (intOf i + 1).toNat)
  case atStart => exact ⟨c, o, co, (c : Int) - 1, G, Nat.le_refl _, rfl, rfl, Lib.hid ⟨TG.out, HRow.out, TR.out, HB.out, hno⟩, Lib.hid ⟨rfl, HG.out⟩⟩
  case round =>
    obtain ⟨k, bb, cc, z, K, hk, hz, rfl, HH, HU⟩ := hrel
    have hlg := HH.out.1.lt
    have k0 := HH.out.1.c0
    have k1 := HH.out.1.c1
    have k2 := HH.out.1.c2
    by_cases hlk : 0 < k
    · obtain ⟨m, rfl⟩ : ∃ m, k = m + 1 := ⟨k - 1, by omega⟩
      obtain rfl : z = (m : Int) := by omega
      clear hz
      have g0 := HH.out.1.free 0
      have g1 := HH.out.1.free 1
      have g2 := HH.out.1.free 2
      have D1 := Lib.hid (fun w' (hb : Below wr.heap.size wr w') => back1 W H n bb 0 cc K (R ((t + m) % len)).1 (R ((t + m) % len)).2 w' S.out HU.out.2 (HK.out.2.2 _ (Nat.mod_lt _ HK.out.1)) (Nat.lt_of_lt_of_le HH.out.2.1.1 hb.size) (HH.out.2.1.grd.below hb HH.out.2.1.1))
      have e1 : IntKind.i64.wrap ((t : Int) + (m : Int)) = (t : Int) + (m : Int) := IntWalk.i64_in _ ⟨by omega, by omega⟩
      have RL := Lib.hid (fun (z : Int) w' (hb : Below wr.heap.size wr w') (ez : z = ((t + m : Nat) : Int)) => refRuleI_int ro len rc (t + m) z R w' (HR.out.below (HH.out.2.2.2.1.trans (hb.mono HH.out.2.2.2.1.size))) HK.out (by omega) ez)
      go_wp2
      go_region_with (first | (go_at_call 80; refine (RL.out _ _ (by (repeat' (first | (with_reducible exact Below.refl _ _) | (with_reducible refine Below.setCell ?_ (by first | omega | (simp; done) | (simp; omega)) _) | (with_reducible refine Below.alloc ?_ (by first | omega | (simp; done) | (simp; omega)) _) | (with_reducible refine Below.drew ?_) | (with_reducible refine below_drewN ?_ _) | (with_reducible refine Below.trans ?_ (Below.mono (by assumption) (by first | omega | (simp; done) | (simp; omega))))))) (by omega)).mono ?_; rintro e wq ⟨rfl, hbq⟩; obtain ⟨hcq, hfq, hzq⟩ := bcall hbq; (try simp at hcq hfq hzq)) | (go_at_call 94; (with_reducible refine (D1.out _ (by (repeat' (first | (with_reducible exact Below.refl _ _) | (with_reducible refine Below.setCell ?_ (by first | omega | (simp; done) | (simp; omega)) _) | (with_reducible refine Below.alloc ?_ (by first | omega | (simp; done) | (simp; omega)) _) | (with_reducible refine Below.drew ?_) | (with_reducible refine below_drewN ?_ _) | (with_reducible refine Below.trans ?_ (Below.mono (by assumption) (by first | omega | (simp; done) | (simp; omega)))))))).mono ?_); rintro e wp ⟨p, cp, rfl, hp, lop, hb⟩; have Cp := Lib.hid hp; clear hp; obtain ⟨hc, hf, hz⟩ := bcall hb; (try simp at hc hf hz lop)))
      all_goals
        have HX := Lib.hid (show Below wr.heap.size wr wp from by (repeat' (first | (with_reducible exact Below.refl _ _) | (with_reducible refine Below.setCell ?_ (by first | omega | (simp; done) | (simp; omega)) _) | (with_reducible refine Below.alloc ?_ (by first | omega | (simp; done) | (simp; omega)) _) | (with_reducible refine Below.drew ?_) | (with_reducible refine below_drewN ?_ _) | (with_reducible refine Below.trans ?_ (Below.mono (by assumption) (by first | omega | (simp; done) | (simp; omega)))))))
        have hpp : wr.heap.size ≤ p := by omega
        clear hc hf hb hcq hfq hbq k0 k1 k2 g0 g1 g2 D1 RL
        first | (rename_i Q9 K9 a9; refine a9 _ _ ?_) | (rename_i Q9 K9 a9 z1; refine a9 _ _ ?_) | (rename_i Q9 K9 a9 z1 z2; refine a9 _ _ ?_) | (rename_i Q9 K9 a9 z1 z2 z3; refine a9 _ _ ?_) | (rename_i Q9 K9 a9 z1 z2 z3 z4; refine a9 _ _ ?_)
        dsimp +zetaDelta only
        go_wp2
        go_roundw
        case rel =>
          obtain ⟨tg, hr, tr, hB, hlo⟩ := HH.out
          exact ⟨m, p, cp, (m : Int) - 1, bwd W H len R (t + m) K, by omega, rfl, by go_num, Lib.hid (run_round tg tr hB HX.out Cp.out hpp), Lib.hid ⟨HU.out.1, okG_bwd S.out.n0 HU.out.2⟩⟩
        case measure => first | (simp [intOf]; done) | (simp [intOf]; omega)
    · obtain rfl : k = 0 := by omega
      have hz2 : z < 0 := by omega
      clear hz
      have p0 := HH.out.2.2.1.free 0
      have p1 := HH.out.2.2.1.free 1
      have p2 := HH.out.2.2.1.free 2
      have q0 := HH.out.2.2.1.c0
      have q1 := HH.out.2.2.1.c1
      have q2 := HH.out.2.2.1.c2
      go_wp2
      refine bodyPost_ret (v := .tuple #[.agg #[.int .i64 W, .int .i64 H, .slice (some ⟨bb, 0, none⟩) n cc], .int .i64 0]) (by simp [results, Try.results46, go_sem, ↓IntWalk.iteOmega, *]) rfl ?_
      refine made_pass ?_ HH.out.2.2.2.1 (by omega) (by have := HH.out.2.2.2.2; omega)
      have e : K = undoR (bwd W H len R) t c G := HU.out.1
      rw [← e]
      exact HH.out.2.1.cellsIn

theorem rRunI_ok (W H n cap : Nat) (ao : Option Addr) (G : Nat → Nat → Int) (ro : Option Addr) (len rc : Nat) (R : Nat → Int × Int) (t c : Nat) (w : World) (s : Sides W H n) (hG : OkG n G) (hC : CellsIn w ao n G) (hR : RulesIn w ro len R) (hk : OkRs len R) (hr : RunOk t c) :
    Calls Try.prog 44 #[.agg #[.int .i64 W, .int .i64 H, .slice (ao) n cap], .slice ro len rc, .int .i64 t, .int .i64 c] w (Made W H n (runG (fwd W H len R) t c G) w) := by
  rcases hC with h | ⟨b, off, rfl, hlt, hC⟩
  · have hn0 : 1 ≤ n := by
      rw [s.n0]
      exact Nat.mul_le_mul s.w0 s.h0
    omega
  · exact rRun_ok1 W H n cap b off G ro len rc R t c w s hG hlt hC hR hk hr
theorem rUndoI_ok (W H n cap : Nat) (ao : Option Addr) (G : Nat → Nat → Int) (ro : Option Addr) (len rc : Nat) (R : Nat → Int × Int) (t c : Nat) (w : World) (s : Sides W H n) (hG : OkG n G) (hC : CellsIn w ao n G) (hR : RulesIn w ro len R) (hk : OkRs len R) (hr : RunOk t c) :
    Calls Try.prog 46 #[.agg #[.int .i64 W, .int .i64 H, .slice (ao) n cap], .slice ro len rc, .int .i64 t, .int .i64 c] w (Made W H n (undoR (bwd W H len R) t c G) w) := by
  rcases hC with h | ⟨b, off, rfl, hlt, hC⟩
  · have hn0 : 1 ≤ n := by
      rw [s.n0]
      exact Nat.mul_le_mul s.w0 s.h0
    omega
  · exact rUndo_ok1 W H n cap b off G ro len rc R t c w s hG hlt hC hR hk hr
end Go.Proofs.Ytloeggbndecbhaa
