/- Runs among walls and their undoing, steps: by the program. -/
import Derived.Test.YtdbehbeaigfpcaaDoorKTunS
import Derived.Test.YtdbehbeaigfpcaaDoorKCloneC
import Derived.Test.YtdbehbeaigfpcaaDoorKRefMet
namespace Go.Proofs.YtdbehbeaigfpcaaDoor
set_option linter.unusedSimpArgs false
set_option linter.unusedVariables false
open Go.RowKit

theorem blocks3w {w wo : World} {t1 t2 t4 : TypeId} {a b c d e h i j : Value} (hb : Below (((w.alloc (.cells #[a, b, c] t1)).alloc (.cells #[d, e] t2)).alloc (.cells #[h, i, j] t4)).heap.size (((w.alloc (.cells #[a, b, c] t1)).alloc (.cells #[d, e] t2)).alloc (.cells #[h, i, j] t4)) wo) : Three wo (w.heap.size + 2) t4 h i j := (Three.newAt (by simp)).below hb (by simp)

set_option maxRecDepth 100000 in
set_option maxHeartbeats 8000000 in
theorem wrun_in (W H n cap b off bk ok ck rb ro len rc t c : Nat) (ab : Option Addr) (nb cb : Nat) (K : Nat → Int) (R : Nat → Int × Int) (G : Nat → Nat → Int) (w : World) (s : Sides W H n) (hG : OkG n G) (hlt : b < w.heap.size) (hC : Grd w b off n G) (hK : OkK n K) (hbk : bk < w.heap.size) (hN : NumsAt w bk ok n K) (hrb : rb < w.heap.size) (hR : RulesAt w rb ro len R) (hk : OkRs len R) (hT : Tbl w) (hr : RunOk t c)
    (E : ∀ wx, Below w.heap.size w wx → Calls Tryd.prog 34 #[.agg #[.int .i64 W, .int .i64 H, .slice (some ⟨b, off, none⟩) n cap], .agg #[.slice (some ⟨bk, ok, none⟩) n ck, .slice (ab) nb cb], .slice (some ⟨rb, ro, none⟩) len rc, .int .i64 t, .int .i64 c] wx fun e w' => e = .returned (.int .i64 0) ∧ Below wx.heap.size wx w') :
    Calls Tryd.prog 15 #[.agg #[.int .i64 W, .int .i64 H, .slice (some ⟨b, off, none⟩) n cap], .agg #[.slice (some ⟨bk, ok, none⟩) n ck, .slice (ab) nb cb], .slice (some ⟨rb, ro, none⟩) len rc, .int .i64 t, .int .i64 c] w (Made W H n (runG (fwdW W H K len R) t c G) w) := by
  have HE := Lib.hid E; clear E
  have NT := Lib.hid (fun wx (hb : Below w.heap.size w wx) => newTunnel_any W H b off n cap bk ok ck rb ro len rc ab nb cb K R G wx s (Nat.lt_of_lt_of_le hlt hb.size) (hC.below hb hlt) (Nat.lt_of_lt_of_le hbk hb.size) (hN.below hb hbk) (Nat.lt_of_lt_of_le hrb hb.size) (hR.below2 hb hrb) (hT.below2 hb hT.lt))
  have hc' : c ≤ 1000 := by unfold RunOk at hr; omega
  have ht : t ≤ 1000000 := by unfold RunOk at hr; omega
  have htc : c = 0 ∨ t + c ≤ 1000001 := by unfold RunOk at hr; omega
  have S := Lib.hid s
  have HG := Lib.hid hG
  have HK := Lib.hid hk
  have HKK := Lib.hid hK
  clear hC hR hG s hk hr hN hT hK
  go_enter Tryd.func15, Tryd.ntmps15
  go_wp2_with (go_at_call 34; (with_reducible refine (HE.out _ (by (repeat' (first | (with_reducible exact Below.refl _ _) | (with_reducible refine Below.setCell ?_ (by first | omega | (simp; done) | (simp; omega)) _) | (with_reducible refine Below.alloc ?_ (by first | omega | (simp; done) | (simp; omega)) _) | (with_reducible refine Below.drew ?_) | (with_reducible refine below_drewN ?_ _) | (with_reducible refine Below.trans ?_ (Below.mono (by assumption) (by first | omega | (simp; done) | (simp; omega)))))))).mono ?_); rintro e w1 ⟨rfl, hb⟩; obtain ⟨hc, hf, hz⟩ := bcall hb; (try simp at hc hf hz))
  have hbw : Below w.heap.size w w1 := by (repeat' (first | (with_reducible exact Below.refl _ _) | (with_reducible refine Below.setCell ?_ (by first | omega | (simp; done) | (simp; omega)) _) | (with_reducible refine Below.alloc ?_ (by first | omega | (simp; done) | (simp; omega)) _) | (with_reducible refine Below.drew ?_) | (with_reducible refine below_drewN ?_ _) | (with_reducible refine Below.trans ?_ (Below.mono (by assumption) (by first | omega | (simp; done) | (simp; omega))))))
  have t3 := blocks3w hb
  have hsz : w.heap.size + 3 ≤ w1.heap.size := by omega
  have T3 := Lib.hid t3
  have HBW := Lib.hid hbw
  clear hc hf hz hb hbw t3 HE
  go_at_call 21
  refine (NT.out w1 HBW.out).mono ?_
  rintro e w2 ⟨m, rfl, hTn, hb2⟩
  obtain ⟨B, hB⟩ : ∃ B, B = w1.heap.size := ⟨_, rfl⟩
  rw [← hB] at hTn hb2 hsz
  have T32 := Lib.hid (T3.out.below hb2 (by omega))
  have HB2 := Lib.hid (HBW.out.trans (hb2.mono (by have := HBW.out.size; omega)))
  clear hb2 T3 NT hB
  go_wp2_with fail
  go_loopw [30] (fun i wr => ∃ k : Nat, k ≤ c ∧ i = .int .i64 k ∧ Hid (TunG wr m W H n bk ok ck (.slice ab nb cb) rb ro len rc K R (runG (fwdW W H K len R) t k G) B ∧ Below B w2 wr)) (fun i _ => c - (intOf i).toNat)
  case atStart => exact ⟨0, Nat.zero_le _, rfl, Lib.hid ⟨hTn.out, Below.refl _ _⟩⟩
  case round =>
    obtain ⟨k, hk, rfl, HH⟩ := hrel
    by_cases hlk : k < c
    · have ST := Lib.hid (fun (z : Int) (ez : z = ((t + k : Nat) : Int)) => by
        have q := tun_step m W H n bk ok ck (.slice ab nb cb) rb ro len rc (t + k) K R (runG (fwdW W H K len R) t k G) B wr HH.out.1 S.out (okG_runW S.out.n0 HKK.out HG.out) HKK.out HK.out (by omega)
        rw [← ez] at q
        exact q)
      have e1 : IntKind.i64.wrap ((t : Int) + (k : Int)) = (t : Int) + (k : Int) := IntWalk.i64_in _ ⟨by omega, by omega⟩
      go_wp2_with fail
      go_at_call 35
      refine (ST.out _ (by omega)).mono ?_
      rintro e w3 ⟨rfl, hT3, hb3⟩
      have HT3 := Lib.hid hT3
      have HB3 := Lib.hid hb3
      clear hT3 hb3 ST
      go_wp2
      go_roundw
      case rel => exact ⟨k + 1, by omega, by go_num, Lib.hid ⟨HT3.out, HH.out.2.trans HB3.out⟩⟩
      case measure => simp [intOf]; omega
    · obtain rfl : c = k := by omega
      obtain ⟨⟨b1, c1, hM, hr1, n1, q0, q1⟩, _, _, _, _, _, _, _⟩ := HH.out.1
      have k0 := hM.k0
      have k1 := hM.k1
      have k2 := hM.k2
      have lm := hM.lt
      have t4 := T32.out.below HH.out.2 (by omega)
      have p0 := t4.c0
      have p1 := t4.c1
      have p2 := t4.c2
      have f0 := t4.free 0
      have f1 := t4.free 1
      have f2 := t4.free 2
      have lt4 := t4.lt
      have HR1 := Lib.hid hr1
      have HBR := Lib.hid (HB2.out.trans (HH.out.2.mono (by omega)))
      clear hM hr1 t4
      go_wp2
      refine bodyPost_ret (v := .tuple #[.agg #[.int .i64 W, .int .i64 H, .slice (some ⟨b1, 0, none⟩) n c1], .int .i64 0]) (by simp [results, Tryd.results15, go_sem, ↓IntWalk.iteOmega, *]) rfl ?_
      exact made_pass HR1.out.cellsIn HBR.out (by omega) (by omega)

set_option maxHeartbeats 4000000 in
theorem wrun_err (W H : Int) (ao : Option Addr) (n cap : Nat) (ak : Option Addr) (nk ck : Nat) (ab : Option Addr) (nb cb : Nat) (ro : Option Addr) (len rc : Nat) (t c z : Int) (w : World) (hz : z ≠ 0) (E : ∀ wx, Below w.heap.size w wx → Calls Tryd.prog 34 #[.agg #[.int .i64 W, .int .i64 H, .slice (ao) n cap], .agg #[.slice (ak) nk ck, .slice (ab) nb cb], .slice ro len rc, .int .i64 t, .int .i64 c] wx fun e w' => e = .returned (.int .i64 z) ∧ Below wx.heap.size wx w') :
    Calls Tryd.prog 15 #[.agg #[.int .i64 W, .int .i64 H, .slice (ao) n cap], .agg #[.slice (ak) nk ck, .slice (ab) nb cb], .slice ro len rc, .int .i64 t, .int .i64 c] w fun e w' => e = .returned (.tuple #[.agg #[.int .i64 0, .int .i64 0, .slice (none) 0 0], .int .i64 z]) ∧ Below w.heap.size w w' := by
  have HE := Lib.hid E; clear E
  have e0 : (z == 0) = false := beq_eq_false_iff_ne.2 hz
  have e1 : (z != 0) = true := by simp [bne, e0]
  clear hz e0
  go_enter Tryd.func15, Tryd.ntmps15
  go_wp2_with (go_at_call 34; (with_reducible refine (HE.out _ (by (repeat' (first | (with_reducible exact Below.refl _ _) | (with_reducible refine Below.setCell ?_ (by first | omega | (simp; done) | (simp; omega)) _) | (with_reducible refine Below.alloc ?_ (by first | omega | (simp; done) | (simp; omega)) _) | (with_reducible refine Below.drew ?_) | (with_reducible refine below_drewN ?_ _) | (with_reducible refine Below.trans ?_ (Below.mono (by assumption) (by first | omega | (simp; done) | (simp; omega)))))))).mono ?_); rintro e w1 ⟨rfl, hb⟩; obtain ⟨hc, hf, hz⟩ := bcall hb; (try simp at hc hf hz))
  refine bodyPost_ret (v := .tuple #[.agg #[.int .i64 0, .int .i64 0, .slice (none) 0 0], .int .i64 z]) (by simp [results, Tryd.results15, go_sem, ↓IntWalk.iteOmega, *]) rfl ⟨rfl, ?_⟩
  (repeat' (first | (with_reducible exact Below.refl _ _) | (with_reducible refine Below.setCell ?_ (by first | omega | (simp; done) | (simp; omega)) _) | (with_reducible refine Below.alloc ?_ (by first | omega | (simp; done) | (simp; omega)) _) | (with_reducible refine Below.drew ?_) | (with_reducible refine below_drewN ?_ _) | (with_reducible refine Below.trans ?_ (Below.mono (by assumption) (by first | omega | (simp; done) | (simp; omega))))))

end Go.Proofs.YtdbehbeaigfpcaaDoor
