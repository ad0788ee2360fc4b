/- A flow streams, forward and back: by the program. -/
import Derived.Test.YtmkhbkkhoemkoaaGreatDoorKFlow
import Derived.Test.YtmkhbkkhoemkoaaGreatDoorKStreamR
namespace Go.Proofs.YtmkhbkkhoemkoaaGreatDoor
set_option linter.unusedSimpArgs false
set_option linter.unusedVariables false
open Go.RowKit

set_option maxRecDepth 100000 in
set_option maxHeartbeats 8000000 in
theorem flow_stream (m n a ca b cb W H : Nat) (lv mv : Value) (P : MG) (w : World) (hM : Flw w m W H n a ca b cb lv mv) (hA : Row w a n P.1) (hB : Row w b n P.2) (s : Sides W H n) (hG : OkG n P.1 ∧ OkG n P.2) :
    Calls Tryz.prog 41 #[.pointer (some ⟨m, 0, none⟩), .func (.func 42) #[] #[]] w fun e w' => e = .returned (.tuple #[]) ∧ (∃ a' ca' b' cb' : Nat, Flw w' m W H n a' ca' b' cb' lv mv ∧ Row w' a' n (pull W H 1 P.1) ∧ Row w' b' n (pull W H 1 P.2) ∧ w.heap.size ≤ a' ∧ w.heap.size ≤ b' ∧ a' ≠ b') ∧ Ex (fun k => k = m) w w' := by
  have k0 := hM.k0
  have k1 := hM.k1
  have k2 := hM.k2
  have k3 := hM.k3
  have hlm := hM.lt
  have la := hA.1
  have lb := hB.1
  have HM := Lib.hid hM; clear hM
  have CA := Lib.hid (fun wx (hb : Below w.heap.size w wx) => gStreamR_ok W H a 0 n ca P.1 wx s hG.1 (Nat.lt_of_lt_of_le la hb.size) (hA.grd.below hb la))
  have CB := Lib.hid (fun wx (hb : Below w.heap.size w wx) => gStreamR_ok W H b 0 n cb P.2 wx s hG.2 (Nat.lt_of_lt_of_le lb hb.size) (hB.grd.below hb lb))
  clear s hG hA hB
  go_enter Tryz.func41, Tryz.ntmps41
  go_wp2_with (go_at_call 73; (with_reducible refine (phases_any W H _ n _ _ n _ _).mono ?_); rintro e w1 ⟨rfl, hb⟩; obtain ⟨hc, hf, hz⟩ := bcall hb; (try simp at hc hf hz))
  obtain ⟨w0, hw0⟩ : ∃ w0, w0 = (w1.alloc (.cells #[.int .i64 W, .int .i64 H, .slice (some ⟨a, 0, none⟩) n ca] 74)).alloc (.cells #[.int .i64 W, .int .i64 H, .slice (some ⟨b, 0, none⟩) n cb] 74) := ⟨_, rfl⟩
  have tA : Three w0 w1.heap.size 74 (.int .i64 W) (.int .i64 H) (.slice (some ⟨a, 0, none⟩) n ca) := by rw [hw0]; exact Three.new2 w1 _ _ _ _ _
  have tB : Three w0 (w1.heap.size + 1) 74 (.int .i64 W) (.int .i64 H) (.slice (some ⟨b, 0, none⟩) n cb) := by rw [hw0]; exact Three.new1 w1 _ _ _ _ _
  have hb0 : Below w.heap.size w w0 := by rw [hw0]; (repeat' (first | (with_reducible exact Below.refl _ _) | (with_reducible refine Below.setCell ?_ (by first | omega | (simp; done) | (simp; omega)) _) | (with_reducible refine Below.alloc ?_ (by first | omega | (simp; done) | (simp; omega)) _) | (with_reducible refine Below.drew ?_) | (with_reducible refine below_drewN ?_ _) | (with_reducible refine Below.trans ?_ (Below.mono (by assumption) (by first | omega | (simp; done) | (simp; omega))))))
  obtain ⟨p, hp⟩ : ∃ p, p = w1.heap.size := ⟨_, rfl⟩
  rw [← hp] at tA tB ⊢
  rw [← hw0]
  have hpl : w.heap.size ≤ p := by omega
  have hM0 := Lib.hid (HM.out.below hb0 hlm)
  have lp : p + 1 < w0.heap.size := tB.lt
  have hmp : m < p := by omega
  have HB0 := Lib.hid hb0
  have TA := Lib.hid tA
  have TB := Lib.hid tB
  clear hc hf hz hb hw0 hp k0 k1 k2 k3 tA tB hb0
  go_at_call 42
  refine (CA.out _ HB0.out).mono ?_
  rintro e w2 ⟨a', ca', rfl, rA, lA, hb2⟩
  have tA2 := TA.out.below hb2 TA.out.lt
  have tB2 := TB.out.below hb2 TB.out.lt
  have hs2 := hb2.size
  have hl2 := tA2.lt
  have c0 := tA2.c0
  have c1 := tA2.c1
  have c2 := tA2.c2
  have f0 := tA2.free 0
  have f1 := tA2.free 1
  have f2 := tA2.free 2
  have d0 := tB2.c0
  have d1 := tB2.c1
  have d2 := tB2.c2
  have TA2 := Lib.hid tA2
  have TB2 := Lib.hid tB2
  have HB2 := Lib.hid hb2
  have RA := Lib.hid rA
  clear tA2 tB2 hb2 rA
  go_wp2_with fail
  obtain ⟨w3, hw3⟩ : ∃ w3, w3 = ((w2.setCell ⟨p, 0, none⟩ (.int .i64 W)).setCell ⟨p, 1, none⟩ (.int .i64 H)).setCell ⟨p, 2, none⟩ (.slice (some ⟨a', 0, none⟩) n ca') := ⟨_, rfl⟩
  have x3 : Ex (fun k => k = p) w2 w3 := by rw [hw3]; exact three_ex
  have tA3 : Three w3 p 74 (.int .i64 W) (.int .i64 H) (.slice (some ⟨a', 0, none⟩) n ca') := by rw [hw3]; exact TA2.out.set
  have tB3 : Three w3 (p + 1) 74 (.int .i64 W) (.int .i64 H) (.slice (some ⟨b, 0, none⟩) n cb) := TB2.out.ex x3 (by omega)
  have rA3 := RA.out.ex x3 (by omega)
  have hb3 : Below w.heap.size w w3 := (HB0.out.trans (HB2.out.mono (by omega))).trans (x3.below (by omega) (fun k hk => by omega))
  rw [← hw3]
  have hs3 := x3.size
  have TA3 := Lib.hid tA3
  have TB3 := Lib.hid tB3
  have RA3 := Lib.hid rA3
  have HB3 := Lib.hid hb3
  have X3 := Lib.hid x3
  clear c0 c1 c2 f0 f1 f2 d0 d1 d2 tA3 tB3 rA3 hb3 x3 hw3
  go_at_call 42
  refine (CB.out _ HB3.out).mono ?_
  rintro e w4 ⟨b', cb', rfl, rB, lB, hb4⟩
  have tA4 := TA3.out.below hb4 TA3.out.lt
  have tB4 := TB3.out.below hb4 TB3.out.lt
  have hs4 := hb4.size
  have hl4 := tB4.lt
  have c0 := tB4.c0
  have c1 := tB4.c1
  have c2 := tB4.c2
  have f0 := tB4.free 0
  have f1 := tB4.free 1
  have f2 := tB4.free 2
  have d2 := tA4.c2
  have hM4 := (HM.out.below HB3.out hlm).below hb4 (by omega)
  have k2 := hM4.k2
  have k3 := hM4.k3
  have g2 := hM4.free 2
  have g3 := hM4.free 3
  have TA4 := Lib.hid tA4
  have TB4 := Lib.hid tB4
  have HB4 := Lib.hid hb4
  have RB := Lib.hid rB
  have HM4 := Lib.hid hM4
  clear tA4 tB4 hb4 rB hM4
  go_wp2
  obtain ⟨w5, hw5⟩ : ∃ w5, w5 = ((w4.setCell ⟨p + 1, 0, none⟩ (.int .i64 W)).setCell ⟨p + 1, 1, none⟩ (.int .i64 H)).setCell ⟨p + 1, 2, none⟩ (.slice (some ⟨b', 0, none⟩) n cb') := ⟨_, rfl⟩
  have x5 : Ex (fun k => k = p + 1) w4 w5 := by rw [hw5]; exact three_ex
  have tB5 : Three w5 (p + 1) 74 (.int .i64 W) (.int .i64 H) (.slice (some ⟨b', 0, none⟩) n cb') := by rw [hw5]; exact TB4.out.set
  have tA5 := TA4.out.ex x5 (by omega)
  have rB5 := RB.out.ex x5 (by omega)
  have rA5 := (RA3.out.below HB4.out RA3.out.1).ex x5 (by omega)
  have hM5 := HM4.out.ex x5 (by omega)
  have hb5 : Below w.heap.size w w5 := (HB3.out.trans (HB4.out.mono (by have := HB3.out.size; omega))).trans (x5.below (by omega) (fun k hk => by omega))
  rw [← hw5]
  clear c0 c1 c2 f0 f1 f2 d2 k2 k3 g2 g3 hw5 x5
  have d2 := tA5.c2
  have c2 := tB5.c2
  have k2 := hM5.k2
  have k3 := hM5.k3
  have g2 := hM5.free 2
  have g3 := hM5.free 3
  have hla := rA5.1
  have hlb := rB5.1
  have lm5 := hM5.lt
  have la5 := tA5.lt
  have lb5 := tB5.lt
  have RA5 := Lib.hid rA5
  have RB5 := Lib.hid rB5
  have HM5 := Lib.hid hM5
  have HB5 := Lib.hid hb5
  have nab : a' ≠ b' := by have := RA3.out.1; omega
  clear tA5 tB5 rA5 rB5 hM5 hb5
  go_region
  go_wp2
  go_end0
  have x6 := (two_ex (w5 := w5) (r := m) (i := 2) (j := 3) (v0 := .slice (some ⟨a', 0, none⟩) n ca') (v1 := .slice (some ⟨b', 0, none⟩) n cb')).drew
  exact ⟨rfl, ⟨a', ca', b', cb', HM5.out.set23 a' ca' b' cb', RA5.out.ex x6 (by omega), RB5.out.ex x6 (by omega), by omega, by omega, nab⟩, (Ex.of_below HB5.out).trans x6⟩

set_option maxRecDepth 100000 in
set_option maxHeartbeats 8000000 in
theorem flow_unstream (m n a ca b cb W H : Nat) (lv mv : Value) (P : MG) (w : World) (hM : Flw w m W H n a ca b cb lv mv) (hA : Row w a n P.1) (hB : Row w b n P.2) (s : Sides W H n) (hG : OkG n P.1 ∧ OkG n P.2) :
    Calls Tryz.prog 41 #[.pointer (some ⟨m, 0, none⟩), .func (.func 55) #[] #[]] w fun e w' => e = .returned (.tuple #[]) ∧ (∃ a' ca' b' cb' : Nat, Flw w' m W H n a' ca' b' cb' lv mv ∧ Row w' a' n (pull W H (-1) P.1) ∧ Row w' b' n (pull W H (-1) P.2) ∧ w.heap.size ≤ a' ∧ w.heap.size ≤ b' ∧ a' ≠ b') ∧ Ex (fun k => k = m) w w' := by
  have k0 := hM.k0
  have k1 := hM.k1
  have k2 := hM.k2
  have k3 := hM.k3
  have hlm := hM.lt
  have la := hA.1
  have lb := hB.1
  have HM := Lib.hid hM; clear hM
  have CA := Lib.hid (fun wx (hb : Below w.heap.size w wx) => gUnstreamR_ok W H a 0 n ca P.1 wx s hG.1 (Nat.lt_of_lt_of_le la hb.size) (hA.grd.below hb la))
  have CB := Lib.hid (fun wx (hb : Below w.heap.size w wx) => gUnstreamR_ok W H b 0 n cb P.2 wx s hG.2 (Nat.lt_of_lt_of_le lb hb.size) (hB.grd.below hb lb))
  clear s hG hA hB
  go_enter Tryz.func41, Tryz.ntmps41
  go_wp2_with (go_at_call 73; (with_reducible refine (phases_any W H _ n _ _ n _ _).mono ?_); rintro e w1 ⟨rfl, hb⟩; obtain ⟨hc, hf, hz⟩ := bcall hb; (try simp at hc hf hz))
  obtain ⟨w0, hw0⟩ : ∃ w0, w0 = (w1.alloc (.cells #[.int .i64 W, .int .i64 H, .slice (some ⟨a, 0, none⟩) n ca] 74)).alloc (.cells #[.int .i64 W, .int .i64 H, .slice (some ⟨b, 0, none⟩) n cb] 74) := ⟨_, rfl⟩
  have tA : Three w0 w1.heap.size 74 (.int .i64 W) (.int .i64 H) (.slice (some ⟨a, 0, none⟩) n ca) := by rw [hw0]; exact Three.new2 w1 _ _ _ _ _
  have tB : Three w0 (w1.heap.size + 1) 74 (.int .i64 W) (.int .i64 H) (.slice (some ⟨b, 0, none⟩) n cb) := by rw [hw0]; exact Three.new1 w1 _ _ _ _ _
  have hb0 : Below w.heap.size w w0 := by rw [hw0]; (repeat' (first | (with_reducible exact Below.refl _ _) | (with_reducible refine Below.setCell ?_ (by first | omega | (simp; done) | (simp; omega)) _) | (with_reducible refine Below.alloc ?_ (by first | omega | (simp; done) | (simp; omega)) _) | (with_reducible refine Below.drew ?_) | (with_reducible refine below_drewN ?_ _) | (with_reducible refine Below.trans ?_ (Below.mono (by assumption) (by first | omega | (simp; done) | (simp; omega))))))
  obtain ⟨p, hp⟩ : ∃ p, p = w1.heap.size := ⟨_, rfl⟩
  rw [← hp] at tA tB ⊢
  rw [← hw0]
  have hpl : w.heap.size ≤ p := by omega
  have hM0 := Lib.hid (HM.out.below hb0 hlm)
  have lp : p + 1 < w0.heap.size := tB.lt
  have hmp : m < p := by omega
  have HB0 := Lib.hid hb0
  have TA := Lib.hid tA
  have TB := Lib.hid tB
  clear hc hf hz hb hw0 hp k0 k1 k2 k3 tA tB hb0
  go_at_call 55
  refine (CA.out _ HB0.out).mono ?_
  rintro e w2 ⟨a', ca', rfl, rA, lA, hb2⟩
  have tA2 := TA.out.below hb2 TA.out.lt
  have tB2 := TB.out.below hb2 TB.out.lt
  have hs2 := hb2.size
  have hl2 := tA2.lt
  have c0 := tA2.c0
  have c1 := tA2.c1
  have c2 := tA2.c2
  have f0 := tA2.free 0
  have f1 := tA2.free 1
  have f2 := tA2.free 2
  have d0 := tB2.c0
  have d1 := tB2.c1
  have d2 := tB2.c2
  have TA2 := Lib.hid tA2
  have TB2 := Lib.hid tB2
  have HB2 := Lib.hid hb2
  have RA := Lib.hid rA
  clear tA2 tB2 hb2 rA
  go_wp2_with fail
  obtain ⟨w3, hw3⟩ : ∃ w3, w3 = ((w2.setCell ⟨p, 0, none⟩ (.int .i64 W)).setCell ⟨p, 1, none⟩ (.int .i64 H)).setCell ⟨p, 2, none⟩ (.slice (some ⟨a', 0, none⟩) n ca') := ⟨_, rfl⟩
  have x3 : Ex (fun k => k = p) w2 w3 := by rw [hw3]; exact three_ex
  have tA3 : Three w3 p 74 (.int .i64 W) (.int .i64 H) (.slice (some ⟨a', 0, none⟩) n ca') := by rw [hw3]; exact TA2.out.set
  have tB3 : Three w3 (p + 1) 74 (.int .i64 W) (.int .i64 H) (.slice (some ⟨b, 0, none⟩) n cb) := TB2.out.ex x3 (by omega)
  have rA3 := RA.out.ex x3 (by omega)
  have hb3 : Below w.heap.size w w3 := (HB0.out.trans (HB2.out.mono (by omega))).trans (x3.below (by omega) (fun k hk => by omega))
  rw [← hw3]
  have hs3 := x3.size
  have TA3 := Lib.hid tA3
  have TB3 := Lib.hid tB3
  have RA3 := Lib.hid rA3
  have HB3 := Lib.hid hb3
  have X3 := Lib.hid x3
  clear c0 c1 c2 f0 f1 f2 d0 d1 d2 tA3 tB3 rA3 hb3 x3 hw3
  go_at_call 55
  refine (CB.out _ HB3.out).mono ?_
  rintro e w4 ⟨b', cb', rfl, rB, lB, hb4⟩
  have tA4 := TA3.out.below hb4 TA3.out.lt
  have tB4 := TB3.out.below hb4 TB3.out.lt
  have hs4 := hb4.size
  have hl4 := tB4.lt
  have c0 := tB4.c0
  have c1 := tB4.c1
  have c2 := tB4.c2
  have f0 := tB4.free 0
  have f1 := tB4.free 1
  have f2 := tB4.free 2
  have d2 := tA4.c2
  have hM4 := (HM.out.below HB3.out hlm).below hb4 (by omega)
  have k2 := hM4.k2
  have k3 := hM4.k3
  have g2 := hM4.free 2
  have g3 := hM4.free 3
  have TA4 := Lib.hid tA4
  have TB4 := Lib.hid tB4
  have HB4 := Lib.hid hb4
  have RB := Lib.hid rB
  have HM4 := Lib.hid hM4
  clear tA4 tB4 hb4 rB hM4
  go_wp2
  obtain ⟨w5, hw5⟩ : ∃ w5, w5 = ((w4.setCell ⟨p + 1, 0, none⟩ (.int .i64 W)).setCell ⟨p + 1, 1, none⟩ (.int .i64 H)).setCell ⟨p + 1, 2, none⟩ (.slice (some ⟨b', 0, none⟩) n cb') := ⟨_, rfl⟩
  have x5 : Ex (fun k => k = p + 1) w4 w5 := by rw [hw5]; exact three_ex
  have tB5 : Three w5 (p + 1) 74 (.int .i64 W) (.int .i64 H) (.slice (some ⟨b', 0, none⟩) n cb') := by rw [hw5]; exact TB4.out.set
  have tA5 := TA4.out.ex x5 (by omega)
  have rB5 := RB.out.ex x5 (by omega)
  have rA5 := (RA3.out.below HB4.out RA3.out.1).ex x5 (by omega)
  have hM5 := HM4.out.ex x5 (by omega)
  have hb5 : Below w.heap.size w w5 := (HB3.out.trans (HB4.out.mono (by have := HB3.out.size; omega))).trans (x5.below (by omega) (fun k hk => by omega))
  rw [← hw5]
  clear c0 c1 c2 f0 f1 f2 d2 k2 k3 g2 g3 hw5 x5
  have d2 := tA5.c2
  have c2 := tB5.c2
  have k2 := hM5.k2
  have k3 := hM5.k3
  have g2 := hM5.free 2
  have g3 := hM5.free 3
  have hla := rA5.1
  have hlb := rB5.1
  have lm5 := hM5.lt
  have la5 := tA5.lt
  have lb5 := tB5.lt
  have RA5 := Lib.hid rA5
  have RB5 := Lib.hid rB5
  have HM5 := Lib.hid hM5
  have HB5 := Lib.hid hb5
  have nab : a' ≠ b' := by have := RA3.out.1; omega
  clear tA5 tB5 rA5 rB5 hM5 hb5
  go_region
  go_wp2
  go_end0
  have x6 := (two_ex (w5 := w5) (r := m) (i := 2) (j := 3) (v0 := .slice (some ⟨a', 0, none⟩) n ca') (v1 := .slice (some ⟨b', 0, none⟩) n cb')).drew
  exact ⟨rfl, ⟨a', ca', b', cb', HM5.out.set23 a' ca' b' cb', RA5.out.ex x6 (by omega), RB5.out.ex x6 (by omega), by omega, by omega, nab⟩, (Ex.of_below HB5.out).trans x6⟩
end Go.Proofs.YtmkhbkkhoemkoaaGreatDoor
