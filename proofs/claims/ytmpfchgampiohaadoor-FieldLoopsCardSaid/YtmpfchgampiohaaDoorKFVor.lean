/- The block with the greatest circulation: by the program of the fields. -/
import Derived.Test.YtmpfchgampiohaaDoorKFGreatB
import Derived.Test.YtmpfchgampiohaaDoorKFJoin
import Derived.Test.YtmpfchgampiohaaDoorKFR8V
namespace Go.Proofs.YtmpfchgampiohaaDoor
set_option linter.unusedSimpArgs false
set_option linter.unusedVariables false
open Go.RowKit Go.Shelf
attribute [local go_sem] Oper.semAt_some

section
variable (W H : Int) (ao : Option Addr) (n cap : Nat) (G : Nat → Nat → Int) (wi hi : Int) (w : World) (hG : CellsIn w ao n G)
include hG
set_option maxRecDepth 100000 in
set_option maxHeartbeats 4000000 in
theorem fSides_bad (hv : ¬ VG W H n G) : Calls Tryd.prog 71 #[.agg #[.int .i64 W, .int .i64 H, .slice (ao) n cap], .int .i64 wi, .int .i64 hi] w fun e w' => e = .returned (.int .i64 1) ∧ Below w.heap.size w w' := by
  have HV := Lib.hid hv
  have HC := Lib.hid hG
  clear hv hG
  go_enter Tryd.func71, Tryd.ntmps71
  go_wp2_with (go_at_call 64; (with_reducible refine (gValid_bad W H ao n cap G _ HV.out (HC.out.below (by (repeat' (first | (with_reducible exact Below.refl _ _) | (with_reducible refine Below.setCell ?_ (by first | omega | (simp; done) | (simp; omega)) _) | (with_reducible refine Below.alloc ?_ (by first | omega | (simp; done) | (simp; omega)) _) | (with_reducible refine Below.drew ?_) | (with_reducible refine below_drewN ?_ _) | (with_reducible refine Below.trans ?_ (Below.mono (by assumption) (by first | omega | (simp; done) | (simp; omega))))))))).mono ?_); rintro e w1 ⟨rfl, hb⟩; obtain ⟨hc, hf, hz⟩ := bcall hb; (try simp at hc hf hz))
  go_ret
  refine ⟨rfl, ?_⟩
  (repeat' (first | (with_reducible exact Below.refl _ _) | (with_reducible refine Below.setCell ?_ (by first | omega | (simp; done) | (simp; omega)) _) | (with_reducible refine Below.alloc ?_ (by first | omega | (simp; done) | (simp; omega)) _) | (with_reducible refine Below.drew ?_) | (with_reducible refine below_drewN ?_ _) | (with_reducible refine Below.trans ?_ (Below.mono (by assumption) (by first | omega | (simp; done) | (simp; omega))))))
set_option maxRecDepth 100000 in
set_option maxHeartbeats 4000000 in
theorem fSides_ok (hv : VG W H n G) (h : SidOk W H wi hi) : Calls Tryd.prog 71 #[.agg #[.int .i64 W, .int .i64 H, .slice (ao) n cap], .int .i64 wi, .int .i64 hi] w fun e w' => e = .returned (.int .i64 0) ∧ Below w.heap.size w w' := by
  obtain ⟨⟨h1, h2⟩, h3, h4⟩ := h
  have HV := Lib.hid hv
  have HC := Lib.hid hG
  clear hv hG
  have h1 : ¬ wi < 1 := by omega
  have h2 : ¬ W < wi := by omega
  have h3 : ¬ hi < 1 := by omega
  have h4 : ¬ H < hi := by omega
  go_enter Tryd.func71, Tryd.ntmps71
  go_wp2_with (go_at_call 64; (with_reducible refine (gValid_ok W H ao n cap G _ HV.out (HC.out.below (by (repeat' (first | (with_reducible exact Below.refl _ _) | (with_reducible refine Below.setCell ?_ (by first | omega | (simp; done) | (simp; omega)) _) | (with_reducible refine Below.alloc ?_ (by first | omega | (simp; done) | (simp; omega)) _) | (with_reducible refine Below.drew ?_) | (with_reducible refine below_drewN ?_ _) | (with_reducible refine Below.trans ?_ (Below.mono (by assumption) (by first | omega | (simp; done) | (simp; omega))))))))).mono ?_); rintro e w1 ⟨rfl, hb⟩; obtain ⟨hc, hf, hz⟩ := bcall hb; (try simp at hc hf hz))
  go_ret
  refine ⟨rfl, ?_⟩
  (repeat' (first | (with_reducible exact Below.refl _ _) | (with_reducible refine Below.setCell ?_ (by first | omega | (simp; done) | (simp; omega)) _) | (with_reducible refine Below.alloc ?_ (by first | omega | (simp; done) | (simp; omega)) _) | (with_reducible refine Below.drew ?_) | (with_reducible refine below_drewN ?_ _) | (with_reducible refine Below.trans ?_ (Below.mono (by assumption) (by first | omega | (simp; done) | (simp; omega))))))
set_option maxRecDepth 100000 in
set_option maxHeartbeats 8000000 in
theorem fSides_rng (hv : VG W H n G) (h : ¬ SidOk W H wi hi) : Calls Tryd.prog 71 #[.agg #[.int .i64 W, .int .i64 H, .slice (ao) n cap], .int .i64 wi, .int .i64 hi] w fun e w' => e = .returned (.int .i64 7) ∧ Below w.heap.size w w' := by
  have HV := Lib.hid hv
  have HC := Lib.hid hG
  clear hv hG
  have h' : wi < 1 ∨ (¬ wi < 1 ∧ W < wi) ∨ (¬ wi < 1 ∧ ¬ W < wi ∧ hi < 1) ∨ (¬ wi < 1 ∧ ¬ W < wi ∧ ¬ hi < 1 ∧ H < hi) := by unfold SidOk at h; omega
  clear h
  rcases h' with h1 | ⟨h1, h2⟩ | ⟨h1, h2, h3⟩ | ⟨h1, h2, h3, h4⟩
  all_goals
    go_enter Tryd.func71, Tryd.ntmps71
    go_wp2_with (go_at_call 64; (with_reducible refine (gValid_ok W H ao n cap G _ HV.out (HC.out.below (by (repeat' (first | (with_reducible exact Below.refl _ _) | (with_reducible refine Below.setCell ?_ (by first | omega | (simp; done) | (simp; omega)) _) | (with_reducible refine Below.alloc ?_ (by first | omega | (simp; done) | (simp; omega)) _) | (with_reducible refine Below.drew ?_) | (with_reducible refine below_drewN ?_ _) | (with_reducible refine Below.trans ?_ (Below.mono (by assumption) (by first | omega | (simp; done) | (simp; omega))))))))).mono ?_); rintro e w1 ⟨rfl, hb⟩; obtain ⟨hc, hf, hz⟩ := bcall hb; (try simp at hc hf hz))
    go_ret
    refine ⟨rfl, ?_⟩
    (repeat' (first | (with_reducible exact Below.refl _ _) | (with_reducible refine Below.setCell ?_ (by first | omega | (simp; done) | (simp; omega)) _) | (with_reducible refine Below.alloc ?_ (by first | omega | (simp; done) | (simp; omega)) _) | (with_reducible refine Below.drew ?_) | (with_reducible refine below_drewN ?_ _) | (with_reducible refine Below.trans ?_ (Below.mono (by assumption) (by first | omega | (simp; done) | (simp; omega))))))
set_option maxRecDepth 100000 in
set_option maxHeartbeats 4000000 in
theorem fVortex_bad (sd : Int) (hv : ¬ VG W H n G) : Calls Tryd.prog 23 #[.agg #[.int .i64 W, .int .i64 H, .slice (ao) n cap], .int .i64 sd] w fun e w' => e = .returned (.tuple #[.agg #[.int .i64 0, .int .i64 0], .int .i64 0, .int .i64 1]) ∧ Below w.heap.size w w' := by
  have CS := Lib.hid (fun wx (hb : Below w.heap.size w wx) => fSides_bad W H ao n cap G sd sd wx (hG.below hb) hv)
  clear hv hG
  go_enter Tryd.func23, Tryd.ntmps23
  go_wp2_with (go_at_call 71; (with_reducible refine (CS.out _ (by (repeat' (first | (with_reducible exact Below.refl _ _) | (with_reducible refine Below.setCell ?_ (by first | omega | (simp; done) | (simp; omega)) _) | (with_reducible refine Below.alloc ?_ (by first | omega | (simp; done) | (simp; omega)) _) | (with_reducible refine Below.drew ?_) | (with_reducible refine below_drewN ?_ _) | (with_reducible refine Below.trans ?_ (Below.mono (by assumption) (by first | omega | (simp; done) | (simp; omega)))))))).mono ?_); rintro e w1 ⟨rfl, hb⟩; obtain ⟨hc, hf, hz⟩ := bcall hb; (try simp at hc hf hz))
  refine bodyPost_ret (v := .tuple #[.agg #[.int .i64 0, .int .i64 0], .int .i64 0, .int .i64 1]) (by simp [results, Tryd.results23, go_sem, ↓IntWalk.iteOmega, *]) rfl ⟨rfl, ?_⟩
  (repeat' (first | (with_reducible exact Below.refl _ _) | (with_reducible refine Below.setCell ?_ (by first | omega | (simp; done) | (simp; omega)) _) | (with_reducible refine Below.alloc ?_ (by first | omega | (simp; done) | (simp; omega)) _) | (with_reducible refine Below.drew ?_) | (with_reducible refine below_drewN ?_ _) | (with_reducible refine Below.trans ?_ (Below.mono (by assumption) (by first | omega | (simp; done) | (simp; omega))))))
set_option maxRecDepth 100000 in
set_option maxHeartbeats 4000000 in
theorem fVortex_rng (sd : Int) (hv : VG W H n G) (h : ¬ SidOk W H sd sd) : Calls Tryd.prog 23 #[.agg #[.int .i64 W, .int .i64 H, .slice (ao) n cap], .int .i64 sd] w fun e w' => e = .returned (.tuple #[.agg #[.int .i64 0, .int .i64 0], .int .i64 0, .int .i64 7]) ∧ Below w.heap.size w w' := by
  have CS := Lib.hid (fun wx (hb : Below w.heap.size w wx) => fSides_rng W H ao n cap G sd sd wx (hG.below hb) hv h)
  clear hv hG h
  go_enter Tryd.func23, Tryd.ntmps23
  go_wp2_with (go_at_call 71; (with_reducible refine (CS.out _ (by (repeat' (first | (with_reducible exact Below.refl _ _) | (with_reducible refine Below.setCell ?_ (by first | omega | (simp; done) | (simp; omega)) _) | (with_reducible refine Below.alloc ?_ (by first | omega | (simp; done) | (simp; omega)) _) | (with_reducible refine Below.drew ?_) | (with_reducible refine below_drewN ?_ _) | (with_reducible refine Below.trans ?_ (Below.mono (by assumption) (by first | omega | (simp; done) | (simp; omega)))))))).mono ?_); rintro e w1 ⟨rfl, hb⟩; obtain ⟨hc, hf, hz⟩ := bcall hb; (try simp at hc hf hz))
  refine bodyPost_ret (v := .tuple #[.agg #[.int .i64 0, .int .i64 0], .int .i64 0, .int .i64 7]) (by simp [results, Tryd.results23, go_sem, ↓IntWalk.iteOmega, *]) rfl ⟨rfl, ?_⟩
  (repeat' (first | (with_reducible exact Below.refl _ _) | (with_reducible refine Below.setCell ?_ (by first | omega | (simp; done) | (simp; omega)) _) | (with_reducible refine Below.alloc ?_ (by first | omega | (simp; done) | (simp; omega)) _) | (with_reducible refine Below.drew ?_) | (with_reducible refine below_drewN ?_ _) | (with_reducible refine Below.trans ?_ (Below.mono (by assumption) (by first | omega | (simp; done) | (simp; omega))))))
end
theorem fMagn_big (n : Int) (w : World) (hn : -10000000000000 ≤ n ∧ n ≤ 10000000000000) : Calls Tryd.prog 75 #[.int .i64 n] w fun e w' => e = .returned (.int .i64 ((n.natAbs : Int))) ∧ Below w.heap.size w w' := by
  have e1 : IntKind.i64.wrap (-n) = -n := IntWalk.i64_in _ ⟨by omega, by omega⟩
  have e2 : max n (-n) = (n.natAbs : Int) := by omega
  have e3 : (if n < -n then -n else n) = (n.natAbs : Int) := by split <;> omega
  have e4 : (if n ≤ -n then -n else n) = (n.natAbs : Int) := by split <;> omega
  clear hn
  go_enter Tryd.func75, Tryd.ntmps75
  go_wp2
  refine bodyPost_ret (v := .int .i64 ((n.natAbs : Int))) (by simp [results, Tryd.results75, go_sem, *]) rfl ⟨rfl, ?_⟩
  (repeat' (first | (with_reducible exact Below.refl _ _) | (with_reducible refine Below.setCell ?_ (by first | omega | (simp; done) | (simp; omega)) _) | (with_reducible refine Below.alloc ?_ (by first | omega | (simp; done) | (simp; omega)) _) | (with_reducible refine Below.drew ?_) | (with_reducible refine below_drewN ?_ _) | (with_reducible refine Below.trans ?_ (Below.mono (by assumption) (by first | omega | (simp; done) | (simp; omega))))))
section
variable (W H n cap b off : Nat) (G : Nat → Nat → Int) (ax ay bx yb : Nat) (w : World) (s : Sides W H n) (hO : OkG n G) (lb : b < w.heap.size) (hG : Grd w b off n G) (h1 : ax ≤ bx) (h2 : bx < W) (h3 : ay ≤ yb) (h4 : yb < H)
include s hO lb hG h1 h2 h3 h4
theorem fcirc_bl (wx : World) (hb : Below w.heap.size w wx) : Calls Tryd.prog 68 #[.agg #[.int .i64 W, .int .i64 H, .slice (some ⟨b, off, none⟩) n cap, .int .i64 ((ax : Int)), .int .i64 ((ay : Int)), .int .i64 ((bx : Int)), .int .i64 ((yb : Int))]] wx fun e w' => e = .returned (.int .i64 (cirS G W ax ay bx yb)) ∧ Below wx.heap.size wx w' := by
  obtain ⟨d1, d2, d3⟩ := tells_bd hO
  have c0 := fsum_bl W H n cap b off G ax ay bx ay w s lb hG h1 h2 (Nat.le_refl _) (by omega) 84 (eaC G) (fun wx _ => tells_east wx n G hO) d2
  have c1 := fsum_bl W H n cap b off G bx ay bx yb w s lb hG (Nat.le_refl _) h2 h3 h4 85 (noC G) (fun wx _ => tells_north wx n G hO) d3
  have c2 := fsum_bl W H n cap b off G ax yb bx yb w s lb hG h1 h2 (Nat.le_refl _) h4 84 (eaC G) (fun wx _ => tells_east wx n G hO) d2
  have c3 := fsum_bl W H n cap b off G ax ay ax yb w s lb hG (Nat.le_refl _) (by omega) h3 h4 85 (noC G) (fun wx _ => tells_north wx n G hO) d3
  exact circ_in W H (some ⟨b, off, none⟩) n cap ax ay bx yb _ _ _ _ wx
    (blS_bd d2 s.n0 s.n1 s.w1 s.h1 h1 h2 (Nat.le_refl _) (by omega)) (blS_bd d3 s.n0 s.n1 s.w1 s.h1 (Nat.le_refl _) h2 h3 h4) (blS_bd d2 s.n0 s.n1 s.w1 s.h1 h1 h2 (Nat.le_refl _) h4) (blS_bd d3 s.n0 s.n1 s.w1 s.h1 (Nat.le_refl _) (by omega) h3 h4)
    (fun wy hy => c0 wy (hb.trans (hy.mono hb.size))) (fun wy hy => c1 wy (hb.trans (hy.mono hb.size))) (fun wy hy => c2 wy (hb.trans (hy.mono hb.size))) (fun wy hy => c3 wy (hb.trans (hy.mono hb.size)))
omit lb hG in
theorem cirS_bdV : -10000000000000 ≤ cirS G W ax ay bx yb ∧ cirS G W ax ay bx yb ≤ 10000000000000 := by
  obtain ⟨d1, d2, d3⟩ := tells_bd hO
  have B1 := blS_bd d2 s.n0 s.n1 s.w1 s.h1 h1 h2 (Nat.le_refl ay) (by omega)
  have B2 := blS_bd d2 s.n0 s.n1 s.w1 s.h1 h1 h2 (Nat.le_refl yb) h4
  have B3 := blS_bd d3 s.n0 s.n1 s.w1 s.h1 (Nat.le_refl bx) h2 h3 h4
  have B4 := blS_bd d3 s.n0 s.n1 s.w1 s.h1 (Nat.le_refl ax) (by omega) h3 h4
  unfold cirS
  omega
end
set_option maxRecDepth 100000 in
set_option maxHeartbeats 4000000 in
theorem fVor1_in (W H : Int) (ao : Option Addr) (N cap : Nat) (ax ay bx yb z : Int) (w : World) (hz : -10000000000000 ≤ z ∧ z ≤ 10000000000000)
    (C : ∀ wx, Below w.heap.size w wx → Calls Tryd.prog 68 #[.agg #[.int .i64 W, .int .i64 H, .slice ao N cap, .int .i64 ax, .int .i64 ay, .int .i64 bx, .int .i64 yb]] wx fun e w' => e = .returned (.int .i64 z) ∧ Below wx.heap.size wx w') :
    Calls Tryd.prog 74 #[.agg #[.int .i64 W, .int .i64 H, .slice ao N cap, .int .i64 ax, .int .i64 ay, .int .i64 bx, .int .i64 yb]] w fun e w' => e = .returned (.int .i64 ((z.natAbs : Int))) ∧ Below w.heap.size w w' := by
  have C := Lib.hid C
  have M := Lib.hid (fun wx => fMagn_big z wx hz)
  clear hz
  go_enter Tryd.func74, Tryd.ntmps74
  go_wp2_with (first | (go_at_call 68; (with_reducible refine (C.out _ (by (repeat' (first | (with_reducible exact Below.refl _ _) | (with_reducible refine Below.setCell ?_ (by first | omega | (simp; done) | (simp; omega)) _) | (with_reducible refine Below.alloc ?_ (by first | omega | (simp; done) | (simp; omega)) _) | (with_reducible refine Below.drew ?_) | (with_reducible refine below_drewN ?_ _) | (with_reducible refine Below.trans ?_ (Below.mono (by assumption) (by first | omega | (simp; done) | (simp; omega)))))))).mono ?_); rintro e w1 ⟨rfl, hb⟩; obtain ⟨hc, hf, hz⟩ := bcall hb; (try simp at hc hf hz)) | (go_at_call 75; (with_reducible refine (M.out _).mono ?_); rintro e w1 ⟨rfl, hb⟩; obtain ⟨hc, hf, hz⟩ := bcall hb; (try simp at hc hf hz)))
  go_ret
  refine ⟨rfl, ?_⟩
  (repeat' (first | (with_reducible exact Below.refl _ _) | (with_reducible refine Below.setCell ?_ (by first | omega | (simp; done) | (simp; omega)) _) | (with_reducible refine Below.alloc ?_ (by first | omega | (simp; done) | (simp; omega)) _) | (with_reducible refine Below.drew ?_) | (with_reducible refine below_drewN ?_ _) | (with_reducible refine Below.trans ?_ (Below.mono (by assumption) (by first | omega | (simp; done) | (simp; omega))))))
/-- The circulation of the block with a side at a place. -/
def cirP (G : Nat → Nat → Int) (W sd : Nat) (p : Nat × Nat) : Int := cirS G W p.1 p.2 (p.1 + sd - 1) (p.2 + sd - 1)
section
variable (W H n cap b off sd nx ny : Nat) (G : Nat → Nat → Int) (w : World) (s : Sides W H n) (hO : OkG n G) (lb : b < w.heap.size) (hG : Grd w b off n G) (h1 : 1 ≤ sd) (hx : nx + sd = W + 1) (hy : ny + sd = H + 1)
include s hO lb hG h1 hx hy
theorem tells_vor (wx : World) (hb : Below w.heap.size w wx) : TellsB wx W H sd sd nx ny (some ⟨b, off, none⟩) n cap 74 (fun p => ((cirP G W sd p).natAbs : Int)) :=
  ⟨enters_of Tryd.func74 (by kernel_rfl) rfl, fun wy p hk hp => by
    have e1 : (p.1 : Int) + (sd : Int) - 1 = ((p.1 + sd - 1 : Nat) : Int) := by omega
    have e2 : (p.2 : Int) + (sd : Int) - 1 = ((p.2 + sd - 1 : Nat) : Int) := by omega
    rw [e1, e2]
    have lbx : b < wx.heap.size := Nat.lt_of_lt_of_le lb hb.size
    have hGx := hG.below hb lb
    have hGy : Grd wy b off n G := fun i hi => ⟨(hk.cell lbx).trans (hGx i hi).1, (hk.cell lbx).trans (hGx i hi).2.1, (hk.cell lbx).trans (hGx i hi).2.2.1, (hk.cell lbx).trans (hGx i hi).2.2.2⟩
    exact fVor1_in W H (some ⟨b, off, none⟩) n cap _ _ _ _ _ wy (cirS_bdV W H n G _ _ _ _ s hO (by omega) (by omega) (by omega) (by omega))
      (fun wz hz => fcirc_bl W H n cap b off G _ _ _ _ wy s hO (Nat.lt_of_lt_of_le lbx hk.1) hGy (by omega) (by omega) (by omega) (by omega) wz hz)⟩
end
theorem three_alloc {w : World} {B : Nat} {t : TypeId} {x y z : Value} (h : Three w B t x y z) (o : Obj) : Three (w.alloc o) B t x y z := (Below.heap_alloc _ _ _ h.lt).trans h
theorem blocks_ex (W H wi hi : Int) (ao : Option Addr) (n cap : Nat) (w : World) : Calls Tryd.prog 73 #[.agg #[.int .i64 W, .int .i64 H, .slice (ao) n cap], .int .i64 wi, .int .i64 hi] w fun e w' => ∃ Bg Bh Bw, e = .returned (.func (.func 109) #[] #[.pointer (some ⟨Bg, 0, none⟩), .pointer (some ⟨Bh, 0, none⟩), .pointer (some ⟨Bw, 0, none⟩)]) ∧
    (Bg < w'.heap.size ∧ Bh < w'.heap.size ∧ Bw < w'.heap.size ∧ w'.cell? ⟨Bg, 0, none⟩ = some (.int .i64 W) ∧ w'.cell? ⟨Bg, 1, none⟩ = some (.int .i64 H) ∧ w'.cell? ⟨Bg, 2, none⟩ = some (.slice ao n cap) ∧ w'.cell? ⟨Bw, 0, none⟩ = some (.int .i64 wi) ∧ w'.cell? ⟨Bh, 0, none⟩ = some (.int .i64 hi)) ∧ Below w.heap.size w w' := by
  refine (blocks_in W H wi hi ao n cap w).mono ?_
  rintro e w' ⟨rfl, rfl⟩
  have t0 := three_alloc (three_alloc (Three.new0 w 24 (.int .i64 W) (.int .i64 H) (.slice ao n cap)) (.cells #[.int .i64 wi] 3)) (.cells #[.int .i64 hi] 3)
  have t1 := (Boxed.new (w.alloc (.cells #[.int .i64 W, .int .i64 H, .slice ao n cap] 24)) 3 (.int .i64 wi)).alloc (.cells #[.int .i64 hi] 3)
  have t2 := Boxed.new ((w.alloc (.cells #[.int .i64 W, .int .i64 H, .slice ao n cap] 24)).alloc (.cells #[.int .i64 wi] 3)) 3 (.int .i64 hi)
  simp only [World.size_alloc] at t1 t2
  exact ⟨_, _, _, rfl, ⟨t0.lt, t2.lt, t1.lt, t0.c0, t0.c1, t0.c2, t1.cell, t2.cell⟩, by (repeat' (first | (with_reducible exact Below.refl _ _) | (with_reducible refine Below.setCell ?_ (by first | omega | (simp; done) | (simp; omega)) _) | (with_reducible refine Below.alloc ?_ (by first | omega | (simp; done) | (simp; omega)) _) | (with_reducible refine Below.drew ?_) | (with_reducible refine below_drewN ?_ _) | (with_reducible refine Below.trans ?_ (Below.mono (by assumption) (by first | omega | (simp; done) | (simp; omega))))))⟩
section
variable (W H n cap b off sd nx ny : Nat) (G : Nat → Nat → Int) (w : World) (s : Sides W H n) (hO : OkG n G) (lb : b < w.heap.size) (hG : Grd w b off n G) (h1 : 1 ≤ sd) (hx : nx + sd = W + 1) (hy : ny + sd = H + 1) (hx1 : 1 ≤ nx) (hy1 : 1 ≤ ny)
include s hO lb hG h1 hx hy hx1 hy1
set_option maxRecDepth 100000 in
set_option maxHeartbeats 16000000 in
theorem fVortex_ok : Calls Tryd.prog 23 #[.agg #[.int .i64 W, .int .i64 H, .slice (some ⟨b, off, none⟩) n cap], .int .i64 ((sd : Int))] w fun e w' => (∃ p, bstB (fun p => ((cirP G W sd p).natAbs : Int)) (recP nx ny) = some p ∧ e = .returned (.tuple #[.agg #[.int .i64 ((p.1 : Int)), .int .i64 ((p.2 : Int))], .int .i64 (cirP G W sd p), .int .i64 0])) ∧ Below w.heap.size w w' := by
  have CS := Lib.hid (fun wx (hb : Below w.heap.size w wx) => fSides_ok W H (some ⟨b, off, none⟩) n cap G sd sd wx ((show CellsIn w (some ⟨b, off, none⟩) n G from Or.inr ⟨b, off, rfl, lb, hG⟩).below hb) (vg_of s hO) ⟨⟨by omega, by omega⟩, by omega, by omega⟩)
  have GT := Lib.hid (fun wx (hb : Below w.heap.size w wx) Bg Bh Bw lg lh lw c0 c1 c2 cw ch => callsIn_wide.1 (greatB_in Bg Bh Bw W H sd sd nx ny (some ⟨b, off, none⟩) n cap 74 _ wx lg lh lw s.w1 s.h1 hx hy hx1 hy1 c0 c1 c2 cw ch (tells_vor W H n cap b off sd nx ny G w s hO lb hG h1 hx hy wx hb)))
  have CB := Lib.hid (fun wx (hb : Below w.heap.size w wx) (p : Nat × Nat) (hp : p.1 < nx ∧ p.2 < ny) => fcirc_bl W H n cap b off G p.1 p.2 (p.1 + sd - 1) (p.2 + sd - 1) w s hO lb hG (by omega) (by omega) (by omega) (by omega) wx hb)
  have H1 := Lib.hid h1
  clear s hO lb hG h1 hx hy hx1 hy1
  go_enter Tryd.func23, Tryd.ntmps23
  obtain ⟨w1, hw1⟩ : ∃ w1, w1 = (w.alloc (.cells #[.int .i64 W, .int .i64 H, .slice (some ⟨b, off, none⟩) n cap] 24)).alloc (.cells #[.int .i64 0, .int .i64 0] 36) := ⟨_, rfl⟩
  have t0 := three_alloc (Three.new0 w 24 (.int .i64 W) (.int .i64 H) (.slice (some ⟨b, off, none⟩) n cap)) (.cells #[.int .i64 0, .int .i64 0] 36)
  have t1 := Two.new (w.alloc (.cells #[.int .i64 W, .int .i64 H, .slice (some ⟨b, off, none⟩) n cap] 24)) 36 (.int .i64 0) (.int .i64 0)
  simp only [World.size_alloc] at t1
  have hb1 : Below w.heap.size w ((w.alloc (.cells #[.int .i64 W, .int .i64 H, .slice (some ⟨b, off, none⟩) n cap] 24)).alloc (.cells #[.int .i64 0, .int .i64 0] 36)) := by (repeat' (first | (with_reducible exact Below.refl _ _) | (with_reducible refine Below.setCell ?_ (by first | omega | (simp; done) | (simp; omega)) _) | (with_reducible refine Below.alloc ?_ (by first | omega | (simp; done) | (simp; omega)) _) | (with_reducible refine Below.drew ?_) | (with_reducible refine below_drewN ?_ _) | (with_reducible refine Below.trans ?_ (Below.mono (by assumption) (by first | omega | (simp; done) | (simp; omega))))))
  rw [← hw1] at t0 t1 hb1
  go_wp2_with fail
  rw [← hw1]
  clear hw1
  have s1 := hb1.size
  have l0 := t0.lt
  have l1 := t1.lt
  have T0 := Lib.hid t0
  have T1 := Lib.hid t1
  have B1 := Lib.hid hb1
  clear t0 t1 hb1
  (go_at_call 71; (refine (CS.out _ B1.out).mono ?_); rintro e wa ⟨rfl, hba⟩)
  have t0 := T0.out.below hba l0
  have q0 := t0.c0
  have q1 := t0.c1
  have q2 := t0.c2
  have BA := Lib.hid hba
  clear hba t0
  go_wp2_with fail
  clear q0 q1 q2
  (go_at_call 73; (refine (blocks_ex W H sd sd (some ⟨b, off, none⟩) n cap _).mono ?_); rintro e wb ⟨Bg, Bh, Bw, rfl, hBk, hbb⟩)
  have DB := Lib.hid (BA.out.trans (hbb.mono BA.out.size))
  have HBK := Lib.hid hBk
  clear hBk hbb
  go_wp2_with fail
  (go_at_call 72; (refine (GT.out _ (B1.out.trans (DB.out.mono s1)) Bg Bh Bw HBK.out.1 HBK.out.2.1 HBK.out.2.2.1 HBK.out.2.2.2.1 HBK.out.2.2.2.2.1 HBK.out.2.2.2.2.2.1 HBK.out.2.2.2.2.2.2.1 HBK.out.2.2.2.2.2.2.2).mono ?_); rintro e wc ⟨⟨p, hp, rfl⟩, hbc⟩)
  have DC := Lib.hid (DB.out.trans (hbc.mono DB.out.size))
  clear hbc
  have hpm := recP_mem (bstB_mem _ _ _ hp)
  obtain ⟨z, hz⟩ : ∃ z, z = cirP G W sd p := ⟨_, rfl⟩
  obtain ⟨x, hx⟩ : ∃ x : Int, x = (p.1 : Int) := ⟨_, rfl⟩
  obtain ⟨y, hy⟩ : ∃ y : Int, y = (p.2 : Int) := ⟨_, rfl⟩
  obtain ⟨bx, hbx⟩ : ∃ bx : Int, bx = (p.1 : Int) + (sd : Int) - 1 := ⟨_, rfl⟩
  obtain ⟨yb, hyb⟩ : ∃ yb : Int, yb = (p.2 : Int) + (sd : Int) - 1 := ⟨_, rfl⟩
  have CP := Lib.hid (fun wx (hb : Below w.heap.size w wx) => (show Calls Tryd.prog 68 #[.agg #[.int .i64 W, .int .i64 H, .slice (some ⟨b, off, none⟩) n cap, .int .i64 x, .int .i64 y, .int .i64 bx, .int .i64 yb]] wx fun e w' => e = .returned (.int .i64 z) ∧ Below wx.heap.size wx w' from by
    have h1 := H1.out
    rw [hz, hx, hy, show bx = ((p.1 + sd - 1 : Nat) : Int) from by omega, show yb = ((p.2 + sd - 1 : Nat) : Int) from by omega]
    exact CB.out wx hb p hpm))
  have HP := Lib.hid (show ∃ p, bstB (fun p => ((cirP G W sd p).natAbs : Int)) (recP nx ny) = some p ∧ (Ending.returned (.tuple #[.agg #[.int .i64 x, .int .i64 y], .int .i64 z, .int .i64 0])) = Ending.returned (.tuple #[.agg #[.int .i64 ((p.1 : Int)), .int .i64 ((p.2 : Int))], .int .i64 (cirP G W sd p), .int .i64 0]) from ⟨p, hp, by rw [hz, hx, hy]⟩)
  rw [← hbx, ← hyb, ← hx, ← hy]
  clear hz hx hy hbx hyb hp hpm CB H1
  go_wp2_with fail
  have v8 := Sev.new wc (.int .i64 W) (.int .i64 H) (.slice (some ⟨b, off, none⟩) n cap) (.int .i64 x) (.int .i64 y) (.int .i64 bx) (.int .i64 yb)
  have v6 := (T1.out.below DC.out l1).alloc (.cells #[.int .i64 W, .int .i64 H, .slice (some ⟨b, off, none⟩) n cap, .int .i64 x, .int .i64 y, .int .i64 bx, .int .i64 yb] 78)
  have b8 : Below w.heap.size w (wc.alloc (.cells #[.int .i64 W, .int .i64 H, .slice (some ⟨b, off, none⟩) n cap, .int .i64 x, .int .i64 y, .int .i64 bx, .int .i64 yb] 78)) := (B1.out.trans (DC.out.mono s1)).alloc (B1.out.trans (DC.out.mono s1)).size _
  have hz8 : wc.heap.size < (wc.alloc (.cells #[.int .i64 W, .int .i64 H, .slice (some ⟨b, off, none⟩) n cap, .int .i64 x, .int .i64 y, .int .i64 bx, .int .i64 yb] 78)).heap.size := by simp
  have hz7 := DC.out.size
  obtain ⟨wq, hwq⟩ : ∃ wq, wq = wc.alloc (.cells #[.int .i64 W, .int .i64 H, .slice (some ⟨b, off, none⟩) n cap, .int .i64 x, .int .i64 y, .int .i64 bx, .int .i64 yb] 78) := ⟨_, rfl⟩
  rw [← hwq] at v8 v6 b8 hz8 ⊢
  obtain ⟨P, hP⟩ : ∃ P, P = wc.heap.size := ⟨_, rfl⟩
  rw [← hP] at v8 hz8 hz7 ⊢
  have hne : ¬ (P = w.heap.size + 1) := by omega
  have hne2 : ¬ (w.heap.size + 1 = P) := by omega
  have hle : w.heap.size ≤ P := by omega
  clear hwq hP T0 T1 B1 BA DB DC HBK CS GT
  have m0 := v8.at 0 _ rfl
  have m1 := v8.at 1 _ rfl
  have m2 := v8.at 2 _ rfl
  have m3 := v8.at 3 _ rfl
  have m4 := v8.at 4 _ rfl
  have m5 := v8.at 5 _ rfl
  have m6 := v8.at 6 _ rfl
  have k0 := v6.c0
  have k1 := v6.c1
  have f0 := v6.f0 0
  have f1 := v6.f0 1
  have l6 := v6.lt
  go_region_held3 (fun w' => w'.cell? ⟨P, 0, none⟩ = some (.int .i64 W) ∧ w'.cell? ⟨P, 1, none⟩ = some (.int .i64 H) ∧ w'.cell? ⟨P, 2, none⟩ = some (.slice (some ⟨b, off, none⟩) n cap) ∧ w'.cell? ⟨P, 3, none⟩ = some (.int .i64 x) ∧ w'.cell? ⟨P, 4, none⟩ = some (.int .i64 y) ∧ w'.cell? ⟨P, 5, none⟩ = some (.int .i64 bx) ∧ w'.cell? ⟨P, 6, none⟩ = some (.int .i64 yb)) (first | (go_split_ands; (try dsimp only); refine ⟨?_, ?_, ?_, ?_, ?_, ?_, ?_⟩ <;> (first | (with_reducible assumption) | (with_reducible exact keep_cell (by assumption) (by first | omega | (simp; done) | (simp; omega)) (by assumption)) | (with_reducible exact (World.cell?_alloc_past _ _ _ (by show _ < _; omega)).trans (by assumption)) | (with_reducible exact (World.cell?_alloc_past _ _ _ (by show _ < _; omega)).trans ((World.cell?_alloc_past _ _ _ (by show _ < _; omega)).symm.trans (by assumption))) | (simp [go_sem]; with_reducible assumption))) | (simp [go_sem, ↓IntWalk.iteOmega, *]; done)) (((go_at_call 68; (with_reducible refine (CP.out _ (by (repeat' (first | (with_reducible exact Below.refl _ _) | (with_reducible refine Below.setCell ?_ (by first | omega | (simp; done) | (simp; omega)) _) | (with_reducible refine Below.alloc ?_ (by first | omega | (simp; done) | (simp; omega)) _) | (with_reducible refine Below.drew ?_) | (with_reducible refine below_drewN ?_ _) | (with_reducible refine Below.trans ?_ (Below.mono (by assumption) (by first | omega | (simp; done) | (simp; omega)))))))).mono ?_); rintro e w1 ⟨rfl, hb⟩; obtain ⟨hc, hf, hz⟩ := bcall hb; (try simp at hc hf hz)); have hl6 : w.heap.size + 1 < w1.heap.size := by omega))
  all_goals
    go_wp2
    refine bodyPost_ret (v := .tuple #[.agg #[.int .i64 x, .int .i64 y], .int .i64 z, .int .i64 0]) (by simp [results, Tryd.results23, go_sem, ↓IntWalk.iteOmega, *]) rfl ⟨HP.out, ?_⟩
    (repeat' (first | (with_reducible exact Below.refl _ _) | (with_reducible refine Below.setCell ?_ (by first | omega | (simp; done) | (simp; omega)) _) | (with_reducible refine Below.alloc ?_ (by first | omega | (simp; done) | (simp; omega)) _) | (with_reducible refine Below.drew ?_) | (with_reducible refine below_drewN ?_ _) | (with_reducible refine Below.trans ?_ (Below.mono (by assumption) (by first | omega | (simp; done) | (simp; omega))))))
end
end Go.Proofs.YtmpfchgampiohaaDoor
