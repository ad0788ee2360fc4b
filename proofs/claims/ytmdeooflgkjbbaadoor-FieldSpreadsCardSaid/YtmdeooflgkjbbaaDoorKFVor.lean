/- The block with the greatest circulation: by the program of the fields. -/
import Derived.Test.YtmdeooflgkjbbaaDoorKFGreatB
import Derived.Test.YtmdeooflgkjbbaaDoorKFJoin
import Derived.Test.YtmdeooflgkjbbaaDoorKFR8V
namespace Go.Proofs.YtmdeooflgkjbbaaDoor
set_option linter.unusedSimpArgs false
set_option linter.unusedVariables false
open Go.RowKit Go.Shelf
attribute [local go_sem] Oper.semAt_some

section
variable (W H : Int) (ao : Option Addr) (n cap : Nat) (G : Nat → Nat → Int) (wi hi : Int) (w : World) (hG : CellsIn w ao n G)
include hG
set_option maxRecDepth 100000 in
set_option maxHeartbeats 4000000 in
theorem fSides_bad (hv : ¬ VG W H n G) : Calls Tryd.prog 72 #[.agg #[.int .i64 W, .int .i64 H, .slice (ao) n cap], .int .i64 wi, .int .i64 hi] w fun e w' => e = .returned (.int .i64 1) ∧ Below w.heap.size w w' := by
  have HV := Lib.hid hv
  have HC := Lib.hid hG
  clear hv hG
  go_enter Tryd.func72, Tryd.ntmps72
  go_wp2_with (go_at_call 89; (with_reducible refine (gValid_bad W H ao n cap G _ HV.out (HC.out.below (by (repeat' (first | (with_reducible exact Below.refl _ _) | (with_reducible refine Below.setCell ?_ (by first | omega | (simp; done) | (simp; omega)) _) | (with_reducible refine Below.alloc ?_ (by first | omega | (simp; done) | (simp; omega)) _) | (with_reducible refine Below.drew ?_) | (with_reducible refine below_drewN ?_ _) | (with_reducible refine Below.trans ?_ (Below.mono (by assumption) (by first | omega | (simp; done) | (simp; omega))))))))).mono ?_); rintro e w1 ⟨rfl, hb⟩; obtain ⟨hc, hf, hz⟩ := bcall hb; (try simp at hc hf hz))
  go_ret
  refine ⟨rfl, ?_⟩
  (repeat' (first | (with_reducible exact Below.refl _ _) | (with_reducible refine Below.setCell ?_ (by first | omega | (simp; done) | (simp; omega)) _) | (with_reducible refine Below.alloc ?_ (by first | omega | (simp; done) | (simp; omega)) _) | (with_reducible refine Below.drew ?_) | (with_reducible refine below_drewN ?_ _) | (with_reducible refine Below.trans ?_ (Below.mono (by assumption) (by first | omega | (simp; done) | (simp; omega))))))
set_option maxRecDepth 100000 in
set_option maxHeartbeats 4000000 in
theorem fSides_ok (hv : VG W H n G) (h : SidOk W H wi hi) : Calls Tryd.prog 72 #[.agg #[.int .i64 W, .int .i64 H, .slice (ao) n cap], .int .i64 wi, .int .i64 hi] w fun e w' => e = .returned (.int .i64 0) ∧ Below w.heap.size w w' := by
  obtain ⟨⟨h1, h2⟩, h3, h4⟩ := h
  have HV := Lib.hid hv
  have HC := Lib.hid hG
  clear hv hG
  have h1 : ¬ wi < 1 := by omega
  have h2 : ¬ W < wi := by omega
  have h3 : ¬ hi < 1 := by omega
  have h4 : ¬ H < hi := by omega
  go_enter Tryd.func72, Tryd.ntmps72
  go_wp2_with (go_at_call 89; (with_reducible refine (gValid_ok W H ao n cap G _ HV.out (HC.out.below (by (repeat' (first | (with_reducible exact Below.refl _ _) | (with_reducible refine Below.setCell ?_ (by first | omega | (simp; done) | (simp; omega)) _) | (with_reducible refine Below.alloc ?_ (by first | omega | (simp; done) | (simp; omega)) _) | (with_reducible refine Below.drew ?_) | (with_reducible refine below_drewN ?_ _) | (with_reducible refine Below.trans ?_ (Below.mono (by assumption) (by first | omega | (simp; done) | (simp; omega))))))))).mono ?_); rintro e w1 ⟨rfl, hb⟩; obtain ⟨hc, hf, hz⟩ := bcall hb; (try simp at hc hf hz))
  go_ret
  refine ⟨rfl, ?_⟩
  (repeat' (first | (with_reducible exact Below.refl _ _) | (with_reducible refine Below.setCell ?_ (by first | omega | (simp; done) | (simp; omega)) _) | (with_reducible refine Below.alloc ?_ (by first | omega | (simp; done) | (simp; omega)) _) | (with_reducible refine Below.drew ?_) | (with_reducible refine below_drewN ?_ _) | (with_reducible refine Below.trans ?_ (Below.mono (by assumption) (by first | omega | (simp; done) | (simp; omega))))))
set_option maxRecDepth 100000 in
set_option maxHeartbeats 8000000 in
theorem fSides_rng (hv : VG W H n G) (h : ¬ SidOk W H wi hi) : Calls Tryd.prog 72 #[.agg #[.int .i64 W, .int .i64 H, .slice (ao) n cap], .int .i64 wi, .int .i64 hi] w fun e w' => e = .returned (.int .i64 7) ∧ Below w.heap.size w w' := by
  have HV := Lib.hid hv
  have HC := Lib.hid hG
  clear hv hG
  have h' : wi < 1 ∨ (¬ wi < 1 ∧ W < wi) ∨ (¬ wi < 1 ∧ ¬ W < wi ∧ hi < 1) ∨ (¬ wi < 1 ∧ ¬ W < wi ∧ ¬ hi < 1 ∧ H < hi) := by unfold SidOk at h; omega
  clear h
  rcases h' with h1 | ⟨h1, h2⟩ | ⟨h1, h2, h3⟩ | ⟨h1, h2, h3, h4⟩
  all_goals
    go_enter Tryd.func72, Tryd.ntmps72
    go_wp2_with (go_at_call 89; (with_reducible refine (gValid_ok W H ao n cap G _ HV.out (HC.out.below (by (repeat' (first | (with_reducible exact Below.refl _ _) | (with_reducible refine Below.setCell ?_ (by first | omega | (simp; done) | (simp; omega)) _) | (with_reducible refine Below.alloc ?_ (by first | omega | (simp; done) | (simp; omega)) _) | (with_reducible refine Below.drew ?_) | (with_reducible refine below_drewN ?_ _) | (with_reducible refine Below.trans ?_ (Below.mono (by assumption) (by first | omega | (simp; done) | (simp; omega))))))))).mono ?_); rintro e w1 ⟨rfl, hb⟩; obtain ⟨hc, hf, hz⟩ := bcall hb; (try simp at hc hf hz))
    go_ret
    refine ⟨rfl, ?_⟩
    (repeat' (first | (with_reducible exact Below.refl _ _) | (with_reducible refine Below.setCell ?_ (by first | omega | (simp; done) | (simp; omega)) _) | (with_reducible refine Below.alloc ?_ (by first | omega | (simp; done) | (simp; omega)) _) | (with_reducible refine Below.drew ?_) | (with_reducible refine below_drewN ?_ _) | (with_reducible refine Below.trans ?_ (Below.mono (by assumption) (by first | omega | (simp; done) | (simp; omega))))))
end
theorem fMagn_big (n : Int) (w : World) (hn : -10000000000000 ≤ n ∧ n ≤ 10000000000000) : Calls Tryd.prog 92 #[.int .i64 n] w fun e w' => e = .returned (.int .i64 ((n.natAbs : Int))) ∧ Below w.heap.size w w' := by
  have e1 : IntKind.i64.wrap (-n) = -n := IntWalk.i64_in _ ⟨by omega, by omega⟩
  have e2 : max n (-n) = (n.natAbs : Int) := by omega
  have e3 : (if n < -n then -n else n) = (n.natAbs : Int) := by split <;> omega
  have e4 : (if n ≤ -n then -n else n) = (n.natAbs : Int) := by split <;> omega
  clear hn
  go_enter Tryd.func92, Tryd.ntmps92
  go_wp2
  refine bodyPost_ret (v := .int .i64 ((n.natAbs : Int))) (by simp [results, Tryd.results92, go_sem, *]) rfl ⟨rfl, ?_⟩
  (repeat' (first | (with_reducible exact Below.refl _ _) | (with_reducible refine Below.setCell ?_ (by first | omega | (simp; done) | (simp; omega)) _) | (with_reducible refine Below.alloc ?_ (by first | omega | (simp; done) | (simp; omega)) _) | (with_reducible refine Below.drew ?_) | (with_reducible refine below_drewN ?_ _) | (with_reducible refine Below.trans ?_ (Below.mono (by assumption) (by first | omega | (simp; done) | (simp; omega))))))
section
variable (W H n cap b off : Nat) (G : Nat → Nat → Int) (ax ay bx yb : Nat) (w : World) (s : Sides W H n) (hO : OkG n G) (lb : b < w.heap.size) (hG : Grd w b off n G) (h1 : ax ≤ bx) (h2 : bx < W) (h3 : ay ≤ yb) (h4 : yb < H)
include s hO lb hG h1 h2 h3 h4
theorem fcirc_bl (wx : World) (hb : Below w.heap.size w wx) : Calls Tryd.prog 128 #[.agg #[.int .i64 W, .int .i64 H, .slice (some ⟨b, off, none⟩) n cap, .int .i64 ((ax : Int)), .int .i64 ((ay : Int)), .int .i64 ((bx : Int)), .int .i64 ((yb : Int))]] wx fun e w' => e = .returned (.int .i64 (cirS G W ax ay bx yb)) ∧ Below wx.heap.size wx w' := by
  obtain ⟨d1, d2, d3⟩ := tells_bd hO
  have c0 := fsum_bl W H n cap b off G ax ay bx ay w s lb hG h1 h2 (Nat.le_refl _) (by omega) 70 (eaC G) (fun wx _ => tells_east wx n G hO) d2
  have c1 := fsum_bl W H n cap b off G bx ay bx yb w s lb hG (Nat.le_refl _) h2 h3 h4 71 (noC G) (fun wx _ => tells_north wx n G hO) d3
  have c2 := fsum_bl W H n cap b off G ax yb bx yb w s lb hG h1 h2 (Nat.le_refl _) h4 70 (eaC G) (fun wx _ => tells_east wx n G hO) d2
  have c3 := fsum_bl W H n cap b off G ax ay ax yb w s lb hG (Nat.le_refl _) (by omega) h3 h4 71 (noC G) (fun wx _ => tells_north wx n G hO) d3
  exact circ_in W H (some ⟨b, off, none⟩) n cap ax ay bx yb _ _ _ _ wx
    (blS_bd d2 s.n0 s.n1 s.w1 s.h1 h1 h2 (Nat.le_refl _) (by omega)) (blS_bd d3 s.n0 s.n1 s.w1 s.h1 (Nat.le_refl _) h2 h3 h4) (blS_bd d2 s.n0 s.n1 s.w1 s.h1 h1 h2 (Nat.le_refl _) h4) (blS_bd d3 s.n0 s.n1 s.w1 s.h1 (Nat.le_refl _) (by omega) h3 h4)
    (fun wy hy => c0 wy (hb.trans (hy.mono hb.size))) (fun wy hy => c1 wy (hb.trans (hy.mono hb.size))) (fun wy hy => c2 wy (hb.trans (hy.mono hb.size))) (fun wy hy => c3 wy (hb.trans (hy.mono hb.size)))
omit lb hG in
theorem cirS_bdV : -10000000000000 ≤ cirS G W ax ay bx yb ∧ cirS G W ax ay bx yb ≤ 10000000000000 := by
  obtain ⟨d1, d2, d3⟩ := tells_bd hO
  have B1 := blS_bd d2 s.n0 s.n1 s.w1 s.h1 h1 h2 (Nat.le_refl ay) (by omega)
  have B2 := blS_bd d2 s.n0 s.n1 s.w1 s.h1 h1 h2 (Nat.le_refl yb) h4
  have B3 := blS_bd d3 s.n0 s.n1 s.w1 s.h1 (Nat.le_refl bx) h2 h3 h4
  have B4 := blS_bd d3 s.n0 s.n1 s.w1 s.h1 (Nat.le_refl ax) (by omega) h3 h4
  unfold cirS
  omega
end
/-- The circulation of the block with a side at a place. -/
def cirP (G : Nat → Nat → Int) (W sd : Nat) (p : Nat × Nat) : Int := cirS G W p.1 p.2 (p.1 + sd - 1) (p.2 + sd - 1)
section
variable (W H n cap b off sd nx ny : Nat) (G : Nat → Nat → Int) (w : World) (s : Sides W H n) (hO : OkG n G) (lb : b < w.heap.size) (hG : Grd w b off n G) (h1 : 1 ≤ sd) (hx : nx + sd = W + 1) (hy : ny + sd = H + 1)
include s hO lb hG h1 hx hy
end
theorem three_alloc {w : World} {B : Nat} {t : TypeId} {x y z : Value} (h : Three w B t x y z) (o : Obj) : Three (w.alloc o) B t x y z := (Below.heap_alloc _ _ _ h.lt).trans h
theorem blocks_ex (W H wi hi : Int) (ao : Option Addr) (n cap : Nat) (w : World) : Calls Tryd.prog 74 #[.agg #[.int .i64 W, .int .i64 H, .slice (ao) n cap], .int .i64 wi, .int .i64 hi] w fun e w' => ∃ Bg Bh Bw, e = .returned (.func (.func 133) #[] #[.pointer (some ⟨Bg, 0, none⟩), .pointer (some ⟨Bh, 0, none⟩), .pointer (some ⟨Bw, 0, none⟩)]) ∧
    (Bg < w'.heap.size ∧ Bh < w'.heap.size ∧ Bw < w'.heap.size ∧ w'.cell? ⟨Bg, 0, none⟩ = some (.int .i64 W) ∧ w'.cell? ⟨Bg, 1, none⟩ = some (.int .i64 H) ∧ w'.cell? ⟨Bg, 2, none⟩ = some (.slice ao n cap) ∧ w'.cell? ⟨Bw, 0, none⟩ = some (.int .i64 wi) ∧ w'.cell? ⟨Bh, 0, none⟩ = some (.int .i64 hi)) ∧ Below w.heap.size w w' := by
  refine (blocks_in W H wi hi ao n cap w).mono ?_
  rintro e w' ⟨rfl, rfl⟩
  have t0 := three_alloc (three_alloc (Three.new0 w 24 (.int .i64 W) (.int .i64 H) (.slice ao n cap)) (.cells #[.int .i64 wi] 3)) (.cells #[.int .i64 hi] 3)
  have t1 := (Boxed.new (w.alloc (.cells #[.int .i64 W, .int .i64 H, .slice ao n cap] 24)) 3 (.int .i64 wi)).alloc (.cells #[.int .i64 hi] 3)
  have t2 := Boxed.new ((w.alloc (.cells #[.int .i64 W, .int .i64 H, .slice ao n cap] 24)).alloc (.cells #[.int .i64 wi] 3)) 3 (.int .i64 hi)
  simp only [World.size_alloc] at t1 t2
  exact ⟨_, _, _, rfl, ⟨t0.lt, t2.lt, t1.lt, t0.c0, t0.c1, t0.c2, t1.cell, t2.cell⟩, by (repeat' (first | (with_reducible exact Below.refl _ _) | (with_reducible refine Below.setCell ?_ (by first | omega | (simp; done) | (simp; omega)) _) | (with_reducible refine Below.alloc ?_ (by first | omega | (simp; done) | (simp; omega)) _) | (with_reducible refine Below.drew ?_) | (with_reducible refine below_drewN ?_ _) | (with_reducible refine Below.trans ?_ (Below.mono (by assumption) (by first | omega | (simp; done) | (simp; omega))))))⟩
section
variable (W H n cap b off sd nx ny : Nat) (G : Nat → Nat → Int) (w : World) (s : Sides W H n) (hO : OkG n G) (lb : b < w.heap.size) (hG : Grd w b off n G) (h1 : 1 ≤ sd) (hx : nx + sd = W + 1) (hy : ny + sd = H + 1) (hx1 : 1 ≤ nx) (hy1 : 1 ≤ ny)
include s hO lb hG h1 hx hy hx1 hy1
end
end Go.Proofs.YtmdeooflgkjbbaaDoor
