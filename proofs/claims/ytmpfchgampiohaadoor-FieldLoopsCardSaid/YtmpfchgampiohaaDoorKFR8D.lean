/- The circulation of a block: by the reference of the fields. -/
import Derived.Test.YtmpfchgampiohaaDoorKFR8C
namespace Go.Proofs.YtmpfchgampiohaaDoor
set_option linter.unusedSimpArgs false
set_option linter.unusedVariables false
open Go.RowKit Go.Shelf
attribute [local go_sem] Oper.semAt_some

/-- A block's cells by the reference, and then their sums. -/
def RowC (w : World) (v : Value) (G : Nat → Nat → Int) (L : List Nat) : Prop := ∃ g c, v = .slice (some ⟨g, 0, none⟩) L.length c ∧ g < w.heap.size ∧ ∀ i q, L[i]? = some q → ∀ d, d < 4 → w.cell? ⟨g, i * 4 + d, none⟩ = some (.int .i64 (G q d))
theorem rowC_of {w : World} {base : Nat} {v : Value} {G : Nat → Nat → Int} {L : List Nat} (h : w.ownsRow base 49 4 v L.length (cellV G L)) (h1 : 1 ≤ L.length) : RowC w v G L := by
  have h' := h
  rcases h.2 with ⟨_, h0⟩ | ⟨g, c, cur, rfl, hg, hh, _⟩
  · omega
  · refine ⟨g, c, rfl, (Array.getElem?_eq_some_iff.1 hh).1, fun i q hq d hd => ?_⟩
    have hi := (List.getElem?_eq_some_iff.1 hq).1
    rw [h'.cellAt (i * 4 + d) (by omega)]
    exact cellV_get G L i d q hq hd
section
variable (W H n cap b off ax ay bx yb : Nat) (G : Nat → Nat → Int) (w : World) (s : Sides W H n) (hO : OkG n G) (lb : b < w.heap.size) (hG : Grd w b off n G) (h1 : ax ≤ bx) (h2 : bx < W) (h3 : ay ≤ yb) (h4 : yb < H)
include s lb hG h1 h2 h3 h4
/-- The cells of a block, from corner to corner. -/
theorem rcells_bl (wx : World) (hb : Below w.heap.size w wx) : Calls Tryd.prog 82 #[.agg #[.int .i64 W, .int .i64 H, .slice (some ⟨b, off, none⟩) n cap], .agg #[.int .i64 ((ax : Int)), .int .i64 ((ay : Int))], .agg #[.int .i64 ((bx : Int)), .int .i64 ((yb : Int))]] wx fun e w' => ∃ v, e = .returned v ∧ RowC w' v G (recN W ax (bx + 1 - ax) ay (yb + 1 - ay)) ∧ Below wx.heap.size wx w' := by
  refine (rcells_in W H n cap b off ax (bx + 1 - ax) ay (yb + 1 - ay) bx yb G wx s (Nat.lt_of_lt_of_le lb hb.size) (hG.below hb lb) (by omega) (by omega) (by omega) (by omega)).mono ?_
  rintro e w' ⟨v, rfl, hr, hb'⟩
  refine ⟨v, rfl, rowC_of hr ?_, hb'⟩
  rw [recN_len]
  have := Nat.mul_le_mul (show 1 ≤ yb + 1 - ay by omega) (show 1 ≤ bx + 1 - ax by omega)
  omega
omit lb hG in
include hO in
theorem rsums_bl (wx : World) (v : Value) (hv : RowC wx v G (recN W ax (bx + 1 - ax) ay (yb + 1 - ay))) : Calls Tryd.prog 83 #[v] wx fun e w' => e = .returned (.tuple #[.int .i64 (blS (msC G) W ax ay bx yb), .int .i64 (blS (eaC G) W ax ay bx yb), .int .i64 (blS (noC G) W ax ay bx yb)]) ∧ Below wx.heap.size wx w' := by
  obtain ⟨g, c, rfl, lg, hc⟩ := hv
  have hW := s.w1
  have hH := s.h1
  have hle : (recN W ax (bx + 1 - ax) ay (yb + 1 - ay)).length ≤ 5000 := by
    rw [recN_len]
    have := Nat.mul_le_mul (show yb + 1 - ay ≤ 64 by omega) (show bx + 1 - ax ≤ 64 by omega)
    omega
  exact rsums_in g c _ n G (recN W ax (bx + 1 - ax) ay (yb + 1 - ay)) wx rfl hle lg hO (fun q hq => by rw [s.n0]; exact recN_lt hq (by omega) (by omega)) hc
include hO
set_option maxRecDepth 100000 in
set_option maxHeartbeats 16000000 in
theorem rcirc_in : Calls Tryd.prog 70 #[.agg #[.int .i64 W, .int .i64 H, .slice (some ⟨b, off, none⟩) n cap], .agg #[.int .i64 ((ax : Int)), .int .i64 ((ay : Int))], .agg #[.int .i64 ((bx : Int)), .int .i64 ((yb : Int))]] w fun e w' => e = .returned (.int .i64 (cirS G W ax ay bx yb)) ∧ Below w.heap.size w w' := by
  obtain ⟨d1, d2, d3⟩ := tells_bd hO
  have B1 := blS_bd d2 s.n0 s.n1 s.w1 s.h1 h1 h2 (Nat.le_refl ay) (by omega)
  have B2 := blS_bd d2 s.n0 s.n1 s.w1 s.h1 h1 h2 (Nat.le_refl yb) h4
  have B3 := blS_bd d3 s.n0 s.n1 s.w1 s.h1 (Nat.le_refl bx) h2 h3 h4
  have B4 := blS_bd d3 s.n0 s.n1 s.w1 s.h1 (Nat.le_refl ax) (by omega) h3 h4
  have C1 := Lib.hid (rcells_bl W H n cap b off ax ay bx ay G w s lb hG h1 h2 (Nat.le_refl _) (by omega))
  have C2 := Lib.hid (rcells_bl W H n cap b off ax yb bx yb G w s lb hG h1 h2 (Nat.le_refl _) h4)
  have C3 := Lib.hid (rcells_bl W H n cap b off bx ay bx yb G w s lb hG (Nat.le_refl _) h2 h3 h4)
  have C4 := Lib.hid (rcells_bl W H n cap b off ax ay ax yb G w s lb hG (Nat.le_refl _) (by omega) h3 h4)
  have S1 := Lib.hid (rsums_bl W H n ax ay bx ay G s hO h1 h2 (Nat.le_refl _) (by omega))
  have S2 := Lib.hid (rsums_bl W H n ax yb bx yb G s hO h1 h2 (Nat.le_refl _) h4)
  have S3 := Lib.hid (rsums_bl W H n bx ay bx yb G s hO (Nat.le_refl _) h2 h3 h4)
  have S4 := Lib.hid (rsums_bl W H n ax ay ax yb G s hO (Nat.le_refl _) (by omega) h3 h4)
  obtain ⟨z1, hz1⟩ : ∃ z, z = blS (eaC G) W ax ay bx ay := ⟨_, rfl⟩
  obtain ⟨z2, hz2⟩ : ∃ z, z = blS (eaC G) W ax yb bx yb := ⟨_, rfl⟩
  obtain ⟨z3, hz3⟩ : ∃ z, z = blS (noC G) W bx ay bx yb := ⟨_, rfl⟩
  obtain ⟨z4, hz4⟩ : ∃ z, z = blS (noC G) W ax ay ax yb := ⟨_, rfl⟩
  rw [show cirS G W ax ay bx yb = z1 + z3 - z2 - z4 from by unfold cirS; rw [hz1, hz2, hz3, hz4]]
  rw [← hz1] at S1 B1
  rw [← hz2] at S2 B2
  rw [← hz3] at S3 B3
  rw [← hz4] at S4 B4
  have x1 : IntKind.i64.wrap (z1 + z3) = z1 + z3 := IntWalk.i64_in _ ⟨by omega, by omega⟩
  have x2 : IntKind.i64.wrap (z1 + z3 - z2) = z1 + z3 - z2 := IntWalk.i64_in _ ⟨by omega, by omega⟩
  have x3 : IntKind.i64.wrap (z1 + z3 - z2 - z4) = z1 + z3 - z2 - z4 := IntWalk.i64_in _ ⟨by omega, by omega⟩
  clear hz1 hz2 hz3 hz4 B1 B2 B3 B4 d1 d2 d3 hO hG s lb h1 h2 h3 h4
  go_enter Tryd.func70, Tryd.ntmps70
  obtain ⟨w1, hw1⟩ : ∃ w1, w1 = ((w.alloc (.cells #[.int .i64 W, .int .i64 H, .slice (some ⟨b, off, none⟩) n cap] 24)).alloc (.cells #[.int .i64 ((ax : Int)), .int .i64 ((ay : Int))] 36)).alloc (.cells #[.int .i64 ((bx : Int)), .int .i64 ((yb : Int))] 36) := ⟨_, rfl⟩
  have g0 : ∀ (X : World) (k : Nat) (o o' : Obj), X.heap[k]? = some o → (X.alloc o').heap[k]? = some o := fun X k o o' h => (Below.heap_alloc _ _ _ (Array.getElem?_eq_some_iff.1 h).1).trans h
  have n0 : ∀ (X : World) (k : Nat) (o : Obj), X.heap.size = k → (X.alloc o).heap[k]? = some o := fun X k o h => by rw [← h]; exact World.alloc_heap_new X _
  have t3 : Three w1 w.heap.size 24 (.int .i64 W) (.int .i64 H) (.slice (some ⟨b, off, none⟩) n cap) := by rw [hw1]; exact g0 _ _ _ _ (g0 _ _ _ _ (n0 _ _ _ rfl))
  have t4 : Two w1 (w.heap.size + 1) 36 (.int .i64 ((ax : Int))) (.int .i64 ((ay : Int))) := by rw [hw1]; exact g0 _ _ _ _ (n0 _ _ _ (by simp))
  have t5 : Two w1 (w.heap.size + 1 + 1) 36 (.int .i64 ((bx : Int))) (.int .i64 ((yb : Int))) := by rw [hw1]; exact n0 _ _ _ (by simp)
  have b1 : Below w.heap.size w w1 := by rw [hw1]; (repeat' (first | (with_reducible exact Below.refl _ _) | (with_reducible refine Below.setCell ?_ (by first | omega | (simp; done) | (simp; omega)) _) | (with_reducible refine Below.alloc ?_ (by first | omega | (simp; done) | (simp; omega)) _) | (with_reducible refine Below.drew ?_) | (with_reducible refine below_drewN ?_ _) | (with_reducible refine Below.trans ?_ (Below.mono (by assumption) (by first | omega | (simp; done) | (simp; omega))))))
  have s1 : w.heap.size ≤ w1.heap.size := b1.size
  clear g0 n0
  go_wp2_with fail
  rw [← hw1]
  clear hw1
  have T3 := Lib.hid t3
  have T4 := Lib.hid t4
  have T5 := Lib.hid t5
  have l3 := t3.lt
  have l4 := t4.lt
  have l5 := t5.lt
  have HB1 := Lib.hid b1
  clear t3 t4 t5 b1
  have B0 := Lib.hid (Below.refl w1.heap.size w1)
  (go_at_call 82; (refine (C1.out _ (HB1.out.trans (B0.out.mono s1))).mono ?_); rintro e wc1 ⟨v1, rfl, hv1, hb1⟩)
  have V1 := Lib.hid hv1
  have D1 := Lib.hid (B0.out.trans (hb1.mono B0.out.size))
  clear hv1 hb1
  go_wp2_with fail
  (go_at_call 83; (refine (S1.out _ _ V1.out).mono ?_); rintro e ws1 ⟨rfl, hb1⟩)
  have B1 := Lib.hid (D1.out.trans (hb1.mono D1.out.size))
  clear hb1
  have q0 := (T3.out.below B1.out l3).c0
  have q1 := (T3.out.below B1.out l3).c1
  have q2 := (T3.out.below B1.out l3).c2
  have r0 := (T4.out.below B1.out l4).c0
  have r1 := (T4.out.below B1.out l4).c1
  have u0 := (T5.out.below B1.out l5).c0
  have u1 := (T5.out.below B1.out l5).c1
  go_wp2_with fail
  clear q0 q1 q2 r0 r1 u0 u1
  (go_at_call 82; (refine (C2.out _ (HB1.out.trans (B1.out.mono s1))).mono ?_); rintro e wc2 ⟨v2, rfl, hv2, hb2⟩)
  have V2 := Lib.hid hv2
  have D2 := Lib.hid (B1.out.trans (hb2.mono B1.out.size))
  clear hv2 hb2
  go_wp2_with fail
  (go_at_call 83; (refine (S2.out _ _ V2.out).mono ?_); rintro e ws2 ⟨rfl, hb2⟩)
  have B2 := Lib.hid (D2.out.trans (hb2.mono D2.out.size))
  clear hb2
  have q0 := (T3.out.below B2.out l3).c0
  have q1 := (T3.out.below B2.out l3).c1
  have q2 := (T3.out.below B2.out l3).c2
  have r0 := (T4.out.below B2.out l4).c0
  have r1 := (T4.out.below B2.out l4).c1
  have u0 := (T5.out.below B2.out l5).c0
  have u1 := (T5.out.below B2.out l5).c1
  go_wp2_with fail
  clear q0 q1 q2 r0 r1 u0 u1
  (go_at_call 82; (refine (C3.out _ (HB1.out.trans (B2.out.mono s1))).mono ?_); rintro e wc3 ⟨v3, rfl, hv3, hb3⟩)
  have V3 := Lib.hid hv3
  have D3 := Lib.hid (B2.out.trans (hb3.mono B2.out.size))
  clear hv3 hb3
  go_wp2_with fail
  (go_at_call 83; (refine (S3.out _ _ V3.out).mono ?_); rintro e ws3 ⟨rfl, hb3⟩)
  have B3 := Lib.hid (D3.out.trans (hb3.mono D3.out.size))
  clear hb3
  have q0 := (T3.out.below B3.out l3).c0
  have q1 := (T3.out.below B3.out l3).c1
  have q2 := (T3.out.below B3.out l3).c2
  have r0 := (T4.out.below B3.out l4).c0
  have r1 := (T4.out.below B3.out l4).c1
  have u0 := (T5.out.below B3.out l5).c0
  have u1 := (T5.out.below B3.out l5).c1
  go_wp2_with fail
  clear q0 q1 q2 r0 r1 u0 u1
  (go_at_call 82; (refine (C4.out _ (HB1.out.trans (B3.out.mono s1))).mono ?_); rintro e wc4 ⟨v4, rfl, hv4, hb4⟩)
  have V4 := Lib.hid hv4
  have D4 := Lib.hid (B3.out.trans (hb4.mono B3.out.size))
  clear hv4 hb4
  go_wp2_with fail
  (go_at_call 83; (refine (S4.out _ _ V4.out).mono ?_); rintro e ws4 ⟨rfl, hb4⟩)
  have B4 := Lib.hid (D4.out.trans (hb4.mono D4.out.size))
  clear hb4
  have q0 := (T3.out.below B4.out l3).c0
  have q1 := (T3.out.below B4.out l3).c1
  have q2 := (T3.out.below B4.out l3).c2
  have r0 := (T4.out.below B4.out l4).c0
  have r1 := (T4.out.below B4.out l4).c1
  have u0 := (T5.out.below B4.out l5).c0
  have u1 := (T5.out.below B4.out l5).c1
  go_wp2
  go_ret
  exact ⟨rfl, HB1.out.trans (B4.out.mono s1)⟩
end
end Go.Proofs.YtmpfchgampiohaaDoor
