/- The block with the greatest circulation: by the reference of the fields. -/
import Derived.Test.YtmpfchgampiohaaDoorKFVor
namespace Go.Proofs.YtmpfchgampiohaaDoor
set_option linter.unusedSimpArgs false
set_option linter.unusedVariables false
open Go.RowKit Go.Shelf
attribute [local go_sem] Oper.semAt_some

section
variable (W H : Int) (ao : Option Addr) (n cap : Nat) (G : Nat → Nat → Int) (sd : Int) (w : World) (hG : CellsIn w ao n G)
include hG
set_option maxRecDepth 100000 in
set_option maxHeartbeats 4000000 in
theorem rVortex_bad (hv : ¬ VG W H n G) : Calls Tryd.prog 24 #[.agg #[.int .i64 W, .int .i64 H, .slice (ao) n cap], .int .i64 sd] w fun e w' => e = .returned (.tuple #[.agg #[.int .i64 0, .int .i64 0], .int .i64 0, .int .i64 1]) ∧ Below w.heap.size w w' := by
  have CS := Lib.hid (fun wx (hb : Below w.heap.size w wx) => rsided_bad W H ao n cap G sd sd wx (hG.below hb) hv)
  clear hv hG
  go_enter Tryd.func24, Tryd.ntmps24
  go_wp2_with (go_at_call 76; (with_reducible refine (CS.out _ (by (repeat' (first | (with_reducible exact Below.refl _ _) | (with_reducible refine Below.setCell ?_ (by first | omega | (simp; done) | (simp; omega)) _) | (with_reducible refine Below.alloc ?_ (by first | omega | (simp; done) | (simp; omega)) _) | (with_reducible refine Below.drew ?_) | (with_reducible refine below_drewN ?_ _) | (with_reducible refine Below.trans ?_ (Below.mono (by assumption) (by first | omega | (simp; done) | (simp; omega)))))))).mono ?_); rintro e w1 ⟨rfl, hb⟩; obtain ⟨hc, hf, hz⟩ := bcall hb; (try simp at hc hf hz))
  refine bodyPost_ret (v := .tuple #[.agg #[.int .i64 0, .int .i64 0], .int .i64 0, .int .i64 1]) (by simp [results, Tryd.results24, go_sem, ↓IntWalk.iteOmega, *]) rfl ⟨rfl, ?_⟩
  (repeat' (first | (with_reducible exact Below.refl _ _) | (with_reducible refine Below.setCell ?_ (by first | omega | (simp; done) | (simp; omega)) _) | (with_reducible refine Below.alloc ?_ (by first | omega | (simp; done) | (simp; omega)) _) | (with_reducible refine Below.drew ?_) | (with_reducible refine below_drewN ?_ _) | (with_reducible refine Below.trans ?_ (Below.mono (by assumption) (by first | omega | (simp; done) | (simp; omega))))))
set_option maxRecDepth 100000 in
set_option maxHeartbeats 4000000 in
theorem rVortex_rng (hv : VG W H n G) (h : ¬ SidOk W H sd sd) : Calls Tryd.prog 24 #[.agg #[.int .i64 W, .int .i64 H, .slice (ao) n cap], .int .i64 sd] w fun e w' => e = .returned (.tuple #[.agg #[.int .i64 0, .int .i64 0], .int .i64 0, .int .i64 7]) ∧ Below w.heap.size w w' := by
  have CS := Lib.hid (fun wx (hb : Below w.heap.size w wx) => rsided_rng W H ao n cap G sd sd wx (hG.below hb) hv h)
  clear hv hG h
  go_enter Tryd.func24, Tryd.ntmps24
  go_wp2_with (go_at_call 76; (with_reducible refine (CS.out _ (by (repeat' (first | (with_reducible exact Below.refl _ _) | (with_reducible refine Below.setCell ?_ (by first | omega | (simp; done) | (simp; omega)) _) | (with_reducible refine Below.alloc ?_ (by first | omega | (simp; done) | (simp; omega)) _) | (with_reducible refine Below.drew ?_) | (with_reducible refine below_drewN ?_ _) | (with_reducible refine Below.trans ?_ (Below.mono (by assumption) (by first | omega | (simp; done) | (simp; omega)))))))).mono ?_); rintro e w1 ⟨rfl, hb⟩; obtain ⟨hc, hf, hz⟩ := bcall hb; (try simp at hc hf hz))
  refine bodyPost_ret (v := .tuple #[.agg #[.int .i64 0, .int .i64 0], .int .i64 0, .int .i64 7]) (by simp [results, Tryd.results24, go_sem, ↓IntWalk.iteOmega, *]) rfl ⟨rfl, ?_⟩
  (repeat' (first | (with_reducible exact Below.refl _ _) | (with_reducible refine Below.setCell ?_ (by first | omega | (simp; done) | (simp; omega)) _) | (with_reducible refine Below.alloc ?_ (by first | omega | (simp; done) | (simp; omega)) _) | (with_reducible refine Below.drew ?_) | (with_reducible refine below_drewN ?_ _) | (with_reducible refine Below.trans ?_ (Below.mono (by assumption) (by first | omega | (simp; done) | (simp; omega))))))
end
/-- What the loops hold: the best place so far, and its circulation. -/
def plO (o : Option (Nat × Nat)) : Nat × Nat := o.getD (0, 0)
def cvO (c : Nat × Nat → Int) : Option (Nat × Nat) → Int
  | none => 0
  | some p => c p
def VoI (w1 : World) (P : Nat) (c : Nat × Nat → Int) (L : List (Nat × Nat)) (m f : Value) (wr : World) : Prop :=
  (m = .int .i64 (cvO c (bstB (fun p => ((c p).natAbs : Int)) L)) ∧ f = .bool (bstB (fun p => ((c p).natAbs : Int)) L).isSome) ∧ Two wr P 36 (.int .i64 (((plO (bstB (fun p => ((c p).natAbs : Int)) L)).1 : Int))) (.int .i64 (((plO (bstB (fun p => ((c p).natAbs : Int)) L)).2 : Int))) ∧ Below w1.heap.size w1 wr
theorem voI_new {w1 : World} {P : Nat} {c : Nat × Nat → Int} {L : List (Nat × Nat)} {m f : Value} {wr X : World} {x : Nat × Nat} (h : VoI w1 P c L m f wr) (hP : w1.heap.size ≤ P) (hX : Below wr.heap.size wr X) (hm : ∀ q, bstB (fun p => ((c p).natAbs : Int)) L = some q → ((c q).natAbs : Int) < ((c x).natAbs : Int)) {z jx ky : Int} (hz : z = c x) (h0 : jx = (x.1 : Int)) (h1 : ky = (x.2 : Int)) :
    VoI w1 P c (L ++ [x]) (.int .i64 z) (.bool true) ((X.setCell ⟨P, 0, none⟩ (.int .i64 jx)).setCell ⟨P, 1, none⟩ (.int .i64 ky)) := by
  have e : bstB (fun p => ((c p).natAbs : Int)) (L ++ [x]) = some x := by
    rw [bstB_app]
    unfold stpB
    split
    · rfl
    · rename_i q hq
      rw [if_pos (hm _ hq)]
  unfold VoI
  rw [e]
  subst hz h0 h1
  refine ⟨⟨rfl, rfl⟩, (h.2.1.below hX h.2.1.lt).set2 _ _, ?_⟩
  exact (((h.2.2.trans (hX.mono h.2.2.size)).setCell (p := ⟨P, 0, none⟩) hP _).setCell (p := ⟨P, 1, none⟩) hP _)
theorem voI_same {w1 : World} {P : Nat} {c : Nat × Nat → Int} {L : List (Nat × Nat)} {m f : Value} {wr X : World} {x q : Nat × Nat} (h : VoI w1 P c L m f wr) (hX : Below wr.heap.size wr X) (hk : bstB (fun p => ((c p).natAbs : Int)) L = some q) (hm : ¬ ((c q).natAbs : Int) < ((c x).natAbs : Int)) :
    VoI w1 P c (L ++ [x]) m f X := by
  have e : bstB (fun p => ((c p).natAbs : Int)) (L ++ [x]) = bstB (fun p => ((c p).natAbs : Int)) L := by rw [bstB_app, hk]; unfold stpB; simp only; rw [if_neg hm]
  unfold VoI
  rw [e]
  exact ⟨h.1, h.2.1.below hX h.2.1.lt, h.2.2.trans (hX.mono h.2.2.size)⟩
section
variable (W H n cap b off sd nx ny : Nat) (G : Nat → Nat → Int) (w : World) (s : Sides W H n) (hO : OkG n G) (lb : b < w.heap.size) (hG : Grd w b off n G) (h1 : 1 ≤ sd) (hx : nx + sd = W + 1) (hy : ny + sd = H + 1) (hx1 : 1 ≤ nx) (hy1 : 1 ≤ ny)
include s hO lb hG h1 hx hy hx1 hy1
set_option maxRecDepth 100000 in
set_option maxHeartbeats 32000000 in
theorem rVortex_ok : Calls Tryd.prog 24 #[.agg #[.int .i64 W, .int .i64 H, .slice (some ⟨b, off, none⟩) n cap], .int .i64 ((sd : Int))] w fun e w' => (∃ p, bstB (fun p => ((cirP G W sd p).natAbs : Int)) (recP nx ny) = some p ∧ e = .returned (.tuple #[.agg #[.int .i64 ((p.1 : Int)), .int .i64 ((p.2 : Int))], .int .i64 (cirP G W sd p), .int .i64 0])) ∧ Below w.heap.size w w' := by
  have CS := Lib.hid (fun wx (hb : Below w.heap.size w wx) => rsided_ok W H (some ⟨b, off, none⟩) n cap G sd sd wx ((show CellsIn w (some ⟨b, off, none⟩) n G from Or.inr ⟨b, off, rfl, lb, hG⟩).below hb) (vg_of s hO) ⟨⟨by omega, by omega⟩, by omega, by omega⟩)
  have CB := Lib.hid (fun wx (hb : Below w.heap.size w wx) (p : Nat × Nat) (hp : p.1 < nx ∧ p.2 < ny) => rcirc_in W H n cap b off p.1 p.2 (p.1 + sd - 1) (p.2 + sd - 1) G wx s hO (Nat.lt_of_lt_of_le lb hb.size) (hG.below hb lb) (by omega) (by omega) (by omega) (by omega))
  have BD := Lib.hid (fun (p : Nat × Nat) (hp : p.1 < nx ∧ p.2 < ny) => (show -10000000000000 ≤ cirP G W sd p ∧ cirP G W sd p ≤ 10000000000000 from cirS_bdV W H n G p.1 p.2 (p.1 + sd - 1) (p.2 + sd - 1) s hO (by omega) (by omega) (by omega) (by omega)))
  have hW1 := s.w1
  have hH1 := s.h1
  obtain ⟨c, hc⟩ : ∃ c, c = cirP G W sd := ⟨_, rfl⟩
  have CB := Lib.hid (fun wx (hb : Below w.heap.size w wx) (p : Nat × Nat) (hp : p.1 < nx ∧ p.2 < ny) => (show Calls Tryd.prog 70 #[.agg #[.int .i64 W, .int .i64 H, .slice (some ⟨b, off, none⟩) n cap], .agg #[.int .i64 ((p.1 : Int)), .int .i64 ((p.2 : Int))], .agg #[.int .i64 ((p.1 : Int) + (sd : Int) - 1), .int .i64 ((p.2 : Int) + (sd : Int) - 1)]] wx fun e w' => e = .returned (.int .i64 (c p)) ∧ Below wx.heap.size wx w' from by
    rw [hc, show (p.1 : Int) + (sd : Int) - 1 = ((p.1 + sd - 1 : Nat) : Int) from by omega, show (p.2 : Int) + (sd : Int) - 1 = ((p.2 + sd - 1 : Nat) : Int) from by omega]
    exact CB.out wx hb p hp))
  rw [show (fun p => ((cirP G W sd p).natAbs : Int)) = (fun p => ((c p).natAbs : Int)) from by rw [hc]]
  simp only [← hc] at BD ⊢
  clear hc s hO lb hG
  go_enter Tryd.func24, Tryd.ntmps24
  obtain ⟨w1, hw1⟩ : ∃ w1, w1 = (w.alloc (.cells #[.int .i64 W, .int .i64 H, .slice (some ⟨b, off, none⟩) n cap] 24)).alloc (.cells #[.int .i64 0, .int .i64 0] 36) := ⟨_, rfl⟩
  have t0 := three_alloc (Three.new0 w 24 (.int .i64 W) (.int .i64 H) (.slice (some ⟨b, off, none⟩) n cap)) (.cells #[.int .i64 0, .int .i64 0] 36)
  have t1 := Two.new (w.alloc (.cells #[.int .i64 W, .int .i64 H, .slice (some ⟨b, off, none⟩) n cap] 24)) 36 (.int .i64 0) (.int .i64 0)
  simp only [World.size_alloc] at t1
  have hb1 : Below w.heap.size w ((w.alloc (.cells #[.int .i64 W, .int .i64 H, .slice (some ⟨b, off, none⟩) n cap] 24)).alloc (.cells #[.int .i64 0, .int .i64 0] 36)) := by (repeat' (first | (with_reducible exact Below.refl _ _) | (with_reducible refine Below.setCell ?_ (by first | omega | (simp; done) | (simp; omega)) _) | (with_reducible refine Below.alloc ?_ (by first | omega | (simp; done) | (simp; omega)) _) | (with_reducible refine Below.drew ?_) | (with_reducible refine below_drewN ?_ _) | (with_reducible refine Below.trans ?_ (Below.mono (by assumption) (by first | omega | (simp; done) | (simp; omega))))))
  rw [← hw1] at t0 t1 hb1
  go_wp2_with fail
  rw [← hw1]
  clear hw1
  have s1 := hb1.size
  have l0 := t0.lt
  have l1 := t1.lt
  (go_at_call 76; (refine (CS.out _ hb1).mono ?_); rintro e wa ⟨rfl, hba⟩)
  have t0 := t0.below hba l0
  have t1 := t1.below hba l1
  have hb1 := hb1.trans (hba.mono s1)
  have sa := hba.size
  clear hba
  go_wp2_with fail
  have v8 := Two.new wa 36 (.int .i64 0) (.int .i64 0)
  have b8 : Below wa.heap.size wa (wa.alloc (.cells #[.int .i64 0, .int .i64 0] 36)) := (Below.refl _ _).alloc (Nat.le_refl _) _
  obtain ⟨w2, hw2⟩ : ∃ w2, w2 = wa.alloc (.cells #[.int .i64 0, .int .i64 0] 36) := ⟨_, rfl⟩
  obtain ⟨P, hP⟩ : ∃ P, P = wa.heap.size := ⟨_, rfl⟩
  rw [← hw2, ← hP] at v8 ⊢
  rw [← hw2] at b8
  have hPle : wa.heap.size ≤ P := by omega
  have hP0 : w.heap.size ≤ P := by have := hb1.size; omega
  clear hw2 hP
  have l0 := t0.lt
  have l1 := t1.lt
  have sw := hb1.size
  go_loopw [9, 10, 11, 12, 13, 14, 15] (fun m f y _ _ _ _ wr => ∃ k : Nat, k ≤ ny ∧ y = .int .i64 (k : Int) ∧ Hid (VoI wa P c (recP nx k) m f wr)) (fun _ _ y _ _ _ _ _ => ny - (Go.RowKit.intOf y).toNat)
  case atStart => exact ⟨0, Nat.zero_le _, rfl, Lib.hid ⟨⟨rfl, rfl⟩, v8, b8⟩⟩
  case round =>
    obtain ⟨k, hk, rfl, HH⟩ := hrel
    obtain ⟨⟨rfl, rfl⟩, hT, hBw⟩ := id HH.out
    have u0 := t0.below hBw l0
    have g1 := u0.c1
    have e1 : IntKind.i64.wrap ((k : Int) + (sd : Int)) = (k : Int) + (sd : Int) := IntWalk.i64_in _ ⟨by omega, by omega⟩
    by_cases hlk : k < ny
    · have q1 : (k : Int) + (sd : Int) ≤ (H : Int) := by omega
      clear u0 hT
      go_wp2
      obtain ⟨wo, hwo⟩ : ∃ wo, wo = wr := ⟨_, rfl⟩
      subst hwo
      clear g1
      go_loopw [9, 10, 12, 13, 14, 15] (fun m f x _ _ _ wr => ∃ j : Nat, j ≤ nx ∧ x = .int .i64 (j : Int) ∧ Hid (VoI wa P c (recP nx k ++ rowP k j) m f wr)) (fun _ _ x _ _ _ _ => nx - (Go.RowKit.intOf x).toNat)
      case atStart => exact ⟨0, Nat.zero_le _, rfl, by rw [show rowP k 0 = [] from rfl, List.append_nil]; exact HH⟩
      case round =>
        obtain ⟨j, hj, rfl, HJ⟩ := hrel
        obtain ⟨⟨rfl, rfl⟩, hT, hBr⟩ := id HJ.out
        have u0 := t0.below hBr l0
        have g0 := u0.c0
        have e2 : IntKind.i64.wrap ((j : Int) + (sd : Int)) = (j : Int) + (sd : Int) := IntWalk.i64_in _ ⟨by omega, by omega⟩
        have lP := hT.lt
        have szr := hBr.size
        by_cases hlj : j < nx
        · have q2 : (j : Int) + (sd : Int) ≤ (W : Int) := by omega
          have hRP := Lib.hid (show recP nx k ++ rowP k (j + 1) = recP nx k ++ rowP k j ++ [(j, k)] from by rw [List.append_assoc]; rfl)
          have hmem : ∀ p, bstB (fun p => ((c p).natAbs : Int)) (recP nx k ++ rowP k j) = some p → p.1 < nx ∧ p.2 < ny := fun p hp => recP_mem ((rec_preP nx hlk hj).subset (bstB_mem _ _ _ hp))
          obtain ⟨L, hL⟩ : ∃ L, L = recP nx k ++ rowP k j := ⟨_, rfl⟩
          rw [← hL] at HJ hT hRP hmem ⊢
          have CR := Lib.hid (fun wx => rcorner_in (j : Int) (k : Int) (sd : Int) (sd : Int) wx ⟨by omega, by omega⟩ ⟨by omega, by omega⟩ ⟨by omega, by omega⟩ ⟨by omega, by omega⟩)
          have CP := Lib.hid (fun wx (hb : Below w.heap.size w wx) => CB.out wx hb (j, k) ⟨hlj, hlk⟩)
          have BZ := BD.out (j, k) ⟨hlj, hlk⟩
          have BM : -10000000000000 ≤ cvO c (bstB (fun p => ((c p).natAbs : Int)) L) ∧ cvO c (bstB (fun p => ((c p).natAbs : Int)) L) ≤ 10000000000000 := by
            cases hq : bstB (fun p => ((c p).natAbs : Int)) L with
            | none => exact ⟨by show (-10000000000000 : Int) ≤ 0; omega, by show (0 : Int) ≤ 10000000000000; omega⟩
            | some q => exact BD.out q (hmem q hq)
          dsimp only at CP
          obtain ⟨z, hz⟩ : ∃ z, z = c (j, k) := ⟨_, rfl⟩
          rw [← hz] at CP BZ
          obtain ⟨m, hm⟩ : ∃ m, m = cvO c (bstB (fun p => ((c p).natAbs : Int)) L) := ⟨_, rfl⟩
          rw [← hm] at BM ⊢
          obtain ⟨f, hf⟩ : ∃ f, f = (bstB (fun p => ((c p).natAbs : Int)) L).isSome := ⟨_, rfl⟩
          rw [← hf]
          obtain ⟨jx, hjx⟩ : ∃ jx : Int, jx = (j : Int) := ⟨_, rfl⟩
          obtain ⟨ky, hky⟩ : ∃ ky : Int, ky = (k : Int) := ⟨_, rfl⟩
          have e3 : IntKind.i64.wrap (jx + 1) = jx + 1 := IntWalk.i64_in _ ⟨by omega, by omega⟩
          have SZ := Lib.hid (fun wx => rsize_in z wx BZ)
          have SM := Lib.hid (fun wx => rsize_in m wx BM)
          have HJK := Lib.hid (And.intro hlj (And.intro hlk (And.intro hjx hky)))
          have HZM := Lib.hid (And.intro hz (And.intro hm hf))
          have p0 := hT.c0
          have p1 := hT.c1
          have f0 := hT.f0 0
          have f1 := hT.f0 1
          obtain ⟨bx, hbx⟩ : ∃ bx : Int, bx = (j : Int) + (sd : Int) - 1 := ⟨_, rfl⟩
          obtain ⟨yb, hyb⟩ : ∃ yb : Int, yb = (k : Int) + (sd : Int) - 1 := ⟨_, rfl⟩
          rw [← hbx, ← hyb] at CR CP
          rw [← hjx] at CR CP e2 q2 ⊢
          rw [← hky] at CR CP e1 q1 ⊢
          have U0 := Lib.hid u0
          have T8 := Lib.hid hT
          have BR := Lib.hid hBr
          have lr0 := u0.lt
          clear hbx hyb hjx hky hz hm hf BZ BM hL u0 hT hBr hlj hmem
          go_wp2_with fail
          (go_at_call 77; (refine (CR.out _).mono ?_); rintro e wc ⟨rfl, hbc⟩)
          have u0 := U0.out.below hbc lr0
          have g0 := u0.c0
          have g1 := u0.c1
          have g2 := u0.c2
          have lc0 := u0.lt
          have szc := hbc.size
          have B2 := Lib.hid hbc
          clear hbc u0
          go_wp2_with fail
          have HBw := hb1.trans (BR.out.mono sw)
          have HBc := HBw.trans (B2.out.mono HBw.size)
          have hx1 := HBc.alloc HBc.size (.cells #[.int .i64 jx, .int .i64 ky] 36)
          have hx2 := hx1.alloc hx1.size (.cells #[.int .i64 bx, .int .i64 yb] 36)
          have hr1 := B2.out.alloc B2.out.size (.cells #[.int .i64 jx, .int .i64 ky] 36)
          have hr2 := hr1.alloc hr1.size (.cells #[.int .i64 bx, .int .i64 yb] 36)
          have v13 := (Two.new wc 36 (.int .i64 jx) (.int .i64 ky)).alloc (.cells #[.int .i64 bx, .int .i64 yb] 36)
          have lz : wc.heap.size < ((wc.alloc (.cells #[.int .i64 jx, .int .i64 ky] 36)).alloc (.cells #[.int .i64 bx, .int .i64 yb] 36)).heap.size := by simp; omega
          obtain ⟨wz, hwz⟩ : ∃ wz, wz = (wc.alloc (.cells #[.int .i64 jx, .int .i64 ky] 36)).alloc (.cells #[.int .i64 bx, .int .i64 yb] 36) := ⟨_, rfl⟩
          rw [← hwz] at hx2 hr2 v13 lz ⊢
          (go_at_call 70; (refine (CP.out _ hx2).mono ?_); rintro e wd ⟨rfl, hbd⟩)
          have hrd := hr2.trans (hbd.mono hr2.size)
          have vP := T8.out.below hrd lP
          have v13 := v13.below hbd lz
          have szd := hbd.size
          have szr2 := hrd.size
          have p0 := vP.c0
          have p1 := vP.c1
          have f0 := vP.f0 0
          have f1 := vP.f0 1
          have m0 := v13.c0
          have m1 := v13.c1
          have l13 := v13.lt
          have lPd := vP.lt
          have HRD := Lib.hid hrd
          have HXS := Lib.hid (And.intro hPle hP0)
          obtain ⟨Q, hQ⟩ : ∃ Q, Q = wc.heap.size := ⟨_, rfl⟩
          rw [← hQ] at m0 m1 l13 szc lz ⊢
          have hQP : ¬ (Q = P) := by omega
          have hPQ : ¬ (P = Q) := by omega
          clear hQ hrd vP v13 hbd hx1 hx2 hr1 hr2 HBw HBc hwz g0 g1 g2
          cases f with
          | false =>
            have HN := Lib.hid (show ∀ q, bstB (fun p => ((c p).natAbs : Int)) L = some q → ((c q).natAbs : Int) < ((c (j, k)).natAbs : Int) from fun q hq => by have := HZM.out.2.2; rw [hq] at this; cases this)
            go_wp2_with fail
            go_roundw
            case rel => exact ⟨j + 1, by have := HJK.out.1; omega, by have hh := HJK.out.2.2.1; subst hh; go_num, Lib.hid (by rw [hRP.out]; exact voI_new HJ.out HXS.out.1 HRD.out HN.out HZM.out.1 HJK.out.2.2.1 HJK.out.2.2.2)⟩
            case measure => have hh := HJK.out.2.2.1; have h2 := HJK.out.1; subst hh; simp [Go.RowKit.intOf]; omega
          | true =>
            obtain ⟨q, hq⟩ : ∃ q, bstB (fun p => ((c p).natAbs : Int)) L = some q := Option.isSome_iff_exists.1 HZM.out.2.2.symm
            have hmq : m = c q := by have := HZM.out.2.1; rw [hq] at this; exact this
            have hzq := HZM.out.1
            obtain ⟨mm, hmm⟩ : ∃ mm : Int, mm = (m.natAbs : Int) := ⟨_, rfl⟩
            obtain ⟨zz, hzz⟩ : ∃ zz : Int, zz = (z.natAbs : Int) := ⟨_, rfl⟩
            rw [← hmm] at SM
            rw [← hzz] at SZ
            by_cases hlt : mm < zz
            · have HN := Lib.hid (show ∀ q, bstB (fun p => ((c p).natAbs : Int)) L = some q → ((c q).natAbs : Int) < ((c (j, k)).natAbs : Int) from fun q' hq' => by rw [hq] at hq'; cases hq'; rw [← hmq, ← hzq, ← hmm, ← hzz]; exact hlt)
              clear hq hmq hzq hmm hzz
              go_wp2_with (first | (go_at_call 78; (with_reducible refine (SZ.out _).mono ?_); rintro e w1 ⟨rfl, hb⟩; obtain ⟨hc, hf, hz⟩ := bcall hb; (try simp at hc hf hz)) | (go_at_call 78; (with_reducible refine (SM.out _).mono ?_); rintro e w1 ⟨rfl, hb⟩; obtain ⟨hc, hf, hz⟩ := bcall hb; (try simp at hc hf hz)))
              go_roundw
              case rel => exact ⟨j + 1, by have := HJK.out.1; omega, by have hh := HJK.out.2.2.1; subst hh; go_num, Lib.hid (by rw [hRP.out]; exact voI_new HJ.out HXS.out.1 (HRD.out.trans (Below.mono (by (repeat' (first | (with_reducible exact Below.refl _ _) | (with_reducible refine Below.setCell ?_ (by first | omega | (simp; done) | (simp; omega)) _) | (with_reducible refine Below.alloc ?_ (by first | omega | (simp; done) | (simp; omega)) _) | (with_reducible refine Below.drew ?_) | (with_reducible refine below_drewN ?_ _) | (with_reducible refine Below.trans ?_ (Below.mono (by assumption) (by first | omega | (simp; done) | (simp; omega))))))) HRD.out.size)) HN.out HZM.out.1 HJK.out.2.2.1 HJK.out.2.2.2)⟩
              case measure => have hh := HJK.out.2.2.1; have h2 := HJK.out.1; subst hh; simp [Go.RowKit.intOf]; omega
            · have HN := Lib.hid (show bstB (fun p => ((c p).natAbs : Int)) L = some q ∧ ¬ ((c q).natAbs : Int) < ((c (j, k)).natAbs : Int) from ⟨hq, by rw [← hmq, ← hzq, ← hmm, ← hzz]; exact hlt⟩)
              have HMM := Lib.hid (show (.int .i64 m : Value) = .int .i64 (cvO c (bstB (fun p => ((c p).natAbs : Int)) L)) ∧ (.bool true : Value) = .bool (bstB (fun p => ((c p).natAbs : Int)) L).isSome from ⟨by rw [← HZM.out.2.1], by rw [← HZM.out.2.2]⟩)
              clear hq hmq hzq hmm hzz
              go_wp2_with (first | (go_at_call 78; (with_reducible refine (SZ.out _).mono ?_); rintro e w1 ⟨rfl, hb⟩; obtain ⟨hc, hf, hz⟩ := bcall hb; (try simp at hc hf hz)) | (go_at_call 78; (with_reducible refine (SM.out _).mono ?_); rintro e w1 ⟨rfl, hb⟩; obtain ⟨hc, hf, hz⟩ := bcall hb; (try simp at hc hf hz)))
              go_roundw
              case rel => exact ⟨j + 1, by have := HJK.out.1; omega, by have hh := HJK.out.2.2.1; subst hh; go_num, Lib.hid (by rw [hRP.out, HMM.out.1, HMM.out.2]; exact voI_same HJ.out (HRD.out.trans (Below.mono (by (repeat' (first | (with_reducible exact Below.refl _ _) | (with_reducible refine Below.setCell ?_ (by first | omega | (simp; done) | (simp; omega)) _) | (with_reducible refine Below.alloc ?_ (by first | omega | (simp; done) | (simp; omega)) _) | (with_reducible refine Below.drew ?_) | (with_reducible refine below_drewN ?_ _) | (with_reducible refine Below.trans ?_ (Below.mono (by assumption) (by first | omega | (simp; done) | (simp; omega))))))) HRD.out.size)) HN.out.1 (by have := HN.out.2; omega))⟩
              case measure => have hh := HJK.out.2.2.1; have h2 := HJK.out.1; subst hh; simp [Go.RowKit.intOf]; omega
        · have hjn : j = nx := by omega
          subst hjn
          have q2 : ¬ (j : Int) + (sd : Int) ≤ (W : Int) := by omega
          clear u0 hT
          go_wp2
          go_roundw
          case rel => exact ⟨k + 1, by omega, by go_num, HJ⟩
          case measure => simp [Go.RowKit.intOf]; omega
    · have hkn : k = ny := by omega
      subst hkn
      have q1 : ¬ (k : Int) + (sd : Int) ≤ (H : Int) := by omega
      obtain ⟨p, hp⟩ := bstB_some (fun p => ((c p).natAbs : Int)) (recP nx k) (fun e => by have h := recP_len nx k; rw [e] at h; have h2 := Nat.mul_le_mul hy1 hx1; simp only [List.length_nil, Nat.mul_one] at h h2; omega)
      have hT2 := hT
      rw [hp] at hT2
      have u1 := t1.below hBw l1
      have p0 := hT2.c0
      have p1 := hT2.c1
      have r0 := u1.c0
      have r1 := u1.c1
      have f0 := u1.f0 0
      have f1 := u1.f0 1
      have lr := u1.lt
      have lr2 := hT2.lt
      rw [hp]
      dsimp only [cvO, plO, Option.getD] at p0 p1 ⊢
      obtain ⟨z, hz⟩ : ∃ z, z = c p := ⟨_, rfl⟩
      obtain ⟨x, hx⟩ : ∃ x : Int, x = (p.1 : Int) := ⟨_, rfl⟩
      obtain ⟨y, hy⟩ : ∃ y : Int, y = (p.2 : Int) := ⟨_, rfl⟩
      have HP := Lib.hid (show ∃ p, bstB (fun p => ((c p).natAbs : Int)) (recP nx k) = some p ∧ (Ending.returned (.tuple #[.agg #[.int .i64 x, .int .i64 y], .int .i64 z, .int .i64 0])) = Ending.returned (.tuple #[.agg #[.int .i64 ((p.1 : Int)), .int .i64 ((p.2 : Int))], .int .i64 (c p), .int .i64 0]) from ⟨p, hp, by rw [hz, hx, hy]⟩)
      rw [← hz]
      rw [← hx] at p0
      rw [← hy] at p1
      have HBR := Lib.hid (hb1.trans (hBw.mono sw))
      have hx2 := (u1.set2 (.int .i64 x) (.int .i64 y))
      have s0 := hx2.c0
      have s1 := hx2.c1
      clear hz hx hy hp hT hT2 u0 u1 hx2 HH hBw
      go_wp2
      refine bodyPost_ret (v := .tuple #[.agg #[.int .i64 x, .int .i64 y], .int .i64 z, .int .i64 0]) (by simp [results, Tryd.results24, go_sem, ↓IntWalk.iteOmega, *]) rfl ⟨by obtain ⟨p, hp1, hp2⟩ := HP.out; exact ⟨p.1, p.2, hp1, hp2⟩, ?_⟩
      exact (HBR.out.setCell (p := ⟨w.heap.size + 1, 0, none⟩) (show w.heap.size ≤ w.heap.size + 1 by omega) _).setCell (p := ⟨w.heap.size + 1, 1, none⟩) (show w.heap.size ≤ w.heap.size + 1 by omega) _
end
end Go.Proofs.YtmpfchgampiohaaDoor
