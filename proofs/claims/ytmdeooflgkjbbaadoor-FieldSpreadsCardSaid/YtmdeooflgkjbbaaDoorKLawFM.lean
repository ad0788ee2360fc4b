/- Profile by the reference of the fields; the law FieldMeans, all cases. -/
import Derived.Test.YtmdeooflgkjbbaaDoorKFBoth
import Derived.Test.YtmdeooflgkjbbaaDoorKEnds
namespace Go.Proofs.YtmdeooflgkjbbaaDoor
set_option linter.unusedSimpArgs false
set_option linter.unusedVariables false
open Go.RowKit Go.Shelf
attribute [local go_sem] Oper.semAt_some

section
variable (W H : Int) (ao : Option Addr) (n cap : Nat) (G : Nat → Nat → Int) (a : Int) (w : World) (hG : CellsIn w ao n G)
include hG
set_option maxRecDepth 100000 in
set_option maxHeartbeats 4000000 in
theorem raxial_bad (hv : ¬ VG W H n G) : Calls Tryd.prog 80 #[.agg #[.int .i64 W, .int .i64 H, .slice (ao) n cap], .int .i64 a] w fun e w' => e = .returned (.int .i64 1) ∧ Below w.heap.size w w' := by
  have VA := Lib.hid (fun wx (hb : Below w.heap.size w wx) => rValid_bad W H ao n cap G wx hv (hG.below hb))
  clear hv hG
  go_enter Tryd.func80, Tryd.ntmps80
  go_wp2_with (go_at_call 87; (with_reducible refine (VA.out _ (by (repeat' (first | (with_reducible exact Below.refl _ _) | (with_reducible refine Below.setCell ?_ (by first | omega | (simp; done) | (simp; omega)) _) | (with_reducible refine Below.alloc ?_ (by first | omega | (simp; done) | (simp; omega)) _) | (with_reducible refine Below.drew ?_) | (with_reducible refine below_drewN ?_ _) | (with_reducible refine Below.trans ?_ (Below.mono (by assumption) (by first | omega | (simp; done) | (simp; omega)))))))).mono ?_); rintro e w1 ⟨rfl, hb⟩; obtain ⟨hc, hf, hz⟩ := bcall hb; (try simp at hc hf hz))
  go_ret
  refine ⟨rfl, ?_⟩
  (repeat' (first | (with_reducible exact Below.refl _ _) | (with_reducible refine Below.setCell ?_ (by first | omega | (simp; done) | (simp; omega)) _) | (with_reducible refine Below.alloc ?_ (by first | omega | (simp; done) | (simp; omega)) _) | (with_reducible refine Below.drew ?_) | (with_reducible refine below_drewN ?_ _) | (with_reducible refine Below.trans ?_ (Below.mono (by assumption) (by first | omega | (simp; done) | (simp; omega))))))
set_option maxRecDepth 100000 in
set_option maxHeartbeats 4000000 in
theorem raxial_rng (hv : VG W H n G) (h : ¬ (0 ≤ a ∧ a ≤ 1)) : Calls Tryd.prog 80 #[.agg #[.int .i64 W, .int .i64 H, .slice (ao) n cap], .int .i64 a] w fun e w' => e = .returned (.int .i64 7) ∧ Below w.heap.size w w' := by
  have VA := Lib.hid (fun wx (hb : Below w.heap.size w wx) => rValid_ok W H ao n cap G wx hv (hG.below hb))
  have WI := Lib.hid (fun wx => r8within_no a 0 1 wx (by omega))
  clear hv hG h
  go_enter Tryd.func80, Tryd.ntmps80
  go_wp2_with (first | (go_at_call 87; (with_reducible refine (VA.out _ (by (repeat' (first | (with_reducible exact Below.refl _ _) | (with_reducible refine Below.setCell ?_ (by first | omega | (simp; done) | (simp; omega)) _) | (with_reducible refine Below.alloc ?_ (by first | omega | (simp; done) | (simp; omega)) _) | (with_reducible refine Below.drew ?_) | (with_reducible refine below_drewN ?_ _) | (with_reducible refine Below.trans ?_ (Below.mono (by assumption) (by first | omega | (simp; done) | (simp; omega)))))))).mono ?_); rintro e w1 ⟨rfl, hb⟩; obtain ⟨hc, hf, hz⟩ := bcall hb; (try simp at hc hf hz)) | (go_at_call 84; (with_reducible refine (WI.out _).mono ?_); rintro e w1 ⟨rfl, hb⟩; obtain ⟨hc, hf, hz⟩ := bcall hb; (try simp at hc hf hz)))
  go_ret
  refine ⟨rfl, ?_⟩
  (repeat' (first | (with_reducible exact Below.refl _ _) | (with_reducible refine Below.setCell ?_ (by first | omega | (simp; done) | (simp; omega)) _) | (with_reducible refine Below.alloc ?_ (by first | omega | (simp; done) | (simp; omega)) _) | (with_reducible refine Below.drew ?_) | (with_reducible refine below_drewN ?_ _) | (with_reducible refine Below.trans ?_ (Below.mono (by assumption) (by first | omega | (simp; done) | (simp; omega))))))
set_option maxRecDepth 100000 in
set_option maxHeartbeats 4000000 in
theorem raxial_ok (hv : VG W H n G) (h : 0 ≤ a ∧ a ≤ 1) : Calls Tryd.prog 80 #[.agg #[.int .i64 W, .int .i64 H, .slice (ao) n cap], .int .i64 a] w fun e w' => e = .returned (.int .i64 0) ∧ Below w.heap.size w w' := by
  have VA := Lib.hid (fun wx (hb : Below w.heap.size w wx) => rValid_ok W H ao n cap G wx hv (hG.below hb))
  have WI := Lib.hid (fun wx => r8within_yes a 0 1 wx h.1 h.2)
  clear hv hG h
  go_enter Tryd.func80, Tryd.ntmps80
  go_wp2_with (first | (go_at_call 87; (with_reducible refine (VA.out _ (by (repeat' (first | (with_reducible exact Below.refl _ _) | (with_reducible refine Below.setCell ?_ (by first | omega | (simp; done) | (simp; omega)) _) | (with_reducible refine Below.alloc ?_ (by first | omega | (simp; done) | (simp; omega)) _) | (with_reducible refine Below.drew ?_) | (with_reducible refine below_drewN ?_ _) | (with_reducible refine Below.trans ?_ (Below.mono (by assumption) (by first | omega | (simp; done) | (simp; omega)))))))).mono ?_); rintro e w1 ⟨rfl, hb⟩; obtain ⟨hc, hf, hz⟩ := bcall hb; (try simp at hc hf hz)) | (go_at_call 84; (with_reducible refine (WI.out _).mono ?_); rintro e w1 ⟨rfl, hb⟩; obtain ⟨hc, hf, hz⟩ := bcall hb; (try simp at hc hf hz)))
  go_ret
  refine ⟨rfl, ?_⟩
  (repeat' (first | (with_reducible exact Below.refl _ _) | (with_reducible refine Below.setCell ?_ (by first | omega | (simp; done) | (simp; omega)) _) | (with_reducible refine Below.alloc ?_ (by first | omega | (simp; done) | (simp; omega)) _) | (with_reducible refine Below.drew ?_) | (with_reducible refine below_drewN ?_ _) | (with_reducible refine Below.trans ?_ (Below.mono (by assumption) (by first | omega | (simp; done) | (simp; omega))))))
set_option maxRecDepth 100000 in
set_option maxHeartbeats 4000000 in
theorem rProf_bad (hv : ¬ VG W H n G) : Calls Tryd.prog 23 #[.agg #[.int .i64 W, .int .i64 H, .slice (ao) n cap], .int .i64 a] w fun e w' => e = .returned (.tuple #[.slice none 0 0, .int .i64 1]) ∧ Below w.heap.size w w' := by
  have CS := Lib.hid (fun wx (hb : Below w.heap.size w wx) => raxial_bad W H ao n cap G a wx (hG.below hb) hv)
  clear hv hG
  go_enter Tryd.func23, Tryd.ntmps23
  go_wp2_with (go_at_call 80; (with_reducible refine (CS.out _ (by (repeat' (first | (with_reducible exact Below.refl _ _) | (with_reducible refine Below.setCell ?_ (by first | omega | (simp; done) | (simp; omega)) _) | (with_reducible refine Below.alloc ?_ (by first | omega | (simp; done) | (simp; omega)) _) | (with_reducible refine Below.drew ?_) | (with_reducible refine below_drewN ?_ _) | (with_reducible refine Below.trans ?_ (Below.mono (by assumption) (by first | omega | (simp; done) | (simp; omega)))))))).mono ?_); rintro e w1 ⟨rfl, hb⟩; obtain ⟨hc, hf, hz⟩ := bcall hb; (try simp at hc hf hz))
  refine bodyPost_ret (v := .tuple #[.slice none 0 0, .int .i64 1]) (by simp [results, Tryd.results23, go_sem, ↓IntWalk.iteOmega, *]) rfl ⟨rfl, ?_⟩
  (repeat' (first | (with_reducible exact Below.refl _ _) | (with_reducible refine Below.setCell ?_ (by first | omega | (simp; done) | (simp; omega)) _) | (with_reducible refine Below.alloc ?_ (by first | omega | (simp; done) | (simp; omega)) _) | (with_reducible refine Below.drew ?_) | (with_reducible refine below_drewN ?_ _) | (with_reducible refine Below.trans ?_ (Below.mono (by assumption) (by first | omega | (simp; done) | (simp; omega))))))
set_option maxRecDepth 100000 in
set_option maxHeartbeats 4000000 in
theorem rProf_rng (hv : VG W H n G) (h : ¬ (0 ≤ a ∧ a ≤ 1)) : Calls Tryd.prog 23 #[.agg #[.int .i64 W, .int .i64 H, .slice (ao) n cap], .int .i64 a] w fun e w' => e = .returned (.tuple #[.slice none 0 0, .int .i64 7]) ∧ Below w.heap.size w w' := by
  have CS := Lib.hid (fun wx (hb : Below w.heap.size w wx) => raxial_rng W H ao n cap G a wx (hG.below hb) hv h)
  clear hv hG h
  go_enter Tryd.func23, Tryd.ntmps23
  go_wp2_with (go_at_call 80; (with_reducible refine (CS.out _ (by (repeat' (first | (with_reducible exact Below.refl _ _) | (with_reducible refine Below.setCell ?_ (by first | omega | (simp; done) | (simp; omega)) _) | (with_reducible refine Below.alloc ?_ (by first | omega | (simp; done) | (simp; omega)) _) | (with_reducible refine Below.drew ?_) | (with_reducible refine below_drewN ?_ _) | (with_reducible refine Below.trans ?_ (Below.mono (by assumption) (by first | omega | (simp; done) | (simp; omega)))))))).mono ?_); rintro e w1 ⟨rfl, hb⟩; obtain ⟨hc, hf, hz⟩ := bcall hb; (try simp at hc hf hz))
  refine bodyPost_ret (v := .tuple #[.slice none 0 0, .int .i64 7]) (by simp [results, Tryd.results23, go_sem, ↓IntWalk.iteOmega, *]) rfl ⟨rfl, ?_⟩
  (repeat' (first | (with_reducible exact Below.refl _ _) | (with_reducible refine Below.setCell ?_ (by first | omega | (simp; done) | (simp; omega)) _) | (with_reducible refine Below.alloc ?_ (by first | omega | (simp; done) | (simp; omega)) _) | (with_reducible refine Below.drew ?_) | (with_reducible refine below_drewN ?_ _) | (with_reducible refine Below.trans ?_ (Below.mono (by assumption) (by first | omega | (simp; done) | (simp; omega))))))
set_option maxRecDepth 100000 in
set_option maxHeartbeats 4000000 in
theorem rProf_0 (hv : VG W H n G) (k : Nat) (K : Nat → Int)
    (TA : ∀ wx, Below w.heap.size w wx → Calls Tryd.prog 20 #[.agg #[.int .i64 W, .int .i64 H, .slice (ao) n cap], .int .i64 1, .int .i64 H] wx fun e w' => GaveI 0 k K wx e w') :
    Calls Tryd.prog 23 #[.agg #[.int .i64 W, .int .i64 H, .slice (ao) n cap], .int .i64 0] w fun e w' => GaveI 0 k K w e w' := by
  have CS := Lib.hid (fun wx (hb : Below w.heap.size w wx) => raxial_ok W H ao n cap G 0 wx (hG.below hb) hv ⟨by omega, by omega⟩)
  have TA := Lib.hid TA
  clear hv hG
  go_enter Tryd.func23, Tryd.ntmps23
  go_wp2_with (go_at_call 80; (with_reducible refine (CS.out _ (by (repeat' (first | (with_reducible exact Below.refl _ _) | (with_reducible refine Below.setCell ?_ (by first | omega | (simp; done) | (simp; omega)) _) | (with_reducible refine Below.alloc ?_ (by first | omega | (simp; done) | (simp; omega)) _) | (with_reducible refine Below.drew ?_) | (with_reducible refine below_drewN ?_ _) | (with_reducible refine Below.trans ?_ (Below.mono (by assumption) (by first | omega | (simp; done) | (simp; omega)))))))).mono ?_); rintro e w1 ⟨rfl, hb⟩; obtain ⟨hc, hf, hz⟩ := bcall hb; (try simp at hc hf hz))
  (go_at_call 20; (refine (TA.out _ (by (repeat' (first | (with_reducible exact Below.refl _ _) | (with_reducible refine Below.setCell ?_ (by first | omega | (simp; done) | (simp; omega)) _) | (with_reducible refine Below.alloc ?_ (by first | omega | (simp; done) | (simp; omega)) _) | (with_reducible refine Below.drew ?_) | (with_reducible refine below_drewN ?_ _) | (with_reducible refine Below.trans ?_ (Below.mono (by assumption) (by first | omega | (simp; done) | (simp; omega)))))))).mono ?_); rintro e w2 ⟨a2, q2, rfl, N2, hb2⟩)
  have N2 := Lib.hid N2
  have hB := Lib.hid (show Below w.heap.size w w2 by (repeat' (first | (with_reducible exact Below.refl _ _) | (with_reducible refine Below.setCell ?_ (by first | omega | (simp; done) | (simp; omega)) _) | (with_reducible refine Below.alloc ?_ (by first | omega | (simp; done) | (simp; omega)) _) | (with_reducible refine Below.drew ?_) | (with_reducible refine below_drewN ?_ _) | (with_reducible refine Below.trans ?_ (Below.mono (by assumption) (by first | omega | (simp; done) | (simp; omega)))))))
  clear hb2
  go_wp2
  go_ret2
  exact ⟨a2, q2, rfl, N2.out, hB.out⟩
set_option maxRecDepth 100000 in
set_option maxHeartbeats 4000000 in
theorem rProf_1 (hv : VG W H n G) (k : Nat) (K : Nat → Int)
    (TA : ∀ wx, Below w.heap.size w wx → Calls Tryd.prog 20 #[.agg #[.int .i64 W, .int .i64 H, .slice (ao) n cap], .int .i64 W, .int .i64 1] wx fun e w' => GaveI 0 k K wx e w') :
    Calls Tryd.prog 23 #[.agg #[.int .i64 W, .int .i64 H, .slice (ao) n cap], .int .i64 1] w fun e w' => GaveI 0 k K w e w' := by
  have CS := Lib.hid (fun wx (hb : Below w.heap.size w wx) => raxial_ok W H ao n cap G 1 wx (hG.below hb) hv ⟨by omega, by omega⟩)
  have TA := Lib.hid TA
  clear hv hG
  go_enter Tryd.func23, Tryd.ntmps23
  go_wp2_with (go_at_call 80; (with_reducible refine (CS.out _ (by (repeat' (first | (with_reducible exact Below.refl _ _) | (with_reducible refine Below.setCell ?_ (by first | omega | (simp; done) | (simp; omega)) _) | (with_reducible refine Below.alloc ?_ (by first | omega | (simp; done) | (simp; omega)) _) | (with_reducible refine Below.drew ?_) | (with_reducible refine below_drewN ?_ _) | (with_reducible refine Below.trans ?_ (Below.mono (by assumption) (by first | omega | (simp; done) | (simp; omega)))))))).mono ?_); rintro e w1 ⟨rfl, hb⟩; obtain ⟨hc, hf, hz⟩ := bcall hb; (try simp at hc hf hz))
  (go_at_call 20; (refine (TA.out _ (by (repeat' (first | (with_reducible exact Below.refl _ _) | (with_reducible refine Below.setCell ?_ (by first | omega | (simp; done) | (simp; omega)) _) | (with_reducible refine Below.alloc ?_ (by first | omega | (simp; done) | (simp; omega)) _) | (with_reducible refine Below.drew ?_) | (with_reducible refine below_drewN ?_ _) | (with_reducible refine Below.trans ?_ (Below.mono (by assumption) (by first | omega | (simp; done) | (simp; omega)))))))).mono ?_); rintro e w2 ⟨a2, q2, rfl, N2, hb2⟩)
  have N2 := Lib.hid N2
  have hB := Lib.hid (show Below w.heap.size w w2 by (repeat' (first | (with_reducible exact Below.refl _ _) | (with_reducible refine Below.setCell ?_ (by first | omega | (simp; done) | (simp; omega)) _) | (with_reducible refine Below.alloc ?_ (by first | omega | (simp; done) | (simp; omega)) _) | (with_reducible refine Below.drew ?_) | (with_reducible refine below_drewN ?_ _) | (with_reducible refine Below.trans ?_ (Below.mono (by assumption) (by first | omega | (simp; done) | (simp; omega)))))))
  clear hb2
  go_wp2
  go_ret2
  exact ⟨a2, q2, rfl, N2.out, hB.out⟩
end
theorem gaveI_congr {er : Int} {k : Nat} {K K' : Nat → Int} (h : ∀ i, i < k → K i = K' i) {wx w' : World} {e : Ending} (g : GaveI er k K wx e w') : GaveI er k K' wx e w' := by
  obtain ⟨ao, c, rfl, hN, hb⟩ := g
  refine ⟨ao, c, rfl, ?_, hb⟩
  rcases hN with h0 | ⟨b, off, rfl, hlt, hK⟩
  · exact .inl h0
  · exact .inr ⟨b, off, rfl, hlt, fun i hi => by rw [← h i hi]; exact hK i hi⟩
theorem lnS_bd2 {W H n : Nat} {G : Nat → Nat → Int} (s : Sides W H n) (hO : OkG n G) (a i : Nat) (hi : i < lnN a W H) : 0 ≤ lnS a W H (msC G) i ∧ lnS a W H (msC G) i ≤ 100000000000 := by
  have hms : ∀ q, q < n → 0 ≤ msC G q ∧ msC G q ≤ 1000000000 := fun q hq => by
    obtain ⟨a0, a1, a2, a3, a4⟩ := hO.1 q hq
    exact ⟨by show 0 ≤ G q 0 + G q 1 + G q 2 + G q 3; omega, a4⟩
  have hW := s.w1
  have hH := s.h1
  have key : ∀ (k : Nat) (f : Nat → Int), (∀ x, x < k → 0 ≤ f x ∧ f x ≤ 1000000000) → 0 ≤ sm k f ∧ sm k f ≤ 1000000000 * (k : Int) := by
    intro k f
    induction k with
    | zero => intro _; simp [sm]
    | succ k ih =>
      intro h
      have h1 := ih (fun x hx => h x (by omega))
      have h2 := h k (by omega)
      simp only [sm]
      push_cast
      omega
  unfold lnN at hi
  unfold lnS
  split
  · rename_i e
    rw [if_pos e] at hi
    have := key H (fun y => msC G (i + W * y)) (fun y hy => hms _ (by rw [s.n0]; have := xy_lt2 (W := W) (H := H) hi hy; exact this))
    omega
  · rename_i e
    rw [if_neg e] at hi
    have := key W (fun x => msC G (x + W * i)) (fun x hx => hms _ (by rw [s.n0]; have := xy_lt2 (W := W) (H := H) hx hi; exact this))
    omega
/-- Profile by both, for a valid grid and an axis. -/
theorem prof_both (W H n cap b off : Nat) (G : Nat → Nat → Int) (w : World) (s : Sides W H n) (hO : OkG n G) (lb : b < w.heap.size) (hGr : Grd w b off n G) (a : Nat) (ha : a < 2) :
    (∀ wx, Below w.heap.size w wx → Calls Tryd.prog 22 #[.agg #[.int .i64 W, .int .i64 H, .slice (some ⟨b, off, none⟩) n cap], .int .i64 ((a : Int))] wx fun e w' => GaveI 0 (lnN a W H) (lnS a W H (msC G)) wx e w') ∧
    (∀ wx, Below w.heap.size w wx → Calls Tryd.prog 23 #[.agg #[.int .i64 W, .int .i64 H, .slice (some ⟨b, off, none⟩) n cap], .int .i64 ((a : Int))] wx fun e w' => GaveI 0 (lnN a W H) (lnS a W H (msC G)) wx e w') := by
  have hC : CellsIn w (some ⟨b, off, none⟩) n G := .inr ⟨b, off, rfl, lb, hGr⟩
  have hv := vg_of s hO
  have hW0 := s.w0
  have hH0 := s.h0
  refine ⟨fun wx hb => (fprof_in a W H n cap b off G wx s hO (Nat.lt_of_lt_of_le lb hb.size) (hGr.below hb lb) ha).mono fun e w' h => gaveI_of (lnN_one s).1 h, fun wx hb => ?_⟩
  match a, ha with
  | 0, _ =>
    refine rProf_0 W H (some ⟨b, off, none⟩) n cap G wx (hC.below hb) hv W _ fun wy hy => ?_
    have := (table_ok W H (some ⟨b, off, none⟩) n cap G wy (hC.below (hb.trans (hy.mono hb.size))) W H W 1 1 H b off rfl rfl rfl s hO (Nat.lt_of_lt_of_le lb (hb.trans (hy.mono hb.size)).size) (hGr.below (hb.trans (hy.mono hb.size)) lb) (by omega) hH0 (by omega) (by omega) hW0 (by omega)).2 wy (Below.refl _ _)
    refine this.mono fun e w' h => ?_
    rw [Nat.one_mul] at h
    exact gaveI_congr (fun i hi => tabS_ln0 (msC G) hH0 hi) h
  | 1, _ =>
    refine rProf_1 W H (some ⟨b, off, none⟩) n cap G wx (hC.below hb) hv H _ fun wy hy => ?_
    have := (table_ok W H (some ⟨b, off, none⟩) n cap G wy (hC.below (hb.trans (hy.mono hb.size))) W H 1 H W 1 b off rfl rfl rfl s hO (Nat.lt_of_lt_of_le lb (hb.trans (hy.mono hb.size)).size) (hGr.below (hb.trans (hy.mono hb.size)) lb) hW0 (by omega) (by omega) (by omega) (by omega) hH0).2 wy (Below.refl _ _)
    refine this.mono fun e w' h => ?_
    rw [Nat.mul_one] at h
    exact gaveI_congr (fun i hi => tabS_ln1 (msC G) hW0) h
theorem fieldMeans_any (W H : Int) (ao : Option Addr) (n cap : Nat) (G : Nat → Nat → Int) (a0 a1 b0 b1 wi hi ax : Int) (w : World) (hM : Mvs w) (_ : Wf W) (_ : Wf H) (_ : n ≤ cap) (_ : cap ≤ maxLen) (hC : CellsIn w ao n G) (_ : Wf wi) (_ : Wf hi) (_ : Wf ax) :
    Calls Tryd.prog 3 #[.agg #[.int .i64 W, .int .i64 H, .slice (ao) n cap], .agg #[.int .i64 a0, .int .i64 a1], .agg #[.int .i64 b0, .int .i64 b1], .int .i64 wi, .int .i64 hi, .int .i64 ax] w fun e w' => e = .returned (.bool true) ∧ Below w.heap.size w w' := by
  obtain ⟨bb, hbb, BG⟩ := fbig_any W H ao n cap w
  cases bb with
  | true => exact fm_big W H a0 a1 b0 b1 wi hi ax ao n cap w hM BG
  | false =>
    obtain ⟨c1, c2, CE1, CE2⟩ := cells_both W H ao n cap G w hC a0 a1 b0 b1
    obtain ⟨d1, d2, d3, DE1, DE2⟩ := dens_both W H ao n cap G w hC a0 a1 b0 b1
    obtain ⟨v1, v2, v3, v4, v5, VE1, VE2⟩ := vel_both W H ao n cap G w hC a0 a1 b0 b1
    obtain ⟨p1, p2, p3, DN1, DN2⟩ := dnst_both W H ao n cap G w hC wi hi
    obtain ⟨t1, tk, TK, ht, TA1, TA2⟩ := table_both W H ao n cap G w hC wi hi
    by_cases hv : VG W H n G
    · by_cases hk : 0 ≤ ax ∧ ax ≤ 1
      · obtain ⟨W', H', rfl, rfl, s, hG⟩ := Sides.vg hv
        obtain ⟨b, off, rfl, hlt, hGr⟩ := cells_of s hC
        obtain ⟨a, rfl⟩ := Int.eq_ofNat_of_zero_le hk.1
        have ha : a < 2 := by omega
        obtain ⟨PR1, PR2⟩ := prof_both W' H' n cap b off G w s hG hlt hGr a ha
        have hl := lnN_one (a := a) s
        have hsm : sm (lnN a W' H') (lnS a W' H' (msC G)) = wt G n := by rw [sm_lines, ← s.n0, wt_ms]
        have key : ∀ k, k ≤ lnN a W' H' → 0 ≤ sm k (lnS a W' H' (msC G)) ∧ sm k (lnS a W' H' (msC G)) ≤ 100000000000 * (k : Int) := by
          intro k
          induction k with
          | zero => intro _; simp [sm]
          | succ k ih =>
            intro hk
            have h1 := ih (by omega)
            have h2 := lnS_bd2 s hG a k (by omega)
            simp only [sm]
            push_cast
            omega
        refine fm_ok W' H' a0 a1 b0 b1 wi hi a (some ⟨b, off, none⟩) n cap c1 c2 d1 d2 d3 v1 v2 v3 v4 v5 p1 p2 p3 t1 0 tk (lnN a W' H') TK (lnS a W' H' (msC G)) w hM ht (by omega) BG CE1 CE2 DE1 DE2 VE1 VE2 DN1 DN2 TA1 TA2 PR1 PR2 rfl (fun k hk => ?_) (fun wx hb => ?_)
        · have h1 := key k hk
          have h2 := key _ (Nat.le_refl (lnN a W' H'))
          omega
        · rw [hsm]
          exact gMass_ok W' H' (some ⟨b, off, none⟩) n cap G wx hv (hC.below hb)
      · exact fm_err W H a0 a1 b0 b1 wi hi ax ao n cap c1 c2 d1 d2 d3 v1 v2 v3 v4 v5 p1 p2 p3 t1 7 tk 0 TK (fun _ => 0) w hM ht (Nat.zero_le _) BG CE1 CE2 DE1 DE2 VE1 VE2 DN1 DN2 TA1 TA2
          (fun wx hb => (fProf_rng W H ao n cap G ax wx (hC.below hb) hv hk).mono fun e w' h => gaveI_nil h) (fun wx hb => (rProf_rng W H ao n cap G ax wx (hC.below hb) hv hk).mono fun e w' h => gaveI_nil h) (.inr rfl)
    · exact fm_err W H a0 a1 b0 b1 wi hi ax ao n cap c1 c2 d1 d2 d3 v1 v2 v3 v4 v5 p1 p2 p3 t1 1 tk 0 TK (fun _ => 0) w hM ht (Nat.zero_le _) BG CE1 CE2 DE1 DE2 VE1 VE2 DN1 DN2 TA1 TA2
        (fun wx hb => (fProf_bad W H ao n cap G ax wx (hC.below hb) hv).mono fun e w' h => gaveI_nil h) (fun wx hb => (rProf_bad W H ao n cap G ax wx (hC.below hb) hv).mono fun e w' h => gaveI_nil h) (.inl rfl)
end Go.Proofs.YtmdeooflgkjbbaaDoor
