/- Runs of mixes and their undoing: by the program. -/
import Derived.Test.YtmkhbkkhoemkoaaGreatDoorKFlowO
import Derived.Test.YtmkhbkkhoemkoaaGreatDoorKRunU
import Derived.Test.YtmkhbkkhoemkoaaGreatDoorKMixQ
namespace Go.Proofs.YtmkhbkkhoemkoaaGreatDoor
set_option linter.unusedSimpArgs false
set_option linter.unusedVariables false
open Go.RowKit Go.Shelf
attribute [local go_sem] Oper.semAt_some

/-- A mix after some steps, and one that becomes it. -/
def runM (F : Nat → MG → MG) (t : Nat) : Nat → MG → MG
  | 0, G => G
  | c + 1, G => F (t + c) (runM F t c G)
def undoM (F : Nat → MG → MG) (t : Nat) : Nat → MG → MG
  | 0, G => G
  | c + 1, G => undoM F t c (F (t + c) G)
theorem foldM_up (F : Nat → MG → MG) (t c : Nat) (G : MG) (h : c = 0 ∨ t + c - 1 ≤ 1000000) : foldM F (upto (up t) c) G = runM F t c G := by
  induction c with
  | zero => rfl
  | succ c ih =>
    rw [upto_succ, foldM_snoc, ih (by omega)]
    show F (min (t + c) 1000000) _ = F (t + c) _
    rw [Nat.min_eq_left (by omega)]
theorem foldM_down (F : Nat → MG → MG) (t c : Nat) (G : MG) (h : c = 0 ∨ t + c - 1 ≤ 1000000) : foldM F (upto (down t c) c) G = undoM F t c G := by
  induction c generalizing G with
  | zero => rfl
  | succ c ih =>
    rw [upto_down]
    show foldM F (upto (down t c) c) (F (min (t + (c + 1) - 1 - 0) 1000000) G) = undoM F t c (F (t + c) G)
    rw [ih _ (by omega), Nat.min_eq_left (by omega)]
    rfl

/-- What a run of a mix asks for. -/
def MOk (W H : Int) (n : Nat) (P : MG) (m : Nat) (len : Nat) (R : Nat → Int × Int) (len2 : Nat) (S : Nat → Int × Int) : Prop := (VM W H n P.1 m P.2 ∧ OkRs len R) ∧ OkRs len2 S

section
variable (W H : Int) (ao : Option Addr) (n c : Nat) (P : MG) (bo : Option Addr) (m d : Nat) (ro : Option Addr) (len rc : Nat) (R : Nat → Int × Int) (so : Option Addr) (len2 sc : Nat) (S : Nat → Int × Int) (t k : Int) (w : World)
set_option maxHeartbeats 4000000 in
theorem checkM_ok (h : MOk W H n P m len R len2 S) (hA : CellsIn w ao n P.1) (hB : CellsIn w bo m P.2) (hR : RulesIn w ro len R) (hS : RulesIn w so len2 S) (hr : RunOk t k) :
    Calls Tryz.prog 19 #[.agg #[.int .i64 W, .int .i64 H, .slice (ao) n c, .slice (bo) m d], .slice ro len rc, .slice so len2 sc, .int .i64 t, .int .i64 k] w fun e w' => e = .returned (.int .i64 0) ∧ Below w.heap.size w w' := by
  have hl := h.1.2.2.1
  have hl2 := h.2.2.1
  have HV := Lib.hid h.1.1
  have HK := Lib.hid h.1.2
  have HL := Lib.hid h.2
  have HA := Lib.hid hA; clear hA
  have HB := Lib.hid hB; clear hB
  have HR := Lib.hid hR; clear hR
  have HS := Lib.hid hS; clear hS
  obtain ⟨t0, t1, c0, c1, ht⟩ := hr
  have h9 : t + k - 1 ≤ 1000000 := by omega
  clear ht h
  go_enter Tryz.func19, Tryz.ntmps19
  go_wp2_with fail
  (go_at_call 32; (with_reducible refine (mValid_ok W H ao n c P.1 bo m d P.2 _ HV.out (HA.out.below (by (repeat' (first | (with_reducible exact Below.refl _ _) | (with_reducible refine Below.setCell ?_ (by first | omega | (simp; done) | (simp; omega)) _) | (with_reducible refine Below.alloc ?_ (by first | omega | (simp; done) | (simp; omega)) _) | (with_reducible refine Below.drew ?_) | (with_reducible refine below_drewN ?_ _) | (with_reducible refine Below.trans ?_ (Below.mono (by assumption) (by first | omega | (simp; done) | (simp; omega)))))))) (HB.out.below (by (repeat' (first | (with_reducible exact Below.refl _ _) | (with_reducible refine Below.setCell ?_ (by first | omega | (simp; done) | (simp; omega)) _) | (with_reducible refine Below.alloc ?_ (by first | omega | (simp; done) | (simp; omega)) _) | (with_reducible refine Below.drew ?_) | (with_reducible refine below_drewN ?_ _) | (with_reducible refine Below.trans ?_ (Below.mono (by assumption) (by first | omega | (simp; done) | (simp; omega))))))))).mono ?_); rintro e w1 ⟨rfl, hb⟩; obtain ⟨hc, hf, hz⟩ := bcall hb; (try simp at hc hf hz))
  go_wp2_with fail
  (go_at_call 33; (with_reducible refine (validRules_ok ro len rc R _ (by omega) (HR.out.below (by (repeat' (first | (with_reducible exact Below.refl _ _) | (with_reducible refine Below.setCell ?_ (by first | omega | (simp; done) | (simp; omega)) _) | (with_reducible refine Below.alloc ?_ (by first | omega | (simp; done) | (simp; omega)) _) | (with_reducible refine Below.drew ?_) | (with_reducible refine below_drewN ?_ _) | (with_reducible refine Below.trans ?_ (Below.mono (by assumption) (by first | omega | (simp; done) | (simp; omega)))))))) HK.out).mono ?_); rintro e w1 ⟨rfl, hb⟩; obtain ⟨hc, hf, hz⟩ := bcall hb; (try simp at hc hf hz))
  go_wp2_with (go_at_call 33; (with_reducible refine (validRules_ok so len2 sc S _ (by omega) (HS.out.below (by (repeat' (first | (with_reducible exact Below.refl _ _) | (with_reducible refine Below.setCell ?_ (by first | omega | (simp; done) | (simp; omega)) _) | (with_reducible refine Below.alloc ?_ (by first | omega | (simp; done) | (simp; omega)) _) | (with_reducible refine Below.drew ?_) | (with_reducible refine below_drewN ?_ _) | (with_reducible refine Below.trans ?_ (Below.mono (by assumption) (by first | omega | (simp; done) | (simp; omega)))))))) HL.out).mono ?_); rintro e w1 ⟨rfl, hb⟩; obtain ⟨hc, hf, hz⟩ := bcall hb; (try simp at hc hf hz))
  go_ret
  refine ⟨rfl, ?_⟩
  (repeat' (first | (with_reducible exact Below.refl _ _) | (with_reducible refine Below.setCell ?_ (by first | omega | (simp; done) | (simp; omega)) _) | (with_reducible refine Below.alloc ?_ (by first | omega | (simp; done) | (simp; omega)) _) | (with_reducible refine Below.drew ?_) | (with_reducible refine below_drewN ?_ _) | (with_reducible refine Below.trans ?_ (Below.mono (by assumption) (by first | omega | (simp; done) | (simp; omega))))))

set_option maxHeartbeats 4000000 in
theorem checkM_inv (hn : n ≤ 1000000000000) (hm : len ≤ 1000000000000) (hm2 : len2 ≤ 1000000000000) (h : ¬ MOk W H n P m len R len2 S) (hA : CellsIn w ao n P.1) (hB : CellsIn w bo m P.2) (hR : RulesIn w ro len R) (hS : RulesIn w so len2 S) :
    Calls Tryz.prog 19 #[.agg #[.int .i64 W, .int .i64 H, .slice (ao) n c, .slice (bo) m d], .slice ro len rc, .slice so len2 sc, .int .i64 t, .int .i64 k] w fun e w' => e = .returned (.int .i64 1) ∧ Below w.heap.size w w' := by
  have HA := Lib.hid hA; clear hA
  have HB := Lib.hid hB; clear hB
  have HR := Lib.hid hR; clear hR
  have HS := Lib.hid hS; clear hS
  by_cases h1 : VM W H n P.1 m P.2
  · have HV := Lib.hid h1
    by_cases h2 : OkRs len R
    · have HK := Lib.hid h2
      have HL := Lib.hid (show ¬ OkRs len2 S from fun x => h ⟨⟨h1, h2⟩, x⟩)
      clear h h1 h2
      go_enter Tryz.func19, Tryz.ntmps19
      go_wp2_with fail
      (go_at_call 32; (with_reducible refine (mValid_ok W H ao n c P.1 bo m d P.2 _ HV.out (HA.out.below (by (repeat' (first | (with_reducible exact Below.refl _ _) | (with_reducible refine Below.setCell ?_ (by first | omega | (simp; done) | (simp; omega)) _) | (with_reducible refine Below.alloc ?_ (by first | omega | (simp; done) | (simp; omega)) _) | (with_reducible refine Below.drew ?_) | (with_reducible refine below_drewN ?_ _) | (with_reducible refine Below.trans ?_ (Below.mono (by assumption) (by first | omega | (simp; done) | (simp; omega)))))))) (HB.out.below (by (repeat' (first | (with_reducible exact Below.refl _ _) | (with_reducible refine Below.setCell ?_ (by first | omega | (simp; done) | (simp; omega)) _) | (with_reducible refine Below.alloc ?_ (by first | omega | (simp; done) | (simp; omega)) _) | (with_reducible refine Below.drew ?_) | (with_reducible refine below_drewN ?_ _) | (with_reducible refine Below.trans ?_ (Below.mono (by assumption) (by first | omega | (simp; done) | (simp; omega))))))))).mono ?_); rintro e w1 ⟨rfl, hb⟩; obtain ⟨hc, hf, hz⟩ := bcall hb; (try simp at hc hf hz))
      go_wp2_with fail
      (go_at_call 33; (with_reducible refine (validRules_ok ro len rc R _ (by omega) (HR.out.below (by (repeat' (first | (with_reducible exact Below.refl _ _) | (with_reducible refine Below.setCell ?_ (by first | omega | (simp; done) | (simp; omega)) _) | (with_reducible refine Below.alloc ?_ (by first | omega | (simp; done) | (simp; omega)) _) | (with_reducible refine Below.drew ?_) | (with_reducible refine below_drewN ?_ _) | (with_reducible refine Below.trans ?_ (Below.mono (by assumption) (by first | omega | (simp; done) | (simp; omega)))))))) HK.out).mono ?_); rintro e w1 ⟨rfl, hb⟩; obtain ⟨hc, hf, hz⟩ := bcall hb; (try simp at hc hf hz))
      go_wp2_with (go_at_call 33; (with_reducible refine (validRules_bad so len2 sc S _ (by omega) (HS.out.below (by (repeat' (first | (with_reducible exact Below.refl _ _) | (with_reducible refine Below.setCell ?_ (by first | omega | (simp; done) | (simp; omega)) _) | (with_reducible refine Below.alloc ?_ (by first | omega | (simp; done) | (simp; omega)) _) | (with_reducible refine Below.drew ?_) | (with_reducible refine below_drewN ?_ _) | (with_reducible refine Below.trans ?_ (Below.mono (by assumption) (by first | omega | (simp; done) | (simp; omega)))))))) HL.out).mono ?_); rintro e w1 ⟨rfl, hb⟩; obtain ⟨hc, hf, hz⟩ := bcall hb; (try simp at hc hf hz))
      go_ret
      refine ⟨rfl, ?_⟩
      (repeat' (first | (with_reducible exact Below.refl _ _) | (with_reducible refine Below.setCell ?_ (by first | omega | (simp; done) | (simp; omega)) _) | (with_reducible refine Below.alloc ?_ (by first | omega | (simp; done) | (simp; omega)) _) | (with_reducible refine Below.drew ?_) | (with_reducible refine below_drewN ?_ _) | (with_reducible refine Below.trans ?_ (Below.mono (by assumption) (by first | omega | (simp; done) | (simp; omega))))))
    · have HK := Lib.hid h2
      clear h h1 h2
      go_enter Tryz.func19, Tryz.ntmps19
      go_wp2_with fail
      (go_at_call 32; (with_reducible refine (mValid_ok W H ao n c P.1 bo m d P.2 _ HV.out (HA.out.below (by (repeat' (first | (with_reducible exact Below.refl _ _) | (with_reducible refine Below.setCell ?_ (by first | omega | (simp; done) | (simp; omega)) _) | (with_reducible refine Below.alloc ?_ (by first | omega | (simp; done) | (simp; omega)) _) | (with_reducible refine Below.drew ?_) | (with_reducible refine below_drewN ?_ _) | (with_reducible refine Below.trans ?_ (Below.mono (by assumption) (by first | omega | (simp; done) | (simp; omega)))))))) (HB.out.below (by (repeat' (first | (with_reducible exact Below.refl _ _) | (with_reducible refine Below.setCell ?_ (by first | omega | (simp; done) | (simp; omega)) _) | (with_reducible refine Below.alloc ?_ (by first | omega | (simp; done) | (simp; omega)) _) | (with_reducible refine Below.drew ?_) | (with_reducible refine below_drewN ?_ _) | (with_reducible refine Below.trans ?_ (Below.mono (by assumption) (by first | omega | (simp; done) | (simp; omega))))))))).mono ?_); rintro e w1 ⟨rfl, hb⟩; obtain ⟨hc, hf, hz⟩ := bcall hb; (try simp at hc hf hz))
      go_wp2_with (go_at_call 33; (with_reducible refine (validRules_bad ro len rc R _ (by omega) (HR.out.below (by (repeat' (first | (with_reducible exact Below.refl _ _) | (with_reducible refine Below.setCell ?_ (by first | omega | (simp; done) | (simp; omega)) _) | (with_reducible refine Below.alloc ?_ (by first | omega | (simp; done) | (simp; omega)) _) | (with_reducible refine Below.drew ?_) | (with_reducible refine below_drewN ?_ _) | (with_reducible refine Below.trans ?_ (Below.mono (by assumption) (by first | omega | (simp; done) | (simp; omega)))))))) HK.out).mono ?_); rintro e w1 ⟨rfl, hb⟩; obtain ⟨hc, hf, hz⟩ := bcall hb; (try simp at hc hf hz))
      go_ret
      refine ⟨rfl, ?_⟩
      (repeat' (first | (with_reducible exact Below.refl _ _) | (with_reducible refine Below.setCell ?_ (by first | omega | (simp; done) | (simp; omega)) _) | (with_reducible refine Below.alloc ?_ (by first | omega | (simp; done) | (simp; omega)) _) | (with_reducible refine Below.drew ?_) | (with_reducible refine below_drewN ?_ _) | (with_reducible refine Below.trans ?_ (Below.mono (by assumption) (by first | omega | (simp; done) | (simp; omega))))))
  · have HV := Lib.hid h1
    clear h h1
    go_enter Tryz.func19, Tryz.ntmps19
    go_wp2_with (go_at_call 32; (with_reducible refine (mValid_bad W H ao n c P.1 bo m d P.2 _ hn HV.out (HA.out.below (by (repeat' (first | (with_reducible exact Below.refl _ _) | (with_reducible refine Below.setCell ?_ (by first | omega | (simp; done) | (simp; omega)) _) | (with_reducible refine Below.alloc ?_ (by first | omega | (simp; done) | (simp; omega)) _) | (with_reducible refine Below.drew ?_) | (with_reducible refine below_drewN ?_ _) | (with_reducible refine Below.trans ?_ (Below.mono (by assumption) (by first | omega | (simp; done) | (simp; omega)))))))) (HB.out.below (by (repeat' (first | (with_reducible exact Below.refl _ _) | (with_reducible refine Below.setCell ?_ (by first | omega | (simp; done) | (simp; omega)) _) | (with_reducible refine Below.alloc ?_ (by first | omega | (simp; done) | (simp; omega)) _) | (with_reducible refine Below.drew ?_) | (with_reducible refine below_drewN ?_ _) | (with_reducible refine Below.trans ?_ (Below.mono (by assumption) (by first | omega | (simp; done) | (simp; omega))))))))).mono ?_); rintro e w1 ⟨rfl, hb⟩; obtain ⟨hc, hf, hz⟩ := bcall hb; (try simp at hc hf hz))
    go_ret
    refine ⟨rfl, ?_⟩
    (repeat' (first | (with_reducible exact Below.refl _ _) | (with_reducible refine Below.setCell ?_ (by first | omega | (simp; done) | (simp; omega)) _) | (with_reducible refine Below.alloc ?_ (by first | omega | (simp; done) | (simp; omega)) _) | (with_reducible refine Below.drew ?_) | (with_reducible refine below_drewN ?_ _) | (with_reducible refine Below.trans ?_ (Below.mono (by assumption) (by first | omega | (simp; done) | (simp; omega))))))

set_option maxHeartbeats 8000000 in
theorem checkM_range (h : MOk W H n P m len R len2 S) (hA : CellsIn w ao n P.1) (hB : CellsIn w bo m P.2) (hR : RulesIn w ro len R) (hS : RulesIn w so len2 S) (hr : ¬ RunOk t k) :
    Calls Tryz.prog 19 #[.agg #[.int .i64 W, .int .i64 H, .slice (ao) n c, .slice (bo) m d], .slice ro len rc, .slice so len2 sc, .int .i64 t, .int .i64 k] w fun e w' => e = .returned (.int .i64 7) ∧ Below w.heap.size w w' := by
  have hl := h.1.2.2.1
  have hl2 := h.2.2.1
  have HV := Lib.hid h.1.1
  have HK := Lib.hid h.1.2
  have HL := Lib.hid h.2
  have HA := Lib.hid hA; clear hA
  have HB := Lib.hid hB; clear hB
  have HR := Lib.hid hR; clear hR
  have HS := Lib.hid hS; clear hS
  have h : t < 0 ∨ (0 ≤ t ∧ 1000000 < t) ∨ (0 ≤ t ∧ t ≤ 1000000 ∧ k < 0) ∨ (0 ≤ t ∧ t ≤ 1000000 ∧ 0 ≤ k ∧ 1000 < k) ∨ (0 ≤ t ∧ t ≤ 1000000 ∧ 0 < k ∧ k ≤ 1000 ∧ 1000000 < t + k - 1) := by
    unfold RunOk at hr
    omega
  clear hr
  rcases h with h | ⟨h1, h2⟩ | ⟨h1, h2, h3⟩ | ⟨h1, h2, h3, h4⟩ | ⟨h1, h2, h3, h4, h5⟩
  all_goals
    go_enter Tryz.func19, Tryz.ntmps19
    go_wp2_with fail
    (go_at_call 32; (with_reducible refine (mValid_ok W H ao n c P.1 bo m d P.2 _ HV.out (HA.out.below (by (repeat' (first | (with_reducible exact Below.refl _ _) | (with_reducible refine Below.setCell ?_ (by first | omega | (simp; done) | (simp; omega)) _) | (with_reducible refine Below.alloc ?_ (by first | omega | (simp; done) | (simp; omega)) _) | (with_reducible refine Below.drew ?_) | (with_reducible refine below_drewN ?_ _) | (with_reducible refine Below.trans ?_ (Below.mono (by assumption) (by first | omega | (simp; done) | (simp; omega)))))))) (HB.out.below (by (repeat' (first | (with_reducible exact Below.refl _ _) | (with_reducible refine Below.setCell ?_ (by first | omega | (simp; done) | (simp; omega)) _) | (with_reducible refine Below.alloc ?_ (by first | omega | (simp; done) | (simp; omega)) _) | (with_reducible refine Below.drew ?_) | (with_reducible refine below_drewN ?_ _) | (with_reducible refine Below.trans ?_ (Below.mono (by assumption) (by first | omega | (simp; done) | (simp; omega))))))))).mono ?_); rintro e w1 ⟨rfl, hb⟩; obtain ⟨hc, hf, hz⟩ := bcall hb; (try simp at hc hf hz))
    go_wp2_with fail
    (go_at_call 33; (with_reducible refine (validRules_ok ro len rc R _ (by omega) (HR.out.below (by (repeat' (first | (with_reducible exact Below.refl _ _) | (with_reducible refine Below.setCell ?_ (by first | omega | (simp; done) | (simp; omega)) _) | (with_reducible refine Below.alloc ?_ (by first | omega | (simp; done) | (simp; omega)) _) | (with_reducible refine Below.drew ?_) | (with_reducible refine below_drewN ?_ _) | (with_reducible refine Below.trans ?_ (Below.mono (by assumption) (by first | omega | (simp; done) | (simp; omega)))))))) HK.out).mono ?_); rintro e w1 ⟨rfl, hb⟩; obtain ⟨hc, hf, hz⟩ := bcall hb; (try simp at hc hf hz))
    go_wp2_with (go_at_call 33; (with_reducible refine (validRules_ok so len2 sc S _ (by omega) (HS.out.below (by (repeat' (first | (with_reducible exact Below.refl _ _) | (with_reducible refine Below.setCell ?_ (by first | omega | (simp; done) | (simp; omega)) _) | (with_reducible refine Below.alloc ?_ (by first | omega | (simp; done) | (simp; omega)) _) | (with_reducible refine Below.drew ?_) | (with_reducible refine below_drewN ?_ _) | (with_reducible refine Below.trans ?_ (Below.mono (by assumption) (by first | omega | (simp; done) | (simp; omega)))))))) HL.out).mono ?_); rintro e w1 ⟨rfl, hb⟩; obtain ⟨hc, hf, hz⟩ := bcall hb; (try simp at hc hf hz))
    go_ret
    refine ⟨rfl, ?_⟩
    (repeat' (first | (with_reducible exact Below.refl _ _) | (with_reducible refine Below.setCell ?_ (by first | omega | (simp; done) | (simp; omega)) _) | (with_reducible refine Below.alloc ?_ (by first | omega | (simp; done) | (simp; omega)) _) | (with_reducible refine Below.drew ?_) | (with_reducible refine below_drewN ?_ _) | (with_reducible refine Below.trans ?_ (Below.mono (by assumption) (by first | omega | (simp; done) | (simp; omega))))))
end

/-- A new flow stands later, too. -/
theorem FlwG.later {w1 w2 : World} {m W H n rb ro len rc sb so len2 sc B : Nat} {R S : Nat → Int × Int} {P : MG} (h : FlwG w1 m W H n rb ro len rc sb so len2 sc R S P B w1.heap.size w1.heap.size) (hb : Below w1.heap.size w1 w2) : FlwG w2 m W H n rb ro len rc sb so len2 sc R S P B w1.heap.size w2.heap.size := by
  have hs := hb.size
  have x : Ex (fun _ => False) w1 w2 := Ex.of_below hb
  obtain ⟨⟨a, ca, b, cb, hM, ⟨hA, hB⟩, n1, fa, fb⟩, ⟨r1, r2⟩, ⟨b1, b2, b3⟩, he, hm, t1, t2⟩ := h
  have la := hA.1
  have lb := hB.1
  exact ⟨⟨a, ca, b, cb, hM.ex x (fun h => h), ⟨hA.ex x (fun h => h), hB.ex x (fun h => h)⟩, n1, ⟨fa.1, .inl la⟩, ⟨fb.1, .inl lb⟩⟩, ⟨r1.ex x (by omega) (fun h => h), r2.ex x (by omega) (fun h => h)⟩, ⟨b1, b2, b3⟩, he.ex x (fun h => h), hm, by omega, hs⟩

set_option maxHeartbeats 2000000 in
theorem newFlow_any (W H a oa n ca b ob cb rb ro len rc sb so len2 sc : Nat) (R S : Nat → Int × Int) (P : MG) (w : World) (s : Sides W H n) (LA : a < w.heap.size) (LB : b < w.heap.size) (hA : Grd w a oa n P.1) (hB : Grd w b ob n P.2) (lr : rb < w.heap.size) (ls : sb < w.heap.size) (hR : RulesAt w rb ro len R) (hS : RulesAt w sb so len2 S) (hE : Ends w) :
    Calls Tryz.prog 20 #[.agg #[.int .i64 W, .int .i64 H, .slice (some ⟨a, oa, none⟩) n ca, .slice (some ⟨b, ob, none⟩) n cb], .slice (some ⟨rb, ro, none⟩) len rc, .slice (some ⟨sb, so, none⟩) len2 sc] w fun e w' => ∃ m, e = .returned (.pointer (some ⟨m, 0, none⟩)) ∧ FlwG w' m W H n rb ro len rc sb so len2 sc R S P w.heap.size w'.heap.size w'.heap.size ∧ Below w.heap.size w w' := by
  have h1 : 1 ≤ n ∧ n ≤ 100000 := ⟨row_of s, by have := s.n1; omega⟩
  have C := Lib.hid (fun w' (hb : Below w.heap.size w w') => mcopied_any W H n a oa ca b ob cb P.1 P.2 w' h1.1 h1.2 (Nat.lt_of_lt_of_le LA hb.size) (Nat.lt_of_lt_of_le LB hb.size) (hA.below hb LA) (hB.below hb LB))
  have HR := Lib.hid hR
  have HS := Lib.hid hS
  have HE := Lib.hid hE
  have lE := block_lt hE.1
  clear hA hB hR hS hE s
  go_enter Tryz.func20, Tryz.ntmps20
  go_wp2_with (go_at_call 34; (with_reducible refine (C.out _ (by (repeat' (first | (with_reducible exact Below.refl _ _) | (with_reducible refine Below.setCell ?_ (by first | omega | (simp; done) | (simp; omega)) _) | (with_reducible refine Below.alloc ?_ (by first | omega | (simp; done) | (simp; omega)) _) | (with_reducible refine Below.drew ?_) | (with_reducible refine below_drewN ?_ _) | (with_reducible refine Below.trans ?_ (Below.mono (by assumption) (by first | omega | (simp; done) | (simp; omega)))))))).mono ?_); rintro e wq ⟨aq, bq, cq, dq, rfl, Rq, laq, lbq, hb⟩; obtain ⟨hc, hf, hz⟩ := bcall hb; (try simp at hc hf hz laq lbq))
  go_ret
  have hbw : Below w.heap.size w wq := by (repeat' (first | (with_reducible exact Below.refl _ _) | (with_reducible refine Below.setCell ?_ (by first | omega | (simp; done) | (simp; omega)) _) | (with_reducible refine Below.alloc ?_ (by first | omega | (simp; done) | (simp; omega)) _) | (with_reducible refine Below.drew ?_) | (with_reducible refine below_drewN ?_ _) | (with_reducible refine Below.trans ?_ (Below.mono (by assumption) (by first | omega | (simp; done) | (simp; omega))))))
  have x1 : Ex (fun _ => False) w (wq.alloc (.cells #[.int .i64 W, .int .i64 H, .slice (some ⟨aq, 0, none⟩) n cq, .slice (some ⟨bq, 0, none⟩) n dq, .slice (some ⟨rb, ro, none⟩) len rc, .slice (some ⟨sb, so, none⟩) len2 sc] 58)) := (Ex.of_below hbw).alloc _
  have hA := Rq.out.1
  have hB := Rq.out.2.1
  have z1 := hA.1
  have z2 := hB.1
  have nab := Rq.out.2.2
  have x2 : Ex (fun _ => False) wq (wq.alloc (.cells #[.int .i64 W, .int .i64 H, .slice (some ⟨aq, 0, none⟩) n cq, .slice (some ⟨bq, 0, none⟩) n dq, .slice (some ⟨rb, ro, none⟩) len rc, .slice (some ⟨sb, so, none⟩) len2 sc] 58)) := (Ex.refl _ _).alloc _
  have hs1 := hbw.size
  refine ⟨_, rfl, ⟨⟨aq, cq, bq, dq, World.alloc_heap_new wq _, ⟨hA.ex x2 (fun h => h), hB.ex x2 (fun h => h)⟩, ⟨nab, by omega, by omega⟩, ⟨by omega, .inl (by simp; omega)⟩, ⟨by omega, .inl (by simp; omega)⟩⟩, ⟨HR.out.ex x1 lr (fun h => h), HS.out.ex x1 ls (fun h => h)⟩, ⟨lr, ls, lE⟩, HE.out.ex x1 (fun h => h), ⟨hs1, by simp⟩, ⟨Nat.le_refl _, Nat.le_refl _⟩⟩, hbw.alloc hs1 _⟩

theorem flforth_any (m : Nat) (w : World) : Calls Tryz.prog 22 #[.pointer (some ⟨m, 0, none⟩)] w fun e w' => e = .returned (.agg #[.func (.func 35) #[] #[.pointer (some ⟨w.heap.size, 0, none⟩)], .func (.func 37) #[] #[.pointer (some ⟨w.heap.size, 0, none⟩)], .func (.func 39) #[] #[.pointer (some ⟨w.heap.size, 0, none⟩)], .func (.func 40) #[] #[.pointer (some ⟨w.heap.size, 0, none⟩)]]) ∧ Boxed w' w.heap.size 47 (.pointer (some ⟨m, 0, none⟩)) ∧ Below w.heap.size w w' := by
  go_enter Tryz.func22, Tryz.ntmps22
  go_wp2
  refine bodyPost_ret (v := .agg #[.func (.func 35) #[] #[.pointer (some ⟨w.heap.size, 0, none⟩)], .func (.func 37) #[] #[.pointer (some ⟨w.heap.size, 0, none⟩)], .func (.func 39) #[] #[.pointer (some ⟨w.heap.size, 0, none⟩)], .func (.func 40) #[] #[.pointer (some ⟨w.heap.size, 0, none⟩)]]) (by simp [results, Tryz.results22, go_sem, ↓IntWalk.iteOmega, *]) rfl ⟨rfl, ?_, ?_⟩
  · exact (Boxed.new w 47 (.pointer (some ⟨m, 0, none⟩))).alloc _
  · (repeat' (first | (with_reducible exact Below.refl _ _) | (with_reducible refine Below.setCell ?_ (by first | omega | (simp; done) | (simp; omega)) _) | (with_reducible refine Below.alloc ?_ (by first | omega | (simp; done) | (simp; omega)) _) | (with_reducible refine Below.drew ?_) | (with_reducible refine below_drewN ?_ _) | (with_reducible refine Below.trans ?_ (Below.mono (by assumption) (by first | omega | (simp; done) | (simp; omega))))))

theorem flback_any (m : Nat) (w : World) : Calls Tryz.prog 28 #[.pointer (some ⟨m, 0, none⟩)] w fun e w' => e = .returned (.agg #[.func (.func 54) #[] #[.pointer (some ⟨w.heap.size, 0, none⟩)], .func (.func 56) #[] #[.pointer (some ⟨w.heap.size, 0, none⟩)], .func (.func 58) #[] #[.pointer (some ⟨w.heap.size, 0, none⟩)], .func (.func 59) #[] #[.pointer (some ⟨w.heap.size, 0, none⟩)]]) ∧ Boxed w' w.heap.size 47 (.pointer (some ⟨m, 0, none⟩)) ∧ Below w.heap.size w w' := by
  go_enter Tryz.func28, Tryz.ntmps28
  go_wp2
  refine bodyPost_ret (v := .agg #[.func (.func 54) #[] #[.pointer (some ⟨w.heap.size, 0, none⟩)], .func (.func 56) #[] #[.pointer (some ⟨w.heap.size, 0, none⟩)], .func (.func 58) #[] #[.pointer (some ⟨w.heap.size, 0, none⟩)], .func (.func 59) #[] #[.pointer (some ⟨w.heap.size, 0, none⟩)]]) (by simp [results, Tryz.results28, go_sem, ↓IntWalk.iteOmega, *]) rfl ⟨rfl, ?_, ?_⟩
  · exact (Boxed.new w 47 (.pointer (some ⟨m, 0, none⟩))).alloc _
  · (repeat' (first | (with_reducible exact Below.refl _ _) | (with_reducible refine Below.setCell ?_ (by first | omega | (simp; done) | (simp; omega)) _) | (with_reducible refine Below.alloc ?_ (by first | omega | (simp; done) | (simp; omega)) _) | (with_reducible refine Below.drew ?_) | (with_reducible refine below_drewN ?_ _) | (with_reducible refine Below.trans ?_ (Below.mono (by assumption) (by first | omega | (simp; done) | (simp; omega))))))

set_option maxRecDepth 100000 in
set_option maxHeartbeats 8000000 in
theorem mRun_in (W H a oa n ca b ob cb rb ro len rc sb so len2 sc t k : Nat) (R S : Nat → Int × Int) (P : MG) (w : World) (s : Sides W H n) (hP : OkM n P) (LA : a < w.heap.size) (LB : b < w.heap.size) (hA : Grd w a oa n P.1) (hB : Grd w b ob n P.2) (lr : rb < w.heap.size) (ls : sb < w.heap.size) (hR : RulesAt w rb ro len R) (hS : RulesAt w sb so len2 S) (hk : OkRs len R) (hk2 : OkRs len2 S) (hE : Ends w) (hr : RunOk t k) :
    Calls Tryz.prog 13 #[.agg #[.int .i64 W, .int .i64 H, .slice (some ⟨a, oa, none⟩) n ca, .slice (some ⟨b, ob, none⟩) n cb], .slice (some ⟨rb, ro, none⟩) len rc, .slice (some ⟨sb, so, none⟩) len2 sc, .int .i64 t, .int .i64 k] w (MadeM W H n (runM (mfwd W H len len2 R S) t k P).1 (runM (mfwd W H len len2 R S) t k P).2 w) := by
  have hkk : k ≤ 1000 := by unfold RunOk at hr; omega
  have ht : t ≤ 1000000 := by unfold RunOk at hr; omega
  have htc : k = 0 ∨ t + k - 1 ≤ 1000000 := by unfold RunOk at hr; omega
  rw [← foldM_up _ _ _ _ htc]
  have hvm : VM W H n P.1 n P.2 := ⟨⟨vg_of s hP.1.1, vg_of s hP.1.2⟩, hP.2⟩
  have HCk := Lib.hid (fun w' (hb : Below w.heap.size w w') => checkM_ok W H (some ⟨a, oa, none⟩) n ca P (some ⟨b, ob, none⟩) n cb (some ⟨rb, ro, none⟩) len rc R (some ⟨sb, so, none⟩) len2 sc S t k w' ⟨⟨hvm, hk⟩, hk2⟩ ((show CellsIn w _ n P.1 from .inr ⟨a, oa, rfl, LA, hA⟩).below hb) ((show CellsIn w _ n P.2 from .inr ⟨b, ob, rfl, LB, hB⟩).below hb) ((show RulesIn w _ len R from .inr ⟨rb, ro, rfl, lr, hR⟩).below hb) ((show RulesIn w _ len2 S from .inr ⟨sb, so, rfl, ls, hS⟩).below hb) hr)
  have NF := Lib.hid (fun w' (hb : Below w.heap.size w w') => newFlow_any W H a oa n ca b ob cb rb ro len rc sb so len2 sc R S P w' s (Nat.lt_of_lt_of_le LA hb.size) (Nat.lt_of_lt_of_le LB hb.size) (hA.below hb LA) (hB.below hb LB) (Nat.lt_of_lt_of_le lr hb.size) (Nat.lt_of_lt_of_le ls hb.size) (fun i hi => ⟨(hb.cell (p := ⟨rb, ro + i * 2, none⟩) lr).trans (hR i hi).1, (hb.cell (p := ⟨rb, ro + i * 2 + 1, none⟩) lr).trans (hR i hi).2⟩) (fun i hi => ⟨(hb.cell (p := ⟨sb, so + i * 2, none⟩) ls).trans (hS i hi).1, (hb.cell (p := ⟨sb, so + i * 2 + 1, none⟩) ls).trans (hS i hi).2⟩) (hE.below hb))
  clear hA hB hR hS hE hr hvm
  go_enter Tryz.func13, Tryz.ntmps13
  go_wp2_with (go_at_call 19; (with_reducible refine (HCk.out _ (by (repeat' (first | (with_reducible exact Below.refl _ _) | (with_reducible refine Below.setCell ?_ (by first | omega | (simp; done) | (simp; omega)) _) | (with_reducible refine Below.alloc ?_ (by first | omega | (simp; done) | (simp; omega)) _) | (with_reducible refine Below.drew ?_) | (with_reducible refine below_drewN ?_ _) | (with_reducible refine Below.trans ?_ (Below.mono (by assumption) (by first | omega | (simp; done) | (simp; omega)))))))).mono ?_); rintro e w1 ⟨rfl, hb⟩; obtain ⟨hc, hf, hz⟩ := bcall hb; (try simp at hc hf hz))
  have hbw : Below w.heap.size w w1 := by (repeat' (first | (with_reducible exact Below.refl _ _) | (with_reducible refine Below.setCell ?_ (by first | omega | (simp; done) | (simp; omega)) _) | (with_reducible refine Below.alloc ?_ (by first | omega | (simp; done) | (simp; omega)) _) | (with_reducible refine Below.drew ?_) | (with_reducible refine below_drewN ?_ _) | (with_reducible refine Below.trans ?_ (Below.mono (by assumption) (by first | omega | (simp; done) | (simp; omega))))))
  have t4 : Four w1 (w.heap.size + 1) 24 (.int .i64 0) (.int .i64 0) (.slice none 0 0) (.slice none 0 0) := by
    have := Four.new0 (w.alloc (.cells #[.int .i64 W, .int .i64 H, .slice (some ⟨a, oa, none⟩) n ca, .slice (some ⟨b, ob, none⟩) n cb] 24)) 24 (.int .i64 0) (.int .i64 0) (.slice none 0 0) (.slice none 0 0)
    rw [World.size_alloc] at this
    exact this.below hb (by simp)
  have hsz : w.heap.size + 2 ≤ w1.heap.size := t4.lt
  have HT1 := Lib.hid t4
  clear hc hf hb hz HCk t4
  go_at_call 20
  refine (NF.out _ hbw).mono ?_
  rintro e w3 ⟨m, rfl, hM, hb3⟩
  have t3 := HT1.out.below hb3 HT1.out.lt
  have hbw3 : Below w.heap.size w w3 := hbw.trans (hb3.mono (by omega))
  have hs3 := hb3.size
  obtain ⟨B, hB⟩ : ∃ B, B = w1.heap.size := ⟨_, rfl⟩
  rw [← hB] at hM hs3 hsz
  have HM := Lib.hid hM
  have HT := Lib.hid t3
  have HB := Lib.hid hbw3
  have hmb := hM.mb
  clear hM t3 hbw hbw3 hb3 hB HT1 NF
  go_wp2_with fail
  go_at_call 22
  refine (flforth_any m w3).mono ?_
  rintro e w4 ⟨rfl, bF, hb4⟩
  have hs4 := hb4.size
  have lF := bF.lt
  go_wp2_with (go_at_call 23; refine (callsIn_wide.1 (numsP_in 5 _ _ _ _)).mono ?_; rintro e w' ⟨rfl, rfl⟩)
  have x5 : Below w4.heap.size w4 (((w4.alloc (.cells #[.int .i64 t] 3)).alloc (.cells #[.int .i64 1] 3)).alloc (.cells #[.int .i64 k] 3)) := (((Below.refl _ w4).alloc (Nat.le_refl _) _).alloc (by simp) _).alloc (by simp; omega) _
  have c0 := ((Boxed.new w4 3 (.int .i64 t)).alloc (.cells #[.int .i64 1] 3)).alloc (.cells #[.int .i64 k] 3)
  have c1 := (Boxed.new (w4.alloc (.cells #[.int .i64 t] 3)) 3 (.int .i64 1)).alloc (.cells #[.int .i64 k] 3)
  have c2 := Boxed.new ((w4.alloc (.cells #[.int .i64 t] 3)).alloc (.cells #[.int .i64 1] 3)) 3 (.int .i64 k)
  simp only [World.size_alloc] at c1 c2
  obtain ⟨w5, hw5⟩ : ∃ w5, w5 = ((w4.alloc (.cells #[.int .i64 t] 3)).alloc (.cells #[.int .i64 1] 3)).alloc (.cells #[.int .i64 k] 3) := ⟨_, rfl⟩
  rw [← hw5] at x5 c0 c1 c2 ⊢
  have hs5 := x5.size
  have x35 : Below w3.heap.size w3 w5 := hb4.trans (x5.mono hs4)
  have DO := Lib.hid (callsIn_wide.1 (do_fo m W H n rb ro len rc sb so len2 sc B w3.heap.size k w4.heap.size w3.heap.size (t : Int) 1 (up t) R S P w5 (HM.out.later x35) s hP hk hk2 hkk (by omega) (by omega) (by omega) (by omega) (fun j hj => by show ((min (t + j) 1000000 : Nat) : Int) = _; rw [Nat.min_eq_left (by omega)]; omega) hs4 c0 c1 c2 (Nat.le_refl _) ((x5.block _ lF).trans bF)))
  have HX := Lib.hid x35
  clear hw5 x5 c0 c1 c2 bF hb4 HM x35 hk hk2 hP
  go_at_call 21
  refine DO.out.mono ?_
  rintro e w6 ⟨rfl, hM6, hb6⟩
  have t6 := (HT.out.below HX.out HT.out.lt).below hb6 (by omega)
  have hB6 := Lib.hid (show Below w.heap.size w w6 from (HB.out.trans (HX.out.mono (by omega))).trans (hb6.mono (by omega)))
  obtain ⟨⟨a', ca', b', cb', hF, ⟨rA, rB⟩, ne, fa, fb⟩, _⟩ := hM6
  have k0 := hF.k0
  have k1 := hF.k1
  have k2 := hF.k2
  have k3 := hF.k3
  have g0 := t6.free 0
  have g1 := t6.free 1
  have g2 := t6.free 2
  have g3 := t6.free 3
  have q0 := t6.c0
  have q1 := t6.c1
  have q2 := t6.c2
  have q3 := t6.c3
  have ha' : w.heap.size + 1 < a' := by have := fa.1; omega
  have hb' : w.heap.size + 1 < b' := by have := fb.1; omega
  have RR := Lib.hid (show Row w6 a' n _ ∧ Row w6 b' n _ ∧ a' ≠ b' from ⟨rA, rB, ne.1⟩)
  clear hF rA rB ne fa fb t6 hb6 DO HX HB HT
  go_wp2
  refine bodyPost_ret (v := .tuple #[.agg #[.int .i64 W, .int .i64 H, .slice (some ⟨a', 0, none⟩) n ca', .slice (some ⟨b', 0, none⟩) n cb'], .int .i64 0]) (by simp [results, Tryz.results13, go_sem, ↓IntWalk.iteOmega, *]) rfl ?_
  exact madeM_pass RR.out hB6.out (by omega) ha' hb'

section
variable (W H : Int) (ao : Option Addr) (n c : Nat) (P : MG) (bo : Option Addr) (m d : Nat) (ro : Option Addr) (len rc : Nat) (R : Nat → Int × Int) (so : Option Addr) (len2 sc : Nat) (S : Nat → Int × Int) (t k z : Int) (w : World)
theorem mRun_any (h : MOk W H n P m len R len2 S) (hA : CellsIn w ao n P.1) (hB : CellsIn w bo m P.2) (hR : RulesIn w ro len R) (hS : RulesIn w so len2 S) (hE : Ends w) (hr : RunOk t k) :
    Calls Tryz.prog 13 #[.agg #[.int .i64 W, .int .i64 H, .slice (ao) n c, .slice (bo) m d], .slice ro len rc, .slice so len2 sc, .int .i64 t, .int .i64 k] w (MadeM W H n (runM (mfwd W.toNat H.toNat len len2 R S) t.toNat k.toNat P).1 (runM (mfwd W.toNat H.toNat len len2 R S) t.toNat k.toNat P).2 w) := by
  obtain ⟨⟨hv, hk⟩, hk2⟩ := h
  obtain rfl := hv.len
  obtain ⟨W', H', rfl, rfl, s, _⟩ := Sides.vg hv.1.1
  obtain ⟨a, oa, rfl, LA, hA⟩ := vg_cells hv.1.1 hA
  obtain ⟨b, ob, rfl, LB, hB⟩ := vg_cells hv.1.2 hB
  obtain ⟨t, rfl⟩ := Int.eq_ofNat_of_zero_le (show 0 ≤ t by unfold RunOk at hr; omega)
  obtain ⟨k, rfl⟩ := Int.eq_ofNat_of_zero_le (show 0 ≤ k by unfold RunOk at hr; omega)
  rcases hR with hR | ⟨rb, ro, rfl, lr, hR⟩
  · have := hk.1; omega
  rcases hS with hS | ⟨sb, so, rfl, ls, hS⟩
  · have := hk2.1; omega
  exact mRun_in W' H' a oa m c b ob d rb ro len rc sb so len2 sc t k R S P w s ⟨⟨hv.1.1.2.2, hv.1.2.2.2⟩, hv.2⟩ LA LB hA hB lr ls hR hS hk hk2 hE hr

set_option maxHeartbeats 1000000 in
theorem mRun_err (hz : z ≠ 0) (C : ∀ wx, Below w.heap.size w wx → Calls Tryz.prog 19 #[.agg #[.int .i64 W, .int .i64 H, .slice (ao) n c, .slice (bo) m d], .slice ro len rc, .slice so len2 sc, .int .i64 t, .int .i64 k] wx fun e w' => e = .returned (.int .i64 z) ∧ Below wx.heap.size wx w') :
    Calls Tryz.prog 13 #[.agg #[.int .i64 W, .int .i64 H, .slice (ao) n c, .slice (bo) m d], .slice ro len rc, .slice so len2 sc, .int .i64 t, .int .i64 k] w fun e w' => e = .returned (.tuple #[.agg #[.int .i64 0, .int .i64 0, .slice (none) 0 0, .slice (none) 0 0], .int .i64 z]) ∧ Below w.heap.size w w' := by
  have HC := Lib.hid C; clear C
  have e0 : (z == 0) = false := beq_eq_false_iff_ne.2 hz
  have e1 : (z != 0) = true := by simp [bne, e0]
  clear hz e0
  go_enter Tryz.func13, Tryz.ntmps13
  go_wp2_with (go_at_call 19; (with_reducible refine (HC.out _ (by (repeat' (first | (with_reducible exact Below.refl _ _) | (with_reducible refine Below.setCell ?_ (by first | omega | (simp; done) | (simp; omega)) _) | (with_reducible refine Below.alloc ?_ (by first | omega | (simp; done) | (simp; omega)) _) | (with_reducible refine Below.drew ?_) | (with_reducible refine below_drewN ?_ _) | (with_reducible refine Below.trans ?_ (Below.mono (by assumption) (by first | omega | (simp; done) | (simp; omega)))))))).mono ?_); rintro e w1 ⟨rfl, hb⟩; obtain ⟨hc, hf, hz⟩ := bcall hb; (try simp at hc hf hz))
  refine bodyPost_ret (v := .tuple #[.agg #[.int .i64 0, .int .i64 0, .slice (none) 0 0, .slice (none) 0 0], .int .i64 z]) (by simp [results, Tryz.results13, go_sem, ↓IntWalk.iteOmega, *]) rfl ⟨rfl, ?_⟩
  (repeat' (first | (with_reducible exact Below.refl _ _) | (with_reducible refine Below.setCell ?_ (by first | omega | (simp; done) | (simp; omega)) _) | (with_reducible refine Below.alloc ?_ (by first | omega | (simp; done) | (simp; omega)) _) | (with_reducible refine Below.drew ?_) | (with_reducible refine below_drewN ?_ _) | (with_reducible refine Below.trans ?_ (Below.mono (by assumption) (by first | omega | (simp; done) | (simp; omega))))))
end

section
variable (W H : Int) (ao : Option Addr) (n c : Nat) (P : MG) (bo : Option Addr) (m d : Nat) (ro : Option Addr) (len rc : Nat) (R : Nat → Int × Int) (so : Option Addr) (len2 sc : Nat) (S : Nat → Int × Int) (t z : Int) (w : World)
set_option maxHeartbeats 1000000 in
theorem mStep_any (h : MOk W H n P m len R len2 S) (hA : CellsIn w ao n P.1) (hB : CellsIn w bo m P.2) (hR : RulesIn w ro len R) (hS : RulesIn w so len2 S) (hE : Ends w) (ht : 0 ≤ t ∧ t ≤ 1000000) :
    Calls Tryz.prog 8 #[.agg #[.int .i64 W, .int .i64 H, .slice (ao) n c, .slice (bo) m d], .slice ro len rc, .slice so len2 sc, .int .i64 t] w (MadeM W H n (mfwd W.toNat H.toNat len len2 R S t.toNat P).1 (mfwd W.toNat H.toNat len len2 R S t.toNat P).2 w) := by
  have C := Lib.hid (fun wx (hb : Below w.heap.size w wx) => mRun_any W H ao n c P bo m d ro len rc R so len2 sc S t 1 wx h (hA.below hb) (hB.below hb) (hR.below hb) (hS.below hb) (hE.below hb) ⟨ht.1, ht.2, by omega, by omega, .inr (by omega)⟩)
  clear h hA hB hR hS hE
  go_enter Tryz.func8, Tryz.ntmps8
  go_wp2_with (go_at_call 13; (with_reducible refine (C.out _ (by (repeat' (first | (with_reducible exact Below.refl _ _) | (with_reducible refine Below.setCell ?_ (by first | omega | (simp; done) | (simp; omega)) _) | (with_reducible refine Below.alloc ?_ (by first | omega | (simp; done) | (simp; omega)) _) | (with_reducible refine Below.drew ?_) | (with_reducible refine below_drewN ?_ _) | (with_reducible refine Below.trans ?_ (Below.mono (by assumption) (by first | omega | (simp; done) | (simp; omega)))))))).mono ?_); rintro e wq ⟨aq, bq, cq, dq, rfl, Rq, laq, lbq, hb⟩; obtain ⟨hc, hf, hz⟩ := bcall hb; (try simp at hc hf hz laq lbq))
  refine bodyPost_ret (v := .tuple #[.agg #[.int .i64 W, .int .i64 H, .slice (some ⟨aq, 0, none⟩) n cq, .slice (some ⟨bq, 0, none⟩) n dq], .int .i64 0]) (by simp [results, Tryz.results8, go_sem, ↓IntWalk.iteOmega, *]) rfl ?_
  exact madeM_pass Rq.out (by (repeat' (first | (with_reducible exact Below.refl _ _) | (with_reducible refine Below.setCell ?_ (by first | omega | (simp; done) | (simp; omega)) _) | (with_reducible refine Below.alloc ?_ (by first | omega | (simp; done) | (simp; omega)) _) | (with_reducible refine Below.drew ?_) | (with_reducible refine below_drewN ?_ _) | (with_reducible refine Below.trans ?_ (Below.mono (by assumption) (by first | omega | (simp; done) | (simp; omega))))))) (by omega) (by omega) (by omega)

set_option maxHeartbeats 1000000 in
theorem mStep_err (hz : z ≠ 0) (C : ∀ wx, Below w.heap.size w wx → Calls Tryz.prog 19 #[.agg #[.int .i64 W, .int .i64 H, .slice (ao) n c, .slice (bo) m d], .slice ro len rc, .slice so len2 sc, .int .i64 t, .int .i64 1] wx fun e w' => e = .returned (.int .i64 z) ∧ Below wx.heap.size wx w') :
    Calls Tryz.prog 8 #[.agg #[.int .i64 W, .int .i64 H, .slice (ao) n c, .slice (bo) m d], .slice ro len rc, .slice so len2 sc, .int .i64 t] w fun e w' => e = .returned (.tuple #[.agg #[.int .i64 0, .int .i64 0, .slice (none) 0 0, .slice (none) 0 0], .int .i64 z]) ∧ Below w.heap.size w w' := by
  have HC := Lib.hid (fun wx (hb : Below w.heap.size w wx) => mRun_err W H ao n c bo m d ro len rc so len2 sc t 1 z wx hz (fun wy hy => C wy (hb.trans (hy.mono hb.size))))
  clear C hz
  go_enter Tryz.func8, Tryz.ntmps8
  go_wp2_with (go_at_call 13; (with_reducible refine (HC.out _ (by (repeat' (first | (with_reducible exact Below.refl _ _) | (with_reducible refine Below.setCell ?_ (by first | omega | (simp; done) | (simp; omega)) _) | (with_reducible refine Below.alloc ?_ (by first | omega | (simp; done) | (simp; omega)) _) | (with_reducible refine Below.drew ?_) | (with_reducible refine below_drewN ?_ _) | (with_reducible refine Below.trans ?_ (Below.mono (by assumption) (by first | omega | (simp; done) | (simp; omega)))))))).mono ?_); rintro e w1 ⟨rfl, hb⟩; obtain ⟨hc, hf, hz⟩ := bcall hb; (try simp at hc hf hz))
  refine bodyPost_ret (v := .tuple #[.agg #[.int .i64 0, .int .i64 0, .slice (none) 0 0, .slice (none) 0 0], .int .i64 z]) (by simp [results, Tryz.results8, go_sem, ↓IntWalk.iteOmega, *]) rfl ⟨rfl, ?_⟩
  (repeat' (first | (with_reducible exact Below.refl _ _) | (with_reducible refine Below.setCell ?_ (by first | omega | (simp; done) | (simp; omega)) _) | (with_reducible refine Below.alloc ?_ (by first | omega | (simp; done) | (simp; omega)) _) | (with_reducible refine Below.drew ?_) | (with_reducible refine below_drewN ?_ _) | (with_reducible refine Below.trans ?_ (Below.mono (by assumption) (by first | omega | (simp; done) | (simp; omega))))))
end

set_option maxRecDepth 100000 in
set_option maxHeartbeats 8000000 in
theorem mUndo_in (W H a oa n ca b ob cb rb ro len rc sb so len2 sc t k : Nat) (R S : Nat → Int × Int) (P : MG) (w : World) (s : Sides W H n) (hP : OkM n P) (LA : a < w.heap.size) (LB : b < w.heap.size) (hA : Grd w a oa n P.1) (hB : Grd w b ob n P.2) (lr : rb < w.heap.size) (ls : sb < w.heap.size) (hR : RulesAt w rb ro len R) (hS : RulesAt w sb so len2 S) (hk : OkRs len R) (hk2 : OkRs len2 S) (hE : Ends w) (hr : RunOk t k) :
    Calls Tryz.prog 15 #[.agg #[.int .i64 W, .int .i64 H, .slice (some ⟨a, oa, none⟩) n ca, .slice (some ⟨b, ob, none⟩) n cb], .slice (some ⟨rb, ro, none⟩) len rc, .slice (some ⟨sb, so, none⟩) len2 sc, .int .i64 t, .int .i64 k] w (MadeM W H n (undoM (mbwd W H len len2 R S) t k P).1 (undoM (mbwd W H len len2 R S) t k P).2 w) := by
  have hkk : k ≤ 1000 := by unfold RunOk at hr; omega
  have ht : t ≤ 1000000 := by unfold RunOk at hr; omega
  have htc : k = 0 ∨ t + k - 1 ≤ 1000000 := by unfold RunOk at hr; omega
  rw [← foldM_down _ _ _ _ htc]
  have hvm : VM W H n P.1 n P.2 := ⟨⟨vg_of s hP.1.1, vg_of s hP.1.2⟩, hP.2⟩
  have HCk := Lib.hid (fun w' (hb : Below w.heap.size w w') => checkM_ok W H (some ⟨a, oa, none⟩) n ca P (some ⟨b, ob, none⟩) n cb (some ⟨rb, ro, none⟩) len rc R (some ⟨sb, so, none⟩) len2 sc S t k w' ⟨⟨hvm, hk⟩, hk2⟩ ((show CellsIn w _ n P.1 from .inr ⟨a, oa, rfl, LA, hA⟩).below hb) ((show CellsIn w _ n P.2 from .inr ⟨b, ob, rfl, LB, hB⟩).below hb) ((show RulesIn w _ len R from .inr ⟨rb, ro, rfl, lr, hR⟩).below hb) ((show RulesIn w _ len2 S from .inr ⟨sb, so, rfl, ls, hS⟩).below hb) hr)
  have NF := Lib.hid (fun w' (hb : Below w.heap.size w w') => newFlow_any W H a oa n ca b ob cb rb ro len rc sb so len2 sc R S P w' s (Nat.lt_of_lt_of_le LA hb.size) (Nat.lt_of_lt_of_le LB hb.size) (hA.below hb LA) (hB.below hb LB) (Nat.lt_of_lt_of_le lr hb.size) (Nat.lt_of_lt_of_le ls hb.size) (fun i hi => ⟨(hb.cell (p := ⟨rb, ro + i * 2, none⟩) lr).trans (hR i hi).1, (hb.cell (p := ⟨rb, ro + i * 2 + 1, none⟩) lr).trans (hR i hi).2⟩) (fun i hi => ⟨(hb.cell (p := ⟨sb, so + i * 2, none⟩) ls).trans (hS i hi).1, (hb.cell (p := ⟨sb, so + i * 2 + 1, none⟩) ls).trans (hS i hi).2⟩) (hE.below hb))
  clear hA hB hR hS hE hr hvm
  go_enter Tryz.func15, Tryz.ntmps15
  go_wp2_with (go_at_call 19; (with_reducible refine (HCk.out _ (by (repeat' (first | (with_reducible exact Below.refl _ _) | (with_reducible refine Below.setCell ?_ (by first | omega | (simp; done) | (simp; omega)) _) | (with_reducible refine Below.alloc ?_ (by first | omega | (simp; done) | (simp; omega)) _) | (with_reducible refine Below.drew ?_) | (with_reducible refine below_drewN ?_ _) | (with_reducible refine Below.trans ?_ (Below.mono (by assumption) (by first | omega | (simp; done) | (simp; omega)))))))).mono ?_); rintro e w1 ⟨rfl, hb⟩; obtain ⟨hc, hf, hz⟩ := bcall hb; (try simp at hc hf hz))
  have hbw : Below w.heap.size w w1 := by (repeat' (first | (with_reducible exact Below.refl _ _) | (with_reducible refine Below.setCell ?_ (by first | omega | (simp; done) | (simp; omega)) _) | (with_reducible refine Below.alloc ?_ (by first | omega | (simp; done) | (simp; omega)) _) | (with_reducible refine Below.drew ?_) | (with_reducible refine below_drewN ?_ _) | (with_reducible refine Below.trans ?_ (Below.mono (by assumption) (by first | omega | (simp; done) | (simp; omega))))))
  have t4 : Four w1 (w.heap.size + 1) 24 (.int .i64 0) (.int .i64 0) (.slice none 0 0) (.slice none 0 0) := by
    have := Four.new0 (w.alloc (.cells #[.int .i64 W, .int .i64 H, .slice (some ⟨a, oa, none⟩) n ca, .slice (some ⟨b, ob, none⟩) n cb] 24)) 24 (.int .i64 0) (.int .i64 0) (.slice none 0 0) (.slice none 0 0)
    rw [World.size_alloc] at this
    exact this.below hb (by simp)
  have hsz : w.heap.size + 2 ≤ w1.heap.size := t4.lt
  have HT1 := Lib.hid t4
  clear hc hf hb hz HCk t4
  go_at_call 20
  refine (NF.out _ hbw).mono ?_
  rintro e w3 ⟨m, rfl, hM, hb3⟩
  have t3 := HT1.out.below hb3 HT1.out.lt
  have hbw3 : Below w.heap.size w w3 := hbw.trans (hb3.mono (by omega))
  have hs3 := hb3.size
  obtain ⟨B, hB⟩ : ∃ B, B = w1.heap.size := ⟨_, rfl⟩
  rw [← hB] at hM hs3 hsz
  have HM := Lib.hid hM
  have HT := Lib.hid t3
  have HB := Lib.hid hbw3
  have hmb := hM.mb
  clear hM t3 hbw hbw3 hb3 hB HT1 NF
  go_wp2_with fail
  go_at_call 28
  refine (flback_any m w3).mono ?_
  rintro e w4 ⟨rfl, bF, hb4⟩
  have hs4 := hb4.size
  have lF := bF.lt
  go_wp2_with (go_at_call 23; refine (callsIn_wide.1 (numsP_in 5 _ _ _ _)).mono ?_; rintro e w' ⟨rfl, rfl⟩)
  have x5 : Below w4.heap.size w4 (((w4.alloc (.cells #[.int .i64 ((t : Int) + k - 1)] 3)).alloc (.cells #[.int .i64 (-1)] 3)).alloc (.cells #[.int .i64 k] 3)) := (((Below.refl _ w4).alloc (Nat.le_refl _) _).alloc (by simp) _).alloc (by simp; omega) _
  have c0 := ((Boxed.new w4 3 (.int .i64 ((t : Int) + k - 1))).alloc (.cells #[.int .i64 (-1)] 3)).alloc (.cells #[.int .i64 k] 3)
  have c1 := (Boxed.new (w4.alloc (.cells #[.int .i64 ((t : Int) + k - 1)] 3)) 3 (.int .i64 (-1))).alloc (.cells #[.int .i64 k] 3)
  have c2 := Boxed.new ((w4.alloc (.cells #[.int .i64 ((t : Int) + k - 1)] 3)).alloc (.cells #[.int .i64 (-1)] 3)) 3 (.int .i64 k)
  simp only [World.size_alloc] at c1 c2
  obtain ⟨w5, hw5⟩ : ∃ w5, w5 = ((w4.alloc (.cells #[.int .i64 ((t : Int) + k - 1)] 3)).alloc (.cells #[.int .i64 (-1)] 3)).alloc (.cells #[.int .i64 k] 3) := ⟨_, rfl⟩
  rw [← hw5] at x5 c0 c1 c2 ⊢
  have hs5 := x5.size
  have x35 : Below w3.heap.size w3 w5 := hb4.trans (x5.mono hs4)
  have DO := Lib.hid (callsIn_wide.1 (do_ba m W H n rb ro len rc sb so len2 sc B w3.heap.size k w4.heap.size w3.heap.size ((t : Int) + k - 1) (-1) (down t k) R S P w5 (HM.out.later x35) s hP hk hk2 hkk (by omega) (by omega) (by omega) (by omega) (fun j hj => by show ((min (t + k - 1 - j) 1000000 : Nat) : Int) = _; rw [Nat.min_eq_left (by omega)]; omega) hs4 c0 c1 c2 (Nat.le_refl _) ((x5.block _ lF).trans bF)))
  have HX := Lib.hid x35
  clear hw5 x5 c0 c1 c2 bF hb4 HM x35 hk hk2 hP
  go_at_call 21
  refine DO.out.mono ?_
  rintro e w6 ⟨rfl, hM6, hb6⟩
  have t6 := (HT.out.below HX.out HT.out.lt).below hb6 (by omega)
  have hB6 := Lib.hid (show Below w.heap.size w w6 from (HB.out.trans (HX.out.mono (by omega))).trans (hb6.mono (by omega)))
  obtain ⟨⟨a', ca', b', cb', hF, ⟨rA, rB⟩, ne, fa, fb⟩, _⟩ := hM6
  have k0 := hF.k0
  have k1 := hF.k1
  have k2 := hF.k2
  have k3 := hF.k3
  have g0 := t6.free 0
  have g1 := t6.free 1
  have g2 := t6.free 2
  have g3 := t6.free 3
  have q0 := t6.c0
  have q1 := t6.c1
  have q2 := t6.c2
  have q3 := t6.c3
  have ha' : w.heap.size + 1 < a' := by have := fa.1; omega
  have hb' : w.heap.size + 1 < b' := by have := fb.1; omega
  have RR := Lib.hid (show Row w6 a' n _ ∧ Row w6 b' n _ ∧ a' ≠ b' from ⟨rA, rB, ne.1⟩)
  clear hF rA rB ne fa fb t6 hb6 DO HX HB HT
  go_wp2
  refine bodyPost_ret (v := .tuple #[.agg #[.int .i64 W, .int .i64 H, .slice (some ⟨a', 0, none⟩) n ca', .slice (some ⟨b', 0, none⟩) n cb'], .int .i64 0]) (by simp [results, Tryz.results15, go_sem, ↓IntWalk.iteOmega, *]) rfl ?_
  exact madeM_pass RR.out hB6.out (by omega) ha' hb'

section
variable (W H : Int) (ao : Option Addr) (n c : Nat) (P : MG) (bo : Option Addr) (m d : Nat) (ro : Option Addr) (len rc : Nat) (R : Nat → Int × Int) (so : Option Addr) (len2 sc : Nat) (S : Nat → Int × Int) (t k z : Int) (w : World)
theorem mUndo_any (h : MOk W H n P m len R len2 S) (hA : CellsIn w ao n P.1) (hB : CellsIn w bo m P.2) (hR : RulesIn w ro len R) (hS : RulesIn w so len2 S) (hE : Ends w) (hr : RunOk t k) :
    Calls Tryz.prog 15 #[.agg #[.int .i64 W, .int .i64 H, .slice (ao) n c, .slice (bo) m d], .slice ro len rc, .slice so len2 sc, .int .i64 t, .int .i64 k] w (MadeM W H n (undoM (mbwd W.toNat H.toNat len len2 R S) t.toNat k.toNat P).1 (undoM (mbwd W.toNat H.toNat len len2 R S) t.toNat k.toNat P).2 w) := by
  obtain ⟨⟨hv, hk⟩, hk2⟩ := h
  obtain rfl := hv.len
  obtain ⟨W', H', rfl, rfl, s, _⟩ := Sides.vg hv.1.1
  obtain ⟨a, oa, rfl, LA, hA⟩ := vg_cells hv.1.1 hA
  obtain ⟨b, ob, rfl, LB, hB⟩ := vg_cells hv.1.2 hB
  obtain ⟨t, rfl⟩ := Int.eq_ofNat_of_zero_le (show 0 ≤ t by unfold RunOk at hr; omega)
  obtain ⟨k, rfl⟩ := Int.eq_ofNat_of_zero_le (show 0 ≤ k by unfold RunOk at hr; omega)
  rcases hR with hR | ⟨rb, ro, rfl, lr, hR⟩
  · have := hk.1; omega
  rcases hS with hS | ⟨sb, so, rfl, ls, hS⟩
  · have := hk2.1; omega
  exact mUndo_in W' H' a oa m c b ob d rb ro len rc sb so len2 sc t k R S P w s ⟨⟨hv.1.1.2.2, hv.1.2.2.2⟩, hv.2⟩ LA LB hA hB lr ls hR hS hk hk2 hE hr

set_option maxHeartbeats 1000000 in
theorem mUndo_err (hz : z ≠ 0) (C : ∀ wx, Below w.heap.size w wx → Calls Tryz.prog 19 #[.agg #[.int .i64 W, .int .i64 H, .slice (ao) n c, .slice (bo) m d], .slice ro len rc, .slice so len2 sc, .int .i64 t, .int .i64 k] wx fun e w' => e = .returned (.int .i64 z) ∧ Below wx.heap.size wx w') :
    Calls Tryz.prog 15 #[.agg #[.int .i64 W, .int .i64 H, .slice (ao) n c, .slice (bo) m d], .slice ro len rc, .slice so len2 sc, .int .i64 t, .int .i64 k] w fun e w' => e = .returned (.tuple #[.agg #[.int .i64 0, .int .i64 0, .slice (none) 0 0, .slice (none) 0 0], .int .i64 z]) ∧ Below w.heap.size w w' := by
  have HC := Lib.hid C; clear C
  have e0 : (z == 0) = false := beq_eq_false_iff_ne.2 hz
  have e1 : (z != 0) = true := by simp [bne, e0]
  clear hz e0
  go_enter Tryz.func15, Tryz.ntmps15
  go_wp2_with (go_at_call 19; (with_reducible refine (HC.out _ (by (repeat' (first | (with_reducible exact Below.refl _ _) | (with_reducible refine Below.setCell ?_ (by first | omega | (simp; done) | (simp; omega)) _) | (with_reducible refine Below.alloc ?_ (by first | omega | (simp; done) | (simp; omega)) _) | (with_reducible refine Below.drew ?_) | (with_reducible refine below_drewN ?_ _) | (with_reducible refine Below.trans ?_ (Below.mono (by assumption) (by first | omega | (simp; done) | (simp; omega)))))))).mono ?_); rintro e w1 ⟨rfl, hb⟩; obtain ⟨hc, hf, hz⟩ := bcall hb; (try simp at hc hf hz))
  refine bodyPost_ret (v := .tuple #[.agg #[.int .i64 0, .int .i64 0, .slice (none) 0 0, .slice (none) 0 0], .int .i64 z]) (by simp [results, Tryz.results15, go_sem, ↓IntWalk.iteOmega, *]) rfl ⟨rfl, ?_⟩
  (repeat' (first | (with_reducible exact Below.refl _ _) | (with_reducible refine Below.setCell ?_ (by first | omega | (simp; done) | (simp; omega)) _) | (with_reducible refine Below.alloc ?_ (by first | omega | (simp; done) | (simp; omega)) _) | (with_reducible refine Below.drew ?_) | (with_reducible refine below_drewN ?_ _) | (with_reducible refine Below.trans ?_ (Below.mono (by assumption) (by first | omega | (simp; done) | (simp; omega))))))
end

section
variable (W H : Int) (ao : Option Addr) (n c : Nat) (P : MG) (bo : Option Addr) (m d : Nat) (ro : Option Addr) (len rc : Nat) (R : Nat → Int × Int) (so : Option Addr) (len2 sc : Nat) (S : Nat → Int × Int) (t z : Int) (w : World)
set_option maxHeartbeats 1000000 in
theorem mBack_any (h : MOk W H n P m len R len2 S) (hA : CellsIn w ao n P.1) (hB : CellsIn w bo m P.2) (hR : RulesIn w ro len R) (hS : RulesIn w so len2 S) (hE : Ends w) (ht : 0 ≤ t ∧ t ≤ 1000000) :
    Calls Tryz.prog 11 #[.agg #[.int .i64 W, .int .i64 H, .slice (ao) n c, .slice (bo) m d], .slice ro len rc, .slice so len2 sc, .int .i64 t] w (MadeM W H n (mbwd W.toNat H.toNat len len2 R S t.toNat P).1 (mbwd W.toNat H.toNat len len2 R S t.toNat P).2 w) := by
  have C := Lib.hid (fun wx (hb : Below w.heap.size w wx) => mUndo_any W H ao n c P bo m d ro len rc R so len2 sc S t 1 wx h (hA.below hb) (hB.below hb) (hR.below hb) (hS.below hb) (hE.below hb) ⟨ht.1, ht.2, by omega, by omega, .inr (by omega)⟩)
  clear h hA hB hR hS hE
  go_enter Tryz.func11, Tryz.ntmps11
  go_wp2_with (go_at_call 15; (with_reducible refine (C.out _ (by (repeat' (first | (with_reducible exact Below.refl _ _) | (with_reducible refine Below.setCell ?_ (by first | omega | (simp; done) | (simp; omega)) _) | (with_reducible refine Below.alloc ?_ (by first | omega | (simp; done) | (simp; omega)) _) | (with_reducible refine Below.drew ?_) | (with_reducible refine below_drewN ?_ _) | (with_reducible refine Below.trans ?_ (Below.mono (by assumption) (by first | omega | (simp; done) | (simp; omega)))))))).mono ?_); rintro e wq ⟨aq, bq, cq, dq, rfl, Rq, laq, lbq, hb⟩; obtain ⟨hc, hf, hz⟩ := bcall hb; (try simp at hc hf hz laq lbq))
  refine bodyPost_ret (v := .tuple #[.agg #[.int .i64 W, .int .i64 H, .slice (some ⟨aq, 0, none⟩) n cq, .slice (some ⟨bq, 0, none⟩) n dq], .int .i64 0]) (by simp [results, Tryz.results11, go_sem, ↓IntWalk.iteOmega, *]) rfl ?_
  exact madeM_pass Rq.out (by (repeat' (first | (with_reducible exact Below.refl _ _) | (with_reducible refine Below.setCell ?_ (by first | omega | (simp; done) | (simp; omega)) _) | (with_reducible refine Below.alloc ?_ (by first | omega | (simp; done) | (simp; omega)) _) | (with_reducible refine Below.drew ?_) | (with_reducible refine below_drewN ?_ _) | (with_reducible refine Below.trans ?_ (Below.mono (by assumption) (by first | omega | (simp; done) | (simp; omega))))))) (by omega) (by omega) (by omega)

set_option maxHeartbeats 1000000 in
theorem mBack_err (hz : z ≠ 0) (C : ∀ wx, Below w.heap.size w wx → Calls Tryz.prog 19 #[.agg #[.int .i64 W, .int .i64 H, .slice (ao) n c, .slice (bo) m d], .slice ro len rc, .slice so len2 sc, .int .i64 t, .int .i64 1] wx fun e w' => e = .returned (.int .i64 z) ∧ Below wx.heap.size wx w') :
    Calls Tryz.prog 11 #[.agg #[.int .i64 W, .int .i64 H, .slice (ao) n c, .slice (bo) m d], .slice ro len rc, .slice so len2 sc, .int .i64 t] w fun e w' => e = .returned (.tuple #[.agg #[.int .i64 0, .int .i64 0, .slice (none) 0 0, .slice (none) 0 0], .int .i64 z]) ∧ Below w.heap.size w w' := by
  have HC := Lib.hid (fun wx (hb : Below w.heap.size w wx) => mUndo_err W H ao n c bo m d ro len rc so len2 sc t 1 z wx hz (fun wy hy => C wy (hb.trans (hy.mono hb.size))))
  clear C hz
  go_enter Tryz.func11, Tryz.ntmps11
  go_wp2_with (go_at_call 15; (with_reducible refine (HC.out _ (by (repeat' (first | (with_reducible exact Below.refl _ _) | (with_reducible refine Below.setCell ?_ (by first | omega | (simp; done) | (simp; omega)) _) | (with_reducible refine Below.alloc ?_ (by first | omega | (simp; done) | (simp; omega)) _) | (with_reducible refine Below.drew ?_) | (with_reducible refine below_drewN ?_ _) | (with_reducible refine Below.trans ?_ (Below.mono (by assumption) (by first | omega | (simp; done) | (simp; omega)))))))).mono ?_); rintro e w1 ⟨rfl, hb⟩; obtain ⟨hc, hf, hz⟩ := bcall hb; (try simp at hc hf hz))
  refine bodyPost_ret (v := .tuple #[.agg #[.int .i64 0, .int .i64 0, .slice (none) 0 0, .slice (none) 0 0], .int .i64 z]) (by simp [results, Tryz.results11, go_sem, ↓IntWalk.iteOmega, *]) rfl ⟨rfl, ?_⟩
  (repeat' (first | (with_reducible exact Below.refl _ _) | (with_reducible refine Below.setCell ?_ (by first | omega | (simp; done) | (simp; omega)) _) | (with_reducible refine Below.alloc ?_ (by first | omega | (simp; done) | (simp; omega)) _) | (with_reducible refine Below.drew ?_) | (with_reducible refine below_drewN ?_ _) | (with_reducible refine Below.trans ?_ (Below.mono (by assumption) (by first | omega | (simp; done) | (simp; omega))))))
end
end Go.Proofs.YtmkhbkkhoemkoaaGreatDoor
