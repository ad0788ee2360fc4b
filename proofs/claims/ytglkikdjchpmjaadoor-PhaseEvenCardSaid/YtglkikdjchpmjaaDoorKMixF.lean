/- Mixes, by the program: the phases, their sum, whether a mix is valid. -/
import Derived.Test.YtglkikdjchpmjaaDoorKAddsI
import Derived.Test.YtglkikdjchpmjaaDoorKRunU
namespace Go.Proofs.YtglkikdjchpmjaaDoor
set_option linter.unusedSimpArgs false
set_option linter.unusedVariables false
open Go.RowKit

/-- A valid mix. -/
def VM (W H : Int) (n : Nat) (A : Nat → Nat → Int) (m : Nat) (B : Nat → Nat → Int) : Prop := (VG W H n A ∧ VG W H m B) ∧ wt A n + wt B m ≤ 1000000000
theorem VM.len {W H : Int} {n m : Nat} {A B : Nat → Nat → Int} (h : VM W H n A m B) : m = n := by
  have h1 := h.1.1.2.1
  have h2 := h.1.2.2.1
  omega
theorem VM.n0 {W H : Int} {n m : Nat} {A B : Nat → Nat → Int} (h : VM W H n A m B) : 1 ≤ n ∧ n ≤ 1024 := by
  have h1 := h.1.1.2.1
  have h2 := h.1.1.1.bd
  omega

section
variable (W H : Int) (ao : Option Addr) (n c : Nat) (A : Nat → Nat → Int) (bo : Option Addr) (m d : Nat) (B : Nat → Nat → Int) (w : World)
set_option maxHeartbeats 1000000 in
theorem phases_any : Calls Tryd.prog 187 #[.agg #[.int .i64 W, .int .i64 H, .slice (ao) n c, .slice (bo) m d]] w fun e w' => e = .returned (.tuple #[.agg #[.int .i64 W, .int .i64 H, .slice (ao) n c], .agg #[.int .i64 W, .int .i64 H, .slice (bo) m d]]) ∧ Below w.heap.size w w' := by
  go_enter Tryd.func187, Tryd.ntmps187
  go_wp2
  go_region
  go_wp2
  refine bodyPost_ret (v := .tuple #[.agg #[.int .i64 W, .int .i64 H, .slice (ao) n c], .agg #[.int .i64 W, .int .i64 H, .slice (bo) m d]]) (by simp [results, Tryd.results187, go_sem, ↓IntWalk.iteOmega, *]) rfl ⟨rfl, ?_⟩
  (repeat' (first | (with_reducible exact Below.refl _ _) | (with_reducible refine Below.setCell ?_ (by first | omega | (simp; done) | (simp; omega)) _) | (with_reducible refine Below.alloc ?_ (by first | omega | (simp; done) | (simp; omega)) _) | (with_reducible refine Below.drew ?_) | (with_reducible refine below_drewN ?_ _) | (with_reducible refine Below.trans ?_ (Below.mono (by assumption) (by first | omega | (simp; done) | (simp; omega))))))

set_option maxHeartbeats 1000000 in
theorem both_ok (hv : VM W H n A m B) (hA : CellsIn w ao n A) (hB : CellsIn w bo m B) : Calls Tryd.prog 155 #[.agg #[.int .i64 W, .int .i64 H, .slice (ao) n c, .slice (bo) m d]] w (Made W H n (adG A B) w) := by
  obtain rfl := hv.len
  have H1 := Lib.hid hv.1.1
  have H2 := Lib.hid hv.1.2
  have H3 := Lib.hid hv.2
  clear hv
  have HA := Lib.hid hA; clear hA
  have HB := Lib.hid hB; clear hB
  go_enter Tryd.func155, Tryd.ntmps155
  go_wp2_with ((go_at_call 187; (with_reducible refine (phases_any W H ao m c bo m d _).mono ?_); rintro e w1 ⟨rfl, hb⟩; obtain ⟨hc, hf, hz⟩ := bcall hb; (try simp at hc hf hz)))
  (go_at_call 186; (with_reducible refine (gAddedI_ok W H m c d ao bo A B _ H1.out H2.out (HA.out.below (by (repeat' (first | (with_reducible exact Below.refl _ _) | (with_reducible refine Below.setCell ?_ (by first | omega | (simp; done) | (simp; omega)) _) | (with_reducible refine Below.alloc ?_ (by first | omega | (simp; done) | (simp; omega)) _) | (with_reducible refine Below.drew ?_) | (with_reducible refine below_drewN ?_ _) | (with_reducible refine Below.trans ?_ (Below.mono (by assumption) (by first | omega | (simp; done) | (simp; omega)))))))) (HB.out.below (by (repeat' (first | (with_reducible exact Below.refl _ _) | (with_reducible refine Below.setCell ?_ (by first | omega | (simp; done) | (simp; omega)) _) | (with_reducible refine Below.alloc ?_ (by first | omega | (simp; done) | (simp; omega)) _) | (with_reducible refine Below.drew ?_) | (with_reducible refine below_drewN ?_ _) | (with_reducible refine Below.trans ?_ (Below.mono (by assumption) (by first | omega | (simp; done) | (simp; omega)))))))) H3.out).mono ?_); rintro e wp ⟨p, cp, rfl, hp, lop, hb⟩; have Cp := Lib.hid hp; clear hp; obtain ⟨hc, hf, hz⟩ := bcall hb; (try simp at hc hf hz lop))
  go_wp2
  refine bodyPost_ret (v := .tuple #[.agg #[.int .i64 W, .int .i64 H, .slice (some ⟨p, 0, none⟩) m cp], .int .i64 0]) (by simp [results, Tryd.results155, go_sem, ↓IntWalk.iteOmega, *]) rfl ?_
  exact made_pass (Cp.out.below (by (repeat' (first | (with_reducible exact Below.refl _ _) | (with_reducible refine Below.setCell ?_ (by first | omega | (simp; done) | (simp; omega)) _) | (with_reducible refine Below.alloc ?_ (by first | omega | (simp; done) | (simp; omega)) _) | (with_reducible refine Below.drew ?_) | (with_reducible refine below_drewN ?_ _) | (with_reducible refine Below.trans ?_ (Below.mono (by assumption) (by first | omega | (simp; done) | (simp; omega)))))))) (by (repeat' (first | (with_reducible exact Below.refl _ _) | (with_reducible refine Below.setCell ?_ (by first | omega | (simp; done) | (simp; omega)) _) | (with_reducible refine Below.alloc ?_ (by first | omega | (simp; done) | (simp; omega)) _) | (with_reducible refine Below.drew ?_) | (with_reducible refine below_drewN ?_ _) | (with_reducible refine Below.trans ?_ (Below.mono (by assumption) (by first | omega | (simp; done) | (simp; omega))))))) (by omega) (by omega)

set_option maxHeartbeats 1000000 in
theorem both_bad (hn : n ≤ 1000000000000) (hv : ¬ VM W H n A m B) (hA : CellsIn w ao n A) (hB : CellsIn w bo m B) : Calls Tryd.prog 155 #[.agg #[.int .i64 W, .int .i64 H, .slice (ao) n c, .slice (bo) m d]] w fun e w' => e = .returned (.tuple #[.agg #[.int .i64 0, .int .i64 0, .slice (none) 0 0], .int .i64 1]) ∧ Below w.heap.size w w' := by
  obtain ⟨z, hz, AD⟩ : ∃ z : Int, z ≠ 0 ∧ ∀ wx, Below w.heap.size w wx → Calls Tryd.prog 186 #[.agg #[.int .i64 W, .int .i64 H, .slice (ao) n c], .agg #[.int .i64 W, .int .i64 H, .slice (bo) m d]] wx fun e w' => e = .returned (.tuple #[.agg #[.int .i64 0, .int .i64 0, .slice (none) 0 0], .int .i64 z]) ∧ Below wx.heap.size wx w' := by
    by_cases h1 : VG W H n A ∧ VG W H m B
    · have e : m = n := by have := h1.1.2.1; have := h1.2.2.1; omega
      subst e
      exact ⟨4, by omega, fun wx hb => gAddedI_limit W H m c d ao bo A B wx h1.1 h1.2 (hA.below hb) (hB.below hb) (by have : ¬ (wt A m + wt B m ≤ 1000000000) := fun h => hv ⟨h1, h⟩; omega)⟩
    · exact ⟨1, by omega, fun wx hb => gAdded_err1 W H W H n m c d ao bo A B wx (hA.below hb) (hB.below hb) h1⟩
  have AD' := Lib.hid AD; clear AD
  have e0 : (z == 0) = false := beq_eq_false_iff_ne.2 hz
  have e1 : (z != 0) = true := by simp [bne, e0]
  clear hz hv hA hB
  go_enter Tryd.func155, Tryd.ntmps155
  go_wp2_with (first | (go_at_call 187; (with_reducible refine (phases_any W H ao n c bo m d _).mono ?_); rintro e w1 ⟨rfl, hb⟩; obtain ⟨hc, hf, hz⟩ := bcall hb; (try simp at hc hf hz)) | (go_at_call 186; (with_reducible refine (AD'.out _ (by (repeat' (first | (with_reducible exact Below.refl _ _) | (with_reducible refine Below.setCell ?_ (by first | omega | (simp; done) | (simp; omega)) _) | (with_reducible refine Below.alloc ?_ (by first | omega | (simp; done) | (simp; omega)) _) | (with_reducible refine Below.drew ?_) | (with_reducible refine below_drewN ?_ _) | (with_reducible refine Below.trans ?_ (Below.mono (by assumption) (by first | omega | (simp; done) | (simp; omega)))))))).mono ?_); rintro e w1 ⟨rfl, hb⟩; obtain ⟨hc, hf, hz⟩ := bcall hb; (try simp at hc hf hz)))
  refine bodyPost_ret (v := .tuple #[.agg #[.int .i64 0, .int .i64 0, .slice (none) 0 0], .int .i64 1]) (by simp [results, Tryd.results155, go_sem, ↓IntWalk.iteOmega, *]) rfl ⟨rfl, ?_⟩
  (repeat' (first | (with_reducible exact Below.refl _ _) | (with_reducible refine Below.setCell ?_ (by first | omega | (simp; done) | (simp; omega)) _) | (with_reducible refine Below.alloc ?_ (by first | omega | (simp; done) | (simp; omega)) _) | (with_reducible refine Below.drew ?_) | (with_reducible refine below_drewN ?_ _) | (with_reducible refine Below.trans ?_ (Below.mono (by assumption) (by first | omega | (simp; done) | (simp; omega))))))

set_option maxHeartbeats 1000000 in
theorem mValid_ok (hv : VM W H n A m B) (hA : CellsIn w ao n A) (hB : CellsIn w bo m B) : Calls Tryd.prog 88 #[.agg #[.int .i64 W, .int .i64 H, .slice (ao) n c, .slice (bo) m d]] w fun e w' => e = .returned (.bool true) ∧ Below w.heap.size w w' := by
  have HV := Lib.hid hv; clear hv
  have HA := Lib.hid hA; clear hA
  have HB := Lib.hid hB; clear hB
  go_enter Tryd.func88, Tryd.ntmps88
  go_wp2_with ((go_at_call 155; (with_reducible refine (both_ok W H ao n c A bo m d B _ HV.out (HA.out.below (by (repeat' (first | (with_reducible exact Below.refl _ _) | (with_reducible refine Below.setCell ?_ (by first | omega | (simp; done) | (simp; omega)) _) | (with_reducible refine Below.alloc ?_ (by first | omega | (simp; done) | (simp; omega)) _) | (with_reducible refine Below.drew ?_) | (with_reducible refine below_drewN ?_ _) | (with_reducible refine Below.trans ?_ (Below.mono (by assumption) (by first | omega | (simp; done) | (simp; omega)))))))) (HB.out.below (by (repeat' (first | (with_reducible exact Below.refl _ _) | (with_reducible refine Below.setCell ?_ (by first | omega | (simp; done) | (simp; omega)) _) | (with_reducible refine Below.alloc ?_ (by first | omega | (simp; done) | (simp; omega)) _) | (with_reducible refine Below.drew ?_) | (with_reducible refine below_drewN ?_ _) | (with_reducible refine Below.trans ?_ (Below.mono (by assumption) (by first | omega | (simp; done) | (simp; omega))))))))).mono ?_); rintro e wp ⟨p, cp, rfl, hp, lop, hb⟩; have Cp := Lib.hid hp; clear hp lop; obtain ⟨hc, hf, hz⟩ := bcall hb; (try simp at hc hf hz)))
  go_ret
  refine ⟨rfl, ?_⟩
  (repeat' (first | (with_reducible exact Below.refl _ _) | (with_reducible refine Below.setCell ?_ (by first | omega | (simp; done) | (simp; omega)) _) | (with_reducible refine Below.alloc ?_ (by first | omega | (simp; done) | (simp; omega)) _) | (with_reducible refine Below.drew ?_) | (with_reducible refine below_drewN ?_ _) | (with_reducible refine Below.trans ?_ (Below.mono (by assumption) (by first | omega | (simp; done) | (simp; omega))))))
set_option maxHeartbeats 1000000 in
theorem mValid_bad (hn : n ≤ 1000000000000) (hv : ¬ VM W H n A m B) (hA : CellsIn w ao n A) (hB : CellsIn w bo m B) : Calls Tryd.prog 88 #[.agg #[.int .i64 W, .int .i64 H, .slice (ao) n c, .slice (bo) m d]] w fun e w' => e = .returned (.bool false) ∧ Below w.heap.size w w' := by
  have HV := Lib.hid hv; clear hv
  have HA := Lib.hid hA; clear hA
  have HB := Lib.hid hB; clear hB
  go_enter Tryd.func88, Tryd.ntmps88
  go_wp2_with ((go_at_call 155; (with_reducible refine (both_bad W H ao n c A bo m d B _ hn HV.out (HA.out.below (by (repeat' (first | (with_reducible exact Below.refl _ _) | (with_reducible refine Below.setCell ?_ (by first | omega | (simp; done) | (simp; omega)) _) | (with_reducible refine Below.alloc ?_ (by first | omega | (simp; done) | (simp; omega)) _) | (with_reducible refine Below.drew ?_) | (with_reducible refine below_drewN ?_ _) | (with_reducible refine Below.trans ?_ (Below.mono (by assumption) (by first | omega | (simp; done) | (simp; omega)))))))) (HB.out.below (by (repeat' (first | (with_reducible exact Below.refl _ _) | (with_reducible refine Below.setCell ?_ (by first | omega | (simp; done) | (simp; omega)) _) | (with_reducible refine Below.alloc ?_ (by first | omega | (simp; done) | (simp; omega)) _) | (with_reducible refine Below.drew ?_) | (with_reducible refine below_drewN ?_ _) | (with_reducible refine Below.trans ?_ (Below.mono (by assumption) (by first | omega | (simp; done) | (simp; omega))))))))).mono ?_); rintro e w1 ⟨rfl, hb⟩; obtain ⟨hc, hf, hz⟩ := bcall hb; (try simp at hc hf hz)))
  go_ret
  refine ⟨rfl, ?_⟩
  (repeat' (first | (with_reducible exact Below.refl _ _) | (with_reducible refine Below.setCell ?_ (by first | omega | (simp; done) | (simp; omega)) _) | (with_reducible refine Below.alloc ?_ (by first | omega | (simp; done) | (simp; omega)) _) | (with_reducible refine Below.drew ?_) | (with_reducible refine below_drewN ?_ _) | (with_reducible refine Below.trans ?_ (Below.mono (by assumption) (by first | omega | (simp; done) | (simp; omega))))))
end
end Go.Proofs.YtglkikdjchpmjaaDoor
