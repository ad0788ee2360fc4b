/- What runs among walls ask for: by both sides, as one answer. -/
import Derived.Test.YtnpmlbhlchoolaaDoorKRefWall
import Derived.Test.YtnpmlbhlchoolaaDoorKRunU
import Derived.Test.YtnpmlbhlchoolaaDoorKRefG5
namespace Go.Proofs.YtnpmlbhlchoolaaDoor
set_option linter.unusedSimpArgs false
set_option linter.unusedVariables false
open Go.RowKit

section
variable (W H : Int) (ao : Option Addr) (n cap : Nat) (G : Nat → Nat → Int) (ak : Option Addr) (nk ck : Nat) (K : Nat → Int) (ab : Option Addr) (nb cb : Nat) (B : Nat → Int) (ro : Option Addr) (len rc : Nat) (R : Nat → Int × Int) (t c : Int) (w : World)

set_option maxHeartbeats 2000000 in
theorem wcheck_ok (v : ∀ wx, Below w.heap.size w wx → Calls Tryd.prog 49 #[.agg #[.int .i64 W, .int .i64 H, .slice (ao) n cap], .agg #[.slice (ak) nk ck, .slice (ab) nb cb]] wx fun e w' => e = .returned (.bool true) ∧ Below wx.heap.size wx w') (r : ∀ wx, Below w.heap.size w wx → Calls Tryd.prog 78 #[.slice ro len rc] wx fun e w' => e = .returned (.bool true) ∧ Below wx.heap.size wx w') (hr : RunOk t c) :
    Calls Tryd.prog 40 #[.agg #[.int .i64 W, .int .i64 H, .slice (ao) n cap], .agg #[.slice (ak) nk ck, .slice (ab) nb cb], .slice ro len rc, .int .i64 t, .int .i64 c] w fun e w' => e = .returned (.int .i64 0) ∧ Below w.heap.size w w' := by
  have V := Lib.hid v; clear v
  have RR := Lib.hid r; clear r
  obtain ⟨t0, t1, c0, c1, ht⟩ := hr
  have h9 : t + c - 1 ≤ 1000000 := by omega
  clear ht
  go_enter Tryd.func40, Tryd.ntmps40
  go_wp2_with (first | (go_at_call 49; (with_reducible refine (V.out _ (by (repeat' (first | (with_reducible exact Below.refl _ _) | (with_reducible refine Below.setCell ?_ (by first | omega | (simp; done) | (simp; omega)) _) | (with_reducible refine Below.alloc ?_ (by first | omega | (simp; done) | (simp; omega)) _) | (with_reducible refine Below.drew ?_) | (with_reducible refine below_drewN ?_ _) | (with_reducible refine Below.trans ?_ (Below.mono (by assumption) (by first | omega | (simp; done) | (simp; omega)))))))).mono ?_); rintro e w1 ⟨rfl, hb⟩; obtain ⟨hc, hf, hz⟩ := bcall hb; (try simp at hc hf hz)) | (go_at_call 78; (with_reducible refine (RR.out _ (by (repeat' (first | (with_reducible exact Below.refl _ _) | (with_reducible refine Below.setCell ?_ (by first | omega | (simp; done) | (simp; omega)) _) | (with_reducible refine Below.alloc ?_ (by first | omega | (simp; done) | (simp; omega)) _) | (with_reducible refine Below.drew ?_) | (with_reducible refine below_drewN ?_ _) | (with_reducible refine Below.trans ?_ (Below.mono (by assumption) (by first | omega | (simp; done) | (simp; omega)))))))).mono ?_); rintro e w1 ⟨rfl, hb⟩; obtain ⟨hc, hf, hz⟩ := bcall hb; (try simp at hc hf hz)))
  go_ret
  refine ⟨rfl, ?_⟩
  (repeat' (first | (with_reducible exact Below.refl _ _) | (with_reducible refine Below.setCell ?_ (by first | omega | (simp; done) | (simp; omega)) _) | (with_reducible refine Below.alloc ?_ (by first | omega | (simp; done) | (simp; omega)) _) | (with_reducible refine Below.drew ?_) | (with_reducible refine below_drewN ?_ _) | (with_reducible refine Below.trans ?_ (Below.mono (by assumption) (by first | omega | (simp; done) | (simp; omega))))))
set_option maxHeartbeats 2000000 in
theorem wcheck_v (v : ∀ wx, Below w.heap.size w wx → Calls Tryd.prog 49 #[.agg #[.int .i64 W, .int .i64 H, .slice (ao) n cap], .agg #[.slice (ak) nk ck, .slice (ab) nb cb]] wx fun e w' => e = .returned (.bool false) ∧ Below wx.heap.size wx w') :
    Calls Tryd.prog 40 #[.agg #[.int .i64 W, .int .i64 H, .slice (ao) n cap], .agg #[.slice (ak) nk ck, .slice (ab) nb cb], .slice ro len rc, .int .i64 t, .int .i64 c] w fun e w' => e = .returned (.int .i64 1) ∧ Below w.heap.size w w' := by
  have V := Lib.hid v; clear v
  go_enter Tryd.func40, Tryd.ntmps40
  go_wp2_with (first | (go_at_call 49; (with_reducible refine (V.out _ (by (repeat' (first | (with_reducible exact Below.refl _ _) | (with_reducible refine Below.setCell ?_ (by first | omega | (simp; done) | (simp; omega)) _) | (with_reducible refine Below.alloc ?_ (by first | omega | (simp; done) | (simp; omega)) _) | (with_reducible refine Below.drew ?_) | (with_reducible refine below_drewN ?_ _) | (with_reducible refine Below.trans ?_ (Below.mono (by assumption) (by first | omega | (simp; done) | (simp; omega)))))))).mono ?_); rintro e w1 ⟨rfl, hb⟩; obtain ⟨hc, hf, hz⟩ := bcall hb; (try simp at hc hf hz)))
  go_ret
  refine ⟨rfl, ?_⟩
  (repeat' (first | (with_reducible exact Below.refl _ _) | (with_reducible refine Below.setCell ?_ (by first | omega | (simp; done) | (simp; omega)) _) | (with_reducible refine Below.alloc ?_ (by first | omega | (simp; done) | (simp; omega)) _) | (with_reducible refine Below.drew ?_) | (with_reducible refine below_drewN ?_ _) | (with_reducible refine Below.trans ?_ (Below.mono (by assumption) (by first | omega | (simp; done) | (simp; omega))))))
set_option maxHeartbeats 2000000 in
theorem wcheck_r (v : ∀ wx, Below w.heap.size w wx → Calls Tryd.prog 49 #[.agg #[.int .i64 W, .int .i64 H, .slice (ao) n cap], .agg #[.slice (ak) nk ck, .slice (ab) nb cb]] wx fun e w' => e = .returned (.bool true) ∧ Below wx.heap.size wx w') (r : ∀ wx, Below w.heap.size w wx → Calls Tryd.prog 78 #[.slice ro len rc] wx fun e w' => e = .returned (.bool false) ∧ Below wx.heap.size wx w') :
    Calls Tryd.prog 40 #[.agg #[.int .i64 W, .int .i64 H, .slice (ao) n cap], .agg #[.slice (ak) nk ck, .slice (ab) nb cb], .slice ro len rc, .int .i64 t, .int .i64 c] w fun e w' => e = .returned (.int .i64 1) ∧ Below w.heap.size w w' := by
  have V := Lib.hid v; clear v
  have RR := Lib.hid r; clear r
  go_enter Tryd.func40, Tryd.ntmps40
  go_wp2_with (first | (go_at_call 49; (with_reducible refine (V.out _ (by (repeat' (first | (with_reducible exact Below.refl _ _) | (with_reducible refine Below.setCell ?_ (by first | omega | (simp; done) | (simp; omega)) _) | (with_reducible refine Below.alloc ?_ (by first | omega | (simp; done) | (simp; omega)) _) | (with_reducible refine Below.drew ?_) | (with_reducible refine below_drewN ?_ _) | (with_reducible refine Below.trans ?_ (Below.mono (by assumption) (by first | omega | (simp; done) | (simp; omega)))))))).mono ?_); rintro e w1 ⟨rfl, hb⟩; obtain ⟨hc, hf, hz⟩ := bcall hb; (try simp at hc hf hz)) | (go_at_call 78; (with_reducible refine (RR.out _ (by (repeat' (first | (with_reducible exact Below.refl _ _) | (with_reducible refine Below.setCell ?_ (by first | omega | (simp; done) | (simp; omega)) _) | (with_reducible refine Below.alloc ?_ (by first | omega | (simp; done) | (simp; omega)) _) | (with_reducible refine Below.drew ?_) | (with_reducible refine below_drewN ?_ _) | (with_reducible refine Below.trans ?_ (Below.mono (by assumption) (by first | omega | (simp; done) | (simp; omega)))))))).mono ?_); rintro e w1 ⟨rfl, hb⟩; obtain ⟨hc, hf, hz⟩ := bcall hb; (try simp at hc hf hz)))
  go_ret
  refine ⟨rfl, ?_⟩
  (repeat' (first | (with_reducible exact Below.refl _ _) | (with_reducible refine Below.setCell ?_ (by first | omega | (simp; done) | (simp; omega)) _) | (with_reducible refine Below.alloc ?_ (by first | omega | (simp; done) | (simp; omega)) _) | (with_reducible refine Below.drew ?_) | (with_reducible refine below_drewN ?_ _) | (with_reducible refine Below.trans ?_ (Below.mono (by assumption) (by first | omega | (simp; done) | (simp; omega))))))
set_option maxHeartbeats 4000000 in
theorem wcheck_t (v : ∀ wx, Below w.heap.size w wx → Calls Tryd.prog 49 #[.agg #[.int .i64 W, .int .i64 H, .slice (ao) n cap], .agg #[.slice (ak) nk ck, .slice (ab) nb cb]] wx fun e w' => e = .returned (.bool true) ∧ Below wx.heap.size wx w') (r : ∀ wx, Below w.heap.size w wx → Calls Tryd.prog 78 #[.slice ro len rc] wx fun e w' => e = .returned (.bool true) ∧ Below wx.heap.size wx w') (hr : ¬ RunOk t c) :
    Calls Tryd.prog 40 #[.agg #[.int .i64 W, .int .i64 H, .slice (ao) n cap], .agg #[.slice (ak) nk ck, .slice (ab) nb cb], .slice ro len rc, .int .i64 t, .int .i64 c] w fun e w' => e = .returned (.int .i64 7) ∧ Below w.heap.size w w' := by
  have V := Lib.hid v; clear v
  have RR := Lib.hid r; clear r
  have h : t < 0 ∨ (0 ≤ t ∧ 1000000 < t) ∨ (0 ≤ t ∧ t ≤ 1000000 ∧ c < 0) ∨ (0 ≤ t ∧ t ≤ 1000000 ∧ 0 ≤ c ∧ 1000 < c) ∨ (0 ≤ t ∧ t ≤ 1000000 ∧ 0 < c ∧ c ≤ 1000 ∧ 1000000 < t + c - 1) := by
    unfold RunOk at hr
    omega
  clear hr
  rcases h with h | ⟨h1, h2⟩ | ⟨h1, h2, h3⟩ | ⟨h1, h2, h3, h4⟩ | ⟨h1, h2, h3, h4, h5⟩
  all_goals
    go_enter Tryd.func40, Tryd.ntmps40
    go_wp2_with (first | (go_at_call 49; (with_reducible refine (V.out _ (by (repeat' (first | (with_reducible exact Below.refl _ _) | (with_reducible refine Below.setCell ?_ (by first | omega | (simp; done) | (simp; omega)) _) | (with_reducible refine Below.alloc ?_ (by first | omega | (simp; done) | (simp; omega)) _) | (with_reducible refine Below.drew ?_) | (with_reducible refine below_drewN ?_ _) | (with_reducible refine Below.trans ?_ (Below.mono (by assumption) (by first | omega | (simp; done) | (simp; omega)))))))).mono ?_); rintro e w1 ⟨rfl, hb⟩; obtain ⟨hc, hf, hz⟩ := bcall hb; (try simp at hc hf hz)) | (go_at_call 78; (with_reducible refine (RR.out _ (by (repeat' (first | (with_reducible exact Below.refl _ _) | (with_reducible refine Below.setCell ?_ (by first | omega | (simp; done) | (simp; omega)) _) | (with_reducible refine Below.alloc ?_ (by first | omega | (simp; done) | (simp; omega)) _) | (with_reducible refine Below.drew ?_) | (with_reducible refine below_drewN ?_ _) | (with_reducible refine Below.trans ?_ (Below.mono (by assumption) (by first | omega | (simp; done) | (simp; omega)))))))).mono ?_); rintro e w1 ⟨rfl, hb⟩; obtain ⟨hc, hf, hz⟩ := bcall hb; (try simp at hc hf hz)))
    go_ret
    refine ⟨rfl, ?_⟩
    (repeat' (first | (with_reducible exact Below.refl _ _) | (with_reducible refine Below.setCell ?_ (by first | omega | (simp; done) | (simp; omega)) _) | (with_reducible refine Below.alloc ?_ (by first | omega | (simp; done) | (simp; omega)) _) | (with_reducible refine Below.drew ?_) | (with_reducible refine below_drewN ?_ _) | (with_reducible refine Below.trans ?_ (Below.mono (by assumption) (by first | omega | (simp; done) | (simp; omega))))))

set_option maxHeartbeats 2000000 in
theorem rwcheck_ok (v : ∀ wx, Below w.heap.size w wx → Calls Tryd.prog 57 #[.agg #[.int .i64 W, .int .i64 H, .slice (ao) n cap], .agg #[.slice (ak) nk ck, .slice (ab) nb cb]] wx fun e w' => e = .returned (.bool true) ∧ Below wx.heap.size wx w') (r : ∀ wx, Below w.heap.size w wx → Calls Tryd.prog 72 #[.slice ro len rc] wx fun e w' => e = .returned (.bool true) ∧ Below wx.heap.size wx w') (hr : RunOk t c) :
    Calls Tryd.prog 35 #[.agg #[.int .i64 W, .int .i64 H, .slice (ao) n cap], .agg #[.slice (ak) nk ck, .slice (ab) nb cb], .slice ro len rc, .int .i64 t, .int .i64 c] w fun e w' => e = .returned (.int .i64 0) ∧ Below w.heap.size w w' := by
  have V := Lib.hid v; clear v
  have RR := Lib.hid r; clear r
  have HN := Lib.hid hr; clear hr
  go_enter Tryd.func35, Tryd.ntmps35
  go_wp2_with (first | (go_at_call 57; (with_reducible refine (V.out _ (by (repeat' (first | (with_reducible exact Below.refl _ _) | (with_reducible refine Below.setCell ?_ (by first | omega | (simp; done) | (simp; omega)) _) | (with_reducible refine Below.alloc ?_ (by first | omega | (simp; done) | (simp; omega)) _) | (with_reducible refine Below.drew ?_) | (with_reducible refine below_drewN ?_ _) | (with_reducible refine Below.trans ?_ (Below.mono (by assumption) (by first | omega | (simp; done) | (simp; omega)))))))).mono ?_); rintro e w1 ⟨rfl, hb⟩; obtain ⟨hc, hf, hz⟩ := bcall hb; (try simp at hc hf hz)) | (go_at_call 72; (with_reducible refine (RR.out _ (by (repeat' (first | (with_reducible exact Below.refl _ _) | (with_reducible refine Below.setCell ?_ (by first | omega | (simp; done) | (simp; omega)) _) | (with_reducible refine Below.alloc ?_ (by first | omega | (simp; done) | (simp; omega)) _) | (with_reducible refine Below.drew ?_) | (with_reducible refine below_drewN ?_ _) | (with_reducible refine Below.trans ?_ (Below.mono (by assumption) (by first | omega | (simp; done) | (simp; omega)))))))).mono ?_); rintro e w1 ⟨rfl, hb⟩; obtain ⟨hc, hf, hz⟩ := bcall hb; (try simp at hc hf hz)) | (go_at_call 73; (with_reducible refine (times_yes _ _ _ HN.out).mono ?_); rintro e w1 ⟨rfl, rfl⟩))
  go_ret
  refine ⟨rfl, ?_⟩
  (repeat' (first | (with_reducible exact Below.refl _ _) | (with_reducible refine Below.setCell ?_ (by first | omega | (simp; done) | (simp; omega)) _) | (with_reducible refine Below.alloc ?_ (by first | omega | (simp; done) | (simp; omega)) _) | (with_reducible refine Below.drew ?_) | (with_reducible refine below_drewN ?_ _) | (with_reducible refine Below.trans ?_ (Below.mono (by assumption) (by first | omega | (simp; done) | (simp; omega))))))
set_option maxHeartbeats 2000000 in
theorem rwcheck_v (v : ∀ wx, Below w.heap.size w wx → Calls Tryd.prog 57 #[.agg #[.int .i64 W, .int .i64 H, .slice (ao) n cap], .agg #[.slice (ak) nk ck, .slice (ab) nb cb]] wx fun e w' => e = .returned (.bool false) ∧ Below wx.heap.size wx w') :
    Calls Tryd.prog 35 #[.agg #[.int .i64 W, .int .i64 H, .slice (ao) n cap], .agg #[.slice (ak) nk ck, .slice (ab) nb cb], .slice ro len rc, .int .i64 t, .int .i64 c] w fun e w' => e = .returned (.int .i64 1) ∧ Below w.heap.size w w' := by
  have V := Lib.hid v; clear v
  go_enter Tryd.func35, Tryd.ntmps35
  go_wp2_with (first | (go_at_call 57; (with_reducible refine (V.out _ (by (repeat' (first | (with_reducible exact Below.refl _ _) | (with_reducible refine Below.setCell ?_ (by first | omega | (simp; done) | (simp; omega)) _) | (with_reducible refine Below.alloc ?_ (by first | omega | (simp; done) | (simp; omega)) _) | (with_reducible refine Below.drew ?_) | (with_reducible refine below_drewN ?_ _) | (with_reducible refine Below.trans ?_ (Below.mono (by assumption) (by first | omega | (simp; done) | (simp; omega)))))))).mono ?_); rintro e w1 ⟨rfl, hb⟩; obtain ⟨hc, hf, hz⟩ := bcall hb; (try simp at hc hf hz)))
  go_ret
  refine ⟨rfl, ?_⟩
  (repeat' (first | (with_reducible exact Below.refl _ _) | (with_reducible refine Below.setCell ?_ (by first | omega | (simp; done) | (simp; omega)) _) | (with_reducible refine Below.alloc ?_ (by first | omega | (simp; done) | (simp; omega)) _) | (with_reducible refine Below.drew ?_) | (with_reducible refine below_drewN ?_ _) | (with_reducible refine Below.trans ?_ (Below.mono (by assumption) (by first | omega | (simp; done) | (simp; omega))))))
set_option maxHeartbeats 2000000 in
theorem rwcheck_r (v : ∀ wx, Below w.heap.size w wx → Calls Tryd.prog 57 #[.agg #[.int .i64 W, .int .i64 H, .slice (ao) n cap], .agg #[.slice (ak) nk ck, .slice (ab) nb cb]] wx fun e w' => e = .returned (.bool true) ∧ Below wx.heap.size wx w') (r : ∀ wx, Below w.heap.size w wx → Calls Tryd.prog 72 #[.slice ro len rc] wx fun e w' => e = .returned (.bool false) ∧ Below wx.heap.size wx w') :
    Calls Tryd.prog 35 #[.agg #[.int .i64 W, .int .i64 H, .slice (ao) n cap], .agg #[.slice (ak) nk ck, .slice (ab) nb cb], .slice ro len rc, .int .i64 t, .int .i64 c] w fun e w' => e = .returned (.int .i64 1) ∧ Below w.heap.size w w' := by
  have V := Lib.hid v; clear v
  have RR := Lib.hid r; clear r
  go_enter Tryd.func35, Tryd.ntmps35
  go_wp2_with (first | (go_at_call 57; (with_reducible refine (V.out _ (by (repeat' (first | (with_reducible exact Below.refl _ _) | (with_reducible refine Below.setCell ?_ (by first | omega | (simp; done) | (simp; omega)) _) | (with_reducible refine Below.alloc ?_ (by first | omega | (simp; done) | (simp; omega)) _) | (with_reducible refine Below.drew ?_) | (with_reducible refine below_drewN ?_ _) | (with_reducible refine Below.trans ?_ (Below.mono (by assumption) (by first | omega | (simp; done) | (simp; omega)))))))).mono ?_); rintro e w1 ⟨rfl, hb⟩; obtain ⟨hc, hf, hz⟩ := bcall hb; (try simp at hc hf hz)) | (go_at_call 72; (with_reducible refine (RR.out _ (by (repeat' (first | (with_reducible exact Below.refl _ _) | (with_reducible refine Below.setCell ?_ (by first | omega | (simp; done) | (simp; omega)) _) | (with_reducible refine Below.alloc ?_ (by first | omega | (simp; done) | (simp; omega)) _) | (with_reducible refine Below.drew ?_) | (with_reducible refine below_drewN ?_ _) | (with_reducible refine Below.trans ?_ (Below.mono (by assumption) (by first | omega | (simp; done) | (simp; omega)))))))).mono ?_); rintro e w1 ⟨rfl, hb⟩; obtain ⟨hc, hf, hz⟩ := bcall hb; (try simp at hc hf hz)))
  go_ret
  refine ⟨rfl, ?_⟩
  (repeat' (first | (with_reducible exact Below.refl _ _) | (with_reducible refine Below.setCell ?_ (by first | omega | (simp; done) | (simp; omega)) _) | (with_reducible refine Below.alloc ?_ (by first | omega | (simp; done) | (simp; omega)) _) | (with_reducible refine Below.drew ?_) | (with_reducible refine below_drewN ?_ _) | (with_reducible refine Below.trans ?_ (Below.mono (by assumption) (by first | omega | (simp; done) | (simp; omega))))))
set_option maxHeartbeats 2000000 in
theorem rwcheck_t (v : ∀ wx, Below w.heap.size w wx → Calls Tryd.prog 57 #[.agg #[.int .i64 W, .int .i64 H, .slice (ao) n cap], .agg #[.slice (ak) nk ck, .slice (ab) nb cb]] wx fun e w' => e = .returned (.bool true) ∧ Below wx.heap.size wx w') (r : ∀ wx, Below w.heap.size w wx → Calls Tryd.prog 72 #[.slice ro len rc] wx fun e w' => e = .returned (.bool true) ∧ Below wx.heap.size wx w') (hr : ¬ RunOk t c) :
    Calls Tryd.prog 35 #[.agg #[.int .i64 W, .int .i64 H, .slice (ao) n cap], .agg #[.slice (ak) nk ck, .slice (ab) nb cb], .slice ro len rc, .int .i64 t, .int .i64 c] w fun e w' => e = .returned (.int .i64 7) ∧ Below w.heap.size w w' := by
  have V := Lib.hid v; clear v
  have RR := Lib.hid r; clear r
  have HN := Lib.hid hr; clear hr
  go_enter Tryd.func35, Tryd.ntmps35
  go_wp2_with (first | (go_at_call 57; (with_reducible refine (V.out _ (by (repeat' (first | (with_reducible exact Below.refl _ _) | (with_reducible refine Below.setCell ?_ (by first | omega | (simp; done) | (simp; omega)) _) | (with_reducible refine Below.alloc ?_ (by first | omega | (simp; done) | (simp; omega)) _) | (with_reducible refine Below.drew ?_) | (with_reducible refine below_drewN ?_ _) | (with_reducible refine Below.trans ?_ (Below.mono (by assumption) (by first | omega | (simp; done) | (simp; omega)))))))).mono ?_); rintro e w1 ⟨rfl, hb⟩; obtain ⟨hc, hf, hz⟩ := bcall hb; (try simp at hc hf hz)) | (go_at_call 72; (with_reducible refine (RR.out _ (by (repeat' (first | (with_reducible exact Below.refl _ _) | (with_reducible refine Below.setCell ?_ (by first | omega | (simp; done) | (simp; omega)) _) | (with_reducible refine Below.alloc ?_ (by first | omega | (simp; done) | (simp; omega)) _) | (with_reducible refine Below.drew ?_) | (with_reducible refine below_drewN ?_ _) | (with_reducible refine Below.trans ?_ (Below.mono (by assumption) (by first | omega | (simp; done) | (simp; omega)))))))).mono ?_); rintro e w1 ⟨rfl, hb⟩; obtain ⟨hc, hf, hz⟩ := bcall hb; (try simp at hc hf hz)) | (go_at_call 73; (with_reducible refine (times_no _ _ _ HN.out).mono ?_); rintro e w1 ⟨rfl, rfl⟩))
  go_ret
  refine ⟨rfl, ?_⟩
  (repeat' (first | (with_reducible exact Below.refl _ _) | (with_reducible refine Below.setCell ?_ (by first | omega | (simp; done) | (simp; omega)) _) | (with_reducible refine Below.alloc ?_ (by first | omega | (simp; done) | (simp; omega)) _) | (with_reducible refine Below.drew ?_) | (with_reducible refine below_drewN ?_ _) | (with_reducible refine Below.trans ?_ (Below.mono (by assumption) (by first | omega | (simp; done) | (simp; omega))))))

/-- What a run among walls asks for. -/
def WOk (W H : Int) (n : Nat) (G : Nat → Nat → Int) (nk : Nat) (K : Nat → Int) (nb : Nat) (B : Nat → Int) (len : Nat) (R : Nat → Int × Int) (t c : Int) : Prop := WV W H n G nk K nb B ∧ OkRs len R ∧ RunOk t c
theorem wcheck_both (hm : len ≤ 1000000000000) :
    ∃ z : Int, (z = 0 ↔ WOk W H n G nk K nb B len R t c) ∧ (∀ w, CellsIn w ao n G → NumsIn w ak nk K → NumsIn w ab nb B → RulesIn w ro len R → Calls Tryd.prog 40 #[.agg #[.int .i64 W, .int .i64 H, .slice (ao) n cap], .agg #[.slice (ak) nk ck, .slice (ab) nb cb], .slice ro len rc, .int .i64 t, .int .i64 c] w fun e w' => e = .returned (.int .i64 z) ∧ Below w.heap.size w w') ∧
      (∀ w, CellsIn w ao n G → NumsIn w ak nk K → NumsIn w ab nb B → RulesIn w ro len R → Calls Tryd.prog 35 #[.agg #[.int .i64 W, .int .i64 H, .slice (ao) n cap], .agg #[.slice (ak) nk ck, .slice (ab) nb cb], .slice ro len rc, .int .i64 t, .int .i64 c] w fun e w' => e = .returned (.int .i64 z) ∧ Below w.heap.size w w') := by
  by_cases h1 : WV W H n G nk K nb B
  · by_cases h2 : OkRs len R
    · by_cases h3 : RunOk t c
      · exact ⟨0, ⟨fun _ => ⟨h1, h2, h3⟩, fun _ => rfl⟩, fun w hG hK hB hR => wcheck_ok W H ao n cap ak nk ck ab nb cb ro len rc t c w (fun wx hb => wValid_yes W H ao n cap G ak nk ck K ab nb cb B wx h1 (hG.below hb) (hK.below hb) (hB.below hb)) (fun wx hb => validRules_ok ro len rc R wx hm (hR.below hb) h2) h3,
          fun w hG hK hB hR => rwcheck_ok W H ao n cap ak nk ck ab nb cb ro len rc t c w (fun wx hb => rwValid_yes W H ao n cap G ak nk ck K ab nb cb B wx h1 (hG.below hb) (hK.below hb) (hB.below hb)) (fun wx hb => refValidRulesI_ok ro len rc R wx (hR.below hb) h2) h3⟩
      · exact ⟨7, ⟨fun h => by omega, fun h => absurd h.2.2 h3⟩, fun w hG hK hB hR => wcheck_t W H ao n cap ak nk ck ab nb cb ro len rc t c w (fun wx hb => wValid_yes W H ao n cap G ak nk ck K ab nb cb B wx h1 (hG.below hb) (hK.below hb) (hB.below hb)) (fun wx hb => validRules_ok ro len rc R wx hm (hR.below hb) h2) h3,
          fun w hG hK hB hR => rwcheck_t W H ao n cap ak nk ck ab nb cb ro len rc t c w (fun wx hb => rwValid_yes W H ao n cap G ak nk ck K ab nb cb B wx h1 (hG.below hb) (hK.below hb) (hB.below hb)) (fun wx hb => refValidRulesI_ok ro len rc R wx (hR.below hb) h2) h3⟩
    · exact ⟨1, ⟨fun h => by omega, fun h => absurd h.2.1 h2⟩, fun w hG hK hB hR => wcheck_r W H ao n cap ak nk ck ab nb cb ro len rc t c w (fun wx hb => wValid_yes W H ao n cap G ak nk ck K ab nb cb B wx h1 (hG.below hb) (hK.below hb) (hB.below hb)) (fun wx hb => validRules_bad ro len rc R wx hm (hR.below hb) h2),
        fun w hG hK hB hR => rwcheck_r W H ao n cap ak nk ck ab nb cb ro len rc t c w (fun wx hb => rwValid_yes W H ao n cap G ak nk ck K ab nb cb B wx h1 (hG.below hb) (hK.below hb) (hB.below hb)) (fun wx hb => refValidRules_bad ro len rc R wx hm (hR.below hb) h2)⟩
  · exact ⟨1, ⟨fun h => by omega, fun h => absurd h.1 h1⟩, fun w hG hK hB hR => wcheck_v W H ao n cap ak nk ck ab nb cb ro len rc t c w (fun wx hb => wValid_no W H ao n cap G ak nk ck K ab nb cb B wx h1 (hG.below hb) (hK.below hb) (hB.below hb)),
      fun w hG hK hB hR => rwcheck_v W H ao n cap ak nk ck ab nb cb ro len rc t c w (fun wx hb => rwValid_no W H ao n cap G ak nk ck K ab nb cb B wx h1 (hG.below hb) (hK.below hb) (hB.below hb))⟩
end
end Go.Proofs.YtnpmlbhlchoolaaDoor
