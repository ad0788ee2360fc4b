/- The blocks' cells and their sums: by the reference of the fields. -/
import Derived.Test.YtmpfchgampiohaaDoorKFJoin
import Derived.Test.YtmpfchgampiohaaDoorKRefG4
import Derived.Test.YtmpfchgampiohaaDoorKOwnC
import Derived.Test.YtmpfchgampiohaaDoorKFSums
import Derived.Laws.AppendOwn
import Derived.BigQuiet
namespace Go.Proofs.YtmpfchgampiohaaDoor
set_option linter.unusedSimpArgs false
set_option linter.unusedVariables false
open Go.RowKit Go.Shelf
attribute [local go_sem] Oper.semAt_some

section
variable (n lo hi : Int) (w : World)
set_option maxHeartbeats 1000000 in
theorem r6within_yes (h1 : lo ≤ n) (h2 : n ≤ hi) : Calls Tryd.prog 127 #[.int .i64 n, .int .i64 lo, .int .i64 hi] w fun e w' => e = .returned (.bool true) ∧ Below w.heap.size w w' := by
  go_enter Tryd.func127, Tryd.ntmps127
  go_wp2
  go_ret
  refine ⟨by simp [h1, h2], ?_⟩
  (repeat' (first | (with_reducible exact Below.refl _ _) | (with_reducible refine Below.setCell ?_ (by first | omega | (simp; done) | (simp; omega)) _) | (with_reducible refine Below.alloc ?_ (by first | omega | (simp; done) | (simp; omega)) _) | (with_reducible refine Below.drew ?_) | (with_reducible refine below_drewN ?_ _) | (with_reducible refine Below.trans ?_ (Below.mono (by assumption) (by first | omega | (simp; done) | (simp; omega))))))
set_option maxHeartbeats 1000000 in
theorem r6within_no (h : n < lo ∨ hi < n) : Calls Tryd.prog 127 #[.int .i64 n, .int .i64 lo, .int .i64 hi] w fun e w' => e = .returned (.bool false) ∧ Below w.heap.size w w' := by
  by_cases h1 : lo ≤ n
  · have h2 : ¬ n ≤ hi := by omega
    have d2 : decide (n ≤ hi) = false := decide_eq_false h2
    clear h
    go_enter Tryd.func127, Tryd.ntmps127
    go_wp2
    go_ret
    refine ⟨by simp [d2], ?_⟩
    (repeat' (first | (with_reducible exact Below.refl _ _) | (with_reducible refine Below.setCell ?_ (by first | omega | (simp; done) | (simp; omega)) _) | (with_reducible refine Below.alloc ?_ (by first | omega | (simp; done) | (simp; omega)) _) | (with_reducible refine Below.drew ?_) | (with_reducible refine below_drewN ?_ _) | (with_reducible refine Below.trans ?_ (Below.mono (by assumption) (by first | omega | (simp; done) | (simp; omega))))))
  · have d1 : decide (lo ≤ n) = false := decide_eq_false h1
    clear h
    go_enter Tryd.func127, Tryd.ntmps127
    go_wp2
    go_ret
    refine ⟨by simp, ?_⟩
    (repeat' (first | (with_reducible exact Below.refl _ _) | (with_reducible refine Below.setCell ?_ (by first | omega | (simp; done) | (simp; omega)) _) | (with_reducible refine Below.alloc ?_ (by first | omega | (simp; done) | (simp; omega)) _) | (with_reducible refine Below.drew ?_) | (with_reducible refine below_drewN ?_ _) | (with_reducible refine Below.trans ?_ (Below.mono (by assumption) (by first | omega | (simp; done) | (simp; omega))))))
end
section
variable (W H x y : Int) (ao : Option Addr) (n cap : Nat) (w : World) (hs : Sd W H)
include hs
set_option maxHeartbeats 2000000 in
theorem r6on_yes (h : OnG W H x y) : Calls Tryd.prog 108 #[.agg #[.int .i64 W, .int .i64 H, .slice (ao) n cap], .agg #[.int .i64 x, .int .i64 y]] w fun e w' => e = .returned (.bool true) ∧ Below w.heap.size w w' := by
  obtain ⟨⟨h1, h2⟩, h3, h4⟩ := h
  obtain ⟨s1, s2, s3, s4, s5⟩ := hs
  have e1 : IntKind.i64.wrap (W - 1) = W - 1 := IntWalk.i64_in _ ⟨by omega, by omega⟩
  have e2 : IntKind.i64.wrap (H - 1) = H - 1 := IntWalk.i64_in _ ⟨by omega, by omega⟩
  have A := Lib.hid (fun wx => r6within_yes x 0 (W - 1) wx h1 (by omega))
  have B := Lib.hid (fun wx => r6within_yes y 0 (H - 1) wx h3 (by omega))
  clear h1 h2 h3 h4
  go_enter Tryd.func108, Tryd.ntmps108
  go_wp2_with (first | (go_at_call 127; (with_reducible refine (A.out _).mono ?_); rintro e w1 ⟨rfl, hb⟩; obtain ⟨hc, hf, hz⟩ := bcall hb; (try simp at hc hf hz)) | (go_at_call 127; (with_reducible refine (B.out _).mono ?_); rintro e w1 ⟨rfl, hb⟩; obtain ⟨hc, hf, hz⟩ := bcall hb; (try simp at hc hf hz)))
  go_ret
  refine ⟨by simp, ?_⟩
  (repeat' (first | (with_reducible exact Below.refl _ _) | (with_reducible refine Below.setCell ?_ (by first | omega | (simp; done) | (simp; omega)) _) | (with_reducible refine Below.alloc ?_ (by first | omega | (simp; done) | (simp; omega)) _) | (with_reducible refine Below.drew ?_) | (with_reducible refine below_drewN ?_ _) | (with_reducible refine Below.trans ?_ (Below.mono (by assumption) (by first | omega | (simp; done) | (simp; omega))))))
set_option maxHeartbeats 2000000 in
theorem r6on_no (h : ¬ OnG W H x y) : Calls Tryd.prog 108 #[.agg #[.int .i64 W, .int .i64 H, .slice (ao) n cap], .agg #[.int .i64 x, .int .i64 y]] w fun e w' => e = .returned (.bool false) ∧ Below w.heap.size w w' := by
  unfold OnG at h
  obtain ⟨s1, s2, s3, s4, s5⟩ := hs
  have e1 : IntKind.i64.wrap (W - 1) = W - 1 := IntWalk.i64_in _ ⟨by omega, by omega⟩
  have e2 : IntKind.i64.wrap (H - 1) = H - 1 := IntWalk.i64_in _ ⟨by omega, by omega⟩
  by_cases h1 : 0 ≤ x ∧ x < W
  · have A := Lib.hid (fun wx => r6within_yes x 0 (W - 1) wx h1.1 (by omega))
    have B := Lib.hid (fun wx => r6within_no y 0 (H - 1) wx (by omega))
    clear h h1
    go_enter Tryd.func108, Tryd.ntmps108
    go_wp2_with (first | (go_at_call 127; (with_reducible refine (A.out _).mono ?_); rintro e w1 ⟨rfl, hb⟩; obtain ⟨hc, hf, hz⟩ := bcall hb; (try simp at hc hf hz)) | (go_at_call 127; (with_reducible refine (B.out _).mono ?_); rintro e w1 ⟨rfl, hb⟩; obtain ⟨hc, hf, hz⟩ := bcall hb; (try simp at hc hf hz)))
    go_ret
    refine ⟨by simp, ?_⟩
    (repeat' (first | (with_reducible exact Below.refl _ _) | (with_reducible refine Below.setCell ?_ (by first | omega | (simp; done) | (simp; omega)) _) | (with_reducible refine Below.alloc ?_ (by first | omega | (simp; done) | (simp; omega)) _) | (with_reducible refine Below.drew ?_) | (with_reducible refine below_drewN ?_ _) | (with_reducible refine Below.trans ?_ (Below.mono (by assumption) (by first | omega | (simp; done) | (simp; omega))))))
  · have A := Lib.hid (fun wx => r6within_no x 0 (W - 1) wx (by omega))
    clear h h1
    go_enter Tryd.func108, Tryd.ntmps108
    go_wp2_with (go_at_call 127; (with_reducible refine (A.out _).mono ?_); rintro e w1 ⟨rfl, hb⟩; obtain ⟨hc, hf, hz⟩ := bcall hb; (try simp at hc hf hz))
    go_ret
    refine ⟨by simp, ?_⟩
    (repeat' (first | (with_reducible exact Below.refl _ _) | (with_reducible refine Below.setCell ?_ (by first | omega | (simp; done) | (simp; omega)) _) | (with_reducible refine Below.alloc ?_ (by first | omega | (simp; done) | (simp; omega)) _) | (with_reducible refine Below.drew ?_) | (with_reducible refine below_drewN ?_ _) | (with_reducible refine Below.trans ?_ (Below.mono (by assumption) (by first | omega | (simp; done) | (simp; omega))))))
end
section
variable (W H : Int) (ao : Option Addr) (n cap : Nat) (G : Nat → Nat → Int) (ax ay bx yb : Int) (w : World) (hG : CellsIn w ao n G)
include hG
set_option maxRecDepth 100000 in
set_option maxHeartbeats 4000000 in
theorem rblocked_bad (hv : ¬ VG W H n G) : Calls Tryd.prog 69 #[.agg #[.int .i64 W, .int .i64 H, .slice (ao) n cap], .agg #[.int .i64 ax, .int .i64 ay], .agg #[.int .i64 bx, .int .i64 yb]] w fun e w' => e = .returned (.int .i64 1) ∧ Below w.heap.size w w' := by
  have HV := Lib.hid hv
  have HC := Lib.hid hG
  clear hv hG
  go_enter Tryd.func69, Tryd.ntmps69
  go_wp2_with (go_at_call 10; (with_reducible refine (rValid_bad W H ao n cap G _ HV.out (HC.out.below (by (repeat' (first | (with_reducible exact Below.refl _ _) | (with_reducible refine Below.setCell ?_ (by first | omega | (simp; done) | (simp; omega)) _) | (with_reducible refine Below.alloc ?_ (by first | omega | (simp; done) | (simp; omega)) _) | (with_reducible refine Below.drew ?_) | (with_reducible refine below_drewN ?_ _) | (with_reducible refine Below.trans ?_ (Below.mono (by assumption) (by first | omega | (simp; done) | (simp; omega))))))))).mono ?_); rintro e w1 ⟨rfl, hb⟩; obtain ⟨hc, hf, hz⟩ := bcall hb; (try simp at hc hf hz))
  go_ret
  refine ⟨rfl, ?_⟩
  (repeat' (first | (with_reducible exact Below.refl _ _) | (with_reducible refine Below.setCell ?_ (by first | omega | (simp; done) | (simp; omega)) _) | (with_reducible refine Below.alloc ?_ (by first | omega | (simp; done) | (simp; omega)) _) | (with_reducible refine Below.drew ?_) | (with_reducible refine below_drewN ?_ _) | (with_reducible refine Below.trans ?_ (Below.mono (by assumption) (by first | omega | (simp; done) | (simp; omega))))))
set_option maxRecDepth 100000 in
set_option maxHeartbeats 4000000 in
theorem rblocked_ok (hv : VG W H n G) (h : BlkOk W H ax ay bx yb) : Calls Tryd.prog 69 #[.agg #[.int .i64 W, .int .i64 H, .slice (ao) n cap], .agg #[.int .i64 ax, .int .i64 ay], .agg #[.int .i64 bx, .int .i64 yb]] w fun e w' => e = .returned (.int .i64 0) ∧ Below w.heap.size w w' := by
  obtain ⟨⟨h0, h1⟩, h2, h3⟩ := h
  have HV := Lib.hid hv
  have HC := Lib.hid hG
  have A := Lib.hid (fun wx => r6on_yes W H ax ay ao n cap wx hv.1 h0)
  have B := Lib.hid (fun wx => r6on_yes W H bx yb ao n cap wx hv.1 h1)
  clear hv hG h0 h1
  go_enter Tryd.func69, Tryd.ntmps69
  go_wp2_with (first | (go_at_call 10; (with_reducible refine (rValid_ok W H ao n cap G _ HV.out (HC.out.below (by (repeat' (first | (with_reducible exact Below.refl _ _) | (with_reducible refine Below.setCell ?_ (by first | omega | (simp; done) | (simp; omega)) _) | (with_reducible refine Below.alloc ?_ (by first | omega | (simp; done) | (simp; omega)) _) | (with_reducible refine Below.drew ?_) | (with_reducible refine below_drewN ?_ _) | (with_reducible refine Below.trans ?_ (Below.mono (by assumption) (by first | omega | (simp; done) | (simp; omega))))))))).mono ?_); rintro e w1 ⟨rfl, hb⟩; obtain ⟨hc, hf, hz⟩ := bcall hb; (try simp at hc hf hz)) | (go_at_call 108; (with_reducible refine (A.out _).mono ?_); rintro e w1 ⟨rfl, hb⟩; obtain ⟨hc, hf, hz⟩ := bcall hb; (try simp at hc hf hz)) | (go_at_call 108; (with_reducible refine (B.out _).mono ?_); rintro e w1 ⟨rfl, hb⟩; obtain ⟨hc, hf, hz⟩ := bcall hb; (try simp at hc hf hz)))
  go_ret
  refine ⟨rfl, ?_⟩
  (repeat' (first | (with_reducible exact Below.refl _ _) | (with_reducible refine Below.setCell ?_ (by first | omega | (simp; done) | (simp; omega)) _) | (with_reducible refine Below.alloc ?_ (by first | omega | (simp; done) | (simp; omega)) _) | (with_reducible refine Below.drew ?_) | (with_reducible refine below_drewN ?_ _) | (with_reducible refine Below.trans ?_ (Below.mono (by assumption) (by first | omega | (simp; done) | (simp; omega))))))
set_option maxRecDepth 100000 in
set_option maxHeartbeats 4000000 in
theorem rblocked_rng (hv : VG W H n G) (h : ¬ BlkOk W H ax ay bx yb) : Calls Tryd.prog 69 #[.agg #[.int .i64 W, .int .i64 H, .slice (ao) n cap], .agg #[.int .i64 ax, .int .i64 ay], .agg #[.int .i64 bx, .int .i64 yb]] w fun e w' => e = .returned (.int .i64 7) ∧ Below w.heap.size w w' := by
  have HV := Lib.hid hv
  have HC := Lib.hid hG
  have hs := hv.1
  clear hv hG
  unfold BlkOk at h
  by_cases h0 : OnG W H ax ay
  · have A := Lib.hid (fun wx => r6on_yes W H ax ay ao n cap wx hs h0)
    by_cases h1 : OnG W H bx yb
    · have B := Lib.hid (fun wx => r6on_yes W H bx yb ao n cap wx hs h1)
      have h2 : bx < ax ∨ (ax ≤ bx ∧ yb < ay) := by
        by_cases h3 : ax ≤ bx
        · by_cases h4 : ay ≤ yb
          · exact absurd ⟨⟨h0, h1⟩, h3, h4⟩ h
          · exact .inr ⟨h3, by omega⟩
        · exact .inl (by omega)
      clear h h0 h1 hs
      rcases h2 with h2 | ⟨h2, h3⟩
      all_goals
        go_enter Tryd.func69, Tryd.ntmps69
        go_wp2_with (first | (go_at_call 10; (with_reducible refine (rValid_ok W H ao n cap G _ HV.out (HC.out.below (by (repeat' (first | (with_reducible exact Below.refl _ _) | (with_reducible refine Below.setCell ?_ (by first | omega | (simp; done) | (simp; omega)) _) | (with_reducible refine Below.alloc ?_ (by first | omega | (simp; done) | (simp; omega)) _) | (with_reducible refine Below.drew ?_) | (with_reducible refine below_drewN ?_ _) | (with_reducible refine Below.trans ?_ (Below.mono (by assumption) (by first | omega | (simp; done) | (simp; omega))))))))).mono ?_); rintro e w1 ⟨rfl, hb⟩; obtain ⟨hc, hf, hz⟩ := bcall hb; (try simp at hc hf hz)) | (go_at_call 108; (with_reducible refine (A.out _).mono ?_); rintro e w1 ⟨rfl, hb⟩; obtain ⟨hc, hf, hz⟩ := bcall hb; (try simp at hc hf hz)) | (go_at_call 108; (with_reducible refine (B.out _).mono ?_); rintro e w1 ⟨rfl, hb⟩; obtain ⟨hc, hf, hz⟩ := bcall hb; (try simp at hc hf hz)))
        go_ret
        refine ⟨rfl, ?_⟩
        (repeat' (first | (with_reducible exact Below.refl _ _) | (with_reducible refine Below.setCell ?_ (by first | omega | (simp; done) | (simp; omega)) _) | (with_reducible refine Below.alloc ?_ (by first | omega | (simp; done) | (simp; omega)) _) | (with_reducible refine Below.drew ?_) | (with_reducible refine below_drewN ?_ _) | (with_reducible refine Below.trans ?_ (Below.mono (by assumption) (by first | omega | (simp; done) | (simp; omega))))))
    · have B := Lib.hid (fun wx => r6on_no W H bx yb ao n cap wx hs h1)
      clear h h0 h1 hs
      go_enter Tryd.func69, Tryd.ntmps69
      go_wp2_with (first | (go_at_call 10; (with_reducible refine (rValid_ok W H ao n cap G _ HV.out (HC.out.below (by (repeat' (first | (with_reducible exact Below.refl _ _) | (with_reducible refine Below.setCell ?_ (by first | omega | (simp; done) | (simp; omega)) _) | (with_reducible refine Below.alloc ?_ (by first | omega | (simp; done) | (simp; omega)) _) | (with_reducible refine Below.drew ?_) | (with_reducible refine below_drewN ?_ _) | (with_reducible refine Below.trans ?_ (Below.mono (by assumption) (by first | omega | (simp; done) | (simp; omega))))))))).mono ?_); rintro e w1 ⟨rfl, hb⟩; obtain ⟨hc, hf, hz⟩ := bcall hb; (try simp at hc hf hz)) | (go_at_call 108; (with_reducible refine (A.out _).mono ?_); rintro e w1 ⟨rfl, hb⟩; obtain ⟨hc, hf, hz⟩ := bcall hb; (try simp at hc hf hz)) | (go_at_call 108; (with_reducible refine (B.out _).mono ?_); rintro e w1 ⟨rfl, hb⟩; obtain ⟨hc, hf, hz⟩ := bcall hb; (try simp at hc hf hz)))
      go_ret
      refine ⟨rfl, ?_⟩
      (repeat' (first | (with_reducible exact Below.refl _ _) | (with_reducible refine Below.setCell ?_ (by first | omega | (simp; done) | (simp; omega)) _) | (with_reducible refine Below.alloc ?_ (by first | omega | (simp; done) | (simp; omega)) _) | (with_reducible refine Below.drew ?_) | (with_reducible refine below_drewN ?_ _) | (with_reducible refine Below.trans ?_ (Below.mono (by assumption) (by first | omega | (simp; done) | (simp; omega))))))
  · have A := Lib.hid (fun wx => r6on_no W H ax ay ao n cap wx hs h0)
    clear h h0 hs
    go_enter Tryd.func69, Tryd.ntmps69
    go_wp2_with (first | (go_at_call 10; (with_reducible refine (rValid_ok W H ao n cap G _ HV.out (HC.out.below (by (repeat' (first | (with_reducible exact Below.refl _ _) | (with_reducible refine Below.setCell ?_ (by first | omega | (simp; done) | (simp; omega)) _) | (with_reducible refine Below.alloc ?_ (by first | omega | (simp; done) | (simp; omega)) _) | (with_reducible refine Below.drew ?_) | (with_reducible refine below_drewN ?_ _) | (with_reducible refine Below.trans ?_ (Below.mono (by assumption) (by first | omega | (simp; done) | (simp; omega))))))))).mono ?_); rintro e w1 ⟨rfl, hb⟩; obtain ⟨hc, hf, hz⟩ := bcall hb; (try simp at hc hf hz)) | (go_at_call 108; (with_reducible refine (A.out _).mono ?_); rintro e w1 ⟨rfl, hb⟩; obtain ⟨hc, hf, hz⟩ := bcall hb; (try simp at hc hf hz)))
    go_ret
    refine ⟨rfl, ?_⟩
    (repeat' (first | (with_reducible exact Below.refl _ _) | (with_reducible refine Below.setCell ?_ (by first | omega | (simp; done) | (simp; omega)) _) | (with_reducible refine Below.alloc ?_ (by first | omega | (simp; done) | (simp; omega)) _) | (with_reducible refine Below.drew ?_) | (with_reducible refine below_drewN ?_ _) | (with_reducible refine Below.trans ?_ (Below.mono (by assumption) (by first | omega | (simp; done) | (simp; omega))))))
end
end Go.Proofs.YtmpfchgampiohaaDoor
