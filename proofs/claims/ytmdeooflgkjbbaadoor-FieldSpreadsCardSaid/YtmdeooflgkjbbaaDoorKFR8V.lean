/- The blocks' cells and their sums: by the reference of the fields. -/
import Derived.Test.YtmdeooflgkjbbaaDoorKFJoin
import Derived.Test.YtmdeooflgkjbbaaDoorKRefG4
import Derived.Test.YtmdeooflgkjbbaaDoorKOwnC
import Derived.Test.YtmdeooflgkjbbaaDoorKFSums
import Derived.Laws.AppendOwn
import Derived.BigQuiet
namespace Go.Proofs.YtmdeooflgkjbbaaDoor
set_option linter.unusedSimpArgs false
set_option linter.unusedVariables false
open Go.RowKit Go.Shelf
attribute [local go_sem] Oper.semAt_some

section
variable (n lo hi : Int) (w : World)
set_option maxHeartbeats 1000000 in
theorem r6within_yes (h1 : lo ≤ n) (h2 : n ≤ hi) : Calls Tryd.prog 170 #[.int .i64 n, .int .i64 lo, .int .i64 hi] w fun e w' => e = .returned (.bool true) ∧ Below w.heap.size w w' := by
  go_enter Tryd.func170, Tryd.ntmps170
  go_wp2
  go_ret
  refine ⟨by simp [h1, h2], ?_⟩
  (repeat' (first | (with_reducible exact Below.refl _ _) | (with_reducible refine Below.setCell ?_ (by first | omega | (simp; done) | (simp; omega)) _) | (with_reducible refine Below.alloc ?_ (by first | omega | (simp; done) | (simp; omega)) _) | (with_reducible refine Below.drew ?_) | (with_reducible refine below_drewN ?_ _) | (with_reducible refine Below.trans ?_ (Below.mono (by assumption) (by first | omega | (simp; done) | (simp; omega))))))
set_option maxHeartbeats 1000000 in
theorem r6within_no (h : n < lo ∨ hi < n) : Calls Tryd.prog 170 #[.int .i64 n, .int .i64 lo, .int .i64 hi] w fun e w' => e = .returned (.bool false) ∧ Below w.heap.size w w' := by
  by_cases h1 : lo ≤ n
  · have h2 : ¬ n ≤ hi := by omega
    have d2 : decide (n ≤ hi) = false := decide_eq_false h2
    clear h
    go_enter Tryd.func170, Tryd.ntmps170
    go_wp2
    go_ret
    refine ⟨by simp [d2], ?_⟩
    (repeat' (first | (with_reducible exact Below.refl _ _) | (with_reducible refine Below.setCell ?_ (by first | omega | (simp; done) | (simp; omega)) _) | (with_reducible refine Below.alloc ?_ (by first | omega | (simp; done) | (simp; omega)) _) | (with_reducible refine Below.drew ?_) | (with_reducible refine below_drewN ?_ _) | (with_reducible refine Below.trans ?_ (Below.mono (by assumption) (by first | omega | (simp; done) | (simp; omega))))))
  · have d1 : decide (lo ≤ n) = false := decide_eq_false h1
    clear h
    go_enter Tryd.func170, Tryd.ntmps170
    go_wp2
    go_ret
    refine ⟨by simp, ?_⟩
    (repeat' (first | (with_reducible exact Below.refl _ _) | (with_reducible refine Below.setCell ?_ (by first | omega | (simp; done) | (simp; omega)) _) | (with_reducible refine Below.alloc ?_ (by first | omega | (simp; done) | (simp; omega)) _) | (with_reducible refine Below.drew ?_) | (with_reducible refine below_drewN ?_ _) | (with_reducible refine Below.trans ?_ (Below.mono (by assumption) (by first | omega | (simp; done) | (simp; omega))))))
end
section
variable (W H x y : Int) (ao : Option Addr) (n cap : Nat) (w : World) (hs : Sd W H)
include hs
set_option maxHeartbeats 2000000 in
theorem r6on_yes (h : OnG W H x y) : Calls Tryd.prog 132 #[.agg #[.int .i64 W, .int .i64 H, .slice (ao) n cap], .agg #[.int .i64 x, .int .i64 y]] w fun e w' => e = .returned (.bool true) ∧ Below w.heap.size w w' := by
  obtain ⟨⟨h1, h2⟩, h3, h4⟩ := h
  obtain ⟨s1, s2, s3, s4, s5⟩ := hs
  have e1 : IntKind.i64.wrap (W - 1) = W - 1 := IntWalk.i64_in _ ⟨by omega, by omega⟩
  have e2 : IntKind.i64.wrap (H - 1) = H - 1 := IntWalk.i64_in _ ⟨by omega, by omega⟩
  have A := Lib.hid (fun wx => r6within_yes x 0 (W - 1) wx h1 (by omega))
  have B := Lib.hid (fun wx => r6within_yes y 0 (H - 1) wx h3 (by omega))
  clear h1 h2 h3 h4
  go_enter Tryd.func132, Tryd.ntmps132
  go_wp2_with (first | (go_at_call 170; (with_reducible refine (A.out _).mono ?_); rintro e w1 ⟨rfl, hb⟩; obtain ⟨hc, hf, hz⟩ := bcall hb; (try simp at hc hf hz)) | (go_at_call 170; (with_reducible refine (B.out _).mono ?_); rintro e w1 ⟨rfl, hb⟩; obtain ⟨hc, hf, hz⟩ := bcall hb; (try simp at hc hf hz)))
  go_ret
  refine ⟨by simp, ?_⟩
  (repeat' (first | (with_reducible exact Below.refl _ _) | (with_reducible refine Below.setCell ?_ (by first | omega | (simp; done) | (simp; omega)) _) | (with_reducible refine Below.alloc ?_ (by first | omega | (simp; done) | (simp; omega)) _) | (with_reducible refine Below.drew ?_) | (with_reducible refine below_drewN ?_ _) | (with_reducible refine Below.trans ?_ (Below.mono (by assumption) (by first | omega | (simp; done) | (simp; omega))))))
set_option maxHeartbeats 2000000 in
theorem r6on_no (h : ¬ OnG W H x y) : Calls Tryd.prog 132 #[.agg #[.int .i64 W, .int .i64 H, .slice (ao) n cap], .agg #[.int .i64 x, .int .i64 y]] w fun e w' => e = .returned (.bool false) ∧ Below w.heap.size w w' := by
  unfold OnG at h
  obtain ⟨s1, s2, s3, s4, s5⟩ := hs
  have e1 : IntKind.i64.wrap (W - 1) = W - 1 := IntWalk.i64_in _ ⟨by omega, by omega⟩
  have e2 : IntKind.i64.wrap (H - 1) = H - 1 := IntWalk.i64_in _ ⟨by omega, by omega⟩
  by_cases h1 : 0 ≤ x ∧ x < W
  · have A := Lib.hid (fun wx => r6within_yes x 0 (W - 1) wx h1.1 (by omega))
    have B := Lib.hid (fun wx => r6within_no y 0 (H - 1) wx (by omega))
    clear h h1
    go_enter Tryd.func132, Tryd.ntmps132
    go_wp2_with (first | (go_at_call 170; (with_reducible refine (A.out _).mono ?_); rintro e w1 ⟨rfl, hb⟩; obtain ⟨hc, hf, hz⟩ := bcall hb; (try simp at hc hf hz)) | (go_at_call 170; (with_reducible refine (B.out _).mono ?_); rintro e w1 ⟨rfl, hb⟩; obtain ⟨hc, hf, hz⟩ := bcall hb; (try simp at hc hf hz)))
    go_ret
    refine ⟨by simp, ?_⟩
    (repeat' (first | (with_reducible exact Below.refl _ _) | (with_reducible refine Below.setCell ?_ (by first | omega | (simp; done) | (simp; omega)) _) | (with_reducible refine Below.alloc ?_ (by first | omega | (simp; done) | (simp; omega)) _) | (with_reducible refine Below.drew ?_) | (with_reducible refine below_drewN ?_ _) | (with_reducible refine Below.trans ?_ (Below.mono (by assumption) (by first | omega | (simp; done) | (simp; omega))))))
  · have A := Lib.hid (fun wx => r6within_no x 0 (W - 1) wx (by omega))
    clear h h1
    go_enter Tryd.func132, Tryd.ntmps132
    go_wp2_with (go_at_call 170; (with_reducible refine (A.out _).mono ?_); rintro e w1 ⟨rfl, hb⟩; obtain ⟨hc, hf, hz⟩ := bcall hb; (try simp at hc hf hz))
    go_ret
    refine ⟨by simp, ?_⟩
    (repeat' (first | (with_reducible exact Below.refl _ _) | (with_reducible refine Below.setCell ?_ (by first | omega | (simp; done) | (simp; omega)) _) | (with_reducible refine Below.alloc ?_ (by first | omega | (simp; done) | (simp; omega)) _) | (with_reducible refine Below.drew ?_) | (with_reducible refine below_drewN ?_ _) | (with_reducible refine Below.trans ?_ (Below.mono (by assumption) (by first | omega | (simp; done) | (simp; omega))))))
end
section
variable (W H : Int) (ao : Option Addr) (n cap : Nat) (G : Nat → Nat → Int) (ax ay bx yb : Int) (w : World) (hG : CellsIn w ao n G)
include hG
set_option maxRecDepth 100000 in
set_option maxHeartbeats 4000000 in
theorem rblocked_bad (hv : ¬ VG W H n G) : Calls Tryd.prog 63 #[.agg #[.int .i64 W, .int .i64 H, .slice (ao) n cap], .agg #[.int .i64 ax, .int .i64 ay], .agg #[.int .i64 bx, .int .i64 yb]] w fun e w' => e = .returned (.int .i64 1) ∧ Below w.heap.size w w' := by
  have HV := Lib.hid hv
  have HC := Lib.hid hG
  clear hv hG
  go_enter Tryd.func63, Tryd.ntmps63
  go_wp2_with (go_at_call 87; (with_reducible refine (rValid_bad W H ao n cap G _ HV.out (HC.out.below (by (repeat' (first | (with_reducible exact Below.refl _ _) | (with_reducible refine Below.setCell ?_ (by first | omega | (simp; done) | (simp; omega)) _) | (with_reducible refine Below.alloc ?_ (by first | omega | (simp; done) | (simp; omega)) _) | (with_reducible refine Below.drew ?_) | (with_reducible refine below_drewN ?_ _) | (with_reducible refine Below.trans ?_ (Below.mono (by assumption) (by first | omega | (simp; done) | (simp; omega))))))))).mono ?_); rintro e w1 ⟨rfl, hb⟩; obtain ⟨hc, hf, hz⟩ := bcall hb; (try simp at hc hf hz))
  go_ret
  refine ⟨rfl, ?_⟩
  (repeat' (first | (with_reducible exact Below.refl _ _) | (with_reducible refine Below.setCell ?_ (by first | omega | (simp; done) | (simp; omega)) _) | (with_reducible refine Below.alloc ?_ (by first | omega | (simp; done) | (simp; omega)) _) | (with_reducible refine Below.drew ?_) | (with_reducible refine below_drewN ?_ _) | (with_reducible refine Below.trans ?_ (Below.mono (by assumption) (by first | omega | (simp; done) | (simp; omega))))))
set_option maxRecDepth 100000 in
set_option maxHeartbeats 4000000 in
theorem rblocked_ok (hv : VG W H n G) (h : BlkOk W H ax ay bx yb) : Calls Tryd.prog 63 #[.agg #[.int .i64 W, .int .i64 H, .slice (ao) n cap], .agg #[.int .i64 ax, .int .i64 ay], .agg #[.int .i64 bx, .int .i64 yb]] w fun e w' => e = .returned (.int .i64 0) ∧ Below w.heap.size w w' := by
  obtain ⟨⟨h0, h1⟩, h2, h3⟩ := h
  have HV := Lib.hid hv
  have HC := Lib.hid hG
  have A := Lib.hid (fun wx => r6on_yes W H ax ay ao n cap wx hv.1 h0)
  have B := Lib.hid (fun wx => r6on_yes W H bx yb ao n cap wx hv.1 h1)
  clear hv hG h0 h1
  go_enter Tryd.func63, Tryd.ntmps63
  go_wp2_with (first | (go_at_call 87; (with_reducible refine (rValid_ok W H ao n cap G _ HV.out (HC.out.below (by (repeat' (first | (with_reducible exact Below.refl _ _) | (with_reducible refine Below.setCell ?_ (by first | omega | (simp; done) | (simp; omega)) _) | (with_reducible refine Below.alloc ?_ (by first | omega | (simp; done) | (simp; omega)) _) | (with_reducible refine Below.drew ?_) | (with_reducible refine below_drewN ?_ _) | (with_reducible refine Below.trans ?_ (Below.mono (by assumption) (by first | omega | (simp; done) | (simp; omega))))))))).mono ?_); rintro e w1 ⟨rfl, hb⟩; obtain ⟨hc, hf, hz⟩ := bcall hb; (try simp at hc hf hz)) | (go_at_call 132; (with_reducible refine (A.out _).mono ?_); rintro e w1 ⟨rfl, hb⟩; obtain ⟨hc, hf, hz⟩ := bcall hb; (try simp at hc hf hz)) | (go_at_call 132; (with_reducible refine (B.out _).mono ?_); rintro e w1 ⟨rfl, hb⟩; obtain ⟨hc, hf, hz⟩ := bcall hb; (try simp at hc hf hz)))
  go_ret
  refine ⟨rfl, ?_⟩
  (repeat' (first | (with_reducible exact Below.refl _ _) | (with_reducible refine Below.setCell ?_ (by first | omega | (simp; done) | (simp; omega)) _) | (with_reducible refine Below.alloc ?_ (by first | omega | (simp; done) | (simp; omega)) _) | (with_reducible refine Below.drew ?_) | (with_reducible refine below_drewN ?_ _) | (with_reducible refine Below.trans ?_ (Below.mono (by assumption) (by first | omega | (simp; done) | (simp; omega))))))
set_option maxRecDepth 100000 in
set_option maxHeartbeats 4000000 in
theorem rblocked_rng (hv : VG W H n G) (h : ¬ BlkOk W H ax ay bx yb) : Calls Tryd.prog 63 #[.agg #[.int .i64 W, .int .i64 H, .slice (ao) n cap], .agg #[.int .i64 ax, .int .i64 ay], .agg #[.int .i64 bx, .int .i64 yb]] w fun e w' => e = .returned (.int .i64 7) ∧ Below w.heap.size w w' := by
  have HV := Lib.hid hv
  have HC := Lib.hid hG
  have hs := hv.1
  clear hv hG
  unfold BlkOk at h
  by_cases h0 : OnG W H ax ay
  · have A := Lib.hid (fun wx => r6on_yes W H ax ay ao n cap wx hs h0)
    by_cases h1 : OnG W H bx yb
    · have B := Lib.hid (fun wx => r6on_yes W H bx yb ao n cap wx hs h1)
      have h2 : bx < ax ∨ (ax ≤ bx ∧ yb < ay) := by
        by_cases h3 : ax ≤ bx
        · by_cases h4 : ay ≤ yb
          · exact absurd ⟨⟨h0, h1⟩, h3, h4⟩ h
          · exact .inr ⟨h3, by omega⟩
        · exact .inl (by omega)
      clear h h0 h1 hs
      rcases h2 with h2 | ⟨h2, h3⟩
      all_goals
        go_enter Tryd.func63, Tryd.ntmps63
        go_wp2_with (first | (go_at_call 87; (with_reducible refine (rValid_ok W H ao n cap G _ HV.out (HC.out.below (by (repeat' (first | (with_reducible exact Below.refl _ _) | (with_reducible refine Below.setCell ?_ (by first | omega | (simp; done) | (simp; omega)) _) | (with_reducible refine Below.alloc ?_ (by first | omega | (simp; done) | (simp; omega)) _) | (with_reducible refine Below.drew ?_) | (with_reducible refine below_drewN ?_ _) | (with_reducible refine Below.trans ?_ (Below.mono (by assumption) (by first | omega | (simp; done) | (simp; omega))))))))).mono ?_); rintro e w1 ⟨rfl, hb⟩; obtain ⟨hc, hf, hz⟩ := bcall hb; (try simp at hc hf hz)) | (go_at_call 132; (with_reducible refine (A.out _).mono ?_); rintro e w1 ⟨rfl, hb⟩; obtain ⟨hc, hf, hz⟩ := bcall hb; (try simp at hc hf hz)) | (go_at_call 132; (with_reducible refine (B.out _).mono ?_); rintro e w1 ⟨rfl, hb⟩; obtain ⟨hc, hf, hz⟩ := bcall hb; (try simp at hc hf hz)))
        go_ret
        refine ⟨rfl, ?_⟩
        (repeat' (first | (with_reducible exact Below.refl _ _) | (with_reducible refine Below.setCell ?_ (by first | omega | (simp; done) | (simp; omega)) _) | (with_reducible refine Below.alloc ?_ (by first | omega | (simp; done) | (simp; omega)) _) | (with_reducible refine Below.drew ?_) | (with_reducible refine below_drewN ?_ _) | (with_reducible refine Below.trans ?_ (Below.mono (by assumption) (by first | omega | (simp; done) | (simp; omega))))))
    · have B := Lib.hid (fun wx => r6on_no W H bx yb ao n cap wx hs h1)
      clear h h0 h1 hs
      go_enter Tryd.func63, Tryd.ntmps63
      go_wp2_with (first | (go_at_call 87; (with_reducible refine (rValid_ok W H ao n cap G _ HV.out (HC.out.below (by (repeat' (first | (with_reducible exact Below.refl _ _) | (with_reducible refine Below.setCell ?_ (by first | omega | (simp; done) | (simp; omega)) _) | (with_reducible refine Below.alloc ?_ (by first | omega | (simp; done) | (simp; omega)) _) | (with_reducible refine Below.drew ?_) | (with_reducible refine below_drewN ?_ _) | (with_reducible refine Below.trans ?_ (Below.mono (by assumption) (by first | omega | (simp; done) | (simp; omega))))))))).mono ?_); rintro e w1 ⟨rfl, hb⟩; obtain ⟨hc, hf, hz⟩ := bcall hb; (try simp at hc hf hz)) | (go_at_call 132; (with_reducible refine (A.out _).mono ?_); rintro e w1 ⟨rfl, hb⟩; obtain ⟨hc, hf, hz⟩ := bcall hb; (try simp at hc hf hz)) | (go_at_call 132; (with_reducible refine (B.out _).mono ?_); rintro e w1 ⟨rfl, hb⟩; obtain ⟨hc, hf, hz⟩ := bcall hb; (try simp at hc hf hz)))
      go_ret
      refine ⟨rfl, ?_⟩
      (repeat' (first | (with_reducible exact Below.refl _ _) | (with_reducible refine Below.setCell ?_ (by first | omega | (simp; done) | (simp; omega)) _) | (with_reducible refine Below.alloc ?_ (by first | omega | (simp; done) | (simp; omega)) _) | (with_reducible refine Below.drew ?_) | (with_reducible refine below_drewN ?_ _) | (with_reducible refine Below.trans ?_ (Below.mono (by assumption) (by first | omega | (simp; done) | (simp; omega))))))
  · have A := Lib.hid (fun wx => r6on_no W H ax ay ao n cap wx hs h0)
    clear h h0 hs
    go_enter Tryd.func63, Tryd.ntmps63
    go_wp2_with (first | (go_at_call 87; (with_reducible refine (rValid_ok W H ao n cap G _ HV.out (HC.out.below (by (repeat' (first | (with_reducible exact Below.refl _ _) | (with_reducible refine Below.setCell ?_ (by first | omega | (simp; done) | (simp; omega)) _) | (with_reducible refine Below.alloc ?_ (by first | omega | (simp; done) | (simp; omega)) _) | (with_reducible refine Below.drew ?_) | (with_reducible refine below_drewN ?_ _) | (with_reducible refine Below.trans ?_ (Below.mono (by assumption) (by first | omega | (simp; done) | (simp; omega))))))))).mono ?_); rintro e w1 ⟨rfl, hb⟩; obtain ⟨hc, hf, hz⟩ := bcall hb; (try simp at hc hf hz)) | (go_at_call 132; (with_reducible refine (A.out _).mono ?_); rintro e w1 ⟨rfl, hb⟩; obtain ⟨hc, hf, hz⟩ := bcall hb; (try simp at hc hf hz)))
    go_ret
    refine ⟨rfl, ?_⟩
    (repeat' (first | (with_reducible exact Below.refl _ _) | (with_reducible refine Below.setCell ?_ (by first | omega | (simp; done) | (simp; omega)) _) | (with_reducible refine Below.alloc ?_ (by first | omega | (simp; done) | (simp; omega)) _) | (with_reducible refine Below.drew ?_) | (with_reducible refine below_drewN ?_ _) | (with_reducible refine Below.trans ?_ (Below.mono (by assumption) (by first | omega | (simp; done) | (simp; omega))))))
end
end Go.Proofs.YtmdeooflgkjbbaaDoor

/- The cells of a block, and what they add up to: by the reference of the fields. -/

namespace Go.Proofs.YtmdeooflgkjbbaaDoor
set_option linter.unusedSimpArgs false
set_option linter.unusedVariables false
open Go.RowKit Go.Shelf
attribute [local go_sem] Oper.semAt_some

/-- Cells, as values. -/
def cellV (G : Nat → Nat → Int) (L : List Nat) : List Value := L.flatMap fun q => [.int .i64 (G q 0), .int .i64 (G q 1), .int .i64 (G q 2), .int .i64 (G q 3)]
theorem cellV_app (G : Nat → Nat → Int) (L : List Nat) (q : Nat) : cellV G (L ++ [q]) = cellV G L ++ [.int .i64 (G q 0), .int .i64 (G q 1), .int .i64 (G q 2), .int .i64 (G q 3)] := by simp [cellV]
theorem cellV_len (G : Nat → Nat → Int) (L : List Nat) : (cellV G L).length = L.length * 4 := by
  induction L with
  | nil => rfl
  | cons q L ih => rw [show cellV G (q :: L) = [.int .i64 (G q 0), .int .i64 (G q 1), .int .i64 (G q 2), .int .i64 (G q 3)] ++ cellV G L from rfl, List.length_append, ih]; simp; omega
theorem cellV_get (G : Nat → Nat → Int) : ∀ (L : List Nat) (i d q : Nat), L[i]? = some q → d < 4 → (cellV G L)[i * 4 + d]? = some (.int .i64 (G q d)) := by
  intro L
  induction L with
  | nil => intro i d q h; simp at h
  | cons a L ih =>
    intro i d q h hd
    rw [show cellV G (a :: L) = [.int .i64 (G a 0), .int .i64 (G a 1), .int .i64 (G a 2), .int .i64 (G a 3)] ++ cellV G L from rfl]
    match i with
    | 0 =>
      simp at h
      subst h
      rw [List.getElem?_append_left (by simp; omega)]
      match d, hd with
      | 0, _ => rfl
      | 1, _ => rfl
      | 2, _ => rfl
      | 3, _ => rfl
    | i + 1 =>
      rw [List.getElem?_append_right (by simp; omega)]
      simp only [List.length_cons, List.length_nil]
      rw [show (i + 1) * 4 + d - (0 + 1 + 1 + 1 + 1) = i * 4 + d by omega]
      exact ih i d q (by simpa using h) hd
theorem cells_appF {w0 wr X w6 : World} {v v' : Value} {G : Nat → Nat → Int} {L : List Nat} {q : Nat} (h : wr.ownsRow w0.heap.size 62 4 v L.length (cellV G L) ∧ Below w0.heap.size w0 wr) (hX : Below wr.heap.size wr X) (hown : w6.ownsRow w0.heap.size 62 4 v' (L.length + 1) (cellV G L ++ [.int .i64 (G q 0), .int .i64 (G q 1), .int .i64 (G q 2), .int .i64 (G q 3)])) (hgrow : X.grownBy w6 v.ownBlock) :
    w6.ownsRow w0.heap.size 62 4 v' (L ++ [q]).length (cellV G (L ++ [q])) ∧ Below w0.heap.size w0 w6 := by
  refine ⟨by rw [cellV_app]; simpa using hown, ?_⟩
  have b1 : Below w0.heap.size w0 X := h.2.trans (hX.mono h.2.size)
  refine b1.grown hgrow b1.size (fun j hj => ?_)
  rcases h.1.2 with ⟨rfl, _⟩ | ⟨g, cap, cur, rfl, hg, hh, _⟩
  · cases hj
  · cases hj
    exact hg

set_option maxRecDepth 100000 in
set_option maxHeartbeats 16000000 in
theorem rcells_in (W H n cap b off ax nx ay ny : Nat) (bx yb : Int) (G : Nat → Nat → Int) (w : World) (s : Sides W H n) (lb : b < w.heap.size) (hG : Grd w b off n G) (hx : ax + nx ≤ W) (hy : ay + ny ≤ H) (hbx : bx + 1 = ((ax + nx : Nat) : Int)) (hyb : yb + 1 = ((ay + ny : Nat) : Int)) :
    Calls Tryd.prog 64 #[.agg #[.int .i64 W, .int .i64 H, .slice (some ⟨b, off, none⟩) n cap], .agg #[.int .i64 ((ax : Int)), .int .i64 ((ay : Int))], .agg #[.int .i64 bx, .int .i64 yb]] w fun e w' => ∃ v, e = .returned v ∧ w'.ownsRow w.heap.size 62 4 v (recN W ax nx ay ny).length (cellV G (recN W ax nx ay ny)) ∧ Below w.heap.size w w' := by
  obtain ⟨i0, hif, hz0, hz1, hz2⟩ := info_parts info_cell
  have HG := Lib.hid hG
  have HS := Lib.hid s
  have hW1 := s.w1
  have hH1 := s.h1
  have hn1 := s.n1
  have hny : ny ≤ 64 := by omega
  have hnx : nx ≤ 64 := by omega
  clear hG s
  go_enter Tryd.func64, Tryd.ntmps64
  obtain ⟨w1, hw1⟩ : ∃ w1, w1 = ((w.alloc (.cells #[.int .i64 W, .int .i64 H, .slice (some ⟨b, off, none⟩) n cap] 24)).alloc (.cells #[.int .i64 ((ax : Int)), .int .i64 ((ay : Int))] 26)).alloc (.cells #[.int .i64 bx, .int .i64 yb] 26) := ⟨_, rfl⟩
  have g0 : ∀ (X : World) (k : Nat) (o o' : Obj), X.heap[k]? = some o → (X.alloc o').heap[k]? = some o := fun X k o o' h => (Below.heap_alloc _ _ _ (Array.getElem?_eq_some_iff.1 h).1).trans h
  have n0 : ∀ (X : World) (k : Nat) (o : Obj), X.heap.size = k → (X.alloc o).heap[k]? = some o := fun X k o h => by rw [← h]; exact World.alloc_heap_new X _
  have t3 : Three w1 w.heap.size 24 (.int .i64 W) (.int .i64 H) (.slice (some ⟨b, off, none⟩) n cap) := by rw [hw1]; exact g0 _ _ _ _ (g0 _ _ _ _ (n0 _ _ _ rfl))
  have t4 : Two w1 (w.heap.size + 1) 26 (.int .i64 ((ax : Int))) (.int .i64 ((ay : Int))) := by rw [hw1]; exact g0 _ _ _ _ (n0 _ _ _ (by simp))
  have t5 : Two w1 (w.heap.size + 1 + 1) 26 (.int .i64 bx) (.int .i64 yb) := by rw [hw1]; exact n0 _ _ _ (by simp)
  have b1 : Below w.heap.size w w1 := by rw [hw1]; (repeat' (first | (with_reducible exact Below.refl _ _) | (with_reducible refine Below.setCell ?_ (by first | omega | (simp; done) | (simp; omega)) _) | (with_reducible refine Below.alloc ?_ (by first | omega | (simp; done) | (simp; omega)) _) | (with_reducible refine Below.drew ?_) | (with_reducible refine below_drewN ?_ _) | (with_reducible refine Below.trans ?_ (Below.mono (by assumption) (by first | omega | (simp; done) | (simp; omega))))))
  have s1 : w1.heap.size = w.heap.size + 3 := by rw [hw1]; simp
  clear g0 n0
  go_wp2_with fail
  rw [← hw1]
  clear hw1
  go_loopw [7, 8, 9] (fun l y _ wr => ∃ k : Nat, k ≤ ny ∧ y = .int .i64 ((ay + k : Nat) : Int) ∧ Hid (wr.ownsRow w1.heap.size 62 4 l (recN W ax nx ay k).length (cellV G (recN W ax nx ay k)) ∧ Below w1.heap.size w1 wr)) (fun _ y _ _ => ay + ny - (Go.RowKit.intOf y).toNat)
  case atStart => exact ⟨0, Nat.zero_le _, rfl, Lib.hid ⟨World.ownsRow_nil _ _ _ _, Below.refl _ _⟩⟩
  case round =>
    obtain ⟨k, hk, rfl, HH⟩ := hrel
    have hBw := HH.out.2
    have u4 := t4.below hBw t4.lt
    have u5 := t5.below hBw t5.lt
    have a0 := u4.c0
    have p0 := u5.c0
    have p1 := u5.c1
    obtain ⟨y, hyk⟩ : ∃ y, y = ay + k := ⟨_, rfl⟩
    rw [← hyk]
    by_cases hlk : k < ny
    · have q1 : (y : Int) ≤ yb := by omega
      have HY := Lib.hid hyk
      have hyH : y < H := by omega
      clear hyk
      go_wp2
      obtain ⟨wo, hwo⟩ : ∃ wo, wo = wr := ⟨_, rfl⟩
      subst hwo
      clear a0 p0 p1 u4 u5
      go_loopw [7, 9] (fun l x wr => ∃ j : Nat, j ≤ nx ∧ x = .int .i64 ((ax + j : Nat) : Int) ∧ Hid (wr.ownsRow w1.heap.size 62 4 l (recN W ax nx ay k ++ rowN W ax y j).length (cellV G (recN W ax nx ay k ++ rowN W ax y j)) ∧ Below w1.heap.size w1 wr)) (fun _ x _ => ax + nx - (Go.RowKit.intOf x).toNat)
      case atStart => exact ⟨0, Nat.zero_le _, rfl, by rw [show rowN W ax y 0 = [] from rfl, List.append_nil]; exact HH⟩
      case round =>
        obtain ⟨j, hj, rfl, HJ⟩ := hrel
        have hBr := HJ.out.2
        have u3 := t3.below hBr t3.lt
        have u5 := t5.below hBr t5.lt
        have g0 := u3.c0
        have g2 := u3.c2
        have p0 := u5.c0
        obtain ⟨x, hxj⟩ : ∃ x, x = ax + j := ⟨_, rfl⟩
        rw [← hxj]
        by_cases hlj : j < nx
        · have q2 : (x : Int) ≤ bx := by omega
          have hq := xy_lt2 (W := W) (H := H) (x := x) (y := y) (by omega) hyH
          rw [← HS.out.n0] at hq
          have hRN := Lib.hid (show rowN W ax y (j + 1) = rowN W ax y j ++ [x + W * y] from by simp only [rowN]; rw [← hxj])
          obtain ⟨q, hq2⟩ : ∃ q, q = x + W * y := ⟨_, rfl⟩
          rw [← hq2] at hq hRN
          obtain ⟨pp, hpp⟩ : ∃ pp, pp = W * y := ⟨_, rfl⟩
          have e1 : (W : Int) * (y : Int) = (pp : Int) := by rw [hpp]; push_cast; rfl
          have e2 : IntKind.i64.wrap (pp : Int) = (pp : Int) := IntWalk.i64_in _ ⟨by omega, by omega⟩
          have e3 : IntKind.i64.wrap ((x : Int) + (pp : Int)) = (q : Int) := by rw [show (x : Int) + (pp : Int) = (q : Int) by omega]; exact IntWalk.i64_in _ ⟨by omega, by omega⟩
          obtain ⟨z0, z1, z2, z3⟩ := (HG.out.below (b1.trans (hBr.mono b1.size)) lb) q hq
          have lbr : b < wr.heap.size := by have := b1.size; have := hBr.size; omega
          have r0 : (0 : Int) ≤ (q : Int) := by omega
          have r1 : (q : Int) < (n : Int) := by omega
          have HX := Lib.hid hxj
          have hlen : (recN W ax nx ay k ++ rowN W ax y j).length ≤ 64 * 64 + 64 := by
            rw [List.length_append, recN_len, rowN_len]
            have := Nat.mul_le_mul (show k ≤ 64 by omega) hnx
            omega
          have hsr := hBr.size
          obtain ⟨L, hL⟩ : ∃ L, L = recN W ax nx ay k ++ rowN W ax y j := ⟨_, rfl⟩
          rw [← hL] at HJ hlen
          have HLL := Lib.hid hL
          obtain ⟨d0, hd0⟩ : ∃ d, d = G q 0 := ⟨_, rfl⟩
          obtain ⟨d1, hd1⟩ : ∃ d, d = G q 1 := ⟨_, rfl⟩
          obtain ⟨d2, hd2⟩ : ∃ d, d = G q 2 := ⟨_, rfl⟩
          obtain ⟨d3, hd3⟩ : ∃ d, d = G q 3 := ⟨_, rfl⟩
          rw [← hd0] at z0
          rw [← hd1] at z1
          rw [← hd2] at z2
          rw [← hd3] at z3
          have HD := Lib.hid (And.intro hd0 (And.intro hd1 (And.intro hd2 hd3)))
          clear hxj hL hpp hq2 hBr u3 u5 hd0 hd1 hd2 hd3
          go_wp2_with (at_builtin; refine wpList_append_own _ rfl _ _ 22 rfl w1.heap.size 62 i0 (.agg #[.int .i64 0, .int .i64 0, .int .i64 0, .int .i64 0]) 4 32 Tryd.underlying22 hif hz0 hz1 hz2 rfl (by omega) _ _ _ rfl (owns_below HJ.out.1 (by (repeat' (first | (with_reducible exact Below.refl _ _) | (with_reducible refine Below.setCell ?_ (by first | omega | (simp; done) | (simp; omega)) _) | (with_reducible refine Below.alloc ?_ (by first | omega | (simp; done) | (simp; omega)) _) | (with_reducible refine Below.drew ?_) | (with_reducible refine below_drewN ?_ _) | (with_reducible refine Below.trans ?_ (Below.mono (by assumption) (by first | omega | (simp; done) | (simp; omega)))))))) _ 1 1 [.int .i64 d0, .int .i64 d1, .int .i64 d2, .int .i64 d3] rfl rfl (four_new _ _ _ _ _ _) (four_one _ _ _ _) (by unfold maxLen; omega) (by omega) (by simp; omega) ?_; intro v' w6 hown hgrow _)
          have HN := Lib.hid (cells_appF (q := q) HJ.out (by (repeat' (first | (with_reducible exact Below.refl _ _) | (with_reducible refine Below.setCell ?_ (by first | omega | (simp; done) | (simp; omega)) _) | (with_reducible refine Below.alloc ?_ (by first | omega | (simp; done) | (simp; omega)) _) | (with_reducible refine Below.drew ?_) | (with_reducible refine below_drewN ?_ _) | (with_reducible refine Below.trans ?_ (Below.mono (by assumption) (by first | omega | (simp; done) | (simp; omega))))))) (by rw [← HD.out.1, ← HD.out.2.1, ← HD.out.2.2.1, ← HD.out.2.2.2]; exact hown) hgrow)
          clear hown hgrow
          go_roundw
          case rel => exact ⟨j + 1, by omega, by have := HX.out; go_num, Lib.hid (by rw [hRN.out, ← List.append_assoc, ← HLL.out]; exact HN.out)⟩
          case measure => have := HX.out; simp [Go.RowKit.intOf]; omega
        · have hjn : j = nx := by omega
          subst hjn
          have q2 : ¬ (x : Int) ≤ bx := by omega
          clear u3 u5 g0 g2
          go_wp2
          go_roundw
          case rel => exact ⟨k + 1, by omega, by have := HY.out; go_num, Lib.hid (by rw [show recN W ax j ay (k + 1) = recN W ax j ay k ++ rowN W ax y j from by rw [HY.out]; rfl]; exact HJ.out)⟩
          case measure => have := HY.out; simp [Go.RowKit.intOf]; omega
    · have hkn : k = ny := by omega
      subst hkn
      have q1 : ¬ (y : Int) ≤ yb := by omega
      clear a0
      go_wp2
      go_ret
      exact ⟨_, rfl, ownsRow_base_a HH.out.1 b1.size, b1.trans (hBw.mono b1.size)⟩
set_option maxHeartbeats 1000000 in
theorem cellMass8 (a b c d : Int) (w : World) (h : Ok4 a b c d) : Calls Tryd.prog 39 #[.agg #[.int .i64 a, .int .i64 b, .int .i64 c, .int .i64 d]] w fun e w' => e = .returned (.int .i64 (a + b + c + d)) ∧ Below w.heap.size w w' := by
  obtain ⟨h0, h1, h2, h3, h4⟩ := id h
  have s1 : IntKind.i64.wrap (a + b) = a + b := IntWalk.i64_in _ ⟨by omega, by omega⟩
  have s2 : IntKind.i64.wrap (a + b + c) = a + b + c := IntWalk.i64_in _ ⟨by omega, by omega⟩
  have s3 : IntKind.i64.wrap (a + b + c + d) = a + b + c + d := IntWalk.i64_in _ ⟨by omega, by omega⟩
  clear h h0 h1 h2 h3 h4
  go_enter Tryd.func39, Tryd.ntmps39
  go_wp2
  go_ret
  refine ⟨rfl, ?_⟩
  (repeat' (first | (with_reducible exact Below.refl _ _) | (with_reducible refine Below.setCell ?_ (by first | omega | (simp; done) | (simp; omega)) _) | (with_reducible refine Below.alloc ?_ (by first | omega | (simp; done) | (simp; omega)) _) | (with_reducible refine Below.drew ?_) | (with_reducible refine below_drewN ?_ _) | (with_reducible refine Below.trans ?_ (Below.mono (by assumption) (by first | omega | (simp; done) | (simp; omega))))))
theorem sumT_take {tv : Nat → Int} {L : List Nat} {k q : Nat} (h : L[k]? = some q) : sumT tv (L.take (k + 1)) = sumT tv (L.take k) + tv q := by
  rw [List.take_add_one, h]
  exact sumT_app tv _ q
set_option maxRecDepth 100000 in
set_option maxHeartbeats 8000000 in
theorem rsums_in (g c n N : Nat) (G : Nat → Nat → Int) (L : List Nat) (w : World) (hl : L.length = n) (hn : n ≤ 5000) (lg : g < w.heap.size) (hO : OkG N G) (hLN : ∀ q ∈ L, q < N)
    (hc : ∀ i q, L[i]? = some q → ∀ d, d < 4 → w.cell? ⟨g, i * 4 + d, none⟩ = some (.int .i64 (G q d))) :
    Calls Tryd.prog 68 #[.slice (some ⟨g, 0, none⟩) n c] w fun e w' => e = .returned (.tuple #[.int .i64 (sumT (msC G) L), .int .i64 (sumT (eaC G) L), .int .i64 (sumT (noC G) L)]) ∧ Below w.heap.size w w' := by
  have HC := Lib.hid hc
  have HO := Lib.hid hO
  have HL := Lib.hid hLN
  have HN := Lib.hid hl
  clear hc hO hLN hl
  go_enter Tryd.func68, Tryd.ntmps68
  go_wp2
  go_loopw [2, 3, 4, 5] (fun m e o i wr => ∃ k : Nat, k ≤ n ∧ i = .int .i64 k ∧ m = .int .i64 (sumT (msC G) (L.take k)) ∧ e = .int .i64 (sumT (eaC G) (L.take k)) ∧ o = .int .i64 (sumT (noC G) (L.take k)) ∧ Below w.heap.size w wr) (fun _ _ _ i _ => n - (Go.RowKit.intOf i).toNat)
  case atStart => exact ⟨0, Nat.zero_le _, rfl, rfl, rfl, rfl, Below.refl _ _⟩
  case round =>
    obtain ⟨k, hk, rfl, rfl, rfl, rfl, hB⟩ := hrel
    by_cases hlk : k < n
    · obtain ⟨q, hq⟩ : ∃ q, L[k]? = some q := ⟨L[k]'(by rw [HN.out]; exact hlk), List.getElem?_eq_getElem _⟩
      have hqN := HL.out q (List.mem_of_getElem? hq)
      have ok := HO.out.1 q hqN
      have b1 := sumT_bdL (tv := msC G) (L.take k) (fun r hr => (tells_bd HO.out).1 r (HL.out r (List.mem_of_mem_take hr)))
      have b2 := sumT_bdL (tv := eaC G) (L.take k) (fun r hr => (tells_bd HO.out).2.1 r (HL.out r (List.mem_of_mem_take hr)))
      have b3 := sumT_bdL (tv := noC G) (L.take k) (fun r hr => (tells_bd HO.out).2.2 r (HL.out r (List.mem_of_mem_take hr)))
      have hlt : (L.take k).length ≤ 5000 := by rw [List.length_take]; omega
      have t1 := sumT_take (tv := msC G) hq
      have t2 := sumT_take (tv := eaC G) hq
      have t3 := sumT_take (tv := noC G) hq
      rw [show msC G q = G q 0 + G q 1 + G q 2 + G q 3 from rfl] at t1
      rw [show eaC G q = G q 0 - G q 2 from rfl] at t2
      rw [show noC G q = G q 1 - G q 3 from rfl] at t3
      have c0 : w.cell? ⟨g, k * 4, none⟩ = _ := HC.out k q hq 0 (by omega)
      have c0 := (hB.cell (p := ⟨g, k * 4, none⟩) lg).trans c0
      have c1 := (hB.cell (p := ⟨g, k * 4 + 1, none⟩) lg).trans (HC.out k q hq 1 (by omega))
      have c2 := (hB.cell (p := ⟨g, k * 4 + 2, none⟩) lg).trans (HC.out k q hq 2 (by omega))
      have c3 := (hB.cell (p := ⟨g, k * 4 + 3, none⟩) lg).trans (HC.out k q hq 3 (by omega))
      have CM := Lib.hid (fun wx => cellMass8 (G q 0) (G q 1) (G q 2) (G q 3) wx ok)
      obtain ⟨d0, hd0⟩ : ∃ d, d = G q 0 := ⟨_, rfl⟩
      obtain ⟨d1, hd1⟩ : ∃ d, d = G q 1 := ⟨_, rfl⟩
      obtain ⟨d2, hd2⟩ : ∃ d, d = G q 2 := ⟨_, rfl⟩
      obtain ⟨d3, hd3⟩ : ∃ d, d = G q 3 := ⟨_, rfl⟩
      rw [← hd0] at c0 CM t1 t2 ok
      rw [← hd1] at c1 CM t1 t3 ok
      rw [← hd2] at c2 CM t1 t2 ok
      rw [← hd3] at c3 CM t1 t3 ok
      obtain ⟨m, hm⟩ : ∃ m, m = sumT (msC G) (L.take k) := ⟨_, rfl⟩
      obtain ⟨e, he⟩ : ∃ m, m = sumT (eaC G) (L.take k) := ⟨_, rfl⟩
      obtain ⟨o, ho⟩ : ∃ m, m = sumT (noC G) (L.take k) := ⟨_, rfl⟩
      rw [← hm] at b1 t1 ⊢
      rw [← he] at b2 t2 ⊢
      rw [← ho] at b3 t3 ⊢
      obtain ⟨o1, o2, o3, o4, o5⟩ := ok
      have x1 : IntKind.i64.wrap (m + (d0 + d1 + d2 + d3)) = m + (d0 + d1 + d2 + d3) := IntWalk.i64_in _ ⟨by omega, by omega⟩
      have x2 : IntKind.i64.wrap (d0 - d2) = d0 - d2 := IntWalk.i64_in _ ⟨by omega, by omega⟩
      have x3 : IntKind.i64.wrap (e + (d0 - d2)) = e + (d0 - d2) := IntWalk.i64_in _ ⟨by omega, by omega⟩
      have x4 : IntKind.i64.wrap (d1 - d3) = d1 - d3 := IntWalk.i64_in _ ⟨by omega, by omega⟩
      have x5 : IntKind.i64.wrap (o + (d1 - d3)) = o + (d1 - d3) := IntWalk.i64_in _ ⟨by omega, by omega⟩
      have T1 := Lib.hid t1
      have T2 := Lib.hid t2
      have T3 := Lib.hid t3
      have HB := Lib.hid hB
      have p0 : (0 : Int) ≤ (k : Int) := by omega
      have p1 : (k : Int) < (n : Int) := by omega
      have lg2 : g < wr.heap.size := Nat.lt_of_lt_of_le lg hB.size
      clear t1 t2 t3 b1 b2 b3 hlt hm he ho hd0 hd1 hd2 hd3 hq o1 o2 o3 o4 o5 hB
      go_wp2_with (go_at_call 39; (with_reducible refine (CM.out _).mono ?_); rintro e w1 ⟨rfl, hb⟩; obtain ⟨hc, hf, hz⟩ := bcall hb; (try simp at hc hf hz))
      have c0 := (hb.cell (p := ⟨g, k * 4, none⟩) lg2).trans c0
      have c1 := (hb.cell (p := ⟨g, k * 4 + 1, none⟩) lg2).trans c1
      have c2 := (hb.cell (p := ⟨g, k * 4 + 2, none⟩) lg2).trans c2
      have c3 := (hb.cell (p := ⟨g, k * 4 + 3, none⟩) lg2).trans c3
      have HB2 := Lib.hid (HB.out.trans (hb.mono HB.out.size))
      clear hc hf hb hz
      go_quiet (fail)
      go_wp2
      go_quiet (fail)
      go_wp2
      go_roundw
      case rel => exact ⟨k + 1, by omega, by go_num, by rw [T1.out], by rw [T2.out], by rw [T3.out], below_drewN HB2.out _⟩
      case measure => simp [Go.RowKit.intOf]; omega
    · obtain rfl : k = n := by omega
      have e : L.take k = L := List.take_of_length_le (by rw [HN.out]; exact Nat.le_refl _)
      rw [e]
      go_wp2
      go_ret3
      exact ⟨rfl, hB⟩
end Go.Proofs.YtmdeooflgkjbbaaDoor

/- The circulation of a block: by the reference of the fields. -/

namespace Go.Proofs.YtmdeooflgkjbbaaDoor
set_option linter.unusedSimpArgs false
set_option linter.unusedVariables false
open Go.RowKit Go.Shelf
attribute [local go_sem] Oper.semAt_some

/-- A block's cells by the reference, and then their sums. -/
def RowC (w : World) (v : Value) (G : Nat → Nat → Int) (L : List Nat) : Prop := ∃ g c, v = .slice (some ⟨g, 0, none⟩) L.length c ∧ g < w.heap.size ∧ ∀ i q, L[i]? = some q → ∀ d, d < 4 → w.cell? ⟨g, i * 4 + d, none⟩ = some (.int .i64 (G q d))
theorem rowC_of {w : World} {base : Nat} {v : Value} {G : Nat → Nat → Int} {L : List Nat} (h : w.ownsRow base 62 4 v L.length (cellV G L)) (h1 : 1 ≤ L.length) : RowC w v G L := by
  have h' := h
  rcases h.2 with ⟨_, h0⟩ | ⟨g, c, cur, rfl, hg, hh, _⟩
  · omega
  · refine ⟨g, c, rfl, (Array.getElem?_eq_some_iff.1 hh).1, fun i q hq d hd => ?_⟩
    have hi := (List.getElem?_eq_some_iff.1 hq).1
    rw [h'.cellAt (i * 4 + d) (by omega)]
    exact cellV_get G L i d q hq hd
section
variable (W H n cap b off ax ay bx yb : Nat) (G : Nat → Nat → Int) (w : World) (s : Sides W H n) (hO : OkG n G) (lb : b < w.heap.size) (hG : Grd w b off n G) (h1 : ax ≤ bx) (h2 : bx < W) (h3 : ay ≤ yb) (h4 : yb < H)
include s lb hG h1 h2 h3 h4
/-- The cells of a block, from corner to corner. -/
theorem rcells_bl (wx : World) (hb : Below w.heap.size w wx) : Calls Tryd.prog 64 #[.agg #[.int .i64 W, .int .i64 H, .slice (some ⟨b, off, none⟩) n cap], .agg #[.int .i64 ((ax : Int)), .int .i64 ((ay : Int))], .agg #[.int .i64 ((bx : Int)), .int .i64 ((yb : Int))]] wx fun e w' => ∃ v, e = .returned v ∧ RowC w' v G (recN W ax (bx + 1 - ax) ay (yb + 1 - ay)) ∧ Below wx.heap.size wx w' := by
  refine (rcells_in W H n cap b off ax (bx + 1 - ax) ay (yb + 1 - ay) bx yb G wx s (Nat.lt_of_lt_of_le lb hb.size) (hG.below hb lb) (by omega) (by omega) (by omega) (by omega)).mono ?_
  rintro e w' ⟨v, rfl, hr, hb'⟩
  refine ⟨v, rfl, rowC_of hr ?_, hb'⟩
  rw [recN_len]
  have := Nat.mul_le_mul (show 1 ≤ yb + 1 - ay by omega) (show 1 ≤ bx + 1 - ax by omega)
  omega
omit lb hG in
include hO in
theorem rsums_bl (wx : World) (v : Value) (hv : RowC wx v G (recN W ax (bx + 1 - ax) ay (yb + 1 - ay))) : Calls Tryd.prog 68 #[v] wx fun e w' => e = .returned (.tuple #[.int .i64 (blS (msC G) W ax ay bx yb), .int .i64 (blS (eaC G) W ax ay bx yb), .int .i64 (blS (noC G) W ax ay bx yb)]) ∧ Below wx.heap.size wx w' := by
  obtain ⟨g, c, rfl, lg, hc⟩ := hv
  have hW := s.w1
  have hH := s.h1
  have hle : (recN W ax (bx + 1 - ax) ay (yb + 1 - ay)).length ≤ 5000 := by
    rw [recN_len]
    have := Nat.mul_le_mul (show yb + 1 - ay ≤ 64 by omega) (show bx + 1 - ax ≤ 64 by omega)
    omega
  exact rsums_in g c _ n G (recN W ax (bx + 1 - ax) ay (yb + 1 - ay)) wx rfl hle lg hO (fun q hq => by rw [s.n0]; exact recN_lt hq (by omega) (by omega)) hc
include hO
end
end Go.Proofs.YtmdeooflgkjbbaaDoor

/- The circulation of a block, a block's sides and corners: by the reference of the fields. -/

namespace Go.Proofs.YtmdeooflgkjbbaaDoor
set_option linter.unusedSimpArgs false
set_option linter.unusedVariables false
open Go.RowKit Go.Shelf
attribute [local go_sem] Oper.semAt_some

section
variable (W H n cap b off ax ay bx yb : Nat) (G : Nat → Nat → Int) (w : World) (s : Sides W H n) (hO : OkG n G) (lb : b < w.heap.size) (hG : Grd w b off n G) (h1 : ax ≤ bx) (h2 : bx < W) (h3 : ay ≤ yb) (h4 : yb < H)
include s lb hG h1 h2 h3 h4 hO
end
section
variable (W H : Int) (ao : Option Addr) (n cap : Nat) (G : Nat → Nat → Int) (ax ay bx yb : Int) (w : World) (hG : CellsIn w ao n G)
include hG
end
/-- The sides of blocks that fit into a grid. -/
def SidOk (W H wi hi : Int) : Prop := (1 ≤ wi ∧ wi ≤ W) ∧ 1 ≤ hi ∧ hi ≤ H
section
variable (wi hi : Int) (w : World)
set_option maxHeartbeats 1000000 in
theorem r8within_yes (n lo hi : Int) (w : World) (h1 : lo ≤ n) (h2 : n ≤ hi) : Calls Tryd.prog 84 #[.int .i64 n, .int .i64 lo, .int .i64 hi] w fun e w' => e = .returned (.bool true) ∧ Below w.heap.size w w' := by
  go_enter Tryd.func84, Tryd.ntmps84
  go_wp2
  go_ret
  refine ⟨by simp [h1, h2], ?_⟩
  (repeat' (first | (with_reducible exact Below.refl _ _) | (with_reducible refine Below.setCell ?_ (by first | omega | (simp; done) | (simp; omega)) _) | (with_reducible refine Below.alloc ?_ (by first | omega | (simp; done) | (simp; omega)) _) | (with_reducible refine Below.drew ?_) | (with_reducible refine below_drewN ?_ _) | (with_reducible refine Below.trans ?_ (Below.mono (by assumption) (by first | omega | (simp; done) | (simp; omega))))))
set_option maxHeartbeats 1000000 in
theorem r8within_no (n lo hi : Int) (w : World) (h : n < lo ∨ hi < n) : Calls Tryd.prog 84 #[.int .i64 n, .int .i64 lo, .int .i64 hi] w fun e w' => e = .returned (.bool false) ∧ Below w.heap.size w w' := by
  by_cases h1 : lo ≤ n
  · have h2 : ¬ n ≤ hi := by omega
    have d2 : decide (n ≤ hi) = false := decide_eq_false h2
    clear h
    go_enter Tryd.func84, Tryd.ntmps84
    go_wp2
    go_ret
    refine ⟨by simp [d2], ?_⟩
    (repeat' (first | (with_reducible exact Below.refl _ _) | (with_reducible refine Below.setCell ?_ (by first | omega | (simp; done) | (simp; omega)) _) | (with_reducible refine Below.alloc ?_ (by first | omega | (simp; done) | (simp; omega)) _) | (with_reducible refine Below.drew ?_) | (with_reducible refine below_drewN ?_ _) | (with_reducible refine Below.trans ?_ (Below.mono (by assumption) (by first | omega | (simp; done) | (simp; omega))))))
  · have d1 : decide (lo ≤ n) = false := decide_eq_false h1
    clear h
    go_enter Tryd.func84, Tryd.ntmps84
    go_wp2
    go_ret
    refine ⟨by simp, ?_⟩
    (repeat' (first | (with_reducible exact Below.refl _ _) | (with_reducible refine Below.setCell ?_ (by first | omega | (simp; done) | (simp; omega)) _) | (with_reducible refine Below.alloc ?_ (by first | omega | (simp; done) | (simp; omega)) _) | (with_reducible refine Below.drew ?_) | (with_reducible refine below_drewN ?_ _) | (with_reducible refine Below.trans ?_ (Below.mono (by assumption) (by first | omega | (simp; done) | (simp; omega))))))
end
section
variable (W H : Int) (ao : Option Addr) (n cap : Nat) (G : Nat → Nat → Int) (wi hi : Int) (w : World) (hG : CellsIn w ao n G)
include hG
set_option maxRecDepth 100000 in
set_option maxHeartbeats 4000000 in
theorem rsided_bad (hv : ¬ VG W H n G) : Calls Tryd.prog 76 #[.agg #[.int .i64 W, .int .i64 H, .slice (ao) n cap], .int .i64 wi, .int .i64 hi] w fun e w' => e = .returned (.int .i64 1) ∧ Below w.heap.size w w' := by
  have HV := Lib.hid hv
  have HC := Lib.hid hG
  clear hv hG
  go_enter Tryd.func76, Tryd.ntmps76
  go_wp2_with (go_at_call 87; (with_reducible refine (rValid_bad W H ao n cap G _ HV.out (HC.out.below (by (repeat' (first | (with_reducible exact Below.refl _ _) | (with_reducible refine Below.setCell ?_ (by first | omega | (simp; done) | (simp; omega)) _) | (with_reducible refine Below.alloc ?_ (by first | omega | (simp; done) | (simp; omega)) _) | (with_reducible refine Below.drew ?_) | (with_reducible refine below_drewN ?_ _) | (with_reducible refine Below.trans ?_ (Below.mono (by assumption) (by first | omega | (simp; done) | (simp; omega))))))))).mono ?_); rintro e w1 ⟨rfl, hb⟩; obtain ⟨hc, hf, hz⟩ := bcall hb; (try simp at hc hf hz))
  go_ret
  refine ⟨rfl, ?_⟩
  (repeat' (first | (with_reducible exact Below.refl _ _) | (with_reducible refine Below.setCell ?_ (by first | omega | (simp; done) | (simp; omega)) _) | (with_reducible refine Below.alloc ?_ (by first | omega | (simp; done) | (simp; omega)) _) | (with_reducible refine Below.drew ?_) | (with_reducible refine below_drewN ?_ _) | (with_reducible refine Below.trans ?_ (Below.mono (by assumption) (by first | omega | (simp; done) | (simp; omega))))))
set_option maxRecDepth 100000 in
set_option maxHeartbeats 4000000 in
theorem rsided_ok (hv : VG W H n G) (h : SidOk W H wi hi) : Calls Tryd.prog 76 #[.agg #[.int .i64 W, .int .i64 H, .slice (ao) n cap], .int .i64 wi, .int .i64 hi] w fun e w' => e = .returned (.int .i64 0) ∧ Below w.heap.size w w' := by
  obtain ⟨⟨h1, h2⟩, h3, h4⟩ := h
  have HV := Lib.hid hv
  have HC := Lib.hid hG
  have A := Lib.hid (fun wx => r8within_yes wi 1 W wx h1 h2)
  have B := Lib.hid (fun wx => r8within_yes hi 1 H wx h3 h4)
  clear hv hG h1 h2 h3 h4
  go_enter Tryd.func76, Tryd.ntmps76
  go_wp2_with (first | (go_at_call 87; (with_reducible refine (rValid_ok W H ao n cap G _ HV.out (HC.out.below (by (repeat' (first | (with_reducible exact Below.refl _ _) | (with_reducible refine Below.setCell ?_ (by first | omega | (simp; done) | (simp; omega)) _) | (with_reducible refine Below.alloc ?_ (by first | omega | (simp; done) | (simp; omega)) _) | (with_reducible refine Below.drew ?_) | (with_reducible refine below_drewN ?_ _) | (with_reducible refine Below.trans ?_ (Below.mono (by assumption) (by first | omega | (simp; done) | (simp; omega))))))))).mono ?_); rintro e w1 ⟨rfl, hb⟩; obtain ⟨hc, hf, hz⟩ := bcall hb; (try simp at hc hf hz)) | (go_at_call 84; (with_reducible refine (A.out _).mono ?_); rintro e w1 ⟨rfl, hb⟩; obtain ⟨hc, hf, hz⟩ := bcall hb; (try simp at hc hf hz)) | (go_at_call 84; (with_reducible refine (B.out _).mono ?_); rintro e w1 ⟨rfl, hb⟩; obtain ⟨hc, hf, hz⟩ := bcall hb; (try simp at hc hf hz)))
  go_ret
  refine ⟨rfl, ?_⟩
  (repeat' (first | (with_reducible exact Below.refl _ _) | (with_reducible refine Below.setCell ?_ (by first | omega | (simp; done) | (simp; omega)) _) | (with_reducible refine Below.alloc ?_ (by first | omega | (simp; done) | (simp; omega)) _) | (with_reducible refine Below.drew ?_) | (with_reducible refine below_drewN ?_ _) | (with_reducible refine Below.trans ?_ (Below.mono (by assumption) (by first | omega | (simp; done) | (simp; omega))))))
set_option maxRecDepth 100000 in
set_option maxHeartbeats 4000000 in
theorem rsided_rng (hv : VG W H n G) (h : ¬ SidOk W H wi hi) : Calls Tryd.prog 76 #[.agg #[.int .i64 W, .int .i64 H, .slice (ao) n cap], .int .i64 wi, .int .i64 hi] w fun e w' => e = .returned (.int .i64 7) ∧ Below w.heap.size w w' := by
  have HV := Lib.hid hv
  have HC := Lib.hid hG
  clear hv hG
  unfold SidOk at h
  by_cases h0 : 1 ≤ wi ∧ wi ≤ W
  · have A := Lib.hid (fun wx => r8within_yes wi 1 W wx h0.1 h0.2)
    have B := Lib.hid (fun wx => r8within_no hi 1 H wx (by omega))
    clear h h0
    go_enter Tryd.func76, Tryd.ntmps76
    go_wp2_with (first | (go_at_call 87; (with_reducible refine (rValid_ok W H ao n cap G _ HV.out (HC.out.below (by (repeat' (first | (with_reducible exact Below.refl _ _) | (with_reducible refine Below.setCell ?_ (by first | omega | (simp; done) | (simp; omega)) _) | (with_reducible refine Below.alloc ?_ (by first | omega | (simp; done) | (simp; omega)) _) | (with_reducible refine Below.drew ?_) | (with_reducible refine below_drewN ?_ _) | (with_reducible refine Below.trans ?_ (Below.mono (by assumption) (by first | omega | (simp; done) | (simp; omega))))))))).mono ?_); rintro e w1 ⟨rfl, hb⟩; obtain ⟨hc, hf, hz⟩ := bcall hb; (try simp at hc hf hz)) | (go_at_call 84; (with_reducible refine (A.out _).mono ?_); rintro e w1 ⟨rfl, hb⟩; obtain ⟨hc, hf, hz⟩ := bcall hb; (try simp at hc hf hz)) | (go_at_call 84; (with_reducible refine (B.out _).mono ?_); rintro e w1 ⟨rfl, hb⟩; obtain ⟨hc, hf, hz⟩ := bcall hb; (try simp at hc hf hz)))
    go_ret
    refine ⟨rfl, ?_⟩
    (repeat' (first | (with_reducible exact Below.refl _ _) | (with_reducible refine Below.setCell ?_ (by first | omega | (simp; done) | (simp; omega)) _) | (with_reducible refine Below.alloc ?_ (by first | omega | (simp; done) | (simp; omega)) _) | (with_reducible refine Below.drew ?_) | (with_reducible refine below_drewN ?_ _) | (with_reducible refine Below.trans ?_ (Below.mono (by assumption) (by first | omega | (simp; done) | (simp; omega))))))
  · have A := Lib.hid (fun wx => r8within_no wi 1 W wx (by omega))
    clear h h0
    go_enter Tryd.func76, Tryd.ntmps76
    go_wp2_with (first | (go_at_call 87; (with_reducible refine (rValid_ok W H ao n cap G _ HV.out (HC.out.below (by (repeat' (first | (with_reducible exact Below.refl _ _) | (with_reducible refine Below.setCell ?_ (by first | omega | (simp; done) | (simp; omega)) _) | (with_reducible refine Below.alloc ?_ (by first | omega | (simp; done) | (simp; omega)) _) | (with_reducible refine Below.drew ?_) | (with_reducible refine below_drewN ?_ _) | (with_reducible refine Below.trans ?_ (Below.mono (by assumption) (by first | omega | (simp; done) | (simp; omega))))))))).mono ?_); rintro e w1 ⟨rfl, hb⟩; obtain ⟨hc, hf, hz⟩ := bcall hb; (try simp at hc hf hz)) | (go_at_call 84; (with_reducible refine (A.out _).mono ?_); rintro e w1 ⟨rfl, hb⟩; obtain ⟨hc, hf, hz⟩ := bcall hb; (try simp at hc hf hz)))
    go_ret
    refine ⟨rfl, ?_⟩
    (repeat' (first | (with_reducible exact Below.refl _ _) | (with_reducible refine Below.setCell ?_ (by first | omega | (simp; done) | (simp; omega)) _) | (with_reducible refine Below.alloc ?_ (by first | omega | (simp; done) | (simp; omega)) _) | (with_reducible refine Below.drew ?_) | (with_reducible refine below_drewN ?_ _) | (with_reducible refine Below.trans ?_ (Below.mono (by assumption) (by first | omega | (simp; done) | (simp; omega))))))
end
set_option maxHeartbeats 2000000 in
theorem rcorner_in (x y wi hi : Int) (w : World) (hx : 0 ≤ x ∧ x ≤ 100) (hy : 0 ≤ y ∧ y ≤ 100) (hw : 0 ≤ wi ∧ wi ≤ 100) (hh : 0 ≤ hi ∧ hi ≤ 100) : Calls Tryd.prog 77 #[.int .i64 x, .int .i64 y, .int .i64 wi, .int .i64 hi] w fun e w' => e = .returned (.tuple #[.agg #[.int .i64 x, .int .i64 y], .agg #[.int .i64 (x + wi - 1), .int .i64 (y + hi - 1)]]) ∧ Below w.heap.size w w' := by
  have e1 : IntKind.i64.wrap (x + wi) = x + wi := IntWalk.i64_in _ ⟨by omega, by omega⟩
  have e2 : IntKind.i64.wrap (x + wi - 1) = x + wi - 1 := IntWalk.i64_in _ ⟨by omega, by omega⟩
  have e3 : IntKind.i64.wrap (y + hi) = y + hi := IntWalk.i64_in _ ⟨by omega, by omega⟩
  have e4 : IntKind.i64.wrap (y + hi - 1) = y + hi - 1 := IntWalk.i64_in _ ⟨by omega, by omega⟩
  clear hx hy hw hh
  go_enter Tryd.func77, Tryd.ntmps77
  go_wp2
  have v0 := (Two.new w 26 (.int .i64 x) (.int .i64 y)).alloc (.cells #[.int .i64 (x + wi - 1), .int .i64 (y + hi - 1)] 26)
  have v1 := Two.new (w.alloc (.cells #[.int .i64 x, .int .i64 y] 26)) 26 (.int .i64 (x + wi - 1)) (.int .i64 (y + hi - 1))
  simp only [World.size_alloc] at v1
  have q0 := v0.c0
  have q1 := v0.c1
  have r0 := v1.c0
  have r1 := v1.c1
  clear v0 v1
  refine bodyPost_ret (v := .tuple #[.agg #[.int .i64 x, .int .i64 y], .agg #[.int .i64 (x + wi - 1), .int .i64 (y + hi - 1)]]) (by simp [results, Tryd.results77, go_sem, ↓IntWalk.iteOmega, *]) rfl ⟨rfl, ?_⟩
  (repeat' (first | (with_reducible exact Below.refl _ _) | (with_reducible refine Below.setCell ?_ (by first | omega | (simp; done) | (simp; omega)) _) | (with_reducible refine Below.alloc ?_ (by first | omega | (simp; done) | (simp; omega)) _) | (with_reducible refine Below.drew ?_) | (with_reducible refine below_drewN ?_ _) | (with_reducible refine Below.trans ?_ (Below.mono (by assumption) (by first | omega | (simp; done) | (simp; omega))))))
set_option maxHeartbeats 1000000 in
theorem rsize_in (n : Int) (w : World) (hn : -10000000000000 ≤ n ∧ n ≤ 10000000000000) : Calls Tryd.prog 93 #[.int .i64 n] w fun e w' => e = .returned (.int .i64 ((n.natAbs : Int))) ∧ Below w.heap.size w w' := by
  obtain ⟨z, hz⟩ : ∃ z : Int, z = (n.natAbs : Int) := ⟨_, rfl⟩
  rw [← hz]
  by_cases h0 : n < 0
  · have e1 : IntKind.i64.wrap (-n) = z := by rw [show -n = z from by omega]; exact IntWalk.i64_in _ ⟨by omega, by omega⟩
    clear hn hz
    go_enter Tryd.func93, Tryd.ntmps93
    go_wp2
    go_ret
    refine ⟨rfl, ?_⟩
    (repeat' (first | (with_reducible exact Below.refl _ _) | (with_reducible refine Below.setCell ?_ (by first | omega | (simp; done) | (simp; omega)) _) | (with_reducible refine Below.alloc ?_ (by first | omega | (simp; done) | (simp; omega)) _) | (with_reducible refine Below.drew ?_) | (with_reducible refine below_drewN ?_ _) | (with_reducible refine Below.trans ?_ (Below.mono (by assumption) (by first | omega | (simp; done) | (simp; omega))))))
  · have e2 : n = z := by omega
    clear hn hz
    subst e2
    go_enter Tryd.func93, Tryd.ntmps93
    go_wp2
    go_ret
    refine ⟨rfl, ?_⟩
    (repeat' (first | (with_reducible exact Below.refl _ _) | (with_reducible refine Below.setCell ?_ (by first | omega | (simp; done) | (simp; omega)) _) | (with_reducible refine Below.alloc ?_ (by first | omega | (simp; done) | (simp; omega)) _) | (with_reducible refine Below.drew ?_) | (with_reducible refine below_drewN ?_ _) | (with_reducible refine Below.trans ?_ (Below.mono (by assumption) (by first | omega | (simp; done) | (simp; omega))))))
end Go.Proofs.YtmdeooflgkjbbaaDoor
