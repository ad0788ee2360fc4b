/- The law WallDrags: the walk. -/
import Derived.Test.YtnpmlbhlchoolaaDoorKDragB
import Derived.Test.YtnpmlbhlchoolaaDoorKLawRunsW
namespace Go.Proofs.YtnpmlbhlchoolaaDoor
set_option linter.unusedSimpArgs false
set_option linter.unusedVariables false
open Go.RowKit

theorem dg_bd {W H n : Nat} {K B : Nat → Int} {len : Nat} {R : Nat → Int × Int} {body : Int} {G : Nat → Nat → Int} (t c : Nat) (hn : n ≤ 1024) (hs : n = W * H) (hK : OkK n K) (hG : OkG n G) :
    (-(2100000000000 * (c : Int)) ≤ dgE W H K len R t G (ownN B body n) c ∧ dgE W H K len R t G (ownN B body n) c ≤ 2100000000000 * (c : Int)) ∧ (-(2100000000000 * (c : Int)) ≤ dgN W H K len R t G (ownN B body n) c ∧ dgN W H K len R t G (ownN B body n) c ≤ 2100000000000 * (c : Int)) :=
  ⟨smB (C := 2100000000000) (by omega) c (fun k _ => (sumL_own hn hK (okG_runW hs hK hG)).1) c (Nat.le_refl _), smB (C := 2100000000000) (by omega) c (fun k _ => (sumL_own hn hK (okG_runW hs hK hG)).2) c (Nat.le_refl _)⟩

section
variable (W H : Int) (ao : Option Addr) (n cap : Nat) (G : Nat → Nat → Int) (ak : Option Addr) (nk ck : Nat) (K : Nat → Int) (ab : Option Addr) (nb cb : Nat) (B : Nat → Int) (ro : Option Addr) (len rc : Nat) (R : Nat → Int × Int) (t x y body : Int) (w : World)
set_option maxRecDepth 100000 in
set_option maxHeartbeats 8000000 in
theorem wallDrags_big (hT : Tbl w) (h : ¬ (n ≤ 200 ∧ nk ≤ 200 ∧ nb ≤ 200)) :
    Calls Tryd.prog 7 #[.agg #[.int .i64 W, .int .i64 H, .slice (ao) n cap, .slice (ak) nk ck, .slice (ab) nb cb], .slice ro len rc, .agg #[.int .i64 t, .int .i64 x, .int .i64 y, .int .i64 body]] w fun e w' => e = .returned (.bool true) ∧ Below w.heap.size w w' := by
  have HN := Lib.hid h; clear h
  have T := Lib.hid hT; clear hT
  go_enter Tryd.func7, Tryd.ntmps7
  go_wp2_with (first | (go_at_call 9; (with_reducible refine (small200_no W H ao n cap ak nk ck ab nb cb _ HN.out).mono ?_); rintro e w1 ⟨rfl, hb⟩; obtain ⟨hc, hf, hz⟩ := bcall hb; (try simp at hc hf hz)) | (go_at_call 10; (with_reducible refine (awake3_any _ (T.out.below (by (repeat' (first | (with_reducible exact Below.refl _ _) | (with_reducible refine Below.setCell ?_ (by first | omega | (simp; done) | (simp; omega)) _) | (with_reducible refine Below.alloc ?_ (by first | omega | (simp; done) | (simp; omega)) _) | (with_reducible refine Below.drew ?_) | (with_reducible refine below_drewN ?_ _) | (with_reducible refine Below.trans ?_ (Below.mono (by assumption) (by first | omega | (simp; done) | (simp; omega))))))))).mono ?_); rintro e w1 ⟨rfl, hb⟩; obtain ⟨hc, hf, hz⟩ := bcall hb; (try simp at hc hf hz)))
  go_ret
  refine ⟨rfl, ?_⟩
  (repeat' (first | (with_reducible exact Below.refl _ _) | (with_reducible refine Below.setCell ?_ (by first | omega | (simp; done) | (simp; omega)) _) | (with_reducible refine Below.alloc ?_ (by first | omega | (simp; done) | (simp; omega)) _) | (with_reducible refine Below.drew ?_) | (with_reducible refine below_drewN ?_ _) | (with_reducible refine Below.trans ?_ (Below.mono (by assumption) (by first | omega | (simp; done) | (simp; omega))))))
set_option maxRecDepth 100000 in
set_option maxHeartbeats 8000000 in
theorem wallDrags_many (hT : Tbl w) (h : n ≤ 200 ∧ nk ≤ 200 ∧ nb ≤ 200) (hl : 20 < len) (hm : len ≤ 9223372036854775807) :
    Calls Tryd.prog 7 #[.agg #[.int .i64 W, .int .i64 H, .slice (ao) n cap, .slice (ak) nk ck, .slice (ab) nb cb], .slice ro len rc, .agg #[.int .i64 t, .int .i64 x, .int .i64 y, .int .i64 body]] w fun e w' => e = .returned (.bool true) ∧ Below w.heap.size w w' := by
  have HN := Lib.hid h; clear h
  have T := Lib.hid hT; clear hT
  go_enter Tryd.func7, Tryd.ntmps7
  go_wp2_with (first | (go_at_call 9; (with_reducible refine (small200_yes W H ao n cap ak nk ck ab nb cb _ HN.out).mono ?_); rintro e w1 ⟨rfl, hb⟩; obtain ⟨hc, hf, hz⟩ := bcall hb; (try simp at hc hf hz)) | (go_at_call 10; (with_reducible refine (awake3_any _ (T.out.below (by (repeat' (first | (with_reducible exact Below.refl _ _) | (with_reducible refine Below.setCell ?_ (by first | omega | (simp; done) | (simp; omega)) _) | (with_reducible refine Below.alloc ?_ (by first | omega | (simp; done) | (simp; omega)) _) | (with_reducible refine Below.drew ?_) | (with_reducible refine below_drewN ?_ _) | (with_reducible refine Below.trans ?_ (Below.mono (by assumption) (by first | omega | (simp; done) | (simp; omega))))))))).mono ?_); rintro e w1 ⟨rfl, hb⟩; obtain ⟨hc, hf, hz⟩ := bcall hb; (try simp at hc hf hz)))
  go_ret
  refine ⟨rfl, ?_⟩
  (repeat' (first | (with_reducible exact Below.refl _ _) | (with_reducible refine Below.setCell ?_ (by first | omega | (simp; done) | (simp; omega)) _) | (with_reducible refine Below.alloc ?_ (by first | omega | (simp; done) | (simp; omega)) _) | (with_reducible refine Below.drew ?_) | (with_reducible refine below_drewN ?_ _) | (with_reducible refine Below.trans ?_ (Below.mono (by assumption) (by first | omega | (simp; done) | (simp; omega))))))
set_option maxRecDepth 100000 in
set_option maxHeartbeats 8000000 in
theorem wallDrags_long (hT : Tbl w) (h : n ≤ 200 ∧ nk ≤ 200 ∧ nb ≤ 200) (hl : len ≤ 20) (h1 : 20 < x) (h2 : x ≤ 1000) :
    Calls Tryd.prog 7 #[.agg #[.int .i64 W, .int .i64 H, .slice (ao) n cap, .slice (ak) nk ck, .slice (ab) nb cb], .slice ro len rc, .agg #[.int .i64 t, .int .i64 x, .int .i64 y, .int .i64 body]] w fun e w' => e = .returned (.bool true) ∧ Below w.heap.size w w' := by
  have HN := Lib.hid h; clear h
  have T := Lib.hid hT; clear hT
  go_enter Tryd.func7, Tryd.ntmps7
  go_wp2_with (first | (go_at_call 9; (with_reducible refine (small200_yes W H ao n cap ak nk ck ab nb cb _ HN.out).mono ?_); rintro e w1 ⟨rfl, hb⟩; obtain ⟨hc, hf, hz⟩ := bcall hb; (try simp at hc hf hz)) | (go_at_call 10; (with_reducible refine (awake3_any _ (T.out.below (by (repeat' (first | (with_reducible exact Below.refl _ _) | (with_reducible refine Below.setCell ?_ (by first | omega | (simp; done) | (simp; omega)) _) | (with_reducible refine Below.alloc ?_ (by first | omega | (simp; done) | (simp; omega)) _) | (with_reducible refine Below.drew ?_) | (with_reducible refine below_drewN ?_ _) | (with_reducible refine Below.trans ?_ (Below.mono (by assumption) (by first | omega | (simp; done) | (simp; omega))))))))).mono ?_); rintro e w1 ⟨rfl, hb⟩; obtain ⟨hc, hf, hz⟩ := bcall hb; (try simp at hc hf hz)))
  go_ret
  refine ⟨rfl, ?_⟩
  (repeat' (first | (with_reducible exact Below.refl _ _) | (with_reducible refine Below.setCell ?_ (by first | omega | (simp; done) | (simp; omega)) _) | (with_reducible refine Below.alloc ?_ (by first | omega | (simp; done) | (simp; omega)) _) | (with_reducible refine Below.drew ?_) | (with_reducible refine below_drewN ?_ _) | (with_reducible refine Below.trans ?_ (Below.mono (by assumption) (by first | omega | (simp; done) | (simp; omega))))))
set_option maxRecDepth 100000 in
set_option maxHeartbeats 8000000 in
theorem wallDrags_far (hT : Tbl w) (h : n ≤ 200 ∧ nk ≤ 200 ∧ nb ≤ 200) (hl : len ≤ 20) (hx : x ≤ 20 ∨ 1000 < x) (hy : 20 < y) :
    Calls Tryd.prog 7 #[.agg #[.int .i64 W, .int .i64 H, .slice (ao) n cap, .slice (ak) nk ck, .slice (ab) nb cb], .slice ro len rc, .agg #[.int .i64 t, .int .i64 x, .int .i64 y, .int .i64 body]] w fun e w' => e = .returned (.bool true) ∧ Below w.heap.size w w' := by
  have HN := Lib.hid h; clear h
  have T := Lib.hid hT; clear hT
  have hx' : x ≤ 20 ∨ (20 < x ∧ 1000 < x) := by omega
  clear hx
  rcases hx' with hx | ⟨hx1, hx⟩
  all_goals
    go_enter Tryd.func7, Tryd.ntmps7
    go_wp2_with (first | (go_at_call 9; (with_reducible refine (small200_yes W H ao n cap ak nk ck ab nb cb _ HN.out).mono ?_); rintro e w1 ⟨rfl, hb⟩; obtain ⟨hc, hf, hz⟩ := bcall hb; (try simp at hc hf hz)) | (go_at_call 10; (with_reducible refine (awake3_any _ (T.out.below (by (repeat' (first | (with_reducible exact Below.refl _ _) | (with_reducible refine Below.setCell ?_ (by first | omega | (simp; done) | (simp; omega)) _) | (with_reducible refine Below.alloc ?_ (by first | omega | (simp; done) | (simp; omega)) _) | (with_reducible refine Below.drew ?_) | (with_reducible refine below_drewN ?_ _) | (with_reducible refine Below.trans ?_ (Below.mono (by assumption) (by first | omega | (simp; done) | (simp; omega))))))))).mono ?_); rintro e w1 ⟨rfl, hb⟩; obtain ⟨hc, hf, hz⟩ := bcall hb; (try simp at hc hf hz)))
    go_ret
    refine ⟨rfl, ?_⟩
    (repeat' (first | (with_reducible exact Below.refl _ _) | (with_reducible refine Below.setCell ?_ (by first | omega | (simp; done) | (simp; omega)) _) | (with_reducible refine Below.alloc ?_ (by first | omega | (simp; done) | (simp; omega)) _) | (with_reducible refine Below.drew ?_) | (with_reducible refine below_drewN ?_ _) | (with_reducible refine Below.trans ?_ (Below.mono (by assumption) (by first | omega | (simp; done) | (simp; omega))))))

set_option maxRecDepth 100000 in
set_option maxHeartbeats 8000000 in
theorem wallDrags_err (hp : PreW w ao n G ak nk K ab nb B ro len R) (h : n ≤ 200 ∧ nk ≤ 200 ∧ nb ≤ 200) (hl : len ≤ 20) (hx : x ≤ 20 ∨ 1000 < x) (hy : y ≤ 20) (z : Int) (hz : z ≠ 0)
    (o1 : ∀ w, PreW w ao n G ak nk K ab nb B ro len R → Calls Tryd.prog 30 #[.agg #[.int .i64 W, .int .i64 H, .slice (ao) n cap], .agg #[.slice (ak) nk ck, .slice (ab) nb cb], .slice ro len rc, .int .i64 t, .int .i64 x, .int .i64 body] w fun e w' => e = .returned (.tuple #[.agg #[.int .i64 0, .int .i64 0], .int .i64 z]) ∧ Below w.heap.size w w')
    (o2 : ∀ w, PreW w ao n G ak nk K ab nb B ro len R → Calls Tryd.prog 31 #[.agg #[.int .i64 W, .int .i64 H, .slice (ao) n cap], .agg #[.slice (ak) nk ck, .slice (ab) nb cb], .slice ro len rc, .int .i64 t, .int .i64 x, .int .i64 body] w fun e w' => e = .returned (.tuple #[.agg #[.int .i64 0, .int .i64 0], .int .i64 z]) ∧ Below w.heap.size w w') :
    Calls Tryd.prog 7 #[.agg #[.int .i64 W, .int .i64 H, .slice (ao) n cap, .slice (ak) nk ck, .slice (ab) nb cb], .slice ro len rc, .agg #[.int .i64 t, .int .i64 x, .int .i64 y, .int .i64 body]] w fun e w' => e = .returned (.bool true) ∧ Below w.heap.size w w' := by
  have O1 := Lib.hid o1
  have O2 := Lib.hid o2
  have HP := Lib.hid hp
  have HN := Lib.hid h
  have e0 : (z == 0) = false := beq_eq_false_iff_ne.2 hz
  have e1 : (z != 0) = true := by simp [bne, e0]
  have hx' : x ≤ 20 ∨ (20 < x ∧ 1000 < x) := by omega
  clear o1 o2 hp h e0 hz hx
  rcases hx' with hx | ⟨hx1, hx⟩
  all_goals
    go_enter Tryd.func7, Tryd.ntmps7
    go_wp2_with (first | (go_at_call 9; (with_reducible refine (small200_yes W H ao n cap ak nk ck ab nb cb _ HN.out).mono ?_); rintro e w1 ⟨rfl, hb⟩; obtain ⟨hc, hf, hz⟩ := bcall hb; (try simp at hc hf hz)) | (go_at_call 30; (with_reducible refine (O1.out _ (HP.out.below (show Below w.heap.size w _ from by (repeat' (first | (with_reducible exact Below.refl _ _) | (with_reducible refine Below.setCell ?_ (by first | omega | (simp; done) | (simp; omega)) _) | (with_reducible refine Below.alloc ?_ (by first | omega | (simp; done) | (simp; omega)) _) | (with_reducible refine Below.drew ?_) | (with_reducible refine below_drewN ?_ _) | (with_reducible refine Below.trans ?_ (Below.mono (by assumption) (by first | omega | (simp; done) | (simp; omega))))))))).mono ?_); rintro e w1 ⟨rfl, hb⟩; obtain ⟨hc, hf, hz⟩ := bcall hb; (try simp at hc hf hz)) | (go_at_call 31; (with_reducible refine (O2.out _ (HP.out.below (show Below w.heap.size w _ from by (repeat' (first | (with_reducible exact Below.refl _ _) | (with_reducible refine Below.setCell ?_ (by first | omega | (simp; done) | (simp; omega)) _) | (with_reducible refine Below.alloc ?_ (by first | omega | (simp; done) | (simp; omega)) _) | (with_reducible refine Below.drew ?_) | (with_reducible refine below_drewN ?_ _) | (with_reducible refine Below.trans ?_ (Below.mono (by assumption) (by first | omega | (simp; done) | (simp; omega))))))))).mono ?_); rintro e w1 ⟨rfl, hb⟩; obtain ⟨hc, hf, hz⟩ := bcall hb; (try simp at hc hf hz)) | (go_at_call 10; (with_reducible refine (awake3_any _ (HP.out.tbl.below (show Below w.heap.size w _ from by (repeat' (first | (with_reducible exact Below.refl _ _) | (with_reducible refine Below.setCell ?_ (by first | omega | (simp; done) | (simp; omega)) _) | (with_reducible refine Below.alloc ?_ (by first | omega | (simp; done) | (simp; omega)) _) | (with_reducible refine Below.drew ?_) | (with_reducible refine below_drewN ?_ _) | (with_reducible refine Below.trans ?_ (Below.mono (by assumption) (by first | omega | (simp; done) | (simp; omega))))))))).mono ?_); rintro e w1 ⟨rfl, hb⟩; obtain ⟨hc, hf, hz⟩ := bcall hb; (try simp at hc hf hz)))
    go_ret
    refine ⟨rfl, ?_⟩
    (repeat' (first | (with_reducible exact Below.refl _ _) | (with_reducible refine Below.setCell ?_ (by first | omega | (simp; done) | (simp; omega)) _) | (with_reducible refine Below.alloc ?_ (by first | omega | (simp; done) | (simp; omega)) _) | (with_reducible refine Below.drew ?_) | (with_reducible refine below_drewN ?_ _) | (with_reducible refine Below.trans ?_ (Below.mono (by assumption) (by first | omega | (simp; done) | (simp; omega))))))

set_option maxRecDepth 100000 in
set_option maxHeartbeats 8000000 in
theorem wallDrags_late (hp : PreW w ao n G ak nk K ab nb B ro len R) (h : n ≤ 200 ∧ nk ≤ 200 ∧ nb ≤ 200) (hl : len ≤ 20) (hx : x ≤ 20) (hy : y ≤ 20) (p q : Int) (hty : y < 0 ∨ 900000 < t)
    (o1 : ∀ w, PreW w ao n G ak nk K ab nb B ro len R → Calls Tryd.prog 30 #[.agg #[.int .i64 W, .int .i64 H, .slice (ao) n cap], .agg #[.slice (ak) nk ck, .slice (ab) nb cb], .slice ro len rc, .int .i64 t, .int .i64 x, .int .i64 body] w fun e w' => e = .returned (.tuple #[.agg #[.int .i64 p, .int .i64 q], .int .i64 0]) ∧ Below w.heap.size w w')
    (o2 : ∀ w, PreW w ao n G ak nk K ab nb B ro len R → Calls Tryd.prog 31 #[.agg #[.int .i64 W, .int .i64 H, .slice (ao) n cap], .agg #[.slice (ak) nk ck, .slice (ab) nb cb], .slice ro len rc, .int .i64 t, .int .i64 x, .int .i64 body] w fun e w' => e = .returned (.tuple #[.agg #[.int .i64 p, .int .i64 q], .int .i64 0]) ∧ Below w.heap.size w w') :
    Calls Tryd.prog 7 #[.agg #[.int .i64 W, .int .i64 H, .slice (ao) n cap, .slice (ak) nk ck, .slice (ab) nb cb], .slice ro len rc, .agg #[.int .i64 t, .int .i64 x, .int .i64 y, .int .i64 body]] w fun e w' => e = .returned (.bool true) ∧ Below w.heap.size w w' := by
  have O1 := Lib.hid o1
  have O2 := Lib.hid o2
  have HP := Lib.hid hp
  have HN := Lib.hid h
  have hx' : y < 0 ∨ (0 ≤ y ∧ 900000 < t) := by omega
  clear o1 o2 hp h hty
  rcases hx' with hty | ⟨hy1, hty⟩
  all_goals
    go_enter Tryd.func7, Tryd.ntmps7
    go_wp2_with (first | (go_at_call 9; (with_reducible refine (small200_yes W H ao n cap ak nk ck ab nb cb _ HN.out).mono ?_); rintro e w1 ⟨rfl, hb⟩; obtain ⟨hc, hf, hz⟩ := bcall hb; (try simp at hc hf hz)) | (go_at_call 30; (with_reducible refine (O1.out _ (HP.out.below (show Below w.heap.size w _ from by (repeat' (first | (with_reducible exact Below.refl _ _) | (with_reducible refine Below.setCell ?_ (by first | omega | (simp; done) | (simp; omega)) _) | (with_reducible refine Below.alloc ?_ (by first | omega | (simp; done) | (simp; omega)) _) | (with_reducible refine Below.drew ?_) | (with_reducible refine below_drewN ?_ _) | (with_reducible refine Below.trans ?_ (Below.mono (by assumption) (by first | omega | (simp; done) | (simp; omega))))))))).mono ?_); rintro e w1 ⟨rfl, hb⟩; obtain ⟨hc, hf, hz⟩ := bcall hb; (try simp at hc hf hz)) | (go_at_call 31; (with_reducible refine (O2.out _ (HP.out.below (show Below w.heap.size w _ from by (repeat' (first | (with_reducible exact Below.refl _ _) | (with_reducible refine Below.setCell ?_ (by first | omega | (simp; done) | (simp; omega)) _) | (with_reducible refine Below.alloc ?_ (by first | omega | (simp; done) | (simp; omega)) _) | (with_reducible refine Below.drew ?_) | (with_reducible refine below_drewN ?_ _) | (with_reducible refine Below.trans ?_ (Below.mono (by assumption) (by first | omega | (simp; done) | (simp; omega))))))))).mono ?_); rintro e w1 ⟨rfl, hb⟩; obtain ⟨hc, hf, hz⟩ := bcall hb; (try simp at hc hf hz)) | (go_at_call 10; (with_reducible refine (awake3_any _ (HP.out.tbl.below (show Below w.heap.size w _ from by (repeat' (first | (with_reducible exact Below.refl _ _) | (with_reducible refine Below.setCell ?_ (by first | omega | (simp; done) | (simp; omega)) _) | (with_reducible refine Below.alloc ?_ (by first | omega | (simp; done) | (simp; omega)) _) | (with_reducible refine Below.drew ?_) | (with_reducible refine below_drewN ?_ _) | (with_reducible refine Below.trans ?_ (Below.mono (by assumption) (by first | omega | (simp; done) | (simp; omega))))))))).mono ?_); rintro e w1 ⟨rfl, hb⟩; obtain ⟨hc, hf, hz⟩ := bcall hb; (try simp at hc hf hz)))
    go_ret
    refine ⟨by simp, ?_⟩
    (repeat' (first | (with_reducible exact Below.refl _ _) | (with_reducible refine Below.setCell ?_ (by first | omega | (simp; done) | (simp; omega)) _) | (with_reducible refine Below.alloc ?_ (by first | omega | (simp; done) | (simp; omega)) _) | (with_reducible refine Below.drew ?_) | (with_reducible refine below_drewN ?_ _) | (with_reducible refine Below.trans ?_ (Below.mono (by assumption) (by first | omega | (simp; done) | (simp; omega))))))
end

set_option maxRecDepth 100000 in
set_option maxHeartbeats 16000000 in
theorem wallDrags_in (W H n cap : Nat) (ao : Option Addr) (G : Nat → Nat → Int) (ak : Option Addr) (ck : Nat) (K : Nat → Int) (ab : Option Addr) (cb : Nat) (B : Nat → Int) (ro : Option Addr) (len rc : Nat) (R : Nat → Int × Int) (t x y : Nat) (body : Int) (w : World) (s : Sides W H n) (hG : OkG n G) (hP : ∀ i, i < n → OkP (K i) (B i)) (hk : OkRs len R) (h1 : 1 ≤ body) (h9 : body ≤ 9) (hc : 0 < cntB B body n) (hp : PreW w ao n G ak n K ab n B ro len R) (h : n ≤ 200) (hx : x ≤ 20) (hy : y ≤ 20) (ht : t ≤ 900000) :
    Calls Tryd.prog 7 #[.agg #[.int .i64 W, .int .i64 H, .slice (ao) n cap, .slice (ak) n ck, .slice (ab) n cb], .slice ro len rc, .agg #[.int .i64 t, .int .i64 x, .int .i64 y, .int .i64 body]] w fun e w' => e = .returned (.bool true) ∧ Below w.heap.size w w' := by
  have hl := hk.2.1
  have hl20 : len ≤ 20 := by first | omega | exact hl
  have r1 : RunOk (t : Int) (x : Int) := by unfold RunOk; omega
  have r2 : RunOk ((t + x : Nat) : Int) (y : Int) := by unfold RunOk; omega
  have r3 : RunOk (t : Int) ((x + y : Nat) : Int) := by unfold RunOk; omega
  have hK := okK_of hP
  have b1 := dg_bd (len := len) (R := R) (B := B) (body := body) t x s.n1 s.n0 hK hG
  have b2 := dg_bd (len := len) (R := R) (B := B) (body := body) (t + x) y s.n1 s.n0 hK (okG_runW (len := len) (R := R) (t := t) (c := x) s.n0 hK hG)
  have o1 := fun wx (hp : PreW wx ao n G ak n K ab n B ro len R) => wDrag_ok W H n cap ao G ak ck K ab cb B ro len rc R t x body wx s hG hP hk r1 h1 h9 hc hp
  have o2 := fun wx (hp : PreW wx ao n G ak n K ab n B ro len R) => rDrag_ok W H n cap ao G ak ck K ab cb B ro len rc R t x body wx s hG hP hk r1 h1 h9 hc hp
  have o3 := fun wx (hp : PreW wx ao n G ak n K ab n B ro len R) => wRun_ok W H n cap ao G ak ck K ab cb B ro len rc R t x wx s hG hP hk r1 hp
  have o4 := fun wx a2 c2 (hp : PreW wx a2 n (runG (fwdW W H K len R) t x G) ak n K ab n B ro len R) => wDrag_ok W H n c2 a2 (runG (fwdW W H K len R) t x G) ak ck K ab cb B ro len rc R (t + x) y body wx s (okG_runW s.n0 hK hG) hP hk r2 h1 h9 hc hp
  have o5 := fun wx (hp : PreW wx ao n G ak n K ab n B ro len R) => wDrag_ok W H n cap ao G ak ck K ab cb B ro len rc R t (x + y) body wx s hG hP hk r3 h1 h9 hc hp
  rw [dgE_add, dgN_add] at o5
  rw [show ((t + x : Nat) : Int) = (t : Int) + (x : Int) from by omega] at o4
  rw [show ((x + y : Nat) : Int) = (x : Int) + (y : Int) from by omega] at o5
  obtain ⟨K1, hK1⟩ : ∃ K1, K1 = runG (fwdW W H K len R) t x G := ⟨_, rfl⟩
  rw [← hK1] at o3 o4 o5 b2
  obtain ⟨p1, hp1⟩ : ∃ p, p = dgE W H K len R t G (ownN B body n) x := ⟨_, rfl⟩
  obtain ⟨q1, hq1⟩ : ∃ p, p = dgN W H K len R t G (ownN B body n) x := ⟨_, rfl⟩
  obtain ⟨p2, hp2⟩ : ∃ p, p = dgE W H K len R (t + x) K1 (ownN B body n) y := ⟨_, rfl⟩
  obtain ⟨q2, hq2⟩ : ∃ p, p = dgN W H K len R (t + x) K1 (ownN B body n) y := ⟨_, rfl⟩
  rw [← hp1, ← hq1] at o1 o2 b1
  rw [← hp2, ← hq2] at o4 b2
  rw [← hp1, ← hq1, ← hp2, ← hq2] at o5
  have s1 : IntKind.i64.wrap (p1 + p2) = p1 + p2 := IntWalk.i64_in _ ⟨by omega, by omega⟩
  have s2 : IntKind.i64.wrap (q1 + q2) = q1 + q2 := IntWalk.i64_in _ ⟨by omega, by omega⟩
  have s3 : IntKind.i64.wrap ((t : Int) + (x : Int)) = (t : Int) + (x : Int) := IntWalk.i64_in _ ⟨by omega, by omega⟩
  have s4 : IntKind.i64.wrap ((x : Int) + (y : Int)) = (x : Int) + (y : Int) := IntWalk.i64_in _ ⟨by omega, by omega⟩
  have O1 := Lib.hid o1
  have O2 := Lib.hid o2
  have O3 := Lib.hid o3
  have O4 := Lib.hid o4
  have O5 := Lib.hid o5
  have HP := Lib.hid hp
  have HN : Hid (n ≤ 200 ∧ n ≤ 200 ∧ n ≤ 200) := Lib.hid ⟨h, h, h⟩
  clear o1 o2 o3 o4 o5 hp s hG hP hk r1 r2 r3 hK b1 b2 hK1 hp1 hq1 hp2 hq2 hc hl
  go_enter Tryd.func7, Tryd.ntmps7
  go_wp2_with (first | (go_at_call 9; (with_reducible refine (small200_yes W H ao n cap ak n ck ab n cb _ HN.out).mono ?_); rintro e w1 ⟨rfl, hb⟩; obtain ⟨hc, hf, hz⟩ := bcall hb; (try simp at hc hf hz)) | (go_at_call 31; (with_reducible refine (O2.out _ (HP.out.below (show Below w.heap.size w _ from by (repeat' (first | (with_reducible exact Below.refl _ _) | (with_reducible refine Below.setCell ?_ (by first | omega | (simp; done) | (simp; omega)) _) | (with_reducible refine Below.alloc ?_ (by first | omega | (simp; done) | (simp; omega)) _) | (with_reducible refine Below.drew ?_) | (with_reducible refine below_drewN ?_ _) | (with_reducible refine Below.trans ?_ (Below.mono (by assumption) (by first | omega | (simp; done) | (simp; omega))))))))).mono ?_); rintro e w1 ⟨rfl, hb⟩; obtain ⟨hc, hf, hz⟩ := bcall hb; (try simp at hc hf hz)) | (go_at_call 30; (with_reducible refine (O1.out _ (HP.out.below (show Below w.heap.size w _ from by (repeat' (first | (with_reducible exact Below.refl _ _) | (with_reducible refine Below.setCell ?_ (by first | omega | (simp; done) | (simp; omega)) _) | (with_reducible refine Below.alloc ?_ (by first | omega | (simp; done) | (simp; omega)) _) | (with_reducible refine Below.drew ?_) | (with_reducible refine below_drewN ?_ _) | (with_reducible refine Below.trans ?_ (Below.mono (by assumption) (by first | omega | (simp; done) | (simp; omega))))))))).mono ?_); rintro e w1 ⟨rfl, hb⟩; obtain ⟨hc, hf, hz⟩ := bcall hb; (try simp at hc hf hz)))
  (go_at_call 16; (with_reducible refine (O3.out _ (HP.out.below (show Below w.heap.size w _ from by (repeat' (first | (with_reducible exact Below.refl _ _) | (with_reducible refine Below.setCell ?_ (by first | omega | (simp; done) | (simp; omega)) _) | (with_reducible refine Below.alloc ?_ (by first | omega | (simp; done) | (simp; omega)) _) | (with_reducible refine Below.drew ?_) | (with_reducible refine below_drewN ?_ _) | (with_reducible refine Below.trans ?_ (Below.mono (by assumption) (by first | omega | (simp; done) | (simp; omega))))))))).mono ?_); rintro e wC ⟨oC, cC, rfl, hoC, foC, hb⟩; have HC := Lib.hid hoC.out; clear hoC foC; obtain ⟨hc, hf, hz⟩ := bcall hb; (try simp at hc hf hz))
  go_wp2_with fail
  (go_at_call 30; (with_reducible refine (O4.out _ _ _ ((HP.out.below (show Below w.heap.size w _ from by (repeat' (first | (with_reducible exact Below.refl _ _) | (with_reducible refine Below.setCell ?_ (by first | omega | (simp; done) | (simp; omega)) _) | (with_reducible refine Below.alloc ?_ (by first | omega | (simp; done) | (simp; omega)) _) | (with_reducible refine Below.drew ?_) | (with_reducible refine below_drewN ?_ _) | (with_reducible refine Below.trans ?_ (Below.mono (by assumption) (by first | omega | (simp; done) | (simp; omega)))))))).with (HC.out.below (show Below wC.heap.size wC _ from by (repeat' (first | (with_reducible exact Below.refl _ _) | (with_reducible refine Below.setCell ?_ (by first | omega | (simp; done) | (simp; omega)) _) | (with_reducible refine Below.alloc ?_ (by first | omega | (simp; done) | (simp; omega)) _) | (with_reducible refine Below.drew ?_) | (with_reducible refine below_drewN ?_ _) | (with_reducible refine Below.trans ?_ (Below.mono (by assumption) (by first | omega | (simp; done) | (simp; omega)))))))))).mono ?_); rintro e wD ⟨rfl, hb⟩; obtain ⟨hc, hf, hz⟩ := bcall hb; (try simp at hc hf hz))
  go_wp2_with fail
  (go_at_call 30; (with_reducible refine (O5.out _ (HP.out.below (show Below w.heap.size w _ from by (repeat' (first | (with_reducible exact Below.refl _ _) | (with_reducible refine Below.setCell ?_ (by first | omega | (simp; done) | (simp; omega)) _) | (with_reducible refine Below.alloc ?_ (by first | omega | (simp; done) | (simp; omega)) _) | (with_reducible refine Below.drew ?_) | (with_reducible refine below_drewN ?_ _) | (with_reducible refine Below.trans ?_ (Below.mono (by assumption) (by first | omega | (simp; done) | (simp; omega))))))))).mono ?_); rintro e wE ⟨rfl, hb⟩; obtain ⟨hc, hf, hz⟩ := bcall hb; (try simp at hc hf hz))
  go_wp2_with fail
  (go_at_call 10; (with_reducible refine (awake3_any _ (HP.out.tbl.below (show Below w.heap.size w _ from by (repeat' (first | (with_reducible exact Below.refl _ _) | (with_reducible refine Below.setCell ?_ (by first | omega | (simp; done) | (simp; omega)) _) | (with_reducible refine Below.alloc ?_ (by first | omega | (simp; done) | (simp; omega)) _) | (with_reducible refine Below.drew ?_) | (with_reducible refine below_drewN ?_ _) | (with_reducible refine Below.trans ?_ (Below.mono (by assumption) (by first | omega | (simp; done) | (simp; omega))))))))).mono ?_); rintro e w1 ⟨rfl, hb⟩; obtain ⟨hc, hf, hz⟩ := bcall hb; (try simp at hc hf hz))
  go_wp2
  go_ret
  refine ⟨by simp, ?_⟩
  (repeat' (first | (with_reducible exact Below.refl _ _) | (with_reducible refine Below.setCell ?_ (by first | omega | (simp; done) | (simp; omega)) _) | (with_reducible refine Below.alloc ?_ (by first | omega | (simp; done) | (simp; omega)) _) | (with_reducible refine Below.drew ?_) | (with_reducible refine below_drewN ?_ _) | (with_reducible refine Below.trans ?_ (Below.mono (by assumption) (by first | omega | (simp; done) | (simp; omega))))))

theorem wallDrags_any (W H : Int) (ao : Option Addr) (n cap : Nat) (G : Nat → Nat → Int) (ak : Option Addr) (nk ck : Nat) (K : Nat → Int) (ab : Option Addr) (nb cb : Nat) (B : Nat → Int) (ro : Option Addr) (len rc : Nat) (R : Nat → Int × Int) (t x y body : Int) (w : World) (hT : Tbl w) (wW : Wf W) (wH : Wf H) (hl : n ≤ cap) (hm : cap ≤ maxLen) (hG : CellsIn w ao n G) (hlk : nk ≤ ck) (hmk : ck ≤ maxLen) (hK : NumsIn w ak nk K) (fK : ∀ i, i < nk → Wf (K i)) (hlb : nb ≤ cb) (hmb : cb ≤ maxLen) (hB : NumsIn w ab nb B) (fB : ∀ i, i < nb → Wf (B i)) (hr : len ≤ rc) (hr' : rc ≤ maxLen) (hR : RulesIn w ro len R) :
    Calls Tryd.prog 7 #[.agg #[.int .i64 W, .int .i64 H, .slice (ao) n cap, .slice (ak) nk ck, .slice (ab) nb cb], .slice ro len rc, .agg #[.int .i64 t, .int .i64 x, .int .i64 y, .int .i64 body]] w fun e w' => e = .returned (.bool true) ∧ Below w.heap.size w w' := by
  by_cases hs : n ≤ 200 ∧ nk ≤ 200 ∧ nb ≤ 200
  · by_cases hs2 : len ≤ 20
    · by_cases hx : x ≤ 20 ∨ 1000 < x
      · by_cases hy : y ≤ 20
        · by_cases h : DOk W H n G nk K nb B len R t x body
          · obtain ⟨hw, h1, h9, hc⟩ := h
            obtain ⟨W', H', t', x', rfl, rfl, rfl, rfl, rfl, rfl, s, hG', hP, hk, hr⟩ := wok_nat W H n G nk K nb B len R hw
            have hx20 : x' ≤ 20 := by unfold RunOk at hr; omega
            by_cases hyt : y < 0 ∨ 900000 < (t' : Int)
            · exact wallDrags_late W' H' ao _ cap G ak _ ck K ab _ cb B ro len rc R t' x' y body w ⟨hT, hG, hK, hB, hR⟩ hs hs2 (by omega) hy _ _ hyt (fun wx hp => wDrag_ok W' H' _ cap ao G ak ck K ab cb B ro len rc R t' x' body wx s hG' hP hk hr h1 h9 hc hp) (fun wx hp => rDrag_ok W' H' _ cap ao G ak ck K ab cb B ro len rc R t' x' body wx s hG' hP hk hr h1 h9 hc hp)
            · obtain ⟨y', rfl⟩ := Int.eq_ofNat_of_zero_le (show 0 ≤ y by omega)
              exact wallDrags_in W' H' _ cap ao G ak ck K ab cb B ro len rc R t' x' y' body w s hG' hP hk h1 h9 hc ⟨hT, hG, hK, hB, hR⟩ hs.1 hx20 (by omega) (by omega)
          · obtain ⟨z, hz, e1, e2⟩ := drags_not W H ao n cap G ak nk ck K ab nb cb B ro len rc R t x body (by omega) h
            exact wallDrags_err W H ao n cap G ak nk ck K ab nb cb B ro len rc R t x y body w ⟨hT, hG, hK, hB, hR⟩ hs hs2 hx hy z hz e1 e2
        · exact wallDrags_far W H ao n cap ak nk ck ab nb cb ro len rc t x y body w hT hs hs2 hx (by omega)
      · exact wallDrags_long W H ao n cap ak nk ck ab nb cb ro len rc t x y body w hT hs hs2 (by omega) (by omega)
    · exact wallDrags_many W H ao n cap ak nk ck ab nb cb ro len rc t x y body w hT hs (by omega) (Nat.le_trans hr (Nat.le_trans hr' (by unfold maxLen; omega)))
  · exact wallDrags_big W H ao n cap ak nk ck ab nb cb ro len rc t x y body w hT hs
end Go.Proofs.YtnpmlbhlchoolaaDoor
