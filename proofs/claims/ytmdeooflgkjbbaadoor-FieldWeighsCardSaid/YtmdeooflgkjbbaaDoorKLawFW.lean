/- The law FieldWeighs: large inputs, tables that there are not, tables that are too long. -/
import Derived.Test.YtmdeooflgkjbbaaDoorKFAwkL
import Derived.Test.YtmdeooflgkjbbaaDoorKFWsM
import Derived.BigQuiet
import Derived.Test.YtmdeooflgkjbbaaDoorKEnds
import Derived.Test.YtmdeooflgkjbbaaDoorKSameN
namespace Go.Proofs.YtmdeooflgkjbbaaDoor
set_option linter.unusedSimpArgs false
set_option linter.unusedVariables false
open Go.RowKit Go.Shelf
attribute [local go_sem] Oper.semAt_some

set_option maxRecDepth 100000 in
set_option maxHeartbeats 16000000 in
theorem fw_len (W H wi hi : Int) (al an ao : Option Addr) (nl cl nn cn n cap : Nat) (w : World) (hM : Mvs w) (h : 150 < nl ∨ (¬ 150 < nl ∧ 150 < nn)) :
    Calls Tryd.prog 4 #[.slice al nl cl, .slice an nn cn, .agg #[.int .i64 W, .int .i64 H, .slice (ao) n cap], .int .i64 wi, .int .i64 hi] w fun e w' => e = .returned (.bool true) ∧ Below w.heap.size w w' := by
  have HM := Lib.hid hM
  clear hM
  have h' : 150 < (nl : Int) ∨ (¬ 150 < (nl : Int) ∧ 150 < (nn : Int)) := by omega
  clear h
  rcases h' with h1 | ⟨h1, h2⟩
  all_goals
    go_enter Tryd.func4, Tryd.ntmps4
    go_wp2_with (go_at_call 9; (with_reducible refine (awake08_any _ (HM.out.below (by (repeat' (first | (with_reducible exact Below.refl _ _) | (with_reducible refine Below.setCell ?_ (by first | omega | (simp; done) | (simp; omega)) _) | (with_reducible refine Below.alloc ?_ (by first | omega | (simp; done) | (simp; omega)) _) | (with_reducible refine Below.drew ?_) | (with_reducible refine below_drewN ?_ _) | (with_reducible refine Below.trans ?_ (Below.mono (by assumption) (by first | omega | (simp; done) | (simp; omega))))))))).mono ?_); rintro e w1 ⟨rfl, hb⟩; obtain ⟨hc, hf, hz⟩ := bcall hb; (try simp at hc hf hz))
    go_ret
    refine ⟨by simp, ?_⟩
    (repeat' (first | (with_reducible exact Below.refl _ _) | (with_reducible refine Below.setCell ?_ (by first | omega | (simp; done) | (simp; omega)) _) | (with_reducible refine Below.alloc ?_ (by first | omega | (simp; done) | (simp; omega)) _) | (with_reducible refine Below.drew ?_) | (with_reducible refine below_drewN ?_ _) | (with_reducible refine Below.trans ?_ (Below.mono (by assumption) (by first | omega | (simp; done) | (simp; omega))))))
set_option maxRecDepth 100000 in
set_option maxHeartbeats 16000000 in
theorem fw_big (W H wi hi : Int) (al an ao : Option Addr) (nl cl nn cn n cap : Nat) (w : World) (hM : Mvs w) (hl : nl ≤ 150) (hn : nn ≤ 150) (BG : ∀ wx, Calls Tryd.prog 10 #[.agg #[.int .i64 W, .int .i64 H, .slice (ao) n cap]] wx fun e w' => e = .returned (.bool true) ∧ Below wx.heap.size wx w') :
    Calls Tryd.prog 4 #[.slice al nl cl, .slice an nn cn, .agg #[.int .i64 W, .int .i64 H, .slice (ao) n cap], .int .i64 wi, .int .i64 hi] w fun e w' => e = .returned (.bool true) ∧ Below w.heap.size w w' := by
  have HM := Lib.hid hM
  have BG := Lib.hid BG
  have k1 : ¬ 150 < (nl : Int) := by omega
  have k2 : ¬ 150 < (nn : Int) := by omega
  clear hM hl hn
  go_enter Tryd.func4, Tryd.ntmps4
  go_wp2_with (first | (go_at_call 9; (with_reducible refine (awake08_any _ (HM.out.below (by (repeat' (first | (with_reducible exact Below.refl _ _) | (with_reducible refine Below.setCell ?_ (by first | omega | (simp; done) | (simp; omega)) _) | (with_reducible refine Below.alloc ?_ (by first | omega | (simp; done) | (simp; omega)) _) | (with_reducible refine Below.drew ?_) | (with_reducible refine below_drewN ?_ _) | (with_reducible refine Below.trans ?_ (Below.mono (by assumption) (by first | omega | (simp; done) | (simp; omega))))))))).mono ?_); rintro e w1 ⟨rfl, hb⟩; obtain ⟨hc, hf, hz⟩ := bcall hb; (try simp at hc hf hz)) | (go_at_call 10; (with_reducible refine (BG.out _).mono ?_); rintro e w1 ⟨rfl, hb⟩; obtain ⟨hc, hf, hz⟩ := bcall hb; (try simp at hc hf hz)))
  go_ret
  refine ⟨by simp, ?_⟩
  (repeat' (first | (with_reducible exact Below.refl _ _) | (with_reducible refine Below.setCell ?_ (by first | omega | (simp; done) | (simp; omega)) _) | (with_reducible refine Below.alloc ?_ (by first | omega | (simp; done) | (simp; omega)) _) | (with_reducible refine Below.drew ?_) | (with_reducible refine below_drewN ?_ _) | (with_reducible refine Below.trans ?_ (Below.mono (by assumption) (by first | omega | (simp; done) | (simp; omega))))))
set_option maxRecDepth 100000 in
set_option maxHeartbeats 16000000 in
theorem fw_err (W H wi hi : Int) (al an ao : Option Addr) (nl cl nn cn n cap : Nat) (w : World) (hM : Mvs w) (hl : nl ≤ 150) (hn : nn ≤ 150) (BG : ∀ wx, Calls Tryd.prog 10 #[.agg #[.int .i64 W, .int .i64 H, .slice (ao) n cap]] wx fun e w' => e = .returned (.bool false) ∧ Below wx.heap.size wx w') (x y er : Int)
    (W1 : ∀ wx, Below w.heap.size w wx → Calls Tryd.prog 25 #[.slice al nl cl, .slice an nn cn] wx fun e w' => e = .returned (.tuple #[.agg #[.int .i64 x, .int .i64 y], .int .i64 er]) ∧ Below wx.heap.size wx w')
    (W2 : ∀ wx, Below w.heap.size w wx → Calls Tryd.prog 26 #[.slice al nl cl, .slice an nn cn] wx fun e w' => e = .returned (.tuple #[.agg #[.int .i64 x, .int .i64 y], .int .i64 er]) ∧ Below wx.heap.size wx w')
    (e2 : Int) (he : e2 = 1 ∨ e2 = 7 ∨ e2 = 9) (TA : ∀ wx, Below w.heap.size w wx → Calls Tryd.prog 19 #[.agg #[.int .i64 W, .int .i64 H, .slice (ao) n cap], .int .i64 wi, .int .i64 hi] wx fun e w' => e = .returned (.tuple #[.slice none 0 0, .int .i64 e2]) ∧ Below wx.heap.size wx w') :
    Calls Tryd.prog 4 #[.slice al nl cl, .slice an nn cn, .agg #[.int .i64 W, .int .i64 H, .slice (ao) n cap], .int .i64 wi, .int .i64 hi] w fun e w' => e = .returned (.bool true) ∧ Below w.heap.size w w' := by
  have HM := Lib.hid hM
  have BG := Lib.hid BG
  have W1 := Lib.hid W1
  have W2 := Lib.hid W2
  have TA := Lib.hid TA
  have d1 : (e2 != 0) = true := by rcases he with rfl | rfl | rfl <;> decide
  have d2 : (e2 == 0) = false := by rcases he with rfl | rfl | rfl <;> decide
  have d3 : ¬ (e2 = 0) := by rcases he with rfl | rfl | rfl <;> decide
  have k1 : ¬ 150 < (nl : Int) := by omega
  have k2 : ¬ 150 < (nn : Int) := by omega
  clear hM hl hn he
  go_enter Tryd.func4, Tryd.ntmps4
  go_wp2_with (first | (go_at_call 9; (with_reducible refine (awake08_any _ (HM.out.below (by (repeat' (first | (with_reducible exact Below.refl _ _) | (with_reducible refine Below.setCell ?_ (by first | omega | (simp; done) | (simp; omega)) _) | (with_reducible refine Below.alloc ?_ (by first | omega | (simp; done) | (simp; omega)) _) | (with_reducible refine Below.drew ?_) | (with_reducible refine below_drewN ?_ _) | (with_reducible refine Below.trans ?_ (Below.mono (by assumption) (by first | omega | (simp; done) | (simp; omega))))))))).mono ?_); rintro e w1 ⟨rfl, hb⟩; obtain ⟨hc, hf, hz⟩ := bcall hb; (try simp at hc hf hz)) | (go_at_call 10; (with_reducible refine (BG.out _).mono ?_); rintro e w1 ⟨rfl, hb⟩; obtain ⟨hc, hf, hz⟩ := bcall hb; (try simp at hc hf hz)) | (go_at_call 25; (with_reducible refine (W1.out _ (by (repeat' (first | (with_reducible exact Below.refl _ _) | (with_reducible refine Below.setCell ?_ (by first | omega | (simp; done) | (simp; omega)) _) | (with_reducible refine Below.alloc ?_ (by first | omega | (simp; done) | (simp; omega)) _) | (with_reducible refine Below.drew ?_) | (with_reducible refine below_drewN ?_ _) | (with_reducible refine Below.trans ?_ (Below.mono (by assumption) (by first | omega | (simp; done) | (simp; omega)))))))).mono ?_); rintro e w1 ⟨rfl, hb⟩; obtain ⟨hc, hf, hz⟩ := bcall hb; (try simp at hc hf hz)) | (go_at_call 26; (with_reducible refine (W2.out _ (by (repeat' (first | (with_reducible exact Below.refl _ _) | (with_reducible refine Below.setCell ?_ (by first | omega | (simp; done) | (simp; omega)) _) | (with_reducible refine Below.alloc ?_ (by first | omega | (simp; done) | (simp; omega)) _) | (with_reducible refine Below.drew ?_) | (with_reducible refine below_drewN ?_ _) | (with_reducible refine Below.trans ?_ (Below.mono (by assumption) (by first | omega | (simp; done) | (simp; omega)))))))).mono ?_); rintro e w1 ⟨rfl, hb⟩; obtain ⟨hc, hf, hz⟩ := bcall hb; (try simp at hc hf hz)) | (go_at_call 19; (with_reducible refine (TA.out _ (by (repeat' (first | (with_reducible exact Below.refl _ _) | (with_reducible refine Below.setCell ?_ (by first | omega | (simp; done) | (simp; omega)) _) | (with_reducible refine Below.alloc ?_ (by first | omega | (simp; done) | (simp; omega)) _) | (with_reducible refine Below.drew ?_) | (with_reducible refine below_drewN ?_ _) | (with_reducible refine Below.trans ?_ (Below.mono (by assumption) (by first | omega | (simp; done) | (simp; omega)))))))).mono ?_); rintro e w1 ⟨rfl, hb⟩; obtain ⟨hc, hf, hz⟩ := bcall hb; (try simp at hc hf hz)))
  go_ret
  refine ⟨by simp, ?_⟩
  (repeat' (first | (with_reducible exact Below.refl _ _) | (with_reducible refine Below.setCell ?_ (by first | omega | (simp; done) | (simp; omega)) _) | (with_reducible refine Below.alloc ?_ (by first | omega | (simp; done) | (simp; omega)) _) | (with_reducible refine Below.drew ?_) | (with_reducible refine below_drewN ?_ _) | (with_reducible refine Below.trans ?_ (Below.mono (by assumption) (by first | omega | (simp; done) | (simp; omega))))))
set_option maxRecDepth 100000 in
set_option maxHeartbeats 16000000 in
theorem fw_many (W H wi hi : Int) (al an ao : Option Addr) (nl cl nn cn n cap : Nat) (w : World) (hM : Mvs w) (hl : nl ≤ 150) (hn : nn ≤ 150) (BG : ∀ wx, Calls Tryd.prog 10 #[.agg #[.int .i64 W, .int .i64 H, .slice (ao) n cap]] wx fun e w' => e = .returned (.bool false) ∧ Below wx.heap.size wx w') (x y er : Int)
    (W1 : ∀ wx, Below w.heap.size w wx → Calls Tryd.prog 25 #[.slice al nl cl, .slice an nn cn] wx fun e w' => e = .returned (.tuple #[.agg #[.int .i64 x, .int .i64 y], .int .i64 er]) ∧ Below wx.heap.size wx w')
    (W2 : ∀ wx, Below w.heap.size w wx → Calls Tryd.prog 26 #[.slice al nl cl, .slice an nn cn] wx fun e w' => e = .returned (.tuple #[.agg #[.int .i64 x, .int .i64 y], .int .i64 er]) ∧ Below wx.heap.size wx w')
    (K : Nat) (S : Nat → Int) (hK : 100 < K) (TA : ∀ wx, Below w.heap.size w wx → Calls Tryd.prog 19 #[.agg #[.int .i64 W, .int .i64 H, .slice (ao) n cap], .int .i64 wi, .int .i64 hi] wx fun e w' => GaveI 0 K S wx e w') :
    Calls Tryd.prog 4 #[.slice al nl cl, .slice an nn cn, .agg #[.int .i64 W, .int .i64 H, .slice (ao) n cap], .int .i64 wi, .int .i64 hi] w fun e w' => e = .returned (.bool true) ∧ Below w.heap.size w w' := by
  have HM := Lib.hid hM
  have BG := Lib.hid BG
  have W1 := Lib.hid W1
  have W2 := Lib.hid W2
  have TA := Lib.hid TA
  have d1 : 100 < (K : Int) := by omega
  have k1 : ¬ 150 < (nl : Int) := by omega
  have k2 : ¬ 150 < (nn : Int) := by omega
  clear hM hl hn
  go_enter Tryd.func4, Tryd.ntmps4
  go_wp2_with (first | (go_at_call 9; (with_reducible refine (awake08_any _ (HM.out.below (by (repeat' (first | (with_reducible exact Below.refl _ _) | (with_reducible refine Below.setCell ?_ (by first | omega | (simp; done) | (simp; omega)) _) | (with_reducible refine Below.alloc ?_ (by first | omega | (simp; done) | (simp; omega)) _) | (with_reducible refine Below.drew ?_) | (with_reducible refine below_drewN ?_ _) | (with_reducible refine Below.trans ?_ (Below.mono (by assumption) (by first | omega | (simp; done) | (simp; omega))))))))).mono ?_); rintro e w1 ⟨rfl, hb⟩; obtain ⟨hc, hf, hz⟩ := bcall hb; (try simp at hc hf hz)) | (go_at_call 10; (with_reducible refine (BG.out _).mono ?_); rintro e w1 ⟨rfl, hb⟩; obtain ⟨hc, hf, hz⟩ := bcall hb; (try simp at hc hf hz)) | (go_at_call 25; (with_reducible refine (W1.out _ (by (repeat' (first | (with_reducible exact Below.refl _ _) | (with_reducible refine Below.setCell ?_ (by first | omega | (simp; done) | (simp; omega)) _) | (with_reducible refine Below.alloc ?_ (by first | omega | (simp; done) | (simp; omega)) _) | (with_reducible refine Below.drew ?_) | (with_reducible refine below_drewN ?_ _) | (with_reducible refine Below.trans ?_ (Below.mono (by assumption) (by first | omega | (simp; done) | (simp; omega)))))))).mono ?_); rintro e w1 ⟨rfl, hb⟩; obtain ⟨hc, hf, hz⟩ := bcall hb; (try simp at hc hf hz)) | (go_at_call 26; (with_reducible refine (W2.out _ (by (repeat' (first | (with_reducible exact Below.refl _ _) | (with_reducible refine Below.setCell ?_ (by first | omega | (simp; done) | (simp; omega)) _) | (with_reducible refine Below.alloc ?_ (by first | omega | (simp; done) | (simp; omega)) _) | (with_reducible refine Below.drew ?_) | (with_reducible refine below_drewN ?_ _) | (with_reducible refine Below.trans ?_ (Below.mono (by assumption) (by first | omega | (simp; done) | (simp; omega)))))))).mono ?_); rintro e w1 ⟨rfl, hb⟩; obtain ⟨hc, hf, hz⟩ := bcall hb; (try simp at hc hf hz)))
  (go_at_call 19; (refine (TA.out _ (by (repeat' (first | (with_reducible exact Below.refl _ _) | (with_reducible refine Below.setCell ?_ (by first | omega | (simp; done) | (simp; omega)) _) | (with_reducible refine Below.alloc ?_ (by first | omega | (simp; done) | (simp; omega)) _) | (with_reducible refine Below.drew ?_) | (with_reducible refine below_drewN ?_ _) | (with_reducible refine Below.trans ?_ (Below.mono (by assumption) (by first | omega | (simp; done) | (simp; omega)))))))).mono ?_); rintro e w21 ⟨a21, q21, rfl, N21, hb21⟩)
  have N21 := Lib.hid N21
  obtain ⟨hc21, hf21, hz21⟩ := bcall hb21
  (try simp at hc21 hf21 hz21)
  go_wp2
  go_ret
  refine ⟨by simp, ?_⟩
  (repeat' (first | (with_reducible exact Below.refl _ _) | (with_reducible refine Below.setCell ?_ (by first | omega | (simp; done) | (simp; omega)) _) | (with_reducible refine Below.alloc ?_ (by first | omega | (simp; done) | (simp; omega)) _) | (with_reducible refine Below.drew ?_) | (with_reducible refine below_drewN ?_ _) | (with_reducible refine Below.trans ?_ (Below.mono (by assumption) (by first | omega | (simp; done) | (simp; omega))))))
end Go.Proofs.YtmdeooflgkjbbaaDoor

/- The law FieldWeighs: a table that is weighed. -/


namespace Go.Proofs.YtmdeooflgkjbbaaDoor
set_option linter.unusedSimpArgs false
set_option linter.unusedVariables false
open Go.RowKit Go.Shelf
attribute [local go_sem] Oper.semAt_some

theorem info_ratio : (Tryd.prog.info? 33).map (fun i => (i.zero, i.size, i.bytes)) = some (some (.agg #[.int .i64 0, .int .i64 0]), 2, 16) := by kernel_rfl
/-- The densities of a table, and the numbers of their cells, as values. -/
def rV (S : Nat → Int) (c : Nat) : Nat → List Value
  | 0 => []
  | k + 1 => rV S c k ++ [.int .i64 (ltN (S k) c), .int .i64 (((ltD (S k) c : Nat) : Int))]
def cV (c : Nat) : Nat → List Value
  | 0 => []
  | k + 1 => cV c k ++ [.int .i64 ((c : Int))]
theorem rV_len (S : Nat → Int) (c k : Nat) : (rV S c k).length = k * 2 := by
  induction k with
  | zero => rfl
  | succ k ih => simp [rV, ih]; omega
theorem cV_len (c k : Nat) : (cV c k).length = k := by
  induction k with
  | zero => rfl
  | succ k ih => simp [cV, ih]
theorem rV_get (S : Nat → Int) (c : Nat) {k i : Nat} (h : i < k) : (rV S c k)[i * 2]? = some (.int .i64 (ltN (S i) c)) ∧ (rV S c k)[i * 2 + 1]? = some (.int .i64 (((ltD (S i) c : Nat) : Int))) := by
  induction k with
  | zero => omega
  | succ k ih =>
    simp only [rV]
    by_cases e : i < k
    · rw [List.getElem?_append_left (by rw [rV_len]; omega), List.getElem?_append_left (by rw [rV_len]; omega)]
      exact ih e
    · obtain rfl : i = k := by omega
      rw [List.getElem?_append_right (by rw [rV_len]; omega), List.getElem?_append_right (by rw [rV_len]; omega), rV_len]
      simp
theorem cV_get (c : Nat) {k i : Nat} (h : i < k) : (cV c k)[i]? = some (.int .i64 ((c : Int))) := by
  induction k with
  | zero => omega
  | succ k ih =>
    simp only [cV]
    by_cases e : i < k
    · rw [List.getElem?_append_left (by rw [cV_len]; exact e)]
      exact ih e
    · obtain rfl : i = k := by omega
      rw [List.getElem?_append_right (by rw [cV_len]; omega), cV_len]
      simp
/-- Two lists of one's own, apart. -/
structure TR (w : World) (base k1 k2 : Nat) (xs1 xs2 : List Value) (v1 v2 : Value) : Prop where
  one : w.ownsRow base 33 2 v1 k1 xs1
  two : w.ownsRow base 3 1 v2 k2 xs2
  sep : ∀ j, v1.ownBlock = some j → v2.ownBlock = some j → False
theorem ownsW_lt {w : World} {base : Nat} {e : TypeId} {size n : Nat} {v : Value} {xs : List Value} (h : w.ownsRow base e size v n xs) : ∀ j, v.ownBlock = some j → base ≤ j ∧ j < w.heap.size := by
  intro j hj
  rcases h.2 with ⟨rfl, _⟩ | ⟨g, cap, cur, rfl, hg, hh, _⟩
  · cases hj
  · cases hj
    exact ⟨hg, (Array.getElem?_eq_some_iff.1 hh).1⟩
theorem TR.nil (w : World) (base : Nat) : TR w base 0 0 [] [] (.slice none 0 0) (.slice none 0 0) := ⟨World.ownsRow_nil _ _ _ _, World.ownsRow_nil _ _ _ _, fun j h => by cases h⟩
theorem TR.below {w w' : World} {base k1 k2 : Nat} {xs1 xs2 : List Value} {v1 v2 : Value} (h : TR w base k1 k2 xs1 xs2 v1 v2) (hb : Below w.heap.size w w') : TR w' base k1 k2 xs1 xs2 v1 v2 := ⟨owns_below h.one hb, owns_below h.two hb, h.sep⟩
theorem TR.app1 {X w6 : World} {base g cap k1 k2 : Nat} {xs1 xs2 ys : List Value} {v1 v2 : Value} (h : TR X base k1 k2 xs1 xs2 v1 v2)
    (hown : w6.ownsRow base 33 2 (.slice (some ⟨g, 0, none⟩) (k1 + 1) cap) (k1 + 1) ys) (hgrow : X.grownBy w6 v1.ownBlock) (hat : v1.ownBlock = some g ∨ g = X.heap.size) : TR w6 base (k1 + 1) k2 ys xs2 (.slice (some ⟨g, 0, none⟩) (k1 + 1) cap) v2 := by
  refine ⟨hown, h.two.kept hgrow ?_, ?_⟩
  · cases e : v2.ownBlock with
    | none => exact .inl rfl
    | some j => exact .inr fun e1 => h.sep j e1.symm e
  · intro j e1 e2
    have e1 : g = j := by simpa [Value.ownBlock] using e1
    subst e1
    rcases hat with hat | hat
    · exact h.sep g hat e2
    · have := (ownsW_lt h.two g e2).2
      omega
theorem TR.app2 {X w6 : World} {base g cap k1 k2 : Nat} {xs1 xs2 ys : List Value} {v1 v2 : Value} (h : TR X base k1 k2 xs1 xs2 v1 v2)
    (hown : w6.ownsRow base 3 1 (.slice (some ⟨g, 0, none⟩) (k2 + 1) cap) (k2 + 1) ys) (hgrow : X.grownBy w6 v2.ownBlock) (hat : v2.ownBlock = some g ∨ g = X.heap.size) : TR w6 base k1 (k2 + 1) xs1 ys v1 (.slice (some ⟨g, 0, none⟩) (k2 + 1) cap) := by
  refine ⟨h.one.kept hgrow ?_, hown, ?_⟩
  · cases e : v1.ownBlock with
    | none => exact .inl rfl
    | some j => exact .inr fun e1 => h.sep j e e1.symm
  · intro j e1 e2
    have e2 : g = j := by simpa [Value.ownBlock] using e2
    subst e2
    rcases hat with hat | hat
    · exact h.sep g e1 hat
    · have := (ownsW_lt h.one g e1).2
      omega

theorem two_newR (w : World) (a b : Value) (t : TypeId) : ∀ (j : Nat) u, ([a, b] : List Value)[j]? = some u → (w.alloc (.cells #[a, b] t)).cell? ((⟨w.heap.size, 0, none⟩ : Addr).add j) = some u := by
  intro j u hu
  match j, hu with
  | 0, hu => simp at hu; subst hu; simp only [Addr.add, Nat.zero_add]; exact (World.cell?_alloc_at _ _ _ _ (by simp)).trans rfl
  | 1, hu => simp at hu; subst hu; simp only [Addr.add, Nat.zero_add]; exact (World.cell?_alloc_at _ _ _ _ (by simp)).trans rfl
  | k + 2, hu => simp at hu
theorem one_newI (w : World) (a : Value) (t : TypeId) : ∀ (j : Nat) u, ([a] : List Value)[j]? = some u → (w.alloc (.cells #[a] t)).cell? ((⟨w.heap.size, 0, none⟩ : Addr).add j) = some u := by
  intro j u hu
  match j, hu with
  | 0, hu => simp at hu; subst hu; simp only [Addr.add, Nat.zero_add]; exact (World.cell?_alloc_at _ _ _ _ (by simp)).trans rfl
  | k + 1, hu => simp at hu
/-- What both lists are, opened. -/
theorem TR.open {w : World} {base K : Nat} {S : Nat → Int} {c : Nat} {v1 v2 : Value} (h : TR w base K K (rV S c K) (cV c K) v1 v2) (hK : 1 ≤ K) : ∃ g1 c1 g2 c2, v1 = .slice (some ⟨g1, 0, none⟩) K c1 ∧ v2 = .slice (some ⟨g2, 0, none⟩) K c2 ∧ g1 < w.heap.size ∧ g2 < w.heap.size ∧ RulesAt w g1 0 K (fun i => (ltN (S i) c, ((ltD (S i) c : Nat) : Int))) ∧ NumsAt w g2 0 K (fun _ => (c : Int)) := by
  have h1 := h.one
  have h2 := h.two
  rcases h.one.2 with ⟨_, h0⟩ | ⟨g1, c1, cur, rfl, hg, hh, _⟩
  · omega
  · rcases h.two.2 with ⟨_, h0⟩ | ⟨g2, c2, cur2, rfl, hg2, hh2, _⟩
    · omega
    · refine ⟨g1, c1, g2, c2, rfl, rfl, (Array.getElem?_eq_some_iff.1 hh).1, (Array.getElem?_eq_some_iff.1 hh2).1, fun i hi => ?_, fun i hi => ?_⟩
      · obtain ⟨e1, e2⟩ := rV_get S c (k := K) hi
        rw [Nat.zero_add]
        exact ⟨by rw [h1.cellAt (i * 2) (by omega)]; exact e1, by rw [h1.cellAt (i * 2 + 1) (by omega)]; exact e2⟩
      · rw [Nat.zero_add, h2.cellAt i (by omega)]
        exact cV_get c hi

set_option maxRecDepth 100000 in
set_option maxHeartbeats 32000000 in
theorem fw_ok (W H wi hi n cap b off nl cl nn cn m K c : Nat) (al an : Option Addr) (S : Nat → Int) (w : World) (hM : Mvs w) (hl : nl ≤ 150) (hn : nn ≤ 150)
    (BG : ∀ wx, Calls Tryd.prog 10 #[.agg #[.int .i64 W, .int .i64 H, .slice (some ⟨b, off, none⟩) n cap]] wx fun e w' => e = .returned (.bool false) ∧ Below wx.heap.size wx w') (x y er : Int)
    (W1 : ∀ wx, Below w.heap.size w wx → Calls Tryd.prog 25 #[.slice al nl cl, .slice an nn cn] wx fun e w' => e = .returned (.tuple #[.agg #[.int .i64 x, .int .i64 y], .int .i64 er]) ∧ Below wx.heap.size wx w')
    (W2 : ∀ wx, Below w.heap.size w wx → Calls Tryd.prog 26 #[.slice al nl cl, .slice an nn cn] wx fun e w' => e = .returned (.tuple #[.agg #[.int .i64 x, .int .i64 y], .int .i64 er]) ∧ Below wx.heap.size wx w')
    (hK : K ≤ 100) (hK1 : 1 ≤ K) (hm1 : 1 ≤ m) (h1 : 1 ≤ wi) (h2 : 1 ≤ hi) (hWm : W = wi * m) (hW : W ≤ 64) (hH : H ≤ 64) (hc : c = wi * hi) (hc1 : 1 ≤ c) (hc2 : c ≤ 1024) (hX : ∀ i, i < K → (tabP m wi hi i).1 + wi ≤ W ∧ (tabP m wi hi i).2 + hi ≤ H) (hS : ∀ i, i < K → 0 ≤ S i ∧ S i ≤ 1000000000)
    (TA : ∀ wx, Below w.heap.size w wx → Calls Tryd.prog 19 #[.agg #[.int .i64 W, .int .i64 H, .slice (some ⟨b, off, none⟩) n cap], .int .i64 ((wi : Int)), .int .i64 ((hi : Int))] wx fun e w' => GaveI 0 K S wx e w')
    (DN : ∀ i, i < K → ∀ wx, Below w.heap.size w wx → Calls Tryd.prog 13 #[.agg #[.int .i64 W, .int .i64 H, .slice (some ⟨b, off, none⟩) n cap], .agg #[.int .i64 (((tabP m wi hi i).1 : Int)), .int .i64 (((tabP m wi hi i).2 : Int))], .agg #[.int .i64 (((tabP m wi hi i).1 : Int) + (wi : Int) - 1), .int .i64 (((tabP m wi hi i).2 : Int) + (hi : Int) - 1)]] wx fun e w' => e = .returned (.tuple #[.agg #[.int .i64 (ltN (S i) c), .int .i64 (((ltD (S i) c : Nat) : Int))], .int .i64 0]) ∧ Below wx.heap.size wx w')
    (CE : ∀ i, i < K → ∀ wx, Below w.heap.size w wx → Calls Tryd.prog 11 #[.agg #[.int .i64 W, .int .i64 H, .slice (some ⟨b, off, none⟩) n cap], .agg #[.int .i64 (((tabP m wi hi i).1 : Int)), .int .i64 (((tabP m wi hi i).2 : Int))], .agg #[.int .i64 (((tabP m wi hi i).1 : Int) + (wi : Int) - 1), .int .i64 (((tabP m wi hi i).2 : Int) + (hi : Int) - 1)]] wx fun e w' => e = .returned (.tuple #[.int .i64 ((c : Int)), .int .i64 0]) ∧ Below wx.heap.size wx w')
    (u v : Int)
    (WM : ∀ wx g1 c1 g2 c2, g1 < wx.heap.size → g2 < wx.heap.size → RulesAt wx g1 0 K (fun i => (ltN (S i) c, ((ltD (S i) c : Nat) : Int))) → NumsAt wx g2 0 K (fun _ => (c : Int)) → Calls Tryd.prog 25 #[.slice (some ⟨g1, 0, none⟩) K c1, .slice (some ⟨g2, 0, none⟩) K c2] wx fun e w' => e = .returned (.tuple #[.agg #[.int .i64 u, .int .i64 v], .int .i64 0]) ∧ Below wx.heap.size wx w')
    (DA : ∀ wx, Below w.heap.size w wx → Calls Tryd.prog 13 #[.agg #[.int .i64 W, .int .i64 H, .slice (some ⟨b, off, none⟩) n cap], .agg #[.int .i64 0, .int .i64 0], .agg #[.int .i64 ((W : Int) - 1), .int .i64 ((H : Int) - 1)]] wx fun e w' => e = .returned (.tuple #[.agg #[.int .i64 u, .int .i64 v], .int .i64 0]) ∧ Below wx.heap.size wx w') :
    Calls Tryd.prog 4 #[.slice al nl cl, .slice an nn cn, .agg #[.int .i64 W, .int .i64 H, .slice (some ⟨b, off, none⟩) n cap], .int .i64 ((wi : Int)), .int .i64 ((hi : Int))] w fun e w' => e = .returned (.bool true) ∧ Below w.heap.size w w' := by
  obtain ⟨i0, hif, hz0, hz1, hz2⟩ := info_parts info_intF
  obtain ⟨j0, hjf, hy0, hy1, hy2⟩ := info_parts info_ratio
  have HM := Lib.hid hM
  have BG := Lib.hid BG
  have W1 := Lib.hid W1
  have W2 := Lib.hid W2
  have TA := Lib.hid TA
  have DN := Lib.hid DN
  have CE := Lib.hid CE
  have WM := Lib.hid WM
  have DA := Lib.hid DA
  have HX := Lib.hid hX
  have HS := Lib.hid hS
  have HC := Lib.hid (And.intro hc hWm)
  have k1 : ¬ 150 < (nl : Int) := by omega
  have k2 : ¬ 150 < (nn : Int) := by omega
  have k3 : ¬ 100 < (K : Int) := by omega
  clear hM hX hS hc hWm
  have t0 := Three.new0 w 24 (.int .i64 W) (.int .i64 H) (.slice (some ⟨b, off, none⟩) n cap)
  go_enter Tryd.func4, Tryd.ntmps4
  go_wp2_with (go_at_call 9; (with_reducible refine (awake08_any _ (HM.out.below (by (repeat' (first | (with_reducible exact Below.refl _ _) | (with_reducible refine Below.setCell ?_ (by first | omega | (simp; done) | (simp; omega)) _) | (with_reducible refine Below.alloc ?_ (by first | omega | (simp; done) | (simp; omega)) _) | (with_reducible refine Below.drew ?_) | (with_reducible refine below_drewN ?_ _) | (with_reducible refine Below.trans ?_ (Below.mono (by assumption) (by first | omega | (simp; done) | (simp; omega))))))))).mono ?_); rintro e w1 ⟨rfl, hb⟩; obtain ⟨hc, hf, hz⟩ := bcall hb; (try simp at hc hf hz))
  have q0 : Three w1 w.heap.size 24 (.int .i64 W) (.int .i64 H) (.slice (some ⟨b, off, none⟩) n cap) := t0.below hb t0.lt
  have hbw : Below w.heap.size w w1 := by (repeat' (first | (with_reducible exact Below.refl _ _) | (with_reducible refine Below.setCell ?_ (by first | omega | (simp; done) | (simp; omega)) _) | (with_reducible refine Below.alloc ?_ (by first | omega | (simp; done) | (simp; omega)) _) | (with_reducible refine Below.drew ?_) | (with_reducible refine below_drewN ?_ _) | (with_reducible refine Below.trans ?_ (Below.mono (by assumption) (by first | omega | (simp; done) | (simp; omega))))))
  have l0 := q0.lt
  obtain ⟨wa, hwa⟩ : ∃ wa, wa = w1 := ⟨_, rfl⟩
  subst hwa
  have r0 := q0.c0
  have r1 := q0.c1
  have r2 := q0.c2
  clear hb hc hf hz t0
  go_wp2_with (first | (go_at_call 10; (with_reducible refine (BG.out _).mono ?_); rintro e w1 ⟨rfl, hb⟩; obtain ⟨hc, hf, hz⟩ := bcall hb; (try simp at hc hf hz)) | (go_at_call 25; (with_reducible refine (W1.out _ (by (repeat' (first | (with_reducible exact Below.refl _ _) | (with_reducible refine Below.setCell ?_ (by first | omega | (simp; done) | (simp; omega)) _) | (with_reducible refine Below.alloc ?_ (by first | omega | (simp; done) | (simp; omega)) _) | (with_reducible refine Below.drew ?_) | (with_reducible refine below_drewN ?_ _) | (with_reducible refine Below.trans ?_ (Below.mono (by assumption) (by first | omega | (simp; done) | (simp; omega)))))))).mono ?_); rintro e w1 ⟨rfl, hb⟩; obtain ⟨hc, hf, hz⟩ := bcall hb; (try simp at hc hf hz)) | (go_at_call 26; (with_reducible refine (W2.out _ (by (repeat' (first | (with_reducible exact Below.refl _ _) | (with_reducible refine Below.setCell ?_ (by first | omega | (simp; done) | (simp; omega)) _) | (with_reducible refine Below.alloc ?_ (by first | omega | (simp; done) | (simp; omega)) _) | (with_reducible refine Below.drew ?_) | (with_reducible refine below_drewN ?_ _) | (with_reducible refine Below.trans ?_ (Below.mono (by assumption) (by first | omega | (simp; done) | (simp; omega)))))))).mono ?_); rintro e w1 ⟨rfl, hb⟩; obtain ⟨hc, hf, hz⟩ := bcall hb; (try simp at hc hf hz)))
  (go_at_call 19; (refine (TA.out _ (by (repeat' (first | (with_reducible exact Below.refl _ _) | (with_reducible refine Below.setCell ?_ (by first | omega | (simp; done) | (simp; omega)) _) | (with_reducible refine Below.alloc ?_ (by first | omega | (simp; done) | (simp; omega)) _) | (with_reducible refine Below.drew ?_) | (with_reducible refine below_drewN ?_ _) | (with_reducible refine Below.trans ?_ (Below.mono (by assumption) (by first | omega | (simp; done) | (simp; omega)))))))).mono ?_); rintro e w21 ⟨a21, q21, rfl, N21, hb21⟩)
  have b21 : Below wa.heap.size wa w21 := by (repeat' (first | (with_reducible exact Below.refl _ _) | (with_reducible refine Below.setCell ?_ (by first | omega | (simp; done) | (simp; omega)) _) | (with_reducible refine Below.alloc ?_ (by first | omega | (simp; done) | (simp; omega)) _) | (with_reducible refine Below.drew ?_) | (with_reducible refine below_drewN ?_ _) | (with_reducible refine Below.trans ?_ (Below.mono (by assumption) (by first | omega | (simp; done) | (simp; omega))))))
  have q1 := q0.below b21 l0
  have bw21 := hbw.trans (b21.mono hbw.size)
  obtain ⟨gt, ot, rfl, lgt, hT⟩ := numsAt_of N21 hK1
  have HT := Lib.hid hT
  have l1 := q1.lt
  have s21 := bw21.size
  have BW := Lib.hid bw21
  have Q1 := Lib.hid q1
  clear N21 hb21 b21 hT q0 q1 bw21 l0 r0 r1 r2
  go_wp2_with fail
  go_loopw [17, 18, 19] (fun mv cv i wr => ∃ k : Nat, k ≤ K ∧ i = .int .i64 (k : Int) ∧ Hid (TR wr w21.heap.size k k (rV S c k) (cV c k) mv cv ∧ Below w21.heap.size w21 wr)) (fun _ _ i _ => K - (Go.RowKit.intOf i).toNat)
  case atStart => exact ⟨0, Nat.zero_le _, rfl, Lib.hid ⟨TR.nil _ _, Below.refl _ _⟩⟩
  case round =>
    obtain ⟨k, hk, rfl, HH⟩ := hrel
    have hBr := HH.out.2
    have u0 := Q1.out.below hBr l1
    have g0 := u0.c0
    have g1 := u0.c1
    have g2 := u0.c2
    have p0 : (0 : Int) ≤ (k : Int) := by omega
    by_cases hlk : k < K
    · have p1 : (k : Int) < (K : Int) := by omega
      have DK := Lib.hid (fun wx (hb : Below w.heap.size w wx) => DN.out k hlk wx hb)
      have CK := Lib.hid (fun wx (hb : Below w.heap.size w wx) => CE.out k hlk wx hb)
      have hx := HX.out k hlk
      have hs := HS.out k hlk
      have hlt := lt_facts (S k) c hc1
      have td0 : W / wi = m := by rw [HC.out.2]; exact Nat.mul_div_cancel_left _ h1
      have td1 : (W : Int) / (wi : Int) = (m : Int) := by rw [← Int.natCast_ediv, td0]
      have td2 : Int.tdiv (W : Int) (wi : Int) = (m : Int) := by rw [Int.tdiv_eq_ediv_of_nonneg (by omega)]; exact td1
      have tm1 : (k : Int) % (m : Int) = ((k % m : Nat) : Int) := (Int.natCast_emod _ _).symm
      have tm2 : Int.tmod (k : Int) (m : Int) = ((k % m : Nat) : Int) := by rw [Int.tmod_eq_emod_of_nonneg (by omega)]; exact tm1
      have tk1 : (k : Int) / (m : Int) = ((k / m : Nat) : Int) := (Int.natCast_ediv _ _).symm
      have tk2 : Int.tdiv (k : Int) (m : Int) = ((k / m : Nat) : Int) := by rw [Int.tdiv_eq_ediv_of_nonneg (by omega)]; exact tk1
      have hxm : k % m * wi = (tabP m wi hi k).1 := rfl
      have hym : k / m * hi = (tabP m wi hi k).2 := rfl
      have hxm2 : k % m ≤ 100 := by have := Nat.mod_le k m; omega
      have hym2 : k / m ≤ 100 := by have := Nat.div_le_self k m; omega
      obtain ⟨X, hX⟩ : ∃ X, X = (tabP m wi hi k).1 := ⟨_, rfl⟩
      obtain ⟨Y, hY⟩ : ∃ Y, Y = (tabP m wi hi k).2 := ⟨_, rfl⟩
      rw [← hX] at hxm hx DK CK
      rw [← hY] at hym hx DK CK
      obtain ⟨xm, hxm0⟩ : ∃ z, k % m = z := ⟨_, rfl⟩
      obtain ⟨ym, hym0⟩ : ∃ z, k / m = z := ⟨_, rfl⟩
      rw [hxm0] at tm1 tm2 hxm hxm2
      rw [hym0] at tk1 tk2 hym hym2
      have mx : (xm : Int) * (wi : Int) = (X : Int) := by rw [← Int.natCast_mul, hxm]
      have my : (ym : Int) * (hi : Int) = (Y : Int) := by rw [← Int.natCast_mul, hym]
      have hmW : m ≤ W := by rw [← td0]; exact Nat.div_le_self _ _
      have w1' : IntKind.i64.wrap (m : Int) = (m : Int) := IntWalk.i64_in _ ⟨by omega, by omega⟩
      have w2' : IntKind.i64.wrap (xm : Int) = (xm : Int) := IntWalk.i64_in _ ⟨by omega, by omega⟩
      have w3' : IntKind.i64.wrap (ym : Int) = (ym : Int) := IntWalk.i64_in _ ⟨by omega, by omega⟩
      have w4' : IntKind.i64.wrap (X : Int) = (X : Int) := IntWalk.i64_in _ ⟨by omega, by omega⟩
      have w5' : IntKind.i64.wrap (Y : Int) = (Y : Int) := IntWalk.i64_in _ ⟨by omega, by omega⟩
      have n1 : ¬ (wi : Int) = 0 := by omega
      have n2 : ¬ (m : Int) = 0 := by omega
      have n3 : ¬ wi = 0 := by omega
      have n4 : ¬ m = 0 := by omega
      have HB := Lib.hid hBr
      have U0 := Lib.hid u0
      have lr0 := u0.lt
      clear hX hY hBr u0
      go_wp2
      go_region_held3 (fun w' => w'.cell? ⟨w.heap.size, 0, none⟩ = some (.int .i64 W)) (first | (go_split_ands; (try dsimp only); (first | (with_reducible assumption) | (with_reducible exact keep_cell (by assumption) (by first | omega | (simp; done) | (simp; omega)) (by assumption)) | (with_reducible exact (World.cell?_alloc_past _ _ _ (by show _ < _; omega)).trans (by assumption)) | (with_reducible exact (World.cell?_alloc_past _ _ _ (by show _ < _; omega)).trans ((World.cell?_alloc_past _ _ _ (by show _ < _; omega)).symm.trans (by assumption))) | (simp [go_sem]; with_reducible assumption))) | (simp [go_sem, ↓IntWalk.iteOmega, *]; done)) (fail)
      rename_i hHd
      clear hHd g0 g1 g2 td0 td1 td2 tm1 tm2 tk1 tk2 hxm0 hym0 hxm hym mx my hxm2 hym2
      obtain ⟨Z1, hZ1⟩ : ∃ Z, Z = (wr.alloc (.cells #[.int .i64 ((X : Int)), .int .i64 ((Y : Int))] 26)).drew := ⟨_, rfl⟩
      have v1 : Two Z1 wr.heap.size 26 (.int .i64 ((X : Int))) (.int .i64 ((Y : Int))) := by rw [hZ1]; exact (Two.new wr _ _ _).below (Below.refl _ _).drew (Two.new wr 26 (.int .i64 ((X : Int))) (.int .i64 ((Y : Int)))).lt
      have bZ1 : Below wr.heap.size wr Z1 := by rw [hZ1]; exact ((Below.refl _ _).alloc (Nat.le_refl _) _).drew
      rw [← hZ1]
      clear hZ1
      obtain ⟨P1, hP1⟩ : ∃ P, P = wr.heap.size := ⟨_, rfl⟩
      rw [← hP1] at v1 ⊢
      clear hP1
      have x1 : IntKind.i64.wrap ((X : Int) + (wi : Int)) = (X : Int) + (wi : Int) := IntWalk.i64_in _ ⟨by omega, by omega⟩
      have x2 : IntKind.i64.wrap ((X : Int) + (wi : Int) - 1) = (X : Int) + (wi : Int) - 1 := IntWalk.i64_in _ ⟨by omega, by omega⟩
      have y1 : IntKind.i64.wrap ((Y : Int) + (hi : Int)) = (Y : Int) + (hi : Int) := IntWalk.i64_in _ ⟨by omega, by omega⟩
      have y2 : IntKind.i64.wrap ((Y : Int) + (hi : Int) - 1) = (Y : Int) + (hi : Int) - 1 := IntWalk.i64_in _ ⟨by omega, by omega⟩
      have U1 := Lib.hid (U0.out.below bZ1 lr0)
      have g0 := U1.out.c0
      have g1 := U1.out.c1
      have g2 := U1.out.c2
      have m0 := v1.c0
      have m1 := v1.c1
      have l1Z := v1.lt
      have lZ0 := U1.out.lt
      go_wp2_with fail
      obtain ⟨bx, hbx⟩ : ∃ bx : Int, bx = (X : Int) + (wi : Int) - 1 := ⟨_, rfl⟩
      obtain ⟨yb, hyb⟩ : ∃ yb : Int, yb = (Y : Int) + (hi : Int) - 1 := ⟨_, rfl⟩
      rw [← hbx, ← hyb] at DK CK ⊢
      have v2 : Two (Z1.alloc (.cells #[.int .i64 bx, .int .i64 yb] 26)) Z1.heap.size 26 (.int .i64 bx) (.int .i64 yb) := Two.new Z1 _ _ _
      have bZ2 : Below Z1.heap.size Z1 (Z1.alloc (.cells #[.int .i64 bx, .int .i64 yb] 26)) := (Below.refl _ _).alloc (Nat.le_refl _) _
      obtain ⟨Z2, hZ2⟩ : ∃ Z, Z = Z1.alloc (.cells #[.int .i64 bx, .int .i64 yb] 26) := ⟨_, rfl⟩
      rw [← hZ2] at v2 bZ2 ⊢
      obtain ⟨P2, hP2⟩ : ∃ P, P = Z1.heap.size := ⟨_, rfl⟩
      rw [← hP2] at v2 ⊢
      have bw2 : Below w.heap.size w Z2 := BW.out.trans ((HB.out.trans ((bZ1.trans (bZ2.mono bZ1.size)).mono HB.out.size)).mono s21)
      have b22 : Below wr.heap.size wr Z2 := bZ1.trans (bZ2.mono bZ1.size)
      have v1 := v1.below bZ2 l1Z
      have U2 := Lib.hid (U1.out.below bZ2 lZ0)
      have lZ1 := v1.lt
      have lZ2 := v2.lt
      have lZ0 := U2.out.lt
      clear hZ2 hP2 hbx hyb bZ1 bZ2 x1 x2 y1 y2 g0 g1 g2 m0 m1 l1Z
      (go_at_call 13; (refine (DK.out _ bw2).mono ?_); rintro e w3 ⟨rfl, hb3⟩)
      have v1 := v1.below hb3 lZ1
      have v2 := v2.below hb3 lZ2
      have U3 := Lib.hid (U2.out.below hb3 lZ0)
      have bw3 := bw2.trans (hb3.mono bw2.size)
      have b23 := b22.trans (hb3.mono b22.size)
      have lZ1 := v1.lt
      have lZ2 := v2.lt
      have lZ0 := U3.out.lt
      have g0 := U3.out.c0
      have g1 := U3.out.c1
      have g2 := U3.out.c2
      have m0 := v1.c0
      have m1 := v1.c1
      have o0 := v2.c0
      have o1 := v2.c1
      clear hb3 bw2 b22
      go_wp2_with fail
      obtain ⟨nv, hnv⟩ : ∃ t, t = ltN (S k) c := ⟨_, rfl⟩
      obtain ⟨dv, hdv⟩ : ∃ t : Int, t = ((ltD (S k) c : Nat) : Int) := ⟨_, rfl⟩
      obtain ⟨gv, hgv⟩ : ∃ t : Int, t = ((gcN (S k) c : Nat) : Int) := ⟨_, rfl⟩
      obtain ⟨sv, hsv⟩ : ∃ t, t = S k := ⟨_, rfl⟩
      obtain ⟨f1, f2, f3, f4, f5, f6, f7⟩ := hlt
      have d1 : decide (dv < 1) = false := decide_eq_false (by omega)
      have d2 : ¬ dv = 0 := by omega
      rw [← hdv, ← hgv] at f2
      rw [← hnv, ← hgv, ← hsv] at f3
      have d3 : IntKind.i64.wrap gv = gv := IntWalk.i64_in _ ⟨by omega, by omega⟩
      have d4 : IntKind.i64.wrap sv = sv := IntWalk.i64_in _ ⟨by omega, by omega⟩
      have d5 : (wi : Int) * (hi : Int) = (c : Int) := by rw [HC.out.1]; push_cast; rfl
      have d6 : IntKind.i64.wrap (c : Int) = (c : Int) := IntWalk.i64_in _ ⟨by omega, by omega⟩
      rw [← hnv, ← hdv]
      have v3 : Two (w3.alloc (.cells #[.int .i64 nv, .int .i64 dv] 33)) w3.heap.size 33 (.int .i64 nv) (.int .i64 dv) := Two.new w3 _ _ _
      have bZ3 : Below w3.heap.size w3 (w3.alloc (.cells #[.int .i64 nv, .int .i64 dv] 33)) := (Below.refl _ _).alloc (Nat.le_refl _) _
      obtain ⟨Z3, hZ3⟩ : ∃ Z, Z = w3.alloc (.cells #[.int .i64 nv, .int .i64 dv] 33) := ⟨_, rfl⟩
      rw [← hZ3] at v3 bZ3 ⊢
      obtain ⟨P3, hP3⟩ : ∃ P, P = w3.heap.size := ⟨_, rfl⟩
      rw [← hP3] at v3 ⊢
      have l3 := v3.lt
      have bw3 := bw3.trans (bZ3.mono bw3.size)
      have b23 := b23.trans (bZ3.mono b23.size)
      clear hZ3 hP3 bZ3 g0 g1 g2 m0 m1 o0 o1 v1 v2 lZ0 lZ1 lZ2
      (go_at_call 11; (refine (CK.out _ bw3).mono ?_); rintro e w4 ⟨rfl, hb4⟩)
      have v3 := v3.below hb4 l3
      have l3 := v3.lt
      have n0 := v3.c0
      have n1' := v3.c1
      have bw4 := bw3.trans (hb4.mono bw3.size)
      have b24 := b23.trans (hb4.mono b23.size)
      have b214 := HB.out.trans (b24.mono HB.out.size)
      have tk := (b214.cell (p := ⟨gt, ot + k, none⟩) lgt).trans (HT.out k hlk)
      rw [← hsv] at tk
      have HV := Lib.hid (And.intro hnv (And.intro hdv hsv))
      have B24 := Lib.hid b24
      have B214 := Lib.hid b214
      have lg4 : gt < w4.heap.size := by have := b214.size; omega
      have s24 := b24.size
      have s214 := b214.size
      clear hb4 b23 bw3 bw4 b24 b214 v3 hnv hdv hgv hsv f1 f4 f5 f6 f7 hs
      go_wp2_with fail
      go_quiet (fail)
      rename_i nq
      obtain ⟨Z5, hZ5⟩ : ∃ Z, Z = w4.drewN nq := ⟨_, rfl⟩
      have b45 : Below w4.heap.size w4 Z5 := by rw [hZ5]; exact below_drewN (Below.refl _ _) nq
      rw [← hZ5]
      clear hZ5
      have n0 := (b45.cell (p := ⟨P3, 0, none⟩) l3).trans n0
      have n1' := (b45.cell (p := ⟨P3, 1, none⟩) l3).trans n1'
      have l5 := Nat.lt_of_lt_of_le l3 b45.size
      have b25 := B24.out.trans (b45.mono B24.out.size)
      have B215 := Lib.hid (B214.out.trans (b45.mono B214.out.size))
      have TR5 := Lib.hid (HH.out.1.below b25)
      have hne := ownsW_lt TR5.out.one
      have hne2 := ownsW_lt TR5.out.two
      have s25 := B215.out.size
      clear tk d1 d2 d3 d4 d5 f2 f3 b25 b45
      go_wp2_with (first | (at_builtin; refine wpList_append_lies _ rfl _ _ 47 rfl w21.heap.size 33 j0 (.agg #[.int .i64 0, .int .i64 0]) 2 16 Tryd.underlying47 hjf hy0 hy1 hy2 rfl (by omega) _ k (rV S c k) rfl (owns_below TR5.out.one (by (repeat' (first | (with_reducible exact Below.refl _ _) | (with_reducible refine Below.setCell ?_ (by first | omega | (simp; done) | (simp; omega)) _) | (with_reducible refine Below.alloc ?_ (by first | omega | (simp; done) | (simp; omega)) _) | (with_reducible refine Below.drew ?_) | (with_reducible refine below_drewN ?_ _) | (with_reducible refine Below.trans ?_ (Below.mono (by assumption) (by first | omega | (simp; done) | (simp; omega)))))))) _ 1 1 [.int .i64 nv, .int .i64 dv] rfl rfl (two_newR _ _ _ _) (by intro z hz; simp at hz; rcases hz with rfl | rfl <;> rfl) (by omega) (by unfold maxLen; omega) (by omega) (by simp; omega) _ rfl ?_; intro g1 e1 w6 hown hgrow hat hlt6; have L6 := Lib.hid (TR.app1 (TR5.out.below (w' := Z5.alloc (.cells #[.int .i64 nv, .int .i64 dv] 33)) (by (repeat' (first | (with_reducible exact Below.refl _ _) | (with_reducible refine Below.setCell ?_ (by first | omega | (simp; done) | (simp; omega)) _) | (with_reducible refine Below.alloc ?_ (by first | omega | (simp; done) | (simp; omega)) _) | (with_reducible refine Below.drew ?_) | (with_reducible refine below_drewN ?_ _) | (with_reducible refine Below.trans ?_ (Below.mono (by assumption) (by first | omega | (simp; done) | (simp; omega)))))))) hown hgrow hat); have B6 := Lib.hid (show Below w21.heap.size w21 w6 from (B215.out.alloc s25 (.cells #[.int .i64 nv, .int .i64 dv] 33)).grown hgrow (B215.out.alloc s25 _).size (fun j hj => (hne j hj).1)); have s6 := B6.out.size; clear hown hgrow hat hlt6) | (at_builtin; refine wpList_append_lies _ rfl _ _ 40 rfl w21.heap.size 3 i0 (.int .i64 0) 1 8 Tryd.underlying40 hif hz0 hz1 hz2 rfl (by omega) _ k (cV c k) rfl (owns_below L6.out.two (by (repeat' (first | (with_reducible exact Below.refl _ _) | (with_reducible refine Below.setCell ?_ (by first | omega | (simp; done) | (simp; omega)) _) | (with_reducible refine Below.alloc ?_ (by first | omega | (simp; done) | (simp; omega)) _) | (with_reducible refine Below.drew ?_) | (with_reducible refine below_drewN ?_ _) | (with_reducible refine Below.trans ?_ (Below.mono (by assumption) (by first | omega | (simp; done) | (simp; omega)))))))) _ 1 1 [.int .i64 ((c : Int))] rfl rfl (one_newI _ _ _) (by intro z hz; simp at hz; subst hz; rfl) (by omega) (by unfold maxLen; omega) (by omega) (by simp; omega) _ rfl ?_; intro g2 e2 w7 hown hgrow hat hlt7; have L7 := Lib.hid (TR.app2 (L6.out.below (w' := w6.alloc (.cells #[.int .i64 ((c : Int))] 3)) (by (repeat' (first | (with_reducible exact Below.refl _ _) | (with_reducible refine Below.setCell ?_ (by first | omega | (simp; done) | (simp; omega)) _) | (with_reducible refine Below.alloc ?_ (by first | omega | (simp; done) | (simp; omega)) _) | (with_reducible refine Below.drew ?_) | (with_reducible refine below_drewN ?_ _) | (with_reducible refine Below.trans ?_ (Below.mono (by assumption) (by first | omega | (simp; done) | (simp; omega)))))))) hown hgrow hat); have B7 := Lib.hid (show Below w21.heap.size w21 w7 from (B6.out.alloc s6 (.cells #[.int .i64 ((c : Int))] 3)).grown hgrow (B6.out.alloc s6 _).size (fun j hj => (hne2 j hj).1)); clear hown hgrow hat hlt7))
      go_roundw
      case rel => exact ⟨k + 1, by omega, by go_num, Lib.hid ⟨by have := L7.out; rw [HV.out.1, HV.out.2.1] at this; exact this, B7.out⟩⟩
      case measure => simp [Go.RowKit.intOf]; omega
    · obtain rfl : k = K := by omega
      obtain ⟨z1, c1, z2, c2, hz1', hz2', lz1, lz2, hR, hN⟩ := HH.out.1.open hK1
      have hbw := BW.out.trans (hBr.mono s21)
      have hsz := hbw.size
      have WK := Lib.hid (fun wx (hx : Below wr.heap.size wr wx) => WM.out wx z1 c1 z2 c2 (Nat.lt_of_lt_of_le lz1 hx.size) (Nat.lt_of_lt_of_le lz2 hx.size) (hR.below2 hx lz1) (hN.below hx lz2))
      have x1 : IntKind.i64.wrap ((W : Int) - 1) = (W : Int) - 1 := IntWalk.i64_in _ ⟨by omega, by omega⟩
      have x2 : IntKind.i64.wrap ((H : Int) - 1) = (H : Int) - 1 := IntWalk.i64_in _ ⟨by omega, by omega⟩
      have lr0 := u0.lt
      have U0 := Lib.hid u0
      have HBW := Lib.hid hbw
      have p1 : ¬ (k : Int) < (k : Int) := by omega
      rw [hz1', hz2']
      clear HH hBr hR hN hbw u0 g0 g1 g2 hz1' hz2'
      go_wp2_with fail
      (go_at_call 25; (refine (WK.out _ (Below.refl _ _)).mono ?_); rintro e w5 ⟨rfl, hb5⟩)
      have u5 := U0.out.below hb5 lr0
      have g0 := u5.c0
      have g1 := u5.c1
      have g2 := u5.c2
      have l5 := u5.lt
      have B5 := Lib.hid (HBW.out.trans (hb5.mono hsz))
      have s5 := B5.out.size
      have v3 : Two (w5.alloc (.cells #[.int .i64 u, .int .i64 v] 33)) w5.heap.size 33 (.int .i64 u) (.int .i64 v) := Two.new w5 _ _ _
      have b56 : Below w.heap.size w (w5.alloc (.cells #[.int .i64 u, .int .i64 v] 33)) := B5.out.alloc s5 _
      have l3 := v3.lt
      clear hb5 u5
      go_wp2_with fail
      obtain ⟨Z5, hZ5⟩ : ∃ Z, Z = w5.alloc (.cells #[.int .i64 u, .int .i64 v] 33) := ⟨_, rfl⟩
      rw [← hZ5] at v3 b56 l3 ⊢
      clear hZ5 g0 g1 g2
      obtain ⟨P3, hP3⟩ : ∃ P, P = w5.heap.size := ⟨_, rfl⟩
      rw [← hP3] at v3 l3 ⊢
      clear hP3
      (go_at_call 13; (refine (DA.out _ b56).mono ?_); rintro e w6 ⟨rfl, hb6⟩)
      have v3 := v3.below hb6 l3
      have n0 := v3.c0
      have n1 := v3.c1
      have l3 := v3.lt
      have HB6 := b56.trans (hb6.mono b56.size)
      have s6 := HB6.size
      clear hb6 b56 v3
      go_wp2
      go_ret
      refine ⟨by simp, ?_⟩
      exact HB6.alloc s6 _
end Go.Proofs.YtmdeooflgkjbbaaDoor

/- The law FieldWeighs: all cases. -/

namespace Go.Proofs.YtmdeooflgkjbbaaDoor
set_option linter.unusedSimpArgs false
set_option linter.unusedVariables false
open Go.RowKit Go.Shelf

theorem fieldWeighs_any (al : Option Addr) (nl cl : Nat) (R : Nat → Int × Int) (an : Option Addr) (nn cn : Nat) (K : Nat → Int) (W H : Int) (ao : Option Addr) (n cap : Nat) (G : Nat → Nat → Int) (wi hi : Int) (w : World) (hM : Mvs w)
    (_ : nl ≤ cl) (_ : cl ≤ maxLen) (hR : RulesIn w al nl R) (_ : nn ≤ cn) (_ : cn ≤ maxLen) (hN : NumsIn w an nn K) (_ : ∀ i, i < nn → Wf (K i)) (_ : Wf W) (_ : Wf H) (_ : n ≤ cap) (_ : cap ≤ maxLen) (hC : CellsIn w ao n G) (_ : Wf wi) (_ : Wf hi) :
    Calls Tryd.prog 4 #[.slice al nl cl, .slice an nn cn, .agg #[.int .i64 W, .int .i64 H, .slice (ao) n cap], .int .i64 wi, .int .i64 hi] w fun e w' => e = .returned (.bool true) ∧ Below w.heap.size w w' := by
  by_cases hlen : 150 < nl ∨ (¬ 150 < nl ∧ 150 < nn)
  · exact fw_len W H wi hi al an ao nl cl nn cn n cap w hM hlen
  · have hl : nl ≤ 150 := by omega
    have hn : nn ≤ 150 := by omega
    obtain ⟨bb, hbb, BG⟩ := fbig_any W H ao n cap w
    cases bb with
    | true => exact fw_big W H wi hi al an ao nl cl nn cn n cap w hM hl hn BG
    | false =>
      obtain ⟨x, y, er, W1, W2⟩ := wtd_both al an nl cl nn cn R K w hR hN
      rcases table_cases W H ao n cap G w hC wi hi with ⟨e2, he, h1, h2⟩ | ⟨W', H', m, M, d, f, b, off, rfl, rfl, rfl, rfl, rfl, s, hG, hlt, hGr, k1, k2, k3, k4, k5, k6⟩
      · exact fw_err W H wi hi al an ao nl cl nn cn n cap w hM hl hn BG x y er W1 W2 e2 he h1
      · obtain ⟨t1, t2⟩ := table_ok W' H' (some ⟨b, off, none⟩) n cap G w hC W' H' m M d f b off rfl rfl rfl s hG hlt hGr k1 k2 k3 k4 k5 k6
        by_cases hK : 100 < M * m
        · exact fw_many W' H' d f al an (some ⟨b, off, none⟩) nl cl nn cn n cap w hM hl hn BG x y er W1 W2 (M * m) _ hK t1
        · have hK1 : 1 * 1 ≤ M * m := Nat.mul_le_mul k6 k5
          have hc1 : 1 * 1 ≤ d * f := Nat.mul_le_mul k1 k2
          have hn0 : n = d * f * (M * m) := by
            rw [s.n0, k3, k4, Nat.mul_mul_mul_comm d m f M, Nat.mul_comm m M]
          have hc2 : d * f ≤ 1024 := by
            have := Nat.le_mul_of_pos_right (d * f) (show 0 < M * m by omega)
            have h3 := s.n1
            omega
          have hX : ∀ i, i < M * m → (tabP m d f i).1 + d ≤ W' ∧ (tabP m d f i).2 + f ≤ H' := fun i hi => tabP_lt k3 k4 k5 hi
          have hnn : ∀ i, i < M * m → 0 ≤ tabS (msC G) W' m d f i := fun i hi => by
            obtain ⟨q1, q2⟩ := hX i hi
            unfold tabS blS
            refine sumT_nn _ fun q hq => ?_
            obtain ⟨a0, a1, a2, a3, _⟩ := hG.1 q (by rw [s.n0]; exact recN_lt hq (by omega) (by omega))
            show 0 ≤ G q 0 + G q 1 + G q 2 + G q 3
            omega
          have hsum : sm (M * m) (tabS (msC G) W' m d f) = wt G n := by rw [tab_sum _ k1 k2 k3 k4, ← s.n0, wt_ms]
          have hS : ∀ i, i < M * m → 0 ≤ tabS (msC G) W' m d f i ∧ tabS (msC G) W' m d f i ≤ 1000000000 := fun i hi => by
            have h3 := sm_part hnn hi
            rw [hsum] at h3
            have := hG.2
            exact ⟨hnn i hi, by omega⟩
          have bel : ∀ wx, Below w.heap.size w wx → b < wx.heap.size ∧ Grd wx b off n G := fun wx hb => ⟨Nat.lt_of_lt_of_le hlt hb.size, hGr.below hb hlt⟩
          have hcast : ∀ z g : Nat, 1 ≤ g → (z : Int) + (g : Int) - 1 = ((z + g - 1 : Nat) : Int) := fun z g hg => by omega
          have W0 := s.w0
          have H0 := s.h0
          refine fw_ok W' H' d f n cap b off nl cl nn cn m (M * m) (d * f) al an (tabS (msC G) W' m d f) w hM hl hn BG x y er W1 W2 (by omega) (by omega) k5 k1 k2 k3 s.w1 s.h1 rfl (by omega) hc2 hX hS t1
            (fun i hi wx hb => ?_) (fun i hi wx hb => ?_) (ltN (wt G n) n) ((ltD (wt G n) n : Nat) : Int) (fun wx g1 c1 g2 c2 l1 l2 hR hN => ?_) (fun wx hb => fdens_all W' H' n cap b off G wx s hG (bel wx hb).1 (bel wx hb).2)
          · obtain ⟨q1, q2⟩ := hX i hi
            have h3 := fdens_bl W' H' n cap b off G (tabP m d f i).1 (tabP m d f i).2 ((tabP m d f i).1 + d - 1) ((tabP m d f i).2 + f - 1) wx s hG (bel wx hb).1 (bel wx hb).2 (by omega) (by omega) (by omega) (by omega)
            rw [show (tabP m d f i).1 + d - 1 + 1 - (tabP m d f i).1 = d by omega, show (tabP m d f i).2 + f - 1 + 1 - (tabP m d f i).2 = f by omega] at h3
            rw [hcast _ _ k1, hcast _ _ k2]
            exact h3
          · obtain ⟨q1, q2⟩ := hX i hi
            have h3 := fCells_ok W' H' n cap b off G (tabP m d f i).1 (tabP m d f i).2 ((tabP m d f i).1 + d - 1) ((tabP m d f i).2 + f - 1) wx s hG (bel wx hb).1 (bel wx hb).2 (by omega) (by omega) (by omega) (by omega)
            rw [show (tabP m d f i).1 + d - 1 + 1 - (tabP m d f i).1 = d by omega, show (tabP m d f i).2 + f - 1 + 1 - (tabP m d f i).2 = f by omega] at h3
            rw [hcast _ _ k1, hcast _ _ k2]
            exact h3
          · obtain ⟨e1, e2⟩ := wtS_tab (tabS (msC G) W' m d f) (d * f) (by omega) (M * m)
            have h3 := fWtd_ok g1 0 (M * m) c1 g2 0 c2 (fun i => (ltN (tabS (msC G) W' m d f i) (d * f), ((ltD (tabS (msC G) W' m d f i) (d * f) : Nat) : Int))) (fun _ => ((d * f : Nat) : Int)) wx (by omega) (by omega) l1 l2 hR hN (fun i hi => lt_mean (by omega) hc2 (hS i hi))
            rw [e1, e2, hsum, show (((M * m : Nat) : Int) * ((d * f : Nat) : Int)).toNat = n from by rw [← Int.natCast_mul, Int.toNat_natCast, hn0, Nat.mul_comm]] at h3
            exact h3
end Go.Proofs.YtmdeooflgkjbbaaDoor

/- Lists of fractions and of numbers out of memory. -/


namespace Go.Proofs.YtmdeooflgkjbbaaDoor
set_option linter.unusedSimpArgs false
set_option linter.unusedVariables false
open Go.ChangeShapes Go.WideShapes Go.ChangeAt Go.RowKit Go.Joins Go.Deep
set_option maxRecDepth 100000

theorem cells_ratio : Tryd.prog.cellsOf 33 = 2 := by kernel_rfl
section
variable {H : Type} {enc : TypeId × Value → H} {w : World}
theorem open_ratios {r : Reach} {base : Nat} {v : Value} {d : DataW H} {p : List MemPlace} (hv : Value.okWide Tryd.prog w r base 47 v) (h : DataW.Trod enc Tryd.prog w 0 (fun _ => true) true 47 v d p) :
    ∃ (ao : Option Addr) (len cap : Nat) (R : Nat → Int × Int), v = .slice ao len cap ∧ len ≤ cap ∧ cap ≤ maxLen ∧ RulesIn w ao len R := by
  obtain ⟨ao, len, cap, rfl⟩ := okWide_slice Tryd.underlying47 hv
  obtain ⟨fuel, hf⟩ := h
  rcases open_slice Tryd.underlying47 hf with ⟨hcs, _⟩ | ⟨a, len', cap', m, n, D, Pl, hcs, _, hl, hm, hmm, _, hi⟩
  · simp [Value.cells] at hcs
    obtain ⟨rfl, rfl, rfl⟩ := hcs
    exact ⟨none, 0, 0, fun _ => (0, 0), rfl, Nat.le_refl _, Nat.zero_le _, .inl rfl⟩
  · simp [Value.cells] at hcs
    obtain ⟨rfl, rfl, rfl⟩ := hcs
    have hlm : len ≤ m := by simp at hmm; omega
    rw [cells_ratio] at hi
    have each : ∀ i, i < len → ∃ x : Int × Int, w.cell? (a.add (i * 2)) = some (.int .i64 x.1) ∧ w.cell? ((a.add (i * 2)).add 1) = some (.int .i64 x.2) := by
      intro i hil
      obtain ⟨cs, h1, h2⟩ := hi i (by omega)
      obtain ⟨_, hlen, hat⟩ := World.cells?_some h1
      obtain ⟨y0, y1, k, _, _, e0, e1⟩ := trod_struct2 Tryd.underlying33 h2
      match cs, hlen with
      | [c0, c1], _ =>
        have a0 := hat 0 (by omega)
        have a1 := hat 1 (by omega)
        rw [cells_int] at e0 e1
        simp at e0 e1 a0 a1
        obtain ⟨x0, f0, _, _⟩ := DataW.trod_int Tryd.underlying3 e0
        obtain ⟨x1, f1, _, _⟩ := DataW.trod_int Tryd.underlying3 e1
        simp at f0 f1
        subst f0 f1
        exact ⟨(x0, x1), by simpa [Addr.add] using a0, a1⟩
    obtain ⟨R, hR⟩ := choose_lt (α := Int × Int) each
    refine ⟨some a, len, cap, R, rfl, hl, hm, ?_⟩
    rcases Nat.eq_zero_or_pos len with h0 | hp
    · exact .inl h0
    · obtain ⟨b, off, spot⟩ := a
      have hspot : spot = none := by simpa [Addr.add] using World.cell?_spot (hR 0 hp).1
      subst hspot
      refine .inr ⟨b, off, rfl, ?_, fun i hil => ?_⟩
      · have := (hR 0 hp).1
        rw [add_plain] at this
        exact block_lt this
      · have := hR i hil
        rw [add_plain, add_plain] at this
        exact this

theorem open_ints3 {r : Reach} {base : Nat} {v : Value} {d : DataW H} {p : List MemPlace} (hv : Value.okWide Tryd.prog w r base 40 v) (h : DataW.Trod enc Tryd.prog w 0 (fun _ => true) true 40 v d p) :
    ∃ (ao : Option Addr) (n cap : Nat) (K : Nat → Int), v = .slice ao n cap ∧ n ≤ cap ∧ cap ≤ maxLen ∧ NumsIn w ao n K ∧ ∀ i, i < n → Wf (K i) := by
  obtain ⟨ao, len, cap, rfl⟩ := okWide_slice Tryd.underlying40 hv
  obtain ⟨fuel, hf⟩ := h
  exact open_nums hf
end
end Go.Proofs.YtmdeooflgkjbbaaDoor
