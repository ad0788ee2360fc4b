/- Exchange and Unexchange, by the program and by the reference: all cases. -/
import Derived.Test.YtglkikdjchpmjaaDoorKRefExch
import Derived.Test.YtglkikdjchpmjaaDoorKMach
namespace Go.Proofs.YtglkikdjchpmjaaDoor
set_option linter.unusedSimpArgs false
set_option linter.unusedVariables false
open Go.RowKit

theorem exchC0_any (a b c d a' b' c' d' k y : Int) (t : Int) (w : World) (hT : Ends w) (h : Ok4 a b c d) (g : Ok4 a' b' c' d') (s : Ok4 (a + a') (b + b') (c + c') (d + d')) (hr : OkR k y) (t1 : -min a c' ≤ t) (t2 : t ≤ min c a')
    (co : ∀ wx, Calls Tryd.prog 154 #[.agg #[.int .i64 (min a c'), .int .i64 (min c a'), .int .i64 (min a c'), .int .i64 (min c a')], .agg #[.int .i64 k, .int .i64 y]] wx fun e w' => e = .returned (.tuple #[.agg #[.int .i64 (min a c' + t), .int .i64 (min c a' - t), .int .i64 (min a c' + t), .int .i64 (min c a' - t)], .int .i64 0]) ∧ Below wx.heap.size wx w') :
    Calls Tryd.prog 153 #[.agg #[.int .i64 a, .int .i64 b, .int .i64 c, .int .i64 d], .agg #[.int .i64 a', .int .i64 b', .int .i64 c', .int .i64 d'], .agg #[.int .i64 k, .int .i64 y], .int .i64 0, .func (.func 154) #[] #[]] w fun e w' => e = .returned (.tuple #[.agg #[.int .i64 (a + t), .int .i64 b, .int .i64 (c - t), .int .i64 d], .agg #[.int .i64 (a' - t), .int .i64 b', .int .i64 (c' + t), .int .i64 d'], .int .i64 0]) ∧ Below w.heap.size w w' := by
  rcases (show a ≤ c' ∨ c' < a by omega) with x1 | x1
  · rw [show min a c' = a by omega] at co t1
    rcases (show c ≤ a' ∨ a' < c by omega) with x2 | x2
    · rw [show min c a' = c by omega] at co t2
      exact exchC000 a b c d a' b' c' d' k y t w hT h g s hr x1 x2 t1 t2 co
    · rw [show min c a' = a' by omega] at co t2
      exact exchC001 a b c d a' b' c' d' k y t w hT h g s hr x1 x2 t1 t2 co
  · rw [show min a c' = c' by omega] at co t1
    rcases (show c ≤ a' ∨ a' < c by omega) with x2 | x2
    · rw [show min c a' = c by omega] at co t2
      exact exchC010 a b c d a' b' c' d' k y t w hT h g s hr x1 x2 t1 t2 co
    · rw [show min c a' = a' by omega] at co t2
      exact exchC011 a b c d a' b' c' d' k y t w hT h g s hr x1 x2 t1 t2 co

set_option maxHeartbeats 1000000 in
theorem gExchange0 (a b c d a' b' c' d' k y : Int) (t : Int) (w : World) (hT : Ends w) (h : Ok4 a b c d) (g : Ok4 a' b' c' d') (s : Ok4 (a + a') (b + b') (c + c') (d + d')) (hr : OkR k y) (ht : t = em a c a' c' k (y)) :
    Calls Tryd.prog 87 #[.agg #[.int .i64 a, .int .i64 b, .int .i64 c, .int .i64 d], .agg #[.int .i64 a', .int .i64 b', .int .i64 c', .int .i64 d'], .agg #[.int .i64 k, .int .i64 y], .int .i64 0] w fun e w' => e = .returned (.tuple #[.agg #[.int .i64 (a + t), .int .i64 b, .int .i64 (c - t), .int .i64 d], .agg #[.int .i64 (a' - t), .int .i64 b', .int .i64 (c' + t), .int .i64 d'], .int .i64 0]) ∧ Below w.heap.size w w' := by
  have hm := ok_meet h g s
  have h' := h
  have g' := g
  obtain ⟨_, _, _, _, _⟩ := h'
  obtain ⟨_, _, _, _, _⟩ := g'
  obtain ⟨t1, t2⟩ := @em_bd a c a' c' k (y) (by omega) (by omega) (by omega) (by omega)
  rw [← ht] at t1 t2
  have hm2 : more (min a c') (min c a') (min a c') (min c a') k (y) = t := by rw [more_meet, ht]; rfl
  have co : ∀ wx, Calls Tryd.prog 154 #[.agg #[.int .i64 (min a c'), .int .i64 (min c a'), .int .i64 (min a c'), .int .i64 (min c a')], .agg #[.int .i64 k, .int .i64 y]] wx fun e w' => e = .returned (.tuple #[.agg #[.int .i64 (min a c' + t), .int .i64 (min c a' - t), .int .i64 (min a c' + t), .int .i64 (min c a' - t)], .int .i64 0]) ∧ Below wx.heap.size wx w' := by
    intro wx
    have q := collide_ok (min a c') (min c a') (min a c') (min c a') k y wx hm hr
    rw [hm2] at q
    exact q
  have X := Lib.hid (fun wx (hb : Below w.heap.size w wx) => exchC0_any a b c d a' b' c' d' k y t wx (hT.below hb) h g s hr t1 t2 co)
  clear hT h g s hr ht t1 t2 hm hm2 co
  go_enter Tryd.func87, Tryd.ntmps87
  go_wp2_with (go_at_call 153; (with_reducible refine (X.out _ (by (repeat' (first | (with_reducible exact Below.refl _ _) | (with_reducible refine Below.setCell ?_ (by first | omega | (simp; done) | (simp; omega)) _) | (with_reducible refine Below.alloc ?_ (by first | omega | (simp; done) | (simp; omega)) _) | (with_reducible refine Below.drew ?_) | (with_reducible refine below_drewN ?_ _) | (with_reducible refine Below.trans ?_ (Below.mono (by assumption) (by first | omega | (simp; done) | (simp; omega)))))))).mono ?_); rintro e w1 ⟨rfl, hb⟩; obtain ⟨hc, hf, hz⟩ := bcall hb; (try simp at hc hf hz))
  refine bodyPost_ret (v := .tuple #[.agg #[.int .i64 (a + t), .int .i64 b, .int .i64 (c - t), .int .i64 d], .agg #[.int .i64 (a' - t), .int .i64 b', .int .i64 (c' + t), .int .i64 d'], .int .i64 0]) (by simp [results, Tryd.results87, go_sem, ↓IntWalk.iteOmega, *]) rfl ⟨rfl, ?_⟩
  (repeat' (first | (with_reducible exact Below.refl _ _) | (with_reducible refine Below.setCell ?_ (by first | omega | (simp; done) | (simp; omega)) _) | (with_reducible refine Below.alloc ?_ (by first | omega | (simp; done) | (simp; omega)) _) | (with_reducible refine Below.drew ?_) | (with_reducible refine below_drewN ?_ _) | (with_reducible refine Below.trans ?_ (Below.mono (by assumption) (by first | omega | (simp; done) | (simp; omega))))))

theorem exchC1_any (a b c d a' b' c' d' k y : Int) (t : Int) (w : World) (hT : Ends w) (h : Ok4 a b c d) (g : Ok4 a' b' c' d') (s : Ok4 (a + a') (b + b') (c + c') (d + d')) (hr : OkR k y) (t1 : -min b d' ≤ t) (t2 : t ≤ min d b')
    (co : ∀ wx, Calls Tryd.prog 154 #[.agg #[.int .i64 (min b d'), .int .i64 (min d b'), .int .i64 (min b d'), .int .i64 (min d b')], .agg #[.int .i64 k, .int .i64 y]] wx fun e w' => e = .returned (.tuple #[.agg #[.int .i64 (min b d' + t), .int .i64 (min d b' - t), .int .i64 (min b d' + t), .int .i64 (min d b' - t)], .int .i64 0]) ∧ Below wx.heap.size wx w') :
    Calls Tryd.prog 153 #[.agg #[.int .i64 a, .int .i64 b, .int .i64 c, .int .i64 d], .agg #[.int .i64 a', .int .i64 b', .int .i64 c', .int .i64 d'], .agg #[.int .i64 k, .int .i64 y], .int .i64 1, .func (.func 154) #[] #[]] w fun e w' => e = .returned (.tuple #[.agg #[.int .i64 a, .int .i64 (b + t), .int .i64 c, .int .i64 (d - t)], .agg #[.int .i64 a', .int .i64 (b' - t), .int .i64 c', .int .i64 (d' + t)], .int .i64 0]) ∧ Below w.heap.size w w' := by
  rcases (show b ≤ d' ∨ d' < b by omega) with x1 | x1
  · rw [show min b d' = b by omega] at co t1
    rcases (show d ≤ b' ∨ b' < d by omega) with x2 | x2
    · rw [show min d b' = d by omega] at co t2
      exact exchC100 a b c d a' b' c' d' k y t w hT h g s hr x1 x2 t1 t2 co
    · rw [show min d b' = b' by omega] at co t2
      exact exchC101 a b c d a' b' c' d' k y t w hT h g s hr x1 x2 t1 t2 co
  · rw [show min b d' = d' by omega] at co t1
    rcases (show d ≤ b' ∨ b' < d by omega) with x2 | x2
    · rw [show min d b' = d by omega] at co t2
      exact exchC110 a b c d a' b' c' d' k y t w hT h g s hr x1 x2 t1 t2 co
    · rw [show min d b' = b' by omega] at co t2
      exact exchC111 a b c d a' b' c' d' k y t w hT h g s hr x1 x2 t1 t2 co

set_option maxHeartbeats 1000000 in
theorem gExchange1 (a b c d a' b' c' d' k y : Int) (t : Int) (w : World) (hT : Ends w) (h : Ok4 a b c d) (g : Ok4 a' b' c' d') (s : Ok4 (a + a') (b + b') (c + c') (d + d')) (hr : OkR k y) (ht : t = em b d b' d' k (y)) :
    Calls Tryd.prog 87 #[.agg #[.int .i64 a, .int .i64 b, .int .i64 c, .int .i64 d], .agg #[.int .i64 a', .int .i64 b', .int .i64 c', .int .i64 d'], .agg #[.int .i64 k, .int .i64 y], .int .i64 1] w fun e w' => e = .returned (.tuple #[.agg #[.int .i64 a, .int .i64 (b + t), .int .i64 c, .int .i64 (d - t)], .agg #[.int .i64 a', .int .i64 (b' - t), .int .i64 c', .int .i64 (d' + t)], .int .i64 0]) ∧ Below w.heap.size w w' := by
  have hm := ok_meet1 h g s
  have h' := h
  have g' := g
  obtain ⟨_, _, _, _, _⟩ := h'
  obtain ⟨_, _, _, _, _⟩ := g'
  obtain ⟨t1, t2⟩ := @em_bd b d b' d' k (y) (by omega) (by omega) (by omega) (by omega)
  rw [← ht] at t1 t2
  have hm2 : more (min b d') (min d b') (min b d') (min d b') k (y) = t := by rw [more_meet, ht]; rfl
  have co : ∀ wx, Calls Tryd.prog 154 #[.agg #[.int .i64 (min b d'), .int .i64 (min d b'), .int .i64 (min b d'), .int .i64 (min d b')], .agg #[.int .i64 k, .int .i64 y]] wx fun e w' => e = .returned (.tuple #[.agg #[.int .i64 (min b d' + t), .int .i64 (min d b' - t), .int .i64 (min b d' + t), .int .i64 (min d b' - t)], .int .i64 0]) ∧ Below wx.heap.size wx w' := by
    intro wx
    have q := collide_ok (min b d') (min d b') (min b d') (min d b') k y wx hm hr
    rw [hm2] at q
    exact q
  have X := Lib.hid (fun wx (hb : Below w.heap.size w wx) => exchC1_any a b c d a' b' c' d' k y t wx (hT.below hb) h g s hr t1 t2 co)
  clear hT h g s hr ht t1 t2 hm hm2 co
  go_enter Tryd.func87, Tryd.ntmps87
  go_wp2_with (go_at_call 153; (with_reducible refine (X.out _ (by (repeat' (first | (with_reducible exact Below.refl _ _) | (with_reducible refine Below.setCell ?_ (by first | omega | (simp; done) | (simp; omega)) _) | (with_reducible refine Below.alloc ?_ (by first | omega | (simp; done) | (simp; omega)) _) | (with_reducible refine Below.drew ?_) | (with_reducible refine below_drewN ?_ _) | (with_reducible refine Below.trans ?_ (Below.mono (by assumption) (by first | omega | (simp; done) | (simp; omega)))))))).mono ?_); rintro e w1 ⟨rfl, hb⟩; obtain ⟨hc, hf, hz⟩ := bcall hb; (try simp at hc hf hz))
  refine bodyPost_ret (v := .tuple #[.agg #[.int .i64 a, .int .i64 (b + t), .int .i64 c, .int .i64 (d - t)], .agg #[.int .i64 a', .int .i64 (b' - t), .int .i64 c', .int .i64 (d' + t)], .int .i64 0]) (by simp [results, Tryd.results87, go_sem, ↓IntWalk.iteOmega, *]) rfl ⟨rfl, ?_⟩
  (repeat' (first | (with_reducible exact Below.refl _ _) | (with_reducible refine Below.setCell ?_ (by first | omega | (simp; done) | (simp; omega)) _) | (with_reducible refine Below.alloc ?_ (by first | omega | (simp; done) | (simp; omega)) _) | (with_reducible refine Below.drew ?_) | (with_reducible refine below_drewN ?_ _) | (with_reducible refine Below.trans ?_ (Below.mono (by assumption) (by first | omega | (simp; done) | (simp; omega))))))

/-- The first error of an exchange. -/
def XErr (a b c d a' b' c' d' k y : Int) (l z : Int) : Prop := (z = 1 ∧ ¬ ((Ok4 a b c d ∧ Ok4 a' b' c' d') ∧ OkR k y)) ∨ (z = 7 ∧ ((Ok4 a b c d ∧ Ok4 a' b' c' d') ∧ OkR k y) ∧ l ≠ 0 ∧ l ≠ 1) ∨ (z = 4 ∧ ((Ok4 a b c d ∧ Ok4 a' b' c' d') ∧ OkR k y) ∧ (l = 0 ∨ l = 1) ∧ ¬ Ok4 (a + a') (b + b') (c + c') (d + d'))

set_option maxHeartbeats 2000000 in
theorem exch_err (fn : Nat) (a b c d a' b' c' d' k y : Int) (l z : Int) (w : World) (h : XErr a b c d a' b' c' d' k y l z) :
    Calls Tryd.prog 153 #[.agg #[.int .i64 a, .int .i64 b, .int .i64 c, .int .i64 d], .agg #[.int .i64 a', .int .i64 b', .int .i64 c', .int .i64 d'], .agg #[.int .i64 k, .int .i64 y], .int .i64 l, .func (.func fn) #[] #[]] w fun e w' => e = .returned (.tuple #[.agg #[.int .i64 0, .int .i64 0, .int .i64 0, .int .i64 0], .agg #[.int .i64 0, .int .i64 0, .int .i64 0, .int .i64 0], .int .i64 z]) ∧ Below w.heap.size w w' := by
  rcases h with ⟨rfl, h⟩ | ⟨rfl, h, l0, l1⟩ | ⟨rfl, h, hl, hs⟩
  · by_cases h0 : Ok4 a b c d
    · have H0 := Lib.hid h0
      by_cases h1 : Ok4 a' b' c' d'
      · have H1 := Lib.hid h1
        have H2 := Lib.hid (show ¬ OkR k y from fun q => h ⟨⟨h0, h1⟩, q⟩)
        clear h h0 h1
        go_enter Tryd.func153, Tryd.ntmps153
        go_wp2_with (first | (go_at_call 135; (with_reducible refine (valid_ok a b c d _ H0.out).mono ?_); rintro e w1 ⟨rfl, hb⟩; obtain ⟨hc, hf, hz⟩ := bcall hb; (try simp at hc hf hz)) | (go_at_call 135; (with_reducible refine (valid_ok a' b' c' d' _ H1.out).mono ?_); rintro e w1 ⟨rfl, hb⟩; obtain ⟨hc, hf, hz⟩ := bcall hb; (try simp at hc hf hz)) | (go_at_call 181; (with_reducible refine (validRule_bad _ _ _ H2.out).mono ?_); rintro e w1 ⟨rfl, hb⟩; obtain ⟨hc, hf, hz⟩ := bcall hb; (try simp at hc hf hz)))
        refine bodyPost_ret (v := .tuple #[.agg #[.int .i64 0, .int .i64 0, .int .i64 0, .int .i64 0], .agg #[.int .i64 0, .int .i64 0, .int .i64 0, .int .i64 0], .int .i64 1]) (by simp [results, Tryd.results153, go_sem, ↓IntWalk.iteOmega, *]) rfl ⟨rfl, ?_⟩
        (repeat' (first | (with_reducible exact Below.refl _ _) | (with_reducible refine Below.setCell ?_ (by first | omega | (simp; done) | (simp; omega)) _) | (with_reducible refine Below.alloc ?_ (by first | omega | (simp; done) | (simp; omega)) _) | (with_reducible refine Below.drew ?_) | (with_reducible refine below_drewN ?_ _) | (with_reducible refine Below.trans ?_ (Below.mono (by assumption) (by first | omega | (simp; done) | (simp; omega))))))
      · have H1 := Lib.hid h1
        clear h h0 h1
        go_enter Tryd.func153, Tryd.ntmps153
        go_wp2_with (first | (go_at_call 135; (with_reducible refine (valid_ok a b c d _ H0.out).mono ?_); rintro e w1 ⟨rfl, hb⟩; obtain ⟨hc, hf, hz⟩ := bcall hb; (try simp at hc hf hz)) | (go_at_call 135; (with_reducible refine (valid_bad a' b' c' d' _ H1.out).mono ?_); rintro e w1 ⟨rfl, hb⟩; obtain ⟨hc, hf, hz⟩ := bcall hb; (try simp at hc hf hz)))
        refine bodyPost_ret (v := .tuple #[.agg #[.int .i64 0, .int .i64 0, .int .i64 0, .int .i64 0], .agg #[.int .i64 0, .int .i64 0, .int .i64 0, .int .i64 0], .int .i64 1]) (by simp [results, Tryd.results153, go_sem, ↓IntWalk.iteOmega, *]) rfl ⟨rfl, ?_⟩
        (repeat' (first | (with_reducible exact Below.refl _ _) | (with_reducible refine Below.setCell ?_ (by first | omega | (simp; done) | (simp; omega)) _) | (with_reducible refine Below.alloc ?_ (by first | omega | (simp; done) | (simp; omega)) _) | (with_reducible refine Below.drew ?_) | (with_reducible refine below_drewN ?_ _) | (with_reducible refine Below.trans ?_ (Below.mono (by assumption) (by first | omega | (simp; done) | (simp; omega))))))
    · have H0 := Lib.hid h0
      clear h h0
      go_enter Tryd.func153, Tryd.ntmps153
      go_wp2_with (first | (go_at_call 135; (with_reducible refine (valid_bad a b c d _ H0.out).mono ?_); rintro e w1 ⟨rfl, hb⟩; obtain ⟨hc, hf, hz⟩ := bcall hb; (try simp at hc hf hz)))
      refine bodyPost_ret (v := .tuple #[.agg #[.int .i64 0, .int .i64 0, .int .i64 0, .int .i64 0], .agg #[.int .i64 0, .int .i64 0, .int .i64 0, .int .i64 0], .int .i64 1]) (by simp [results, Tryd.results153, go_sem, ↓IntWalk.iteOmega, *]) rfl ⟨rfl, ?_⟩
      (repeat' (first | (with_reducible exact Below.refl _ _) | (with_reducible refine Below.setCell ?_ (by first | omega | (simp; done) | (simp; omega)) _) | (with_reducible refine Below.alloc ?_ (by first | omega | (simp; done) | (simp; omega)) _) | (with_reducible refine Below.drew ?_) | (with_reducible refine below_drewN ?_ _) | (with_reducible refine Below.trans ?_ (Below.mono (by assumption) (by first | omega | (simp; done) | (simp; omega))))))
  · have H0 := Lib.hid h; clear h
    have e0 : (l != 0) = true := by simp [bne, l0]
    have e1 : (l != 1) = true := by simp [bne, l1]
    clear l0 l1
    go_enter Tryd.func153, Tryd.ntmps153
    go_wp2_with (first | (go_at_call 135; (with_reducible refine (valid_ok a b c d _ H0.out.1.1).mono ?_); rintro e w1 ⟨rfl, hb⟩; obtain ⟨hc, hf, hz⟩ := bcall hb; (try simp at hc hf hz)) | (go_at_call 135; (with_reducible refine (valid_ok a' b' c' d' _ H0.out.1.2).mono ?_); rintro e w1 ⟨rfl, hb⟩; obtain ⟨hc, hf, hz⟩ := bcall hb; (try simp at hc hf hz)) | (go_at_call 181; (with_reducible refine (validRule_ok _ _ _ H0.out.2).mono ?_); rintro e w1 ⟨rfl, hb⟩; obtain ⟨hc, hf, hz⟩ := bcall hb; (try simp at hc hf hz)))
    refine bodyPost_ret (v := .tuple #[.agg #[.int .i64 0, .int .i64 0, .int .i64 0, .int .i64 0], .agg #[.int .i64 0, .int .i64 0, .int .i64 0, .int .i64 0], .int .i64 7]) (by simp [results, Tryd.results153, go_sem, ↓IntWalk.iteOmega, *]) rfl ⟨rfl, ?_⟩
    (repeat' (first | (with_reducible exact Below.refl _ _) | (with_reducible refine Below.setCell ?_ (by first | omega | (simp; done) | (simp; omega)) _) | (with_reducible refine Below.alloc ?_ (by first | omega | (simp; done) | (simp; omega)) _) | (with_reducible refine Below.drew ?_) | (with_reducible refine below_drewN ?_ _) | (with_reducible refine Below.trans ?_ (Below.mono (by assumption) (by first | omega | (simp; done) | (simp; omega))))))
  · have H0 := Lib.hid h; clear h
    have HS := Lib.hid hs; clear hs
    rcases hl with rfl | rfl
    all_goals
      go_enter Tryd.func153, Tryd.ntmps153
      go_wp2_with (first | (go_at_call 135; (with_reducible refine (valid_ok a b c d _ H0.out.1.1).mono ?_); rintro e w1 ⟨rfl, hb⟩; obtain ⟨hc, hf, hz⟩ := bcall hb; (try simp at hc hf hz)) | (go_at_call 135; (with_reducible refine (valid_ok a' b' c' d' _ H0.out.1.2).mono ?_); rintro e w1 ⟨rfl, hb⟩; obtain ⟨hc, hf, hz⟩ := bcall hb; (try simp at hc hf hz)) | (go_at_call 181; (with_reducible refine (validRule_ok _ _ _ H0.out.2).mono ?_); rintro e w1 ⟨rfl, hb⟩; obtain ⟨hc, hf, hz⟩ := bcall hb; (try simp at hc hf hz)) | (go_at_call 182; (with_reducible refine (added_limit _ _ _ _ _ _ _ _ _ H0.out.1.1 H0.out.1.2 HS.out).mono ?_); rintro e w1 ⟨rfl, hb⟩; obtain ⟨hc, hf, hz⟩ := bcall hb; (try simp at hc hf hz)))
      refine bodyPost_ret (v := .tuple #[.agg #[.int .i64 0, .int .i64 0, .int .i64 0, .int .i64 0], .agg #[.int .i64 0, .int .i64 0, .int .i64 0, .int .i64 0], .int .i64 4]) (by simp [results, Tryd.results153, go_sem, ↓IntWalk.iteOmega, *]) rfl ⟨rfl, ?_⟩
      (repeat' (first | (with_reducible exact Below.refl _ _) | (with_reducible refine Below.setCell ?_ (by first | omega | (simp; done) | (simp; omega)) _) | (with_reducible refine Below.alloc ?_ (by first | omega | (simp; done) | (simp; omega)) _) | (with_reducible refine Below.drew ?_) | (with_reducible refine below_drewN ?_ _) | (with_reducible refine Below.trans ?_ (Below.mono (by assumption) (by first | omega | (simp; done) | (simp; omega))))))

theorem gExchange_err (a b c d a' b' c' d' k y : Int) (l z : Int) (w : World) (h : XErr a b c d a' b' c' d' k y l z) : Calls Tryd.prog 87 #[.agg #[.int .i64 a, .int .i64 b, .int .i64 c, .int .i64 d], .agg #[.int .i64 a', .int .i64 b', .int .i64 c', .int .i64 d'], .agg #[.int .i64 k, .int .i64 y], .int .i64 l] w fun e w' => e = .returned (.tuple #[.agg #[.int .i64 0, .int .i64 0, .int .i64 0, .int .i64 0], .agg #[.int .i64 0, .int .i64 0, .int .i64 0, .int .i64 0], .int .i64 z]) ∧ Below w.heap.size w w' := by
  have H := Lib.hid h; clear h
  go_enter Tryd.func87, Tryd.ntmps87
  go_wp2_with (go_at_call 153; (with_reducible refine (exch_err _ a b c d a' b' c' d' k y l z _ H.out).mono ?_); rintro e w1 ⟨rfl, hb⟩; obtain ⟨hc, hf, hz⟩ := bcall hb; (try simp at hc hf hz))
  refine bodyPost_ret (v := .tuple #[.agg #[.int .i64 0, .int .i64 0, .int .i64 0, .int .i64 0], .agg #[.int .i64 0, .int .i64 0, .int .i64 0, .int .i64 0], .int .i64 z]) (by simp [results, Tryd.results87, go_sem, ↓IntWalk.iteOmega, *]) rfl ⟨rfl, ?_⟩
  (repeat' (first | (with_reducible exact Below.refl _ _) | (with_reducible refine Below.setCell ?_ (by first | omega | (simp; done) | (simp; omega)) _) | (with_reducible refine Below.alloc ?_ (by first | omega | (simp; done) | (simp; omega)) _) | (with_reducible refine Below.drew ?_) | (with_reducible refine below_drewN ?_ _) | (with_reducible refine Below.trans ?_ (Below.mono (by assumption) (by first | omega | (simp; done) | (simp; omega))))))
end Go.Proofs.YtglkikdjchpmjaaDoor
