/- Exchange and Unexchange, by the program and by the reference: all cases. -/
import Derived.Test.YtjlebdjnjjdnpaaDoorKRefExch
import Derived.Test.YtjlebdjnjjdnpaaDoorKMach
namespace Go.Proofs.YtjlebdjnjjdnpaaDoor
set_option linter.unusedSimpArgs false
set_option linter.unusedVariables false
open Go.RowKit

theorem exchC0_any (a b c d a' b' c' d' k y : Int) (t : Int) (w : World) (hT : Ends w) (h : Ok4 a b c d) (g : Ok4 a' b' c' d') (s : Ok4 (a + a') (b + b') (c + c') (d + d')) (hr : OkR k y) (t1 : -min a c' ≤ t) (t2 : t ≤ min c a')
    (co : ∀ wx, Calls Tryd.prog 62 #[.agg #[.int .i64 (min a c'), .int .i64 (min c a'), .int .i64 (min a c'), .int .i64 (min c a')], .agg #[.int .i64 k, .int .i64 y]] wx fun e w' => e = .returned (.tuple #[.agg #[.int .i64 (min a c' + t), .int .i64 (min c a' - t), .int .i64 (min a c' + t), .int .i64 (min c a' - t)], .int .i64 0]) ∧ Below wx.heap.size wx w') :
    Calls Tryd.prog 61 #[.agg #[.int .i64 a, .int .i64 b, .int .i64 c, .int .i64 d], .agg #[.int .i64 a', .int .i64 b', .int .i64 c', .int .i64 d'], .agg #[.int .i64 k, .int .i64 y], .int .i64 0, .func (.func 62) #[] #[]] w fun e w' => e = .returned (.tuple #[.agg #[.int .i64 (a + t), .int .i64 b, .int .i64 (c - t), .int .i64 d], .agg #[.int .i64 (a' - t), .int .i64 b', .int .i64 (c' + t), .int .i64 d'], .int .i64 0]) ∧ Below w.heap.size w w' := by
  rcases (show a ≤ c' ∨ c' < a by omega) with x1 | x1
  · rw [show min a c' = a by omega] at co t1
    rcases (show c ≤ a' ∨ a' < c by omega) with x2 | x2
    · rw [show min c a' = c by omega] at co t2
      exact exchC000 a b c d a' b' c' d' k y t w hT h g s hr x1 x2 t1 t2 co
    · rw [show min c a' = a' by omega] at co t2
      exact exchC001 a b c d a' b' c' d' k y t w hT h g s hr x1 x2 t1 t2 co
  · rw [show min a c' = c' by omega] at co t1
    rcases (show c ≤ a' ∨ a' < c by omega) with x2 | x2
    · rw [show min c a' = c by omega] at co t2
      exact exchC010 a b c d a' b' c' d' k y t w hT h g s hr x1 x2 t1 t2 co
    · rw [show min c a' = a' by omega] at co t2
      exact exchC011 a b c d a' b' c' d' k y t w hT h g s hr x1 x2 t1 t2 co

theorem exchU0_any (a b c d a' b' c' d' k y : Int) (t : Int) (w : World) (hT : Ends w) (h : Ok4 a b c d) (g : Ok4 a' b' c' d') (s : Ok4 (a + a') (b + b') (c + c') (d + d')) (hr : OkR k y) (t1 : -min a c' ≤ t) (t2 : t ≤ min c a')
    (co : ∀ wx, Calls Tryd.prog 64 #[.agg #[.int .i64 (min a c'), .int .i64 (min c a'), .int .i64 (min a c'), .int .i64 (min c a')], .agg #[.int .i64 k, .int .i64 y]] wx fun e w' => e = .returned (.tuple #[.agg #[.int .i64 (min a c' + t), .int .i64 (min c a' - t), .int .i64 (min a c' + t), .int .i64 (min c a' - t)], .int .i64 0]) ∧ Below wx.heap.size wx w') :
    Calls Tryd.prog 61 #[.agg #[.int .i64 a, .int .i64 b, .int .i64 c, .int .i64 d], .agg #[.int .i64 a', .int .i64 b', .int .i64 c', .int .i64 d'], .agg #[.int .i64 k, .int .i64 y], .int .i64 0, .func (.func 64) #[] #[]] w fun e w' => e = .returned (.tuple #[.agg #[.int .i64 (a + t), .int .i64 b, .int .i64 (c - t), .int .i64 d], .agg #[.int .i64 (a' - t), .int .i64 b', .int .i64 (c' + t), .int .i64 d'], .int .i64 0]) ∧ Below w.heap.size w w' := by
  rcases (show a ≤ c' ∨ c' < a by omega) with x1 | x1
  · rw [show min a c' = a by omega] at co t1
    rcases (show c ≤ a' ∨ a' < c by omega) with x2 | x2
    · rw [show min c a' = c by omega] at co t2
      exact exchU000 a b c d a' b' c' d' k y t w hT h g s hr x1 x2 t1 t2 co
    · rw [show min c a' = a' by omega] at co t2
      exact exchU001 a b c d a' b' c' d' k y t w hT h g s hr x1 x2 t1 t2 co
  · rw [show min a c' = c' by omega] at co t1
    rcases (show c ≤ a' ∨ a' < c by omega) with x2 | x2
    · rw [show min c a' = c by omega] at co t2
      exact exchU010 a b c d a' b' c' d' k y t w hT h g s hr x1 x2 t1 t2 co
    · rw [show min c a' = a' by omega] at co t2
      exact exchU011 a b c d a' b' c' d' k y t w hT h g s hr x1 x2 t1 t2 co

set_option maxHeartbeats 1000000 in
theorem gExchange0 (a b c d a' b' c' d' k y : Int) (t : Int) (w : World) (hT : Ends w) (h : Ok4 a b c d) (g : Ok4 a' b' c' d') (s : Ok4 (a + a') (b + b') (c + c') (d + d')) (hr : OkR k y) (ht : t = em a c a' c' k (y)) :
    Calls Tryd.prog 30 #[.agg #[.int .i64 a, .int .i64 b, .int .i64 c, .int .i64 d], .agg #[.int .i64 a', .int .i64 b', .int .i64 c', .int .i64 d'], .agg #[.int .i64 k, .int .i64 y], .int .i64 0] w fun e w' => e = .returned (.tuple #[.agg #[.int .i64 (a + t), .int .i64 b, .int .i64 (c - t), .int .i64 d], .agg #[.int .i64 (a' - t), .int .i64 b', .int .i64 (c' + t), .int .i64 d'], .int .i64 0]) ∧ Below w.heap.size w w' := by
  have hm := ok_meet h g s
  have h' := h
  have g' := g
  obtain ⟨_, _, _, _, _⟩ := h'
  obtain ⟨_, _, _, _, _⟩ := g'
  obtain ⟨t1, t2⟩ := @em_bd a c a' c' k (y) (by omega) (by omega) (by omega) (by omega)
  rw [← ht] at t1 t2
  have hm2 : more (min a c') (min c a') (min a c') (min c a') k (y) = t := by rw [more_meet, ht]; rfl
  have co : ∀ wx, Calls Tryd.prog 62 #[.agg #[.int .i64 (min a c'), .int .i64 (min c a'), .int .i64 (min a c'), .int .i64 (min c a')], .agg #[.int .i64 k, .int .i64 y]] wx fun e w' => e = .returned (.tuple #[.agg #[.int .i64 (min a c' + t), .int .i64 (min c a' - t), .int .i64 (min a c' + t), .int .i64 (min c a' - t)], .int .i64 0]) ∧ Below wx.heap.size wx w' := by
    intro wx
    have q := collide_ok (min a c') (min c a') (min a c') (min c a') k y wx hm hr
    rw [hm2] at q
    exact q
  have X := Lib.hid (fun wx (hb : Below w.heap.size w wx) => exchC0_any a b c d a' b' c' d' k y t wx (hT.below hb) h g s hr t1 t2 co)
  clear hT h g s hr ht t1 t2 hm hm2 co
  go_enter Tryd.func30, Tryd.ntmps30
  go_wp2_with (go_at_call 61; (with_reducible refine (X.out _ (by (repeat' (first | (with_reducible exact Below.refl _ _) | (with_reducible refine Below.setCell ?_ (by first | omega | (simp; done) | (simp; omega)) _) | (with_reducible refine Below.alloc ?_ (by first | omega | (simp; done) | (simp; omega)) _) | (with_reducible refine Below.drew ?_) | (with_reducible refine below_drewN ?_ _) | (with_reducible refine Below.trans ?_ (Below.mono (by assumption) (by first | omega | (simp; done) | (simp; omega)))))))).mono ?_); rintro e w1 ⟨rfl, hb⟩; obtain ⟨hc, hf, hz⟩ := bcall hb; (try simp at hc hf hz))
  refine bodyPost_ret (v := .tuple #[.agg #[.int .i64 (a + t), .int .i64 b, .int .i64 (c - t), .int .i64 d], .agg #[.int .i64 (a' - t), .int .i64 b', .int .i64 (c' + t), .int .i64 d'], .int .i64 0]) (by simp [results, Tryd.results30, go_sem, ↓IntWalk.iteOmega, *]) rfl ⟨rfl, ?_⟩
  (repeat' (first | (with_reducible exact Below.refl _ _) | (with_reducible refine Below.setCell ?_ (by first | omega | (simp; done) | (simp; omega)) _) | (with_reducible refine Below.alloc ?_ (by first | omega | (simp; done) | (simp; omega)) _) | (with_reducible refine Below.drew ?_) | (with_reducible refine below_drewN ?_ _) | (with_reducible refine Below.trans ?_ (Below.mono (by assumption) (by first | omega | (simp; done) | (simp; omega))))))

set_option maxHeartbeats 1000000 in
theorem gUnexchange0 (a b c d a' b' c' d' k y : Int) (t : Int) (w : World) (hT : Ends w) (h : Ok4 a b c d) (g : Ok4 a' b' c' d') (s : Ok4 (a + a') (b + b') (c + c') (d + d')) (hr : OkR k y) (ht : t = em a c a' c' k (-y)) :
    Calls Tryd.prog 32 #[.agg #[.int .i64 a, .int .i64 b, .int .i64 c, .int .i64 d], .agg #[.int .i64 a', .int .i64 b', .int .i64 c', .int .i64 d'], .agg #[.int .i64 k, .int .i64 y], .int .i64 0] w fun e w' => e = .returned (.tuple #[.agg #[.int .i64 (a + t), .int .i64 b, .int .i64 (c - t), .int .i64 d], .agg #[.int .i64 (a' - t), .int .i64 b', .int .i64 (c' + t), .int .i64 d'], .int .i64 0]) ∧ Below w.heap.size w w' := by
  have hm := ok_meet h g s
  have h' := h
  have g' := g
  obtain ⟨_, _, _, _, _⟩ := h'
  obtain ⟨_, _, _, _, _⟩ := g'
  obtain ⟨t1, t2⟩ := @em_bd a c a' c' k (-y) (by omega) (by omega) (by omega) (by omega)
  rw [← ht] at t1 t2
  have hm2 : more (min a c') (min c a') (min a c') (min c a') k (-y) = t := by rw [more_meet, ht]; rfl
  have co : ∀ wx, Calls Tryd.prog 64 #[.agg #[.int .i64 (min a c'), .int .i64 (min c a'), .int .i64 (min a c'), .int .i64 (min c a')], .agg #[.int .i64 k, .int .i64 y]] wx fun e w' => e = .returned (.tuple #[.agg #[.int .i64 (min a c' + t), .int .i64 (min c a' - t), .int .i64 (min a c' + t), .int .i64 (min c a' - t)], .int .i64 0]) ∧ Below wx.heap.size wx w' := by
    intro wx
    have q := undo_ok (min a c') (min c a') (min a c') (min c a') k y wx hm hr
    rw [hm2] at q
    exact q
  have X := Lib.hid (fun wx (hb : Below w.heap.size w wx) => exchU0_any a b c d a' b' c' d' k y t wx (hT.below hb) h g s hr t1 t2 co)
  clear hT h g s hr ht t1 t2 hm hm2 co
  go_enter Tryd.func32, Tryd.ntmps32
  go_wp2_with (go_at_call 61; (with_reducible refine (X.out _ (by (repeat' (first | (with_reducible exact Below.refl _ _) | (with_reducible refine Below.setCell ?_ (by first | omega | (simp; done) | (simp; omega)) _) | (with_reducible refine Below.alloc ?_ (by first | omega | (simp; done) | (simp; omega)) _) | (with_reducible refine Below.drew ?_) | (with_reducible refine below_drewN ?_ _) | (with_reducible refine Below.trans ?_ (Below.mono (by assumption) (by first | omega | (simp; done) | (simp; omega)))))))).mono ?_); rintro e w1 ⟨rfl, hb⟩; obtain ⟨hc, hf, hz⟩ := bcall hb; (try simp at hc hf hz))
  refine bodyPost_ret (v := .tuple #[.agg #[.int .i64 (a + t), .int .i64 b, .int .i64 (c - t), .int .i64 d], .agg #[.int .i64 (a' - t), .int .i64 b', .int .i64 (c' + t), .int .i64 d'], .int .i64 0]) (by simp [results, Tryd.results32, go_sem, ↓IntWalk.iteOmega, *]) rfl ⟨rfl, ?_⟩
  (repeat' (first | (with_reducible exact Below.refl _ _) | (with_reducible refine Below.setCell ?_ (by first | omega | (simp; done) | (simp; omega)) _) | (with_reducible refine Below.alloc ?_ (by first | omega | (simp; done) | (simp; omega)) _) | (with_reducible refine Below.drew ?_) | (with_reducible refine below_drewN ?_ _) | (with_reducible refine Below.trans ?_ (Below.mono (by assumption) (by first | omega | (simp; done) | (simp; omega))))))

set_option maxHeartbeats 1000000 in
theorem rExchange0 (a b c d a' b' c' d' k y : Int) (t : Int) (w : World) (h : Ok4 a b c d) (g : Ok4 a' b' c' d') (s : Ok4 (a + a') (b + b') (c + c') (d + d')) (hr : OkR k y) (ht : t = em a c a' c' k (y)) :
    Calls Tryd.prog 31 #[.agg #[.int .i64 a, .int .i64 b, .int .i64 c, .int .i64 d], .agg #[.int .i64 a', .int .i64 b', .int .i64 c', .int .i64 d'], .agg #[.int .i64 k, .int .i64 y], .int .i64 0] w fun e w' => e = .returned (.tuple #[.agg #[.int .i64 (a + t), .int .i64 b, .int .i64 (c - t), .int .i64 d], .agg #[.int .i64 (a' - t), .int .i64 b', .int .i64 (c' + t), .int .i64 d'], .int .i64 0]) ∧ Below w.heap.size w w' := by
  have X := Lib.hid (fun wx => rexch0 a b c d a' b' c' d' k (y) t wx h g (hr) ht)
  have H := Lib.hid h; clear h
  have G := Lib.hid g; clear g
  have S := Lib.hid s; clear s
  have HR := Lib.hid hr; clear hr ht
  have Y := Lib.hid (fun wx (hb : Below w.heap.size w wx) => show Calls Tryd.prog 63 #[.agg #[.int .i64 a, .int .i64 b, .int .i64 c, .int .i64 d], .agg #[.int .i64 a', .int .i64 b', .int .i64 c', .int .i64 d'], .agg #[.int .i64 k, .int .i64 y], .int .i64 0, .bool false] wx fun e w' => e = .returned (.tuple #[.agg #[.int .i64 (a + t), .int .i64 b, .int .i64 (c - t), .int .i64 d], .agg #[.int .i64 (a' - t), .int .i64 b', .int .i64 (c' + t), .int .i64 d'], .int .i64 0]) ∧ Below wx.heap.size wx w' from by
    go_enter Tryd.func63, Tryd.ntmps63
    go_wp2_with (first | (go_at_call 76; (with_reducible refine (refValid_ok a b c d _ H.out).mono ?_); rintro e w1 ⟨rfl, hb⟩; obtain ⟨hc, hf, hz⟩ := bcall hb; (try simp at hc hf hz)) | (go_at_call 76; (with_reducible refine (refValid_ok a' b' c' d' _ G.out).mono ?_); rintro e w1 ⟨rfl, hb⟩; obtain ⟨hc, hf, hz⟩ := bcall hb; (try simp at hc hf hz)) | (go_at_call 88; (with_reducible refine (refValidRule_ok _ _ _ HR.out).mono ?_); rintro e w1 ⟨rfl, hb⟩; obtain ⟨hc, hf, hz⟩ := bcall hb; (try simp at hc hf hz)) | (go_at_call 89; (with_reducible refine (within4_yes _ _ _ _ (by omega) (by omega)).mono ?_); rintro e w1 ⟨rfl, rfl⟩) | (go_at_call 80; (with_reducible refine (sumCells _ _ _ _ _ _ _ _ _ H.out G.out).mono ?_); rintro e w1 ⟨rfl, hb⟩; obtain ⟨hc, hf, hz⟩ := bcall hb; (try simp at hc hf hz)) | (go_at_call 76; (with_reducible refine (refValid_ok _ _ _ _ _ S.out).mono ?_); rintro e w1 ⟨rfl, hb⟩; obtain ⟨hc, hf, hz⟩ := bcall hb; (try simp at hc hf hz)) | (go_at_call 91; (with_reducible refine (X.out _).mono ?_); rintro e w1 ⟨rfl, hb⟩; obtain ⟨hc, hf, hz⟩ := bcall hb; (try simp at hc hf hz)))
    have l0 : wx.heap.size + 1 + 1 + 1 + 1 < w1.heap.size := by omega
    have lz : wx.heap.size < w1.heap.size := by omega
    obtain ⟨wz, hwz⟩ : ∃ wz, wz = (w1.alloc (.cells #[.int .i64 (a + t), .int .i64 b, .int .i64 (c - t), .int .i64 d] 47)).alloc (.cells #[.int .i64 (a' - t), .int .i64 b', .int .i64 (c' + t), .int .i64 d'] 47) := ⟨_, rfl⟩
    have HZ := Lib.hid (show Below wx.heap.size wx wz from by rw [hwz]; (repeat' (first | (with_reducible exact Below.refl _ _) | (with_reducible refine Below.setCell ?_ (by first | omega | (simp; done) | (simp; omega)) _) | (with_reducible refine Below.alloc ?_ (by first | omega | (simp; done) | (simp; omega)) _) | (with_reducible refine Below.drew ?_) | (with_reducible refine below_drewN ?_ _) | (with_reducible refine Below.trans ?_ (Below.mono (by assumption) (by first | omega | (simp; done) | (simp; omega)))))))
    have sz : wz.heap.size = w1.heap.size + 2 := by rw [hwz]; simp
    obtain ⟨w5, h5⟩ : ∃ w5, w5 = ((((wx.alloc (.cells #[.int .i64 a, .int .i64 b, .int .i64 c, .int .i64 d] 47)).alloc (.cells #[.int .i64 a', .int .i64 b', .int .i64 c', .int .i64 d'] 47)).alloc (.cells #[.int .i64 k, .int .i64 y] 51)).alloc (.cells #[.int .i64 0, .int .i64 0, .int .i64 0, .int .i64 0] 47)).alloc (.cells #[.int .i64 0, .int .i64 0, .int .i64 0, .int .i64 0] 47) := ⟨_, rfl⟩
    have s5 : w5.heap.size = wx.heap.size + 5 := by rw [h5]; simp
    have H5 : Ex (fun k => k = wx.heap.size + 1 + 1) w5 wz := by
      rw [hwz, h5]
      repeat' (first | (with_reducible exact Ex.refl _ _) | (with_reducible refine Ex.alloc ?_ _) | (refine Ex.setCell ?_ (by rfl) _) | (with_reducible refine Ex.drew ?_) | (with_reducible refine Ex.trans ?_ (Ex.of_below (by assumption))))
    have y00 : wz.cell? ⟨wx.heap.size + 1 + 1 + 1, 0, none⟩ = some (.int .i64 0) := (H5.cell (by omega) (by omega)).trans (by rw [h5]; simp [go_sem, ↓IntWalk.iteOmega])
    have f00 : wz.frozen? ⟨wx.heap.size + 1 + 1 + 1, 0, none⟩ = false := (H5.frozen (by omega) (by omega)).trans (by rw [h5]; simp [go_sem, ↓IntWalk.iteOmega])
    have y01 : wz.cell? ⟨wx.heap.size + 1 + 1 + 1, 1, none⟩ = some (.int .i64 0) := (H5.cell (by omega) (by omega)).trans (by rw [h5]; simp [go_sem, ↓IntWalk.iteOmega])
    have f01 : wz.frozen? ⟨wx.heap.size + 1 + 1 + 1, 1, none⟩ = false := (H5.frozen (by omega) (by omega)).trans (by rw [h5]; simp [go_sem, ↓IntWalk.iteOmega])
    have y02 : wz.cell? ⟨wx.heap.size + 1 + 1 + 1, 2, none⟩ = some (.int .i64 0) := (H5.cell (by omega) (by omega)).trans (by rw [h5]; simp [go_sem, ↓IntWalk.iteOmega])
    have f02 : wz.frozen? ⟨wx.heap.size + 1 + 1 + 1, 2, none⟩ = false := (H5.frozen (by omega) (by omega)).trans (by rw [h5]; simp [go_sem, ↓IntWalk.iteOmega])
    have y03 : wz.cell? ⟨wx.heap.size + 1 + 1 + 1, 3, none⟩ = some (.int .i64 0) := (H5.cell (by omega) (by omega)).trans (by rw [h5]; simp [go_sem, ↓IntWalk.iteOmega])
    have f03 : wz.frozen? ⟨wx.heap.size + 1 + 1 + 1, 3, none⟩ = false := (H5.frozen (by omega) (by omega)).trans (by rw [h5]; simp [go_sem, ↓IntWalk.iteOmega])
    have y10 : wz.cell? ⟨wx.heap.size + 1 + 1 + 1 + 1, 0, none⟩ = some (.int .i64 0) := (H5.cell (by omega) (by omega)).trans (by rw [h5]; simp [go_sem, ↓IntWalk.iteOmega])
    have f10 : wz.frozen? ⟨wx.heap.size + 1 + 1 + 1 + 1, 0, none⟩ = false := (H5.frozen (by omega) (by omega)).trans (by rw [h5]; simp [go_sem, ↓IntWalk.iteOmega])
    have y11 : wz.cell? ⟨wx.heap.size + 1 + 1 + 1 + 1, 1, none⟩ = some (.int .i64 0) := (H5.cell (by omega) (by omega)).trans (by rw [h5]; simp [go_sem, ↓IntWalk.iteOmega])
    have f11 : wz.frozen? ⟨wx.heap.size + 1 + 1 + 1 + 1, 1, none⟩ = false := (H5.frozen (by omega) (by omega)).trans (by rw [h5]; simp [go_sem, ↓IntWalk.iteOmega])
    have y12 : wz.cell? ⟨wx.heap.size + 1 + 1 + 1 + 1, 2, none⟩ = some (.int .i64 0) := (H5.cell (by omega) (by omega)).trans (by rw [h5]; simp [go_sem, ↓IntWalk.iteOmega])
    have f12 : wz.frozen? ⟨wx.heap.size + 1 + 1 + 1 + 1, 2, none⟩ = false := (H5.frozen (by omega) (by omega)).trans (by rw [h5]; simp [go_sem, ↓IntWalk.iteOmega])
    have y13 : wz.cell? ⟨wx.heap.size + 1 + 1 + 1 + 1, 3, none⟩ = some (.int .i64 0) := (H5.cell (by omega) (by omega)).trans (by rw [h5]; simp [go_sem, ↓IntWalk.iteOmega])
    have f13 : wz.frozen? ⟨wx.heap.size + 1 + 1 + 1 + 1, 3, none⟩ = false := (H5.frozen (by omega) (by omega)).trans (by rw [h5]; simp [go_sem, ↓IntWalk.iteOmega])
    have x00 : wz.cell? ⟨w1.heap.size, 0, none⟩ = some (.int .i64 (a + t)) := by rw [hwz]; simp [go_sem, ↓IntWalk.iteOmega]
    have x01 : wz.cell? ⟨w1.heap.size, 1, none⟩ = some (.int .i64 b) := by rw [hwz]; simp [go_sem, ↓IntWalk.iteOmega]
    have x02 : wz.cell? ⟨w1.heap.size, 2, none⟩ = some (.int .i64 (c - t)) := by rw [hwz]; simp [go_sem, ↓IntWalk.iteOmega]
    have x03 : wz.cell? ⟨w1.heap.size, 3, none⟩ = some (.int .i64 d) := by rw [hwz]; simp [go_sem, ↓IntWalk.iteOmega]
    have x10 : wz.cell? ⟨w1.heap.size + 1, 0, none⟩ = some (.int .i64 (a' - t)) := by rw [hwz]; simp [go_sem, ↓IntWalk.iteOmega]
    have x11 : wz.cell? ⟨w1.heap.size + 1, 1, none⟩ = some (.int .i64 b') := by rw [hwz]; simp [go_sem, ↓IntWalk.iteOmega]
    have x12 : wz.cell? ⟨w1.heap.size + 1, 2, none⟩ = some (.int .i64 (c' + t)) := by rw [hwz]; simp [go_sem, ↓IntWalk.iteOmega]
    have x13 : wz.cell? ⟨w1.heap.size + 1, 3, none⟩ = some (.int .i64 d') := by rw [hwz]; simp [go_sem, ↓IntWalk.iteOmega]
    rw [← hwz]
    clear hwz hc hf hb h5 H5 s5
    have hbz := HZ.out
    go_region
    go_wp2
    refine bodyPost_ret (v := .tuple #[.agg #[.int .i64 (a + t), .int .i64 b, .int .i64 (c - t), .int .i64 d], .agg #[.int .i64 (a' - t), .int .i64 b', .int .i64 (c' + t), .int .i64 d'], .int .i64 0]) (by simp [results, Tryd.results63, go_sem, ↓IntWalk.iteOmega, *]) rfl ⟨rfl, ?_⟩
    (repeat' (first | (with_reducible exact Below.refl _ _) | (with_reducible refine Below.setCell ?_ (by first | omega | (simp; done) | (simp; omega)) _) | (with_reducible refine Below.alloc ?_ (by first | omega | (simp; done) | (simp; omega)) _) | (with_reducible refine Below.drew ?_) | (with_reducible refine below_drewN ?_ _) | (with_reducible refine Below.trans ?_ (Below.mono (by assumption) (by first | omega | (simp; done) | (simp; omega)))))))
  clear H G S HR X
  go_enter Tryd.func31, Tryd.ntmps31
  go_wp2_with (go_at_call 63; (with_reducible refine (Y.out _ (by (repeat' (first | (with_reducible exact Below.refl _ _) | (with_reducible refine Below.setCell ?_ (by first | omega | (simp; done) | (simp; omega)) _) | (with_reducible refine Below.alloc ?_ (by first | omega | (simp; done) | (simp; omega)) _) | (with_reducible refine Below.drew ?_) | (with_reducible refine below_drewN ?_ _) | (with_reducible refine Below.trans ?_ (Below.mono (by assumption) (by first | omega | (simp; done) | (simp; omega)))))))).mono ?_); rintro e w1 ⟨rfl, hb⟩; obtain ⟨hc, hf, hz⟩ := bcall hb; (try simp at hc hf hz))
  refine bodyPost_ret (v := .tuple #[.agg #[.int .i64 (a + t), .int .i64 b, .int .i64 (c - t), .int .i64 d], .agg #[.int .i64 (a' - t), .int .i64 b', .int .i64 (c' + t), .int .i64 d'], .int .i64 0]) (by simp [results, Tryd.results31, go_sem, ↓IntWalk.iteOmega, *]) rfl ⟨rfl, ?_⟩
  (repeat' (first | (with_reducible exact Below.refl _ _) | (with_reducible refine Below.setCell ?_ (by first | omega | (simp; done) | (simp; omega)) _) | (with_reducible refine Below.alloc ?_ (by first | omega | (simp; done) | (simp; omega)) _) | (with_reducible refine Below.drew ?_) | (with_reducible refine below_drewN ?_ _) | (with_reducible refine Below.trans ?_ (Below.mono (by assumption) (by first | omega | (simp; done) | (simp; omega))))))

set_option maxHeartbeats 1000000 in
theorem rUnexchange0 (a b c d a' b' c' d' k y : Int) (t : Int) (w : World) (h : Ok4 a b c d) (g : Ok4 a' b' c' d') (s : Ok4 (a + a') (b + b') (c + c') (d + d')) (hr : OkR k y) (ht : t = em a c a' c' k (-y)) :
    Calls Tryd.prog 33 #[.agg #[.int .i64 a, .int .i64 b, .int .i64 c, .int .i64 d], .agg #[.int .i64 a', .int .i64 b', .int .i64 c', .int .i64 d'], .agg #[.int .i64 k, .int .i64 y], .int .i64 0] w fun e w' => e = .returned (.tuple #[.agg #[.int .i64 (a + t), .int .i64 b, .int .i64 (c - t), .int .i64 d], .agg #[.int .i64 (a' - t), .int .i64 b', .int .i64 (c' + t), .int .i64 d'], .int .i64 0]) ∧ Below w.heap.size w w' := by
  have X := Lib.hid (fun wx => rexch0 a b c d a' b' c' d' k (-y) t wx h g (okR_neg hr) ht)
  have H := Lib.hid h; clear h
  have G := Lib.hid g; clear g
  have S := Lib.hid s; clear s
  have HR := Lib.hid hr; clear hr ht
  have Y := Lib.hid (fun wx (hb : Below w.heap.size w wx) => show Calls Tryd.prog 63 #[.agg #[.int .i64 a, .int .i64 b, .int .i64 c, .int .i64 d], .agg #[.int .i64 a', .int .i64 b', .int .i64 c', .int .i64 d'], .agg #[.int .i64 k, .int .i64 y], .int .i64 0, .bool true] wx fun e w' => e = .returned (.tuple #[.agg #[.int .i64 (a + t), .int .i64 b, .int .i64 (c - t), .int .i64 d], .agg #[.int .i64 (a' - t), .int .i64 b', .int .i64 (c' + t), .int .i64 d'], .int .i64 0]) ∧ Below wx.heap.size wx w' from by
    go_enter Tryd.func63, Tryd.ntmps63
    go_wp2_with (first | (go_at_call 76; (with_reducible refine (refValid_ok a b c d _ H.out).mono ?_); rintro e w1 ⟨rfl, hb⟩; obtain ⟨hc, hf, hz⟩ := bcall hb; (try simp at hc hf hz)) | (go_at_call 76; (with_reducible refine (refValid_ok a' b' c' d' _ G.out).mono ?_); rintro e w1 ⟨rfl, hb⟩; obtain ⟨hc, hf, hz⟩ := bcall hb; (try simp at hc hf hz)) | (go_at_call 88; (with_reducible refine (refValidRule_ok _ _ _ HR.out).mono ?_); rintro e w1 ⟨rfl, hb⟩; obtain ⟨hc, hf, hz⟩ := bcall hb; (try simp at hc hf hz)) | (go_at_call 89; (with_reducible refine (within4_yes _ _ _ _ (by omega) (by omega)).mono ?_); rintro e w1 ⟨rfl, rfl⟩) | (go_at_call 80; (with_reducible refine (sumCells _ _ _ _ _ _ _ _ _ H.out G.out).mono ?_); rintro e w1 ⟨rfl, hb⟩; obtain ⟨hc, hf, hz⟩ := bcall hb; (try simp at hc hf hz)) | (go_at_call 76; (with_reducible refine (refValid_ok _ _ _ _ _ S.out).mono ?_); rintro e w1 ⟨rfl, hb⟩; obtain ⟨hc, hf, hz⟩ := bcall hb; (try simp at hc hf hz)) | (go_at_call 90; (with_reducible refine (opposite_any _ _ _ HR.out).mono ?_); rintro e w1 ⟨rfl, hb⟩; obtain ⟨hc, hf, hz⟩ := bcall hb; (try simp at hc hf hz)) | (go_at_call 91; (with_reducible refine (X.out _).mono ?_); rintro e w1 ⟨rfl, hb⟩; obtain ⟨hc, hf, hz⟩ := bcall hb; (try simp at hc hf hz)))
    have l0 : wx.heap.size + 1 + 1 + 1 + 1 < w1.heap.size := by omega
    have lz : wx.heap.size < w1.heap.size := by omega
    obtain ⟨wz, hwz⟩ : ∃ wz, wz = (w1.alloc (.cells #[.int .i64 (a + t), .int .i64 b, .int .i64 (c - t), .int .i64 d] 47)).alloc (.cells #[.int .i64 (a' - t), .int .i64 b', .int .i64 (c' + t), .int .i64 d'] 47) := ⟨_, rfl⟩
    have HZ := Lib.hid (show Below wx.heap.size wx wz from by rw [hwz]; (repeat' (first | (with_reducible exact Below.refl _ _) | (with_reducible refine Below.setCell ?_ (by first | omega | (simp; done) | (simp; omega)) _) | (with_reducible refine Below.alloc ?_ (by first | omega | (simp; done) | (simp; omega)) _) | (with_reducible refine Below.drew ?_) | (with_reducible refine below_drewN ?_ _) | (with_reducible refine Below.trans ?_ (Below.mono (by assumption) (by first | omega | (simp; done) | (simp; omega)))))))
    have sz : wz.heap.size = w1.heap.size + 2 := by rw [hwz]; simp
    obtain ⟨w5, h5⟩ : ∃ w5, w5 = ((((wx.alloc (.cells #[.int .i64 a, .int .i64 b, .int .i64 c, .int .i64 d] 47)).alloc (.cells #[.int .i64 a', .int .i64 b', .int .i64 c', .int .i64 d'] 47)).alloc (.cells #[.int .i64 k, .int .i64 y] 51)).alloc (.cells #[.int .i64 0, .int .i64 0, .int .i64 0, .int .i64 0] 47)).alloc (.cells #[.int .i64 0, .int .i64 0, .int .i64 0, .int .i64 0] 47) := ⟨_, rfl⟩
    have s5 : w5.heap.size = wx.heap.size + 5 := by rw [h5]; simp
    have H5 : Ex (fun k => k = wx.heap.size + 1 + 1) w5 wz := by
      rw [hwz, h5]
      repeat' (first | (with_reducible exact Ex.refl _ _) | (with_reducible refine Ex.alloc ?_ _) | (refine Ex.setCell ?_ (by rfl) _) | (with_reducible refine Ex.drew ?_) | (with_reducible refine Ex.trans ?_ (Ex.of_below (by assumption))))
    have y00 : wz.cell? ⟨wx.heap.size + 1 + 1 + 1, 0, none⟩ = some (.int .i64 0) := (H5.cell (by omega) (by omega)).trans (by rw [h5]; simp [go_sem, ↓IntWalk.iteOmega])
    have f00 : wz.frozen? ⟨wx.heap.size + 1 + 1 + 1, 0, none⟩ = false := (H5.frozen (by omega) (by omega)).trans (by rw [h5]; simp [go_sem, ↓IntWalk.iteOmega])
    have y01 : wz.cell? ⟨wx.heap.size + 1 + 1 + 1, 1, none⟩ = some (.int .i64 0) := (H5.cell (by omega) (by omega)).trans (by rw [h5]; simp [go_sem, ↓IntWalk.iteOmega])
    have f01 : wz.frozen? ⟨wx.heap.size + 1 + 1 + 1, 1, none⟩ = false := (H5.frozen (by omega) (by omega)).trans (by rw [h5]; simp [go_sem, ↓IntWalk.iteOmega])
    have y02 : wz.cell? ⟨wx.heap.size + 1 + 1 + 1, 2, none⟩ = some (.int .i64 0) := (H5.cell (by omega) (by omega)).trans (by rw [h5]; simp [go_sem, ↓IntWalk.iteOmega])
    have f02 : wz.frozen? ⟨wx.heap.size + 1 + 1 + 1, 2, none⟩ = false := (H5.frozen (by omega) (by omega)).trans (by rw [h5]; simp [go_sem, ↓IntWalk.iteOmega])
    have y03 : wz.cell? ⟨wx.heap.size + 1 + 1 + 1, 3, none⟩ = some (.int .i64 0) := (H5.cell (by omega) (by omega)).trans (by rw [h5]; simp [go_sem, ↓IntWalk.iteOmega])
    have f03 : wz.frozen? ⟨wx.heap.size + 1 + 1 + 1, 3, none⟩ = false := (H5.frozen (by omega) (by omega)).trans (by rw [h5]; simp [go_sem, ↓IntWalk.iteOmega])
    have y10 : wz.cell? ⟨wx.heap.size + 1 + 1 + 1 + 1, 0, none⟩ = some (.int .i64 0) := (H5.cell (by omega) (by omega)).trans (by rw [h5]; simp [go_sem, ↓IntWalk.iteOmega])
    have f10 : wz.frozen? ⟨wx.heap.size + 1 + 1 + 1 + 1, 0, none⟩ = false := (H5.frozen (by omega) (by omega)).trans (by rw [h5]; simp [go_sem, ↓IntWalk.iteOmega])
    have y11 : wz.cell? ⟨wx.heap.size + 1 + 1 + 1 + 1, 1, none⟩ = some (.int .i64 0) := (H5.cell (by omega) (by omega)).trans (by rw [h5]; simp [go_sem, ↓IntWalk.iteOmega])
    have f11 : wz.frozen? ⟨wx.heap.size + 1 + 1 + 1 + 1, 1, none⟩ = false := (H5.frozen (by omega) (by omega)).trans (by rw [h5]; simp [go_sem, ↓IntWalk.iteOmega])
    have y12 : wz.cell? ⟨wx.heap.size + 1 + 1 + 1 + 1, 2, none⟩ = some (.int .i64 0) := (H5.cell (by omega) (by omega)).trans (by rw [h5]; simp [go_sem, ↓IntWalk.iteOmega])
    have f12 : wz.frozen? ⟨wx.heap.size + 1 + 1 + 1 + 1, 2, none⟩ = false := (H5.frozen (by omega) (by omega)).trans (by rw [h5]; simp [go_sem, ↓IntWalk.iteOmega])
    have y13 : wz.cell? ⟨wx.heap.size + 1 + 1 + 1 + 1, 3, none⟩ = some (.int .i64 0) := (H5.cell (by omega) (by omega)).trans (by rw [h5]; simp [go_sem, ↓IntWalk.iteOmega])
    have f13 : wz.frozen? ⟨wx.heap.size + 1 + 1 + 1 + 1, 3, none⟩ = false := (H5.frozen (by omega) (by omega)).trans (by rw [h5]; simp [go_sem, ↓IntWalk.iteOmega])
    have x00 : wz.cell? ⟨w1.heap.size, 0, none⟩ = some (.int .i64 (a + t)) := by rw [hwz]; simp [go_sem, ↓IntWalk.iteOmega]
    have x01 : wz.cell? ⟨w1.heap.size, 1, none⟩ = some (.int .i64 b) := by rw [hwz]; simp [go_sem, ↓IntWalk.iteOmega]
    have x02 : wz.cell? ⟨w1.heap.size, 2, none⟩ = some (.int .i64 (c - t)) := by rw [hwz]; simp [go_sem, ↓IntWalk.iteOmega]
    have x03 : wz.cell? ⟨w1.heap.size, 3, none⟩ = some (.int .i64 d) := by rw [hwz]; simp [go_sem, ↓IntWalk.iteOmega]
    have x10 : wz.cell? ⟨w1.heap.size + 1, 0, none⟩ = some (.int .i64 (a' - t)) := by rw [hwz]; simp [go_sem, ↓IntWalk.iteOmega]
    have x11 : wz.cell? ⟨w1.heap.size + 1, 1, none⟩ = some (.int .i64 b') := by rw [hwz]; simp [go_sem, ↓IntWalk.iteOmega]
    have x12 : wz.cell? ⟨w1.heap.size + 1, 2, none⟩ = some (.int .i64 (c' + t)) := by rw [hwz]; simp [go_sem, ↓IntWalk.iteOmega]
    have x13 : wz.cell? ⟨w1.heap.size + 1, 3, none⟩ = some (.int .i64 d') := by rw [hwz]; simp [go_sem, ↓IntWalk.iteOmega]
    rw [← hwz]
    clear hwz hc hf hb h5 H5 s5
    have hbz := HZ.out
    go_region
    go_wp2
    refine bodyPost_ret (v := .tuple #[.agg #[.int .i64 (a + t), .int .i64 b, .int .i64 (c - t), .int .i64 d], .agg #[.int .i64 (a' - t), .int .i64 b', .int .i64 (c' + t), .int .i64 d'], .int .i64 0]) (by simp [results, Tryd.results63, go_sem, ↓IntWalk.iteOmega, *]) rfl ⟨rfl, ?_⟩
    (repeat' (first | (with_reducible exact Below.refl _ _) | (with_reducible refine Below.setCell ?_ (by first | omega | (simp; done) | (simp; omega)) _) | (with_reducible refine Below.alloc ?_ (by first | omega | (simp; done) | (simp; omega)) _) | (with_reducible refine Below.drew ?_) | (with_reducible refine below_drewN ?_ _) | (with_reducible refine Below.trans ?_ (Below.mono (by assumption) (by first | omega | (simp; done) | (simp; omega)))))))
  clear H G S HR X
  go_enter Tryd.func33, Tryd.ntmps33
  go_wp2_with (go_at_call 63; (with_reducible refine (Y.out _ (by (repeat' (first | (with_reducible exact Below.refl _ _) | (with_reducible refine Below.setCell ?_ (by first | omega | (simp; done) | (simp; omega)) _) | (with_reducible refine Below.alloc ?_ (by first | omega | (simp; done) | (simp; omega)) _) | (with_reducible refine Below.drew ?_) | (with_reducible refine below_drewN ?_ _) | (with_reducible refine Below.trans ?_ (Below.mono (by assumption) (by first | omega | (simp; done) | (simp; omega)))))))).mono ?_); rintro e w1 ⟨rfl, hb⟩; obtain ⟨hc, hf, hz⟩ := bcall hb; (try simp at hc hf hz))
  refine bodyPost_ret (v := .tuple #[.agg #[.int .i64 (a + t), .int .i64 b, .int .i64 (c - t), .int .i64 d], .agg #[.int .i64 (a' - t), .int .i64 b', .int .i64 (c' + t), .int .i64 d'], .int .i64 0]) (by simp [results, Tryd.results33, go_sem, ↓IntWalk.iteOmega, *]) rfl ⟨rfl, ?_⟩
  (repeat' (first | (with_reducible exact Below.refl _ _) | (with_reducible refine Below.setCell ?_ (by first | omega | (simp; done) | (simp; omega)) _) | (with_reducible refine Below.alloc ?_ (by first | omega | (simp; done) | (simp; omega)) _) | (with_reducible refine Below.drew ?_) | (with_reducible refine below_drewN ?_ _) | (with_reducible refine Below.trans ?_ (Below.mono (by assumption) (by first | omega | (simp; done) | (simp; omega))))))

theorem exchC1_any (a b c d a' b' c' d' k y : Int) (t : Int) (w : World) (hT : Ends w) (h : Ok4 a b c d) (g : Ok4 a' b' c' d') (s : Ok4 (a + a') (b + b') (c + c') (d + d')) (hr : OkR k y) (t1 : -min b d' ≤ t) (t2 : t ≤ min d b')
    (co : ∀ wx, Calls Tryd.prog 62 #[.agg #[.int .i64 (min b d'), .int .i64 (min d b'), .int .i64 (min b d'), .int .i64 (min d b')], .agg #[.int .i64 k, .int .i64 y]] wx fun e w' => e = .returned (.tuple #[.agg #[.int .i64 (min b d' + t), .int .i64 (min d b' - t), .int .i64 (min b d' + t), .int .i64 (min d b' - t)], .int .i64 0]) ∧ Below wx.heap.size wx w') :
    Calls Tryd.prog 61 #[.agg #[.int .i64 a, .int .i64 b, .int .i64 c, .int .i64 d], .agg #[.int .i64 a', .int .i64 b', .int .i64 c', .int .i64 d'], .agg #[.int .i64 k, .int .i64 y], .int .i64 1, .func (.func 62) #[] #[]] w fun e w' => e = .returned (.tuple #[.agg #[.int .i64 a, .int .i64 (b + t), .int .i64 c, .int .i64 (d - t)], .agg #[.int .i64 a', .int .i64 (b' - t), .int .i64 c', .int .i64 (d' + t)], .int .i64 0]) ∧ Below w.heap.size w w' := by
  rcases (show b ≤ d' ∨ d' < b by omega) with x1 | x1
  · rw [show min b d' = b by omega] at co t1
    rcases (show d ≤ b' ∨ b' < d by omega) with x2 | x2
    · rw [show min d b' = d by omega] at co t2
      exact exchC100 a b c d a' b' c' d' k y t w hT h g s hr x1 x2 t1 t2 co
    · rw [show min d b' = b' by omega] at co t2
      exact exchC101 a b c d a' b' c' d' k y t w hT h g s hr x1 x2 t1 t2 co
  · rw [show min b d' = d' by omega] at co t1
    rcases (show d ≤ b' ∨ b' < d by omega) with x2 | x2
    · rw [show min d b' = d by omega] at co t2
      exact exchC110 a b c d a' b' c' d' k y t w hT h g s hr x1 x2 t1 t2 co
    · rw [show min d b' = b' by omega] at co t2
      exact exchC111 a b c d a' b' c' d' k y t w hT h g s hr x1 x2 t1 t2 co

theorem exchU1_any (a b c d a' b' c' d' k y : Int) (t : Int) (w : World) (hT : Ends w) (h : Ok4 a b c d) (g : Ok4 a' b' c' d') (s : Ok4 (a + a') (b + b') (c + c') (d + d')) (hr : OkR k y) (t1 : -min b d' ≤ t) (t2 : t ≤ min d b')
    (co : ∀ wx, Calls Tryd.prog 64 #[.agg #[.int .i64 (min b d'), .int .i64 (min d b'), .int .i64 (min b d'), .int .i64 (min d b')], .agg #[.int .i64 k, .int .i64 y]] wx fun e w' => e = .returned (.tuple #[.agg #[.int .i64 (min b d' + t), .int .i64 (min d b' - t), .int .i64 (min b d' + t), .int .i64 (min d b' - t)], .int .i64 0]) ∧ Below wx.heap.size wx w') :
    Calls Tryd.prog 61 #[.agg #[.int .i64 a, .int .i64 b, .int .i64 c, .int .i64 d], .agg #[.int .i64 a', .int .i64 b', .int .i64 c', .int .i64 d'], .agg #[.int .i64 k, .int .i64 y], .int .i64 1, .func (.func 64) #[] #[]] w fun e w' => e = .returned (.tuple #[.agg #[.int .i64 a, .int .i64 (b + t), .int .i64 c, .int .i64 (d - t)], .agg #[.int .i64 a', .int .i64 (b' - t), .int .i64 c', .int .i64 (d' + t)], .int .i64 0]) ∧ Below w.heap.size w w' := by
  rcases (show b ≤ d' ∨ d' < b by omega) with x1 | x1
  · rw [show min b d' = b by omega] at co t1
    rcases (show d ≤ b' ∨ b' < d by omega) with x2 | x2
    · rw [show min d b' = d by omega] at co t2
      exact exchU100 a b c d a' b' c' d' k y t w hT h g s hr x1 x2 t1 t2 co
    · rw [show min d b' = b' by omega] at co t2
      exact exchU101 a b c d a' b' c' d' k y t w hT h g s hr x1 x2 t1 t2 co
  · rw [show min b d' = d' by omega] at co t1
    rcases (show d ≤ b' ∨ b' < d by omega) with x2 | x2
    · rw [show min d b' = d by omega] at co t2
      exact exchU110 a b c d a' b' c' d' k y t w hT h g s hr x1 x2 t1 t2 co
    · rw [show min d b' = b' by omega] at co t2
      exact exchU111 a b c d a' b' c' d' k y t w hT h g s hr x1 x2 t1 t2 co

set_option maxHeartbeats 1000000 in
theorem gExchange1 (a b c d a' b' c' d' k y : Int) (t : Int) (w : World) (hT : Ends w) (h : Ok4 a b c d) (g : Ok4 a' b' c' d') (s : Ok4 (a + a') (b + b') (c + c') (d + d')) (hr : OkR k y) (ht : t = em b d b' d' k (y)) :
    Calls Tryd.prog 30 #[.agg #[.int .i64 a, .int .i64 b, .int .i64 c, .int .i64 d], .agg #[.int .i64 a', .int .i64 b', .int .i64 c', .int .i64 d'], .agg #[.int .i64 k, .int .i64 y], .int .i64 1] w fun e w' => e = .returned (.tuple #[.agg #[.int .i64 a, .int .i64 (b + t), .int .i64 c, .int .i64 (d - t)], .agg #[.int .i64 a', .int .i64 (b' - t), .int .i64 c', .int .i64 (d' + t)], .int .i64 0]) ∧ Below w.heap.size w w' := by
  have hm := ok_meet1 h g s
  have h' := h
  have g' := g
  obtain ⟨_, _, _, _, _⟩ := h'
  obtain ⟨_, _, _, _, _⟩ := g'
  obtain ⟨t1, t2⟩ := @em_bd b d b' d' k (y) (by omega) (by omega) (by omega) (by omega)
  rw [← ht] at t1 t2
  have hm2 : more (min b d') (min d b') (min b d') (min d b') k (y) = t := by rw [more_meet, ht]; rfl
  have co : ∀ wx, Calls Tryd.prog 62 #[.agg #[.int .i64 (min b d'), .int .i64 (min d b'), .int .i64 (min b d'), .int .i64 (min d b')], .agg #[.int .i64 k, .int .i64 y]] wx fun e w' => e = .returned (.tuple #[.agg #[.int .i64 (min b d' + t), .int .i64 (min d b' - t), .int .i64 (min b d' + t), .int .i64 (min d b' - t)], .int .i64 0]) ∧ Below wx.heap.size wx w' := by
    intro wx
    have q := collide_ok (min b d') (min d b') (min b d') (min d b') k y wx hm hr
    rw [hm2] at q
    exact q
  have X := Lib.hid (fun wx (hb : Below w.heap.size w wx) => exchC1_any a b c d a' b' c' d' k y t wx (hT.below hb) h g s hr t1 t2 co)
  clear hT h g s hr ht t1 t2 hm hm2 co
  go_enter Tryd.func30, Tryd.ntmps30
  go_wp2_with (go_at_call 61; (with_reducible refine (X.out _ (by (repeat' (first | (with_reducible exact Below.refl _ _) | (with_reducible refine Below.setCell ?_ (by first | omega | (simp; done) | (simp; omega)) _) | (with_reducible refine Below.alloc ?_ (by first | omega | (simp; done) | (simp; omega)) _) | (with_reducible refine Below.drew ?_) | (with_reducible refine below_drewN ?_ _) | (with_reducible refine Below.trans ?_ (Below.mono (by assumption) (by first | omega | (simp; done) | (simp; omega)))))))).mono ?_); rintro e w1 ⟨rfl, hb⟩; obtain ⟨hc, hf, hz⟩ := bcall hb; (try simp at hc hf hz))
  refine bodyPost_ret (v := .tuple #[.agg #[.int .i64 a, .int .i64 (b + t), .int .i64 c, .int .i64 (d - t)], .agg #[.int .i64 a', .int .i64 (b' - t), .int .i64 c', .int .i64 (d' + t)], .int .i64 0]) (by simp [results, Tryd.results30, go_sem, ↓IntWalk.iteOmega, *]) rfl ⟨rfl, ?_⟩
  (repeat' (first | (with_reducible exact Below.refl _ _) | (with_reducible refine Below.setCell ?_ (by first | omega | (simp; done) | (simp; omega)) _) | (with_reducible refine Below.alloc ?_ (by first | omega | (simp; done) | (simp; omega)) _) | (with_reducible refine Below.drew ?_) | (with_reducible refine below_drewN ?_ _) | (with_reducible refine Below.trans ?_ (Below.mono (by assumption) (by first | omega | (simp; done) | (simp; omega))))))

set_option maxHeartbeats 1000000 in
theorem gUnexchange1 (a b c d a' b' c' d' k y : Int) (t : Int) (w : World) (hT : Ends w) (h : Ok4 a b c d) (g : Ok4 a' b' c' d') (s : Ok4 (a + a') (b + b') (c + c') (d + d')) (hr : OkR k y) (ht : t = em b d b' d' k (-y)) :
    Calls Tryd.prog 32 #[.agg #[.int .i64 a, .int .i64 b, .int .i64 c, .int .i64 d], .agg #[.int .i64 a', .int .i64 b', .int .i64 c', .int .i64 d'], .agg #[.int .i64 k, .int .i64 y], .int .i64 1] w fun e w' => e = .returned (.tuple #[.agg #[.int .i64 a, .int .i64 (b + t), .int .i64 c, .int .i64 (d - t)], .agg #[.int .i64 a', .int .i64 (b' - t), .int .i64 c', .int .i64 (d' + t)], .int .i64 0]) ∧ Below w.heap.size w w' := by
  have hm := ok_meet1 h g s
  have h' := h
  have g' := g
  obtain ⟨_, _, _, _, _⟩ := h'
  obtain ⟨_, _, _, _, _⟩ := g'
  obtain ⟨t1, t2⟩ := @em_bd b d b' d' k (-y) (by omega) (by omega) (by omega) (by omega)
  rw [← ht] at t1 t2
  have hm2 : more (min b d') (min d b') (min b d') (min d b') k (-y) = t := by rw [more_meet, ht]; rfl
  have co : ∀ wx, Calls Tryd.prog 64 #[.agg #[.int .i64 (min b d'), .int .i64 (min d b'), .int .i64 (min b d'), .int .i64 (min d b')], .agg #[.int .i64 k, .int .i64 y]] wx fun e w' => e = .returned (.tuple #[.agg #[.int .i64 (min b d' + t), .int .i64 (min d b' - t), .int .i64 (min b d' + t), .int .i64 (min d b' - t)], .int .i64 0]) ∧ Below wx.heap.size wx w' := by
    intro wx
    have q := undo_ok (min b d') (min d b') (min b d') (min d b') k y wx hm hr
    rw [hm2] at q
    exact q
  have X := Lib.hid (fun wx (hb : Below w.heap.size w wx) => exchU1_any a b c d a' b' c' d' k y t wx (hT.below hb) h g s hr t1 t2 co)
  clear hT h g s hr ht t1 t2 hm hm2 co
  go_enter Tryd.func32, Tryd.ntmps32
  go_wp2_with (go_at_call 61; (with_reducible refine (X.out _ (by (repeat' (first | (with_reducible exact Below.refl _ _) | (with_reducible refine Below.setCell ?_ (by first | omega | (simp; done) | (simp; omega)) _) | (with_reducible refine Below.alloc ?_ (by first | omega | (simp; done) | (simp; omega)) _) | (with_reducible refine Below.drew ?_) | (with_reducible refine below_drewN ?_ _) | (with_reducible refine Below.trans ?_ (Below.mono (by assumption) (by first | omega | (simp; done) | (simp; omega)))))))).mono ?_); rintro e w1 ⟨rfl, hb⟩; obtain ⟨hc, hf, hz⟩ := bcall hb; (try simp at hc hf hz))
  refine bodyPost_ret (v := .tuple #[.agg #[.int .i64 a, .int .i64 (b + t), .int .i64 c, .int .i64 (d - t)], .agg #[.int .i64 a', .int .i64 (b' - t), .int .i64 c', .int .i64 (d' + t)], .int .i64 0]) (by simp [results, Tryd.results32, go_sem, ↓IntWalk.iteOmega, *]) rfl ⟨rfl, ?_⟩
  (repeat' (first | (with_reducible exact Below.refl _ _) | (with_reducible refine Below.setCell ?_ (by first | omega | (simp; done) | (simp; omega)) _) | (with_reducible refine Below.alloc ?_ (by first | omega | (simp; done) | (simp; omega)) _) | (with_reducible refine Below.drew ?_) | (with_reducible refine below_drewN ?_ _) | (with_reducible refine Below.trans ?_ (Below.mono (by assumption) (by first | omega | (simp; done) | (simp; omega))))))

set_option maxHeartbeats 1000000 in
theorem rExchange1 (a b c d a' b' c' d' k y : Int) (t : Int) (w : World) (h : Ok4 a b c d) (g : Ok4 a' b' c' d') (s : Ok4 (a + a') (b + b') (c + c') (d + d')) (hr : OkR k y) (ht : t = em b d b' d' k (y)) :
    Calls Tryd.prog 31 #[.agg #[.int .i64 a, .int .i64 b, .int .i64 c, .int .i64 d], .agg #[.int .i64 a', .int .i64 b', .int .i64 c', .int .i64 d'], .agg #[.int .i64 k, .int .i64 y], .int .i64 1] w fun e w' => e = .returned (.tuple #[.agg #[.int .i64 a, .int .i64 (b + t), .int .i64 c, .int .i64 (d - t)], .agg #[.int .i64 a', .int .i64 (b' - t), .int .i64 c', .int .i64 (d' + t)], .int .i64 0]) ∧ Below w.heap.size w w' := by
  have X := Lib.hid (fun wx => rexch1 a b c d a' b' c' d' k (y) t wx h g (hr) ht)
  have H := Lib.hid h; clear h
  have G := Lib.hid g; clear g
  have S := Lib.hid s; clear s
  have HR := Lib.hid hr; clear hr ht
  have Y := Lib.hid (fun wx (hb : Below w.heap.size w wx) => show Calls Tryd.prog 63 #[.agg #[.int .i64 a, .int .i64 b, .int .i64 c, .int .i64 d], .agg #[.int .i64 a', .int .i64 b', .int .i64 c', .int .i64 d'], .agg #[.int .i64 k, .int .i64 y], .int .i64 1, .bool false] wx fun e w' => e = .returned (.tuple #[.agg #[.int .i64 a, .int .i64 (b + t), .int .i64 c, .int .i64 (d - t)], .agg #[.int .i64 a', .int .i64 (b' - t), .int .i64 c', .int .i64 (d' + t)], .int .i64 0]) ∧ Below wx.heap.size wx w' from by
    go_enter Tryd.func63, Tryd.ntmps63
    go_wp2_with (first | (go_at_call 76; (with_reducible refine (refValid_ok a b c d _ H.out).mono ?_); rintro e w1 ⟨rfl, hb⟩; obtain ⟨hc, hf, hz⟩ := bcall hb; (try simp at hc hf hz)) | (go_at_call 76; (with_reducible refine (refValid_ok a' b' c' d' _ G.out).mono ?_); rintro e w1 ⟨rfl, hb⟩; obtain ⟨hc, hf, hz⟩ := bcall hb; (try simp at hc hf hz)) | (go_at_call 88; (with_reducible refine (refValidRule_ok _ _ _ HR.out).mono ?_); rintro e w1 ⟨rfl, hb⟩; obtain ⟨hc, hf, hz⟩ := bcall hb; (try simp at hc hf hz)) | (go_at_call 89; (with_reducible refine (within4_yes _ _ _ _ (by omega) (by omega)).mono ?_); rintro e w1 ⟨rfl, rfl⟩) | (go_at_call 80; (with_reducible refine (sumCells _ _ _ _ _ _ _ _ _ H.out G.out).mono ?_); rintro e w1 ⟨rfl, hb⟩; obtain ⟨hc, hf, hz⟩ := bcall hb; (try simp at hc hf hz)) | (go_at_call 76; (with_reducible refine (refValid_ok _ _ _ _ _ S.out).mono ?_); rintro e w1 ⟨rfl, hb⟩; obtain ⟨hc, hf, hz⟩ := bcall hb; (try simp at hc hf hz)) | (go_at_call 91; (with_reducible refine (X.out _).mono ?_); rintro e w1 ⟨rfl, hb⟩; obtain ⟨hc, hf, hz⟩ := bcall hb; (try simp at hc hf hz)))
    have l0 : wx.heap.size + 1 + 1 + 1 + 1 < w1.heap.size := by omega
    have lz : wx.heap.size < w1.heap.size := by omega
    obtain ⟨wz, hwz⟩ : ∃ wz, wz = (w1.alloc (.cells #[.int .i64 a, .int .i64 (b + t), .int .i64 c, .int .i64 (d - t)] 47)).alloc (.cells #[.int .i64 a', .int .i64 (b' - t), .int .i64 c', .int .i64 (d' + t)] 47) := ⟨_, rfl⟩
    have HZ := Lib.hid (show Below wx.heap.size wx wz from by rw [hwz]; (repeat' (first | (with_reducible exact Below.refl _ _) | (with_reducible refine Below.setCell ?_ (by first | omega | (simp; done) | (simp; omega)) _) | (with_reducible refine Below.alloc ?_ (by first | omega | (simp; done) | (simp; omega)) _) | (with_reducible refine Below.drew ?_) | (with_reducible refine below_drewN ?_ _) | (with_reducible refine Below.trans ?_ (Below.mono (by assumption) (by first | omega | (simp; done) | (simp; omega)))))))
    have sz : wz.heap.size = w1.heap.size + 2 := by rw [hwz]; simp
    obtain ⟨w5, h5⟩ : ∃ w5, w5 = ((((wx.alloc (.cells #[.int .i64 a, .int .i64 b, .int .i64 c, .int .i64 d] 47)).alloc (.cells #[.int .i64 a', .int .i64 b', .int .i64 c', .int .i64 d'] 47)).alloc (.cells #[.int .i64 k, .int .i64 y] 51)).alloc (.cells #[.int .i64 0, .int .i64 0, .int .i64 0, .int .i64 0] 47)).alloc (.cells #[.int .i64 0, .int .i64 0, .int .i64 0, .int .i64 0] 47) := ⟨_, rfl⟩
    have s5 : w5.heap.size = wx.heap.size + 5 := by rw [h5]; simp
    have H5 : Ex (fun k => k = wx.heap.size + 1 + 1) w5 wz := by
      rw [hwz, h5]
      repeat' (first | (with_reducible exact Ex.refl _ _) | (with_reducible refine Ex.alloc ?_ _) | (refine Ex.setCell ?_ (by rfl) _) | (with_reducible refine Ex.drew ?_) | (with_reducible refine Ex.trans ?_ (Ex.of_below (by assumption))))
    have y00 : wz.cell? ⟨wx.heap.size + 1 + 1 + 1, 0, none⟩ = some (.int .i64 0) := (H5.cell (by omega) (by omega)).trans (by rw [h5]; simp [go_sem, ↓IntWalk.iteOmega])
    have f00 : wz.frozen? ⟨wx.heap.size + 1 + 1 + 1, 0, none⟩ = false := (H5.frozen (by omega) (by omega)).trans (by rw [h5]; simp [go_sem, ↓IntWalk.iteOmega])
    have y01 : wz.cell? ⟨wx.heap.size + 1 + 1 + 1, 1, none⟩ = some (.int .i64 0) := (H5.cell (by omega) (by omega)).trans (by rw [h5]; simp [go_sem, ↓IntWalk.iteOmega])
    have f01 : wz.frozen? ⟨wx.heap.size + 1 + 1 + 1, 1, none⟩ = false := (H5.frozen (by omega) (by omega)).trans (by rw [h5]; simp [go_sem, ↓IntWalk.iteOmega])
    have y02 : wz.cell? ⟨wx.heap.size + 1 + 1 + 1, 2, none⟩ = some (.int .i64 0) := (H5.cell (by omega) (by omega)).trans (by rw [h5]; simp [go_sem, ↓IntWalk.iteOmega])
    have f02 : wz.frozen? ⟨wx.heap.size + 1 + 1 + 1, 2, none⟩ = false := (H5.frozen (by omega) (by omega)).trans (by rw [h5]; simp [go_sem, ↓IntWalk.iteOmega])
    have y03 : wz.cell? ⟨wx.heap.size + 1 + 1 + 1, 3, none⟩ = some (.int .i64 0) := (H5.cell (by omega) (by omega)).trans (by rw [h5]; simp [go_sem, ↓IntWalk.iteOmega])
    have f03 : wz.frozen? ⟨wx.heap.size + 1 + 1 + 1, 3, none⟩ = false := (H5.frozen (by omega) (by omega)).trans (by rw [h5]; simp [go_sem, ↓IntWalk.iteOmega])
    have y10 : wz.cell? ⟨wx.heap.size + 1 + 1 + 1 + 1, 0, none⟩ = some (.int .i64 0) := (H5.cell (by omega) (by omega)).trans (by rw [h5]; simp [go_sem, ↓IntWalk.iteOmega])
    have f10 : wz.frozen? ⟨wx.heap.size + 1 + 1 + 1 + 1, 0, none⟩ = false := (H5.frozen (by omega) (by omega)).trans (by rw [h5]; simp [go_sem, ↓IntWalk.iteOmega])
    have y11 : wz.cell? ⟨wx.heap.size + 1 + 1 + 1 + 1, 1, none⟩ = some (.int .i64 0) := (H5.cell (by omega) (by omega)).trans (by rw [h5]; simp [go_sem, ↓IntWalk.iteOmega])
    have f11 : wz.frozen? ⟨wx.heap.size + 1 + 1 + 1 + 1, 1, none⟩ = false := (H5.frozen (by omega) (by omega)).trans (by rw [h5]; simp [go_sem, ↓IntWalk.iteOmega])
    have y12 : wz.cell? ⟨wx.heap.size + 1 + 1 + 1 + 1, 2, none⟩ = some (.int .i64 0) := (H5.cell (by omega) (by omega)).trans (by rw [h5]; simp [go_sem, ↓IntWalk.iteOmega])
    have f12 : wz.frozen? ⟨wx.heap.size + 1 + 1 + 1 + 1, 2, none⟩ = false := (H5.frozen (by omega) (by omega)).trans (by rw [h5]; simp [go_sem, ↓IntWalk.iteOmega])
    have y13 : wz.cell? ⟨wx.heap.size + 1 + 1 + 1 + 1, 3, none⟩ = some (.int .i64 0) := (H5.cell (by omega) (by omega)).trans (by rw [h5]; simp [go_sem, ↓IntWalk.iteOmega])
    have f13 : wz.frozen? ⟨wx.heap.size + 1 + 1 + 1 + 1, 3, none⟩ = false := (H5.frozen (by omega) (by omega)).trans (by rw [h5]; simp [go_sem, ↓IntWalk.iteOmega])
    have x00 : wz.cell? ⟨w1.heap.size, 0, none⟩ = some (.int .i64 a) := by rw [hwz]; simp [go_sem, ↓IntWalk.iteOmega]
    have x01 : wz.cell? ⟨w1.heap.size, 1, none⟩ = some (.int .i64 (b + t)) := by rw [hwz]; simp [go_sem, ↓IntWalk.iteOmega]
    have x02 : wz.cell? ⟨w1.heap.size, 2, none⟩ = some (.int .i64 c) := by rw [hwz]; simp [go_sem, ↓IntWalk.iteOmega]
    have x03 : wz.cell? ⟨w1.heap.size, 3, none⟩ = some (.int .i64 (d - t)) := by rw [hwz]; simp [go_sem, ↓IntWalk.iteOmega]
    have x10 : wz.cell? ⟨w1.heap.size + 1, 0, none⟩ = some (.int .i64 a') := by rw [hwz]; simp [go_sem, ↓IntWalk.iteOmega]
    have x11 : wz.cell? ⟨w1.heap.size + 1, 1, none⟩ = some (.int .i64 (b' - t)) := by rw [hwz]; simp [go_sem, ↓IntWalk.iteOmega]
    have x12 : wz.cell? ⟨w1.heap.size + 1, 2, none⟩ = some (.int .i64 c') := by rw [hwz]; simp [go_sem, ↓IntWalk.iteOmega]
    have x13 : wz.cell? ⟨w1.heap.size + 1, 3, none⟩ = some (.int .i64 (d' + t)) := by rw [hwz]; simp [go_sem, ↓IntWalk.iteOmega]
    rw [← hwz]
    clear hwz hc hf hb h5 H5 s5
    have hbz := HZ.out
    go_region
    go_wp2
    refine bodyPost_ret (v := .tuple #[.agg #[.int .i64 a, .int .i64 (b + t), .int .i64 c, .int .i64 (d - t)], .agg #[.int .i64 a', .int .i64 (b' - t), .int .i64 c', .int .i64 (d' + t)], .int .i64 0]) (by simp [results, Tryd.results63, go_sem, ↓IntWalk.iteOmega, *]) rfl ⟨rfl, ?_⟩
    (repeat' (first | (with_reducible exact Below.refl _ _) | (with_reducible refine Below.setCell ?_ (by first | omega | (simp; done) | (simp; omega)) _) | (with_reducible refine Below.alloc ?_ (by first | omega | (simp; done) | (simp; omega)) _) | (with_reducible refine Below.drew ?_) | (with_reducible refine below_drewN ?_ _) | (with_reducible refine Below.trans ?_ (Below.mono (by assumption) (by first | omega | (simp; done) | (simp; omega)))))))
  clear H G S HR X
  go_enter Tryd.func31, Tryd.ntmps31
  go_wp2_with (go_at_call 63; (with_reducible refine (Y.out _ (by (repeat' (first | (with_reducible exact Below.refl _ _) | (with_reducible refine Below.setCell ?_ (by first | omega | (simp; done) | (simp; omega)) _) | (with_reducible refine Below.alloc ?_ (by first | omega | (simp; done) | (simp; omega)) _) | (with_reducible refine Below.drew ?_) | (with_reducible refine below_drewN ?_ _) | (with_reducible refine Below.trans ?_ (Below.mono (by assumption) (by first | omega | (simp; done) | (simp; omega)))))))).mono ?_); rintro e w1 ⟨rfl, hb⟩; obtain ⟨hc, hf, hz⟩ := bcall hb; (try simp at hc hf hz))
  refine bodyPost_ret (v := .tuple #[.agg #[.int .i64 a, .int .i64 (b + t), .int .i64 c, .int .i64 (d - t)], .agg #[.int .i64 a', .int .i64 (b' - t), .int .i64 c', .int .i64 (d' + t)], .int .i64 0]) (by simp [results, Tryd.results31, go_sem, ↓IntWalk.iteOmega, *]) rfl ⟨rfl, ?_⟩
  (repeat' (first | (with_reducible exact Below.refl _ _) | (with_reducible refine Below.setCell ?_ (by first | omega | (simp; done) | (simp; omega)) _) | (with_reducible refine Below.alloc ?_ (by first | omega | (simp; done) | (simp; omega)) _) | (with_reducible refine Below.drew ?_) | (with_reducible refine below_drewN ?_ _) | (with_reducible refine Below.trans ?_ (Below.mono (by assumption) (by first | omega | (simp; done) | (simp; omega))))))

set_option maxHeartbeats 1000000 in
theorem rUnexchange1 (a b c d a' b' c' d' k y : Int) (t : Int) (w : World) (h : Ok4 a b c d) (g : Ok4 a' b' c' d') (s : Ok4 (a + a') (b + b') (c + c') (d + d')) (hr : OkR k y) (ht : t = em b d b' d' k (-y)) :
    Calls Tryd.prog 33 #[.agg #[.int .i64 a, .int .i64 b, .int .i64 c, .int .i64 d], .agg #[.int .i64 a', .int .i64 b', .int .i64 c', .int .i64 d'], .agg #[.int .i64 k, .int .i64 y], .int .i64 1] w fun e w' => e = .returned (.tuple #[.agg #[.int .i64 a, .int .i64 (b + t), .int .i64 c, .int .i64 (d - t)], .agg #[.int .i64 a', .int .i64 (b' - t), .int .i64 c', .int .i64 (d' + t)], .int .i64 0]) ∧ Below w.heap.size w w' := by
  have X := Lib.hid (fun wx => rexch1 a b c d a' b' c' d' k (-y) t wx h g (okR_neg hr) ht)
  have H := Lib.hid h; clear h
  have G := Lib.hid g; clear g
  have S := Lib.hid s; clear s
  have HR := Lib.hid hr; clear hr ht
  have Y := Lib.hid (fun wx (hb : Below w.heap.size w wx) => show Calls Tryd.prog 63 #[.agg #[.int .i64 a, .int .i64 b, .int .i64 c, .int .i64 d], .agg #[.int .i64 a', .int .i64 b', .int .i64 c', .int .i64 d'], .agg #[.int .i64 k, .int .i64 y], .int .i64 1, .bool true] wx fun e w' => e = .returned (.tuple #[.agg #[.int .i64 a, .int .i64 (b + t), .int .i64 c, .int .i64 (d - t)], .agg #[.int .i64 a', .int .i64 (b' - t), .int .i64 c', .int .i64 (d' + t)], .int .i64 0]) ∧ Below wx.heap.size wx w' from by
    go_enter Tryd.func63, Tryd.ntmps63
    go_wp2_with (first | (go_at_call 76; (with_reducible refine (refValid_ok a b c d _ H.out).mono ?_); rintro e w1 ⟨rfl, hb⟩; obtain ⟨hc, hf, hz⟩ := bcall hb; (try simp at hc hf hz)) | (go_at_call 76; (with_reducible refine (refValid_ok a' b' c' d' _ G.out).mono ?_); rintro e w1 ⟨rfl, hb⟩; obtain ⟨hc, hf, hz⟩ := bcall hb; (try simp at hc hf hz)) | (go_at_call 88; (with_reducible refine (refValidRule_ok _ _ _ HR.out).mono ?_); rintro e w1 ⟨rfl, hb⟩; obtain ⟨hc, hf, hz⟩ := bcall hb; (try simp at hc hf hz)) | (go_at_call 89; (with_reducible refine (within4_yes _ _ _ _ (by omega) (by omega)).mono ?_); rintro e w1 ⟨rfl, rfl⟩) | (go_at_call 80; (with_reducible refine (sumCells _ _ _ _ _ _ _ _ _ H.out G.out).mono ?_); rintro e w1 ⟨rfl, hb⟩; obtain ⟨hc, hf, hz⟩ := bcall hb; (try simp at hc hf hz)) | (go_at_call 76; (with_reducible refine (refValid_ok _ _ _ _ _ S.out).mono ?_); rintro e w1 ⟨rfl, hb⟩; obtain ⟨hc, hf, hz⟩ := bcall hb; (try simp at hc hf hz)) | (go_at_call 90; (with_reducible refine (opposite_any _ _ _ HR.out).mono ?_); rintro e w1 ⟨rfl, hb⟩; obtain ⟨hc, hf, hz⟩ := bcall hb; (try simp at hc hf hz)) | (go_at_call 91; (with_reducible refine (X.out _).mono ?_); rintro e w1 ⟨rfl, hb⟩; obtain ⟨hc, hf, hz⟩ := bcall hb; (try simp at hc hf hz)))
    have l0 : wx.heap.size + 1 + 1 + 1 + 1 < w1.heap.size := by omega
    have lz : wx.heap.size < w1.heap.size := by omega
    obtain ⟨wz, hwz⟩ : ∃ wz, wz = (w1.alloc (.cells #[.int .i64 a, .int .i64 (b + t), .int .i64 c, .int .i64 (d - t)] 47)).alloc (.cells #[.int .i64 a', .int .i64 (b' - t), .int .i64 c', .int .i64 (d' + t)] 47) := ⟨_, rfl⟩
    have HZ := Lib.hid (show Below wx.heap.size wx wz from by rw [hwz]; (repeat' (first | (with_reducible exact Below.refl _ _) | (with_reducible refine Below.setCell ?_ (by first | omega | (simp; done) | (simp; omega)) _) | (with_reducible refine Below.alloc ?_ (by first | omega | (simp; done) | (simp; omega)) _) | (with_reducible refine Below.drew ?_) | (with_reducible refine below_drewN ?_ _) | (with_reducible refine Below.trans ?_ (Below.mono (by assumption) (by first | omega | (simp; done) | (simp; omega)))))))
    have sz : wz.heap.size = w1.heap.size + 2 := by rw [hwz]; simp
    obtain ⟨w5, h5⟩ : ∃ w5, w5 = ((((wx.alloc (.cells #[.int .i64 a, .int .i64 b, .int .i64 c, .int .i64 d] 47)).alloc (.cells #[.int .i64 a', .int .i64 b', .int .i64 c', .int .i64 d'] 47)).alloc (.cells #[.int .i64 k, .int .i64 y] 51)).alloc (.cells #[.int .i64 0, .int .i64 0, .int .i64 0, .int .i64 0] 47)).alloc (.cells #[.int .i64 0, .int .i64 0, .int .i64 0, .int .i64 0] 47) := ⟨_, rfl⟩
    have s5 : w5.heap.size = wx.heap.size + 5 := by rw [h5]; simp
    have H5 : Ex (fun k => k = wx.heap.size + 1 + 1) w5 wz := by
      rw [hwz, h5]
      repeat' (first | (with_reducible exact Ex.refl _ _) | (with_reducible refine Ex.alloc ?_ _) | (refine Ex.setCell ?_ (by rfl) _) | (with_reducible refine Ex.drew ?_) | (with_reducible refine Ex.trans ?_ (Ex.of_below (by assumption))))
    have y00 : wz.cell? ⟨wx.heap.size + 1 + 1 + 1, 0, none⟩ = some (.int .i64 0) := (H5.cell (by omega) (by omega)).trans (by rw [h5]; simp [go_sem, ↓IntWalk.iteOmega])
    have f00 : wz.frozen? ⟨wx.heap.size + 1 + 1 + 1, 0, none⟩ = false := (H5.frozen (by omega) (by omega)).trans (by rw [h5]; simp [go_sem, ↓IntWalk.iteOmega])
    have y01 : wz.cell? ⟨wx.heap.size + 1 + 1 + 1, 1, none⟩ = some (.int .i64 0) := (H5.cell (by omega) (by omega)).trans (by rw [h5]; simp [go_sem, ↓IntWalk.iteOmega])
    have f01 : wz.frozen? ⟨wx.heap.size + 1 + 1 + 1, 1, none⟩ = false := (H5.frozen (by omega) (by omega)).trans (by rw [h5]; simp [go_sem, ↓IntWalk.iteOmega])
    have y02 : wz.cell? ⟨wx.heap.size + 1 + 1 + 1, 2, none⟩ = some (.int .i64 0) := (H5.cell (by omega) (by omega)).trans (by rw [h5]; simp [go_sem, ↓IntWalk.iteOmega])
    have f02 : wz.frozen? ⟨wx.heap.size + 1 + 1 + 1, 2, none⟩ = false := (H5.frozen (by omega) (by omega)).trans (by rw [h5]; simp [go_sem, ↓IntWalk.iteOmega])
    have y03 : wz.cell? ⟨wx.heap.size + 1 + 1 + 1, 3, none⟩ = some (.int .i64 0) := (H5.cell (by omega) (by omega)).trans (by rw [h5]; simp [go_sem, ↓IntWalk.iteOmega])
    have f03 : wz.frozen? ⟨wx.heap.size + 1 + 1 + 1, 3, none⟩ = false := (H5.frozen (by omega) (by omega)).trans (by rw [h5]; simp [go_sem, ↓IntWalk.iteOmega])
    have y10 : wz.cell? ⟨wx.heap.size + 1 + 1 + 1 + 1, 0, none⟩ = some (.int .i64 0) := (H5.cell (by omega) (by omega)).trans (by rw [h5]; simp [go_sem, ↓IntWalk.iteOmega])
    have f10 : wz.frozen? ⟨wx.heap.size + 1 + 1 + 1 + 1, 0, none⟩ = false := (H5.frozen (by omega) (by omega)).trans (by rw [h5]; simp [go_sem, ↓IntWalk.iteOmega])
    have y11 : wz.cell? ⟨wx.heap.size + 1 + 1 + 1 + 1, 1, none⟩ = some (.int .i64 0) := (H5.cell (by omega) (by omega)).trans (by rw [h5]; simp [go_sem, ↓IntWalk.iteOmega])
    have f11 : wz.frozen? ⟨wx.heap.size + 1 + 1 + 1 + 1, 1, none⟩ = false := (H5.frozen (by omega) (by omega)).trans (by rw [h5]; simp [go_sem, ↓IntWalk.iteOmega])
    have y12 : wz.cell? ⟨wx.heap.size + 1 + 1 + 1 + 1, 2, none⟩ = some (.int .i64 0) := (H5.cell (by omega) (by omega)).trans (by rw [h5]; simp [go_sem, ↓IntWalk.iteOmega])
    have f12 : wz.frozen? ⟨wx.heap.size + 1 + 1 + 1 + 1, 2, none⟩ = false := (H5.frozen (by omega) (by omega)).trans (by rw [h5]; simp [go_sem, ↓IntWalk.iteOmega])
    have y13 : wz.cell? ⟨wx.heap.size + 1 + 1 + 1 + 1, 3, none⟩ = some (.int .i64 0) := (H5.cell (by omega) (by omega)).trans (by rw [h5]; simp [go_sem, ↓IntWalk.iteOmega])
    have f13 : wz.frozen? ⟨wx.heap.size + 1 + 1 + 1 + 1, 3, none⟩ = false := (H5.frozen (by omega) (by omega)).trans (by rw [h5]; simp [go_sem, ↓IntWalk.iteOmega])
    have x00 : wz.cell? ⟨w1.heap.size, 0, none⟩ = some (.int .i64 a) := by rw [hwz]; simp [go_sem, ↓IntWalk.iteOmega]
    have x01 : wz.cell? ⟨w1.heap.size, 1, none⟩ = some (.int .i64 (b + t)) := by rw [hwz]; simp [go_sem, ↓IntWalk.iteOmega]
    have x02 : wz.cell? ⟨w1.heap.size, 2, none⟩ = some (.int .i64 c) := by rw [hwz]; simp [go_sem, ↓IntWalk.iteOmega]
    have x03 : wz.cell? ⟨w1.heap.size, 3, none⟩ = some (.int .i64 (d - t)) := by rw [hwz]; simp [go_sem, ↓IntWalk.iteOmega]
    have x10 : wz.cell? ⟨w1.heap.size + 1, 0, none⟩ = some (.int .i64 a') := by rw [hwz]; simp [go_sem, ↓IntWalk.iteOmega]
    have x11 : wz.cell? ⟨w1.heap.size + 1, 1, none⟩ = some (.int .i64 (b' - t)) := by rw [hwz]; simp [go_sem, ↓IntWalk.iteOmega]
    have x12 : wz.cell? ⟨w1.heap.size + 1, 2, none⟩ = some (.int .i64 c') := by rw [hwz]; simp [go_sem, ↓IntWalk.iteOmega]
    have x13 : wz.cell? ⟨w1.heap.size + 1, 3, none⟩ = some (.int .i64 (d' + t)) := by rw [hwz]; simp [go_sem, ↓IntWalk.iteOmega]
    rw [← hwz]
    clear hwz hc hf hb h5 H5 s5
    have hbz := HZ.out
    go_region
    go_wp2
    refine bodyPost_ret (v := .tuple #[.agg #[.int .i64 a, .int .i64 (b + t), .int .i64 c, .int .i64 (d - t)], .agg #[.int .i64 a', .int .i64 (b' - t), .int .i64 c', .int .i64 (d' + t)], .int .i64 0]) (by simp [results, Tryd.results63, go_sem, ↓IntWalk.iteOmega, *]) rfl ⟨rfl, ?_⟩
    (repeat' (first | (with_reducible exact Below.refl _ _) | (with_reducible refine Below.setCell ?_ (by first | omega | (simp; done) | (simp; omega)) _) | (with_reducible refine Below.alloc ?_ (by first | omega | (simp; done) | (simp; omega)) _) | (with_reducible refine Below.drew ?_) | (with_reducible refine below_drewN ?_ _) | (with_reducible refine Below.trans ?_ (Below.mono (by assumption) (by first | omega | (simp; done) | (simp; omega)))))))
  clear H G S HR X
  go_enter Tryd.func33, Tryd.ntmps33
  go_wp2_with (go_at_call 63; (with_reducible refine (Y.out _ (by (repeat' (first | (with_reducible exact Below.refl _ _) | (with_reducible refine Below.setCell ?_ (by first | omega | (simp; done) | (simp; omega)) _) | (with_reducible refine Below.alloc ?_ (by first | omega | (simp; done) | (simp; omega)) _) | (with_reducible refine Below.drew ?_) | (with_reducible refine below_drewN ?_ _) | (with_reducible refine Below.trans ?_ (Below.mono (by assumption) (by first | omega | (simp; done) | (simp; omega)))))))).mono ?_); rintro e w1 ⟨rfl, hb⟩; obtain ⟨hc, hf, hz⟩ := bcall hb; (try simp at hc hf hz))
  refine bodyPost_ret (v := .tuple #[.agg #[.int .i64 a, .int .i64 (b + t), .int .i64 c, .int .i64 (d - t)], .agg #[.int .i64 a', .int .i64 (b' - t), .int .i64 c', .int .i64 (d' + t)], .int .i64 0]) (by simp [results, Tryd.results33, go_sem, ↓IntWalk.iteOmega, *]) rfl ⟨rfl, ?_⟩
  (repeat' (first | (with_reducible exact Below.refl _ _) | (with_reducible refine Below.setCell ?_ (by first | omega | (simp; done) | (simp; omega)) _) | (with_reducible refine Below.alloc ?_ (by first | omega | (simp; done) | (simp; omega)) _) | (with_reducible refine Below.drew ?_) | (with_reducible refine below_drewN ?_ _) | (with_reducible refine Below.trans ?_ (Below.mono (by assumption) (by first | omega | (simp; done) | (simp; omega))))))

/-- The first error of an exchange. -/
def XErr (a b c d a' b' c' d' k y : Int) (l z : Int) : Prop := (z = 1 ∧ ¬ ((Ok4 a b c d ∧ Ok4 a' b' c' d') ∧ OkR k y)) ∨ (z = 7 ∧ ((Ok4 a b c d ∧ Ok4 a' b' c' d') ∧ OkR k y) ∧ l ≠ 0 ∧ l ≠ 1) ∨ (z = 4 ∧ ((Ok4 a b c d ∧ Ok4 a' b' c' d') ∧ OkR k y) ∧ (l = 0 ∨ l = 1) ∧ ¬ Ok4 (a + a') (b + b') (c + c') (d + d'))

set_option maxHeartbeats 2000000 in
theorem exch_err (fn : Nat) (a b c d a' b' c' d' k y : Int) (l z : Int) (w : World) (h : XErr a b c d a' b' c' d' k y l z) :
    Calls Tryd.prog 61 #[.agg #[.int .i64 a, .int .i64 b, .int .i64 c, .int .i64 d], .agg #[.int .i64 a', .int .i64 b', .int .i64 c', .int .i64 d'], .agg #[.int .i64 k, .int .i64 y], .int .i64 l, .func (.func fn) #[] #[]] w fun e w' => e = .returned (.tuple #[.agg #[.int .i64 0, .int .i64 0, .int .i64 0, .int .i64 0], .agg #[.int .i64 0, .int .i64 0, .int .i64 0, .int .i64 0], .int .i64 z]) ∧ Below w.heap.size w w' := by
  rcases h with ⟨rfl, h⟩ | ⟨rfl, h, l0, l1⟩ | ⟨rfl, h, hl, hs⟩
  · by_cases h0 : Ok4 a b c d
    · have H0 := Lib.hid h0
      by_cases h1 : Ok4 a' b' c' d'
      · have H1 := Lib.hid h1
        have H2 := Lib.hid (show ¬ OkR k y from fun q => h ⟨⟨h0, h1⟩, q⟩)
        clear h h0 h1
        go_enter Tryd.func61, Tryd.ntmps61
        go_wp2_with (first | (go_at_call 83; (with_reducible refine (valid_ok a b c d _ H0.out).mono ?_); rintro e w1 ⟨rfl, hb⟩; obtain ⟨hc, hf, hz⟩ := bcall hb; (try simp at hc hf hz)) | (go_at_call 83; (with_reducible refine (valid_ok a' b' c' d' _ H1.out).mono ?_); rintro e w1 ⟨rfl, hb⟩; obtain ⟨hc, hf, hz⟩ := bcall hb; (try simp at hc hf hz)) | (go_at_call 84; (with_reducible refine (validRule_bad _ _ _ H2.out).mono ?_); rintro e w1 ⟨rfl, hb⟩; obtain ⟨hc, hf, hz⟩ := bcall hb; (try simp at hc hf hz)))
        refine bodyPost_ret (v := .tuple #[.agg #[.int .i64 0, .int .i64 0, .int .i64 0, .int .i64 0], .agg #[.int .i64 0, .int .i64 0, .int .i64 0, .int .i64 0], .int .i64 1]) (by simp [results, Tryd.results61, go_sem, ↓IntWalk.iteOmega, *]) rfl ⟨rfl, ?_⟩
        (repeat' (first | (with_reducible exact Below.refl _ _) | (with_reducible refine Below.setCell ?_ (by first | omega | (simp; done) | (simp; omega)) _) | (with_reducible refine Below.alloc ?_ (by first | omega | (simp; done) | (simp; omega)) _) | (with_reducible refine Below.drew ?_) | (with_reducible refine below_drewN ?_ _) | (with_reducible refine Below.trans ?_ (Below.mono (by assumption) (by first | omega | (simp; done) | (simp; omega))))))
      · have H1 := Lib.hid h1
        clear h h0 h1
        go_enter Tryd.func61, Tryd.ntmps61
        go_wp2_with (first | (go_at_call 83; (with_reducible refine (valid_ok a b c d _ H0.out).mono ?_); rintro e w1 ⟨rfl, hb⟩; obtain ⟨hc, hf, hz⟩ := bcall hb; (try simp at hc hf hz)) | (go_at_call 83; (with_reducible refine (valid_bad a' b' c' d' _ H1.out).mono ?_); rintro e w1 ⟨rfl, hb⟩; obtain ⟨hc, hf, hz⟩ := bcall hb; (try simp at hc hf hz)))
        refine bodyPost_ret (v := .tuple #[.agg #[.int .i64 0, .int .i64 0, .int .i64 0, .int .i64 0], .agg #[.int .i64 0, .int .i64 0, .int .i64 0, .int .i64 0], .int .i64 1]) (by simp [results, Tryd.results61, go_sem, ↓IntWalk.iteOmega, *]) rfl ⟨rfl, ?_⟩
        (repeat' (first | (with_reducible exact Below.refl _ _) | (with_reducible refine Below.setCell ?_ (by first | omega | (simp; done) | (simp; omega)) _) | (with_reducible refine Below.alloc ?_ (by first | omega | (simp; done) | (simp; omega)) _) | (with_reducible refine Below.drew ?_) | (with_reducible refine below_drewN ?_ _) | (with_reducible refine Below.trans ?_ (Below.mono (by assumption) (by first | omega | (simp; done) | (simp; omega))))))
    · have H0 := Lib.hid h0
      clear h h0
      go_enter Tryd.func61, Tryd.ntmps61
      go_wp2_with (first | (go_at_call 83; (with_reducible refine (valid_bad a b c d _ H0.out).mono ?_); rintro e w1 ⟨rfl, hb⟩; obtain ⟨hc, hf, hz⟩ := bcall hb; (try simp at hc hf hz)))
      refine bodyPost_ret (v := .tuple #[.agg #[.int .i64 0, .int .i64 0, .int .i64 0, .int .i64 0], .agg #[.int .i64 0, .int .i64 0, .int .i64 0, .int .i64 0], .int .i64 1]) (by simp [results, Tryd.results61, go_sem, ↓IntWalk.iteOmega, *]) rfl ⟨rfl, ?_⟩
      (repeat' (first | (with_reducible exact Below.refl _ _) | (with_reducible refine Below.setCell ?_ (by first | omega | (simp; done) | (simp; omega)) _) | (with_reducible refine Below.alloc ?_ (by first | omega | (simp; done) | (simp; omega)) _) | (with_reducible refine Below.drew ?_) | (with_reducible refine below_drewN ?_ _) | (with_reducible refine Below.trans ?_ (Below.mono (by assumption) (by first | omega | (simp; done) | (simp; omega))))))
  · have H0 := Lib.hid h; clear h
    have e0 : (l != 0) = true := by simp [bne, l0]
    have e1 : (l != 1) = true := by simp [bne, l1]
    clear l0 l1
    go_enter Tryd.func61, Tryd.ntmps61
    go_wp2_with (first | (go_at_call 83; (with_reducible refine (valid_ok a b c d _ H0.out.1.1).mono ?_); rintro e w1 ⟨rfl, hb⟩; obtain ⟨hc, hf, hz⟩ := bcall hb; (try simp at hc hf hz)) | (go_at_call 83; (with_reducible refine (valid_ok a' b' c' d' _ H0.out.1.2).mono ?_); rintro e w1 ⟨rfl, hb⟩; obtain ⟨hc, hf, hz⟩ := bcall hb; (try simp at hc hf hz)) | (go_at_call 84; (with_reducible refine (validRule_ok _ _ _ H0.out.2).mono ?_); rintro e w1 ⟨rfl, hb⟩; obtain ⟨hc, hf, hz⟩ := bcall hb; (try simp at hc hf hz)))
    refine bodyPost_ret (v := .tuple #[.agg #[.int .i64 0, .int .i64 0, .int .i64 0, .int .i64 0], .agg #[.int .i64 0, .int .i64 0, .int .i64 0, .int .i64 0], .int .i64 7]) (by simp [results, Tryd.results61, go_sem, ↓IntWalk.iteOmega, *]) rfl ⟨rfl, ?_⟩
    (repeat' (first | (with_reducible exact Below.refl _ _) | (with_reducible refine Below.setCell ?_ (by first | omega | (simp; done) | (simp; omega)) _) | (with_reducible refine Below.alloc ?_ (by first | omega | (simp; done) | (simp; omega)) _) | (with_reducible refine Below.drew ?_) | (with_reducible refine below_drewN ?_ _) | (with_reducible refine Below.trans ?_ (Below.mono (by assumption) (by first | omega | (simp; done) | (simp; omega))))))
  · have H0 := Lib.hid h; clear h
    have HS := Lib.hid hs; clear hs
    rcases hl with rfl | rfl
    all_goals
      go_enter Tryd.func61, Tryd.ntmps61
      go_wp2_with (first | (go_at_call 83; (with_reducible refine (valid_ok a b c d _ H0.out.1.1).mono ?_); rintro e w1 ⟨rfl, hb⟩; obtain ⟨hc, hf, hz⟩ := bcall hb; (try simp at hc hf hz)) | (go_at_call 83; (with_reducible refine (valid_ok a' b' c' d' _ H0.out.1.2).mono ?_); rintro e w1 ⟨rfl, hb⟩; obtain ⟨hc, hf, hz⟩ := bcall hb; (try simp at hc hf hz)) | (go_at_call 84; (with_reducible refine (validRule_ok _ _ _ H0.out.2).mono ?_); rintro e w1 ⟨rfl, hb⟩; obtain ⟨hc, hf, hz⟩ := bcall hb; (try simp at hc hf hz)) | (go_at_call 74; (with_reducible refine (added_limit _ _ _ _ _ _ _ _ _ H0.out.1.1 H0.out.1.2 HS.out).mono ?_); rintro e w1 ⟨rfl, hb⟩; obtain ⟨hc, hf, hz⟩ := bcall hb; (try simp at hc hf hz)))
      refine bodyPost_ret (v := .tuple #[.agg #[.int .i64 0, .int .i64 0, .int .i64 0, .int .i64 0], .agg #[.int .i64 0, .int .i64 0, .int .i64 0, .int .i64 0], .int .i64 4]) (by simp [results, Tryd.results61, go_sem, ↓IntWalk.iteOmega, *]) rfl ⟨rfl, ?_⟩
      (repeat' (first | (with_reducible exact Below.refl _ _) | (with_reducible refine Below.setCell ?_ (by first | omega | (simp; done) | (simp; omega)) _) | (with_reducible refine Below.alloc ?_ (by first | omega | (simp; done) | (simp; omega)) _) | (with_reducible refine Below.drew ?_) | (with_reducible refine below_drewN ?_ _) | (with_reducible refine Below.trans ?_ (Below.mono (by assumption) (by first | omega | (simp; done) | (simp; omega))))))

set_option maxHeartbeats 2000000 in
theorem rexch_err (u : Bool) (a b c d a' b' c' d' k y : Int) (l z : Int) (w : World) (h : XErr a b c d a' b' c' d' k y l z) :
    Calls Tryd.prog 63 #[.agg #[.int .i64 a, .int .i64 b, .int .i64 c, .int .i64 d], .agg #[.int .i64 a', .int .i64 b', .int .i64 c', .int .i64 d'], .agg #[.int .i64 k, .int .i64 y], .int .i64 l, .bool u] w fun e w' => e = .returned (.tuple #[.agg #[.int .i64 0, .int .i64 0, .int .i64 0, .int .i64 0], .agg #[.int .i64 0, .int .i64 0, .int .i64 0, .int .i64 0], .int .i64 z]) ∧ Below w.heap.size w w' := by
  rcases h with ⟨rfl, h⟩ | ⟨rfl, h, l0, l1⟩ | ⟨rfl, h, hl, hs⟩
  · by_cases h0 : Ok4 a b c d
    · have H0 := Lib.hid h0
      by_cases h1 : Ok4 a' b' c' d'
      · have H1 := Lib.hid h1
        have H2 := Lib.hid (show ¬ OkR k y from fun q => h ⟨⟨h0, h1⟩, q⟩)
        clear h h0 h1
        go_enter Tryd.func63, Tryd.ntmps63
        go_wp2_with (first | (go_at_call 76; (with_reducible refine (refValid_ok a b c d _ H0.out).mono ?_); rintro e w1 ⟨rfl, hb⟩; obtain ⟨hc, hf, hz⟩ := bcall hb; (try simp at hc hf hz)) | (go_at_call 76; (with_reducible refine (refValid_ok a' b' c' d' _ H1.out).mono ?_); rintro e w1 ⟨rfl, hb⟩; obtain ⟨hc, hf, hz⟩ := bcall hb; (try simp at hc hf hz)) | (go_at_call 88; (with_reducible refine (refValidRule_bad _ _ _ H2.out).mono ?_); rintro e w1 ⟨rfl, hb⟩; obtain ⟨hc, hf, hz⟩ := bcall hb; (try simp at hc hf hz)))
        refine bodyPost_ret (v := .tuple #[.agg #[.int .i64 0, .int .i64 0, .int .i64 0, .int .i64 0], .agg #[.int .i64 0, .int .i64 0, .int .i64 0, .int .i64 0], .int .i64 1]) (by simp [results, Tryd.results63, go_sem, ↓IntWalk.iteOmega, *]) rfl ⟨rfl, ?_⟩
        (repeat' (first | (with_reducible exact Below.refl _ _) | (with_reducible refine Below.setCell ?_ (by first | omega | (simp; done) | (simp; omega)) _) | (with_reducible refine Below.alloc ?_ (by first | omega | (simp; done) | (simp; omega)) _) | (with_reducible refine Below.drew ?_) | (with_reducible refine below_drewN ?_ _) | (with_reducible refine Below.trans ?_ (Below.mono (by assumption) (by first | omega | (simp; done) | (simp; omega))))))
      · have H1 := Lib.hid h1
        clear h h0 h1
        go_enter Tryd.func63, Tryd.ntmps63
        go_wp2_with (first | (go_at_call 76; (with_reducible refine (refValid_ok a b c d _ H0.out).mono ?_); rintro e w1 ⟨rfl, hb⟩; obtain ⟨hc, hf, hz⟩ := bcall hb; (try simp at hc hf hz)) | (go_at_call 76; (with_reducible refine (refValid_bad a' b' c' d' _ H1.out).mono ?_); rintro e w1 ⟨rfl, hb⟩; obtain ⟨hc, hf, hz⟩ := bcall hb; (try simp at hc hf hz)))
        refine bodyPost_ret (v := .tuple #[.agg #[.int .i64 0, .int .i64 0, .int .i64 0, .int .i64 0], .agg #[.int .i64 0, .int .i64 0, .int .i64 0, .int .i64 0], .int .i64 1]) (by simp [results, Tryd.results63, go_sem, ↓IntWalk.iteOmega, *]) rfl ⟨rfl, ?_⟩
        (repeat' (first | (with_reducible exact Below.refl _ _) | (with_reducible refine Below.setCell ?_ (by first | omega | (simp; done) | (simp; omega)) _) | (with_reducible refine Below.alloc ?_ (by first | omega | (simp; done) | (simp; omega)) _) | (with_reducible refine Below.drew ?_) | (with_reducible refine below_drewN ?_ _) | (with_reducible refine Below.trans ?_ (Below.mono (by assumption) (by first | omega | (simp; done) | (simp; omega))))))
    · have H0 := Lib.hid h0
      clear h h0
      go_enter Tryd.func63, Tryd.ntmps63
      go_wp2_with (first | (go_at_call 76; (with_reducible refine (refValid_bad a b c d _ H0.out).mono ?_); rintro e w1 ⟨rfl, hb⟩; obtain ⟨hc, hf, hz⟩ := bcall hb; (try simp at hc hf hz)))
      refine bodyPost_ret (v := .tuple #[.agg #[.int .i64 0, .int .i64 0, .int .i64 0, .int .i64 0], .agg #[.int .i64 0, .int .i64 0, .int .i64 0, .int .i64 0], .int .i64 1]) (by simp [results, Tryd.results63, go_sem, ↓IntWalk.iteOmega, *]) rfl ⟨rfl, ?_⟩
      (repeat' (first | (with_reducible exact Below.refl _ _) | (with_reducible refine Below.setCell ?_ (by first | omega | (simp; done) | (simp; omega)) _) | (with_reducible refine Below.alloc ?_ (by first | omega | (simp; done) | (simp; omega)) _) | (with_reducible refine Below.drew ?_) | (with_reducible refine below_drewN ?_ _) | (with_reducible refine Below.trans ?_ (Below.mono (by assumption) (by first | omega | (simp; done) | (simp; omega))))))
  · have H0 := Lib.hid h; clear h
    have l2 : l < 0 ∨ 1 < l := by omega
    clear l0 l1
    go_enter Tryd.func63, Tryd.ntmps63
    go_wp2_with (first | (go_at_call 76; (with_reducible refine (refValid_ok a b c d _ H0.out.1.1).mono ?_); rintro e w1 ⟨rfl, hb⟩; obtain ⟨hc, hf, hz⟩ := bcall hb; (try simp at hc hf hz)) | (go_at_call 76; (with_reducible refine (refValid_ok a' b' c' d' _ H0.out.1.2).mono ?_); rintro e w1 ⟨rfl, hb⟩; obtain ⟨hc, hf, hz⟩ := bcall hb; (try simp at hc hf hz)) | (go_at_call 88; (with_reducible refine (refValidRule_ok _ _ _ H0.out.2).mono ?_); rintro e w1 ⟨rfl, hb⟩; obtain ⟨hc, hf, hz⟩ := bcall hb; (try simp at hc hf hz)) | (go_at_call 89; (with_reducible refine (within4_no _ _ _ _ l2).mono ?_); rintro e w1 ⟨rfl, rfl⟩))
    refine bodyPost_ret (v := .tuple #[.agg #[.int .i64 0, .int .i64 0, .int .i64 0, .int .i64 0], .agg #[.int .i64 0, .int .i64 0, .int .i64 0, .int .i64 0], .int .i64 7]) (by simp [results, Tryd.results63, go_sem, ↓IntWalk.iteOmega, *]) rfl ⟨rfl, ?_⟩
    (repeat' (first | (with_reducible exact Below.refl _ _) | (with_reducible refine Below.setCell ?_ (by first | omega | (simp; done) | (simp; omega)) _) | (with_reducible refine Below.alloc ?_ (by first | omega | (simp; done) | (simp; omega)) _) | (with_reducible refine Below.drew ?_) | (with_reducible refine below_drewN ?_ _) | (with_reducible refine Below.trans ?_ (Below.mono (by assumption) (by first | omega | (simp; done) | (simp; omega))))))
  · have H0 := Lib.hid h; clear h
    have HS := Lib.hid hs; clear hs
    rcases hl with rfl | rfl
    all_goals
      go_enter Tryd.func63, Tryd.ntmps63
      go_wp2_with (first | (go_at_call 76; (with_reducible refine (refValid_ok a b c d _ H0.out.1.1).mono ?_); rintro e w1 ⟨rfl, hb⟩; obtain ⟨hc, hf, hz⟩ := bcall hb; (try simp at hc hf hz)) | (go_at_call 76; (with_reducible refine (refValid_ok a' b' c' d' _ H0.out.1.2).mono ?_); rintro e w1 ⟨rfl, hb⟩; obtain ⟨hc, hf, hz⟩ := bcall hb; (try simp at hc hf hz)) | (go_at_call 88; (with_reducible refine (refValidRule_ok _ _ _ H0.out.2).mono ?_); rintro e w1 ⟨rfl, hb⟩; obtain ⟨hc, hf, hz⟩ := bcall hb; (try simp at hc hf hz)) | (go_at_call 89; (with_reducible refine (within4_yes _ _ _ _ (by omega) (by omega)).mono ?_); rintro e w1 ⟨rfl, rfl⟩) | (go_at_call 80; (with_reducible refine (sumCells _ _ _ _ _ _ _ _ _ H0.out.1.1 H0.out.1.2).mono ?_); rintro e w1 ⟨rfl, hb⟩; obtain ⟨hc, hf, hz⟩ := bcall hb; (try simp at hc hf hz)) | (go_at_call 76; (with_reducible refine (refValid_bad _ _ _ _ _ HS.out).mono ?_); rintro e w1 ⟨rfl, hb⟩; obtain ⟨hc, hf, hz⟩ := bcall hb; (try simp at hc hf hz)))
      refine bodyPost_ret (v := .tuple #[.agg #[.int .i64 0, .int .i64 0, .int .i64 0, .int .i64 0], .agg #[.int .i64 0, .int .i64 0, .int .i64 0, .int .i64 0], .int .i64 4]) (by simp [results, Tryd.results63, go_sem, ↓IntWalk.iteOmega, *]) rfl ⟨rfl, ?_⟩
      (repeat' (first | (with_reducible exact Below.refl _ _) | (with_reducible refine Below.setCell ?_ (by first | omega | (simp; done) | (simp; omega)) _) | (with_reducible refine Below.alloc ?_ (by first | omega | (simp; done) | (simp; omega)) _) | (with_reducible refine Below.drew ?_) | (with_reducible refine below_drewN ?_ _) | (with_reducible refine Below.trans ?_ (Below.mono (by assumption) (by first | omega | (simp; done) | (simp; omega))))))

theorem gExchange_err (a b c d a' b' c' d' k y : Int) (l z : Int) (w : World) (h : XErr a b c d a' b' c' d' k y l z) : Calls Tryd.prog 30 #[.agg #[.int .i64 a, .int .i64 b, .int .i64 c, .int .i64 d], .agg #[.int .i64 a', .int .i64 b', .int .i64 c', .int .i64 d'], .agg #[.int .i64 k, .int .i64 y], .int .i64 l] w fun e w' => e = .returned (.tuple #[.agg #[.int .i64 0, .int .i64 0, .int .i64 0, .int .i64 0], .agg #[.int .i64 0, .int .i64 0, .int .i64 0, .int .i64 0], .int .i64 z]) ∧ Below w.heap.size w w' := by
  have H := Lib.hid h; clear h
  go_enter Tryd.func30, Tryd.ntmps30
  go_wp2_with (go_at_call 61; (with_reducible refine (exch_err _ a b c d a' b' c' d' k y l z _ H.out).mono ?_); rintro e w1 ⟨rfl, hb⟩; obtain ⟨hc, hf, hz⟩ := bcall hb; (try simp at hc hf hz))
  refine bodyPost_ret (v := .tuple #[.agg #[.int .i64 0, .int .i64 0, .int .i64 0, .int .i64 0], .agg #[.int .i64 0, .int .i64 0, .int .i64 0, .int .i64 0], .int .i64 z]) (by simp [results, Tryd.results30, go_sem, ↓IntWalk.iteOmega, *]) rfl ⟨rfl, ?_⟩
  (repeat' (first | (with_reducible exact Below.refl _ _) | (with_reducible refine Below.setCell ?_ (by first | omega | (simp; done) | (simp; omega)) _) | (with_reducible refine Below.alloc ?_ (by first | omega | (simp; done) | (simp; omega)) _) | (with_reducible refine Below.drew ?_) | (with_reducible refine below_drewN ?_ _) | (with_reducible refine Below.trans ?_ (Below.mono (by assumption) (by first | omega | (simp; done) | (simp; omega))))))
theorem rExchange_err (a b c d a' b' c' d' k y : Int) (l z : Int) (w : World) (h : XErr a b c d a' b' c' d' k y l z) : Calls Tryd.prog 31 #[.agg #[.int .i64 a, .int .i64 b, .int .i64 c, .int .i64 d], .agg #[.int .i64 a', .int .i64 b', .int .i64 c', .int .i64 d'], .agg #[.int .i64 k, .int .i64 y], .int .i64 l] w fun e w' => e = .returned (.tuple #[.agg #[.int .i64 0, .int .i64 0, .int .i64 0, .int .i64 0], .agg #[.int .i64 0, .int .i64 0, .int .i64 0, .int .i64 0], .int .i64 z]) ∧ Below w.heap.size w w' := by
  have H := Lib.hid h; clear h
  go_enter Tryd.func31, Tryd.ntmps31
  go_wp2_with (go_at_call 63; (with_reducible refine (rexch_err _ a b c d a' b' c' d' k y l z _ H.out).mono ?_); rintro e w1 ⟨rfl, hb⟩; obtain ⟨hc, hf, hz⟩ := bcall hb; (try simp at hc hf hz))
  refine bodyPost_ret (v := .tuple #[.agg #[.int .i64 0, .int .i64 0, .int .i64 0, .int .i64 0], .agg #[.int .i64 0, .int .i64 0, .int .i64 0, .int .i64 0], .int .i64 z]) (by simp [results, Tryd.results31, go_sem, ↓IntWalk.iteOmega, *]) rfl ⟨rfl, ?_⟩
  (repeat' (first | (with_reducible exact Below.refl _ _) | (with_reducible refine Below.setCell ?_ (by first | omega | (simp; done) | (simp; omega)) _) | (with_reducible refine Below.alloc ?_ (by first | omega | (simp; done) | (simp; omega)) _) | (with_reducible refine Below.drew ?_) | (with_reducible refine below_drewN ?_ _) | (with_reducible refine Below.trans ?_ (Below.mono (by assumption) (by first | omega | (simp; done) | (simp; omega))))))

theorem gUnexchange_err (a b c d a' b' c' d' k y : Int) (l z : Int) (w : World) (h : XErr a b c d a' b' c' d' k y l z) : Calls Tryd.prog 32 #[.agg #[.int .i64 a, .int .i64 b, .int .i64 c, .int .i64 d], .agg #[.int .i64 a', .int .i64 b', .int .i64 c', .int .i64 d'], .agg #[.int .i64 k, .int .i64 y], .int .i64 l] w fun e w' => e = .returned (.tuple #[.agg #[.int .i64 0, .int .i64 0, .int .i64 0, .int .i64 0], .agg #[.int .i64 0, .int .i64 0, .int .i64 0, .int .i64 0], .int .i64 z]) ∧ Below w.heap.size w w' := by
  have H := Lib.hid h; clear h
  go_enter Tryd.func32, Tryd.ntmps32
  go_wp2_with (go_at_call 61; (with_reducible refine (exch_err _ a b c d a' b' c' d' k y l z _ H.out).mono ?_); rintro e w1 ⟨rfl, hb⟩; obtain ⟨hc, hf, hz⟩ := bcall hb; (try simp at hc hf hz))
  refine bodyPost_ret (v := .tuple #[.agg #[.int .i64 0, .int .i64 0, .int .i64 0, .int .i64 0], .agg #[.int .i64 0, .int .i64 0, .int .i64 0, .int .i64 0], .int .i64 z]) (by simp [results, Tryd.results32, go_sem, ↓IntWalk.iteOmega, *]) rfl ⟨rfl, ?_⟩
  (repeat' (first | (with_reducible exact Below.refl _ _) | (with_reducible refine Below.setCell ?_ (by first | omega | (simp; done) | (simp; omega)) _) | (with_reducible refine Below.alloc ?_ (by first | omega | (simp; done) | (simp; omega)) _) | (with_reducible refine Below.drew ?_) | (with_reducible refine below_drewN ?_ _) | (with_reducible refine Below.trans ?_ (Below.mono (by assumption) (by first | omega | (simp; done) | (simp; omega))))))
theorem rUnexchange_err (a b c d a' b' c' d' k y : Int) (l z : Int) (w : World) (h : XErr a b c d a' b' c' d' k y l z) : Calls Tryd.prog 33 #[.agg #[.int .i64 a, .int .i64 b, .int .i64 c, .int .i64 d], .agg #[.int .i64 a', .int .i64 b', .int .i64 c', .int .i64 d'], .agg #[.int .i64 k, .int .i64 y], .int .i64 l] w fun e w' => e = .returned (.tuple #[.agg #[.int .i64 0, .int .i64 0, .int .i64 0, .int .i64 0], .agg #[.int .i64 0, .int .i64 0, .int .i64 0, .int .i64 0], .int .i64 z]) ∧ Below w.heap.size w w' := by
  have H := Lib.hid h; clear h
  go_enter Tryd.func33, Tryd.ntmps33
  go_wp2_with (go_at_call 63; (with_reducible refine (rexch_err _ a b c d a' b' c' d' k y l z _ H.out).mono ?_); rintro e w1 ⟨rfl, hb⟩; obtain ⟨hc, hf, hz⟩ := bcall hb; (try simp at hc hf hz))
  refine bodyPost_ret (v := .tuple #[.agg #[.int .i64 0, .int .i64 0, .int .i64 0, .int .i64 0], .agg #[.int .i64 0, .int .i64 0, .int .i64 0, .int .i64 0], .int .i64 z]) (by simp [results, Tryd.results33, go_sem, ↓IntWalk.iteOmega, *]) rfl ⟨rfl, ?_⟩
  (repeat' (first | (with_reducible exact Below.refl _ _) | (with_reducible refine Below.setCell ?_ (by first | omega | (simp; done) | (simp; omega)) _) | (with_reducible refine Below.alloc ?_ (by first | omega | (simp; done) | (simp; omega)) _) | (with_reducible refine Below.drew ?_) | (with_reducible refine below_drewN ?_ _) | (with_reducible refine Below.trans ?_ (Below.mono (by assumption) (by first | omega | (simp; done) | (simp; omega))))))

end Go.Proofs.YtjlebdjnjjdnpaaDoor
