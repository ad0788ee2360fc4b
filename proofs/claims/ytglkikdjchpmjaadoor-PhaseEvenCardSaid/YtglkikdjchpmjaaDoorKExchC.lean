/- Exchanges, by the program (by cell.Collide). -/
import Derived.Test.YtglkikdjchpmjaaDoorKEnds
import Derived.Test.YtglkikdjchpmjaaDoorKMath
import Derived.Test.YtglkikdjchpmjaaDoorKRef
import Derived.Deep.RegionHeld3
namespace Go.Proofs.YtglkikdjchpmjaaDoor
set_option linter.unusedSimpArgs false
set_option linter.unusedVariables false
open Go.RowKit

set_option maxRecDepth 100000 in
set_option maxHeartbeats 4000000 in
theorem exchC000 (a b c d a' b' c' d' k y t : Int) (w : World) (hT : Ends w) (h : Ok4 a b c d) (g : Ok4 a' b' c' d') (s : Ok4 (a + a') (b + b') (c + c') (d + d')) (hr : OkR k y) (x1 : a ≤ c') (x2 : c ≤ a') (t1 : -a ≤ t) (t2 : t ≤ c)
    (co : ∀ wx, Calls Tryd.prog 154 #[.agg #[.int .i64 a, .int .i64 c, .int .i64 a, .int .i64 c], .agg #[.int .i64 k, .int .i64 y]] wx fun e w' => e = .returned (.tuple #[.agg #[.int .i64 (a + t), .int .i64 (c - t), .int .i64 (a + t), .int .i64 (c - t)], .int .i64 0]) ∧ Below wx.heap.size wx w') :
    Calls Tryd.prog 153 #[.agg #[.int .i64 a, .int .i64 b, .int .i64 c, .int .i64 d], .agg #[.int .i64 a', .int .i64 b', .int .i64 c', .int .i64 d'], .agg #[.int .i64 k, .int .i64 y], .int .i64 0, .func (.func 154) #[] #[]] w fun e w' => e = .returned (.tuple #[.agg #[.int .i64 (a + t), .int .i64 b, .int .i64 (c - t), .int .i64 d], .agg #[.int .i64 (a' - t), .int .i64 b', .int .i64 (c' + t), .int .i64 d'], .int .i64 0]) ∧ Below w.heap.size w w' := by
  have H := Lib.hid h
  have G := Lib.hid g
  have S := Lib.hid s
  have HR := Lib.hid hr; clear hr
  have CO := Lib.hid co; clear co
  obtain ⟨q0, q1, q2, q3⟩ := hT
  have hg := block_lt q0
  obtain ⟨_, _, _, _, _⟩ := h
  obtain ⟨_, _, _, _, _⟩ := g
  obtain ⟨_, _, _, _, _⟩ := s
  have tt : a + t - a = t := by omega
  go_enter Tryd.func153, Tryd.ntmps153
  go_wp2_with (first | (go_at_call 135; (with_reducible refine (valid_ok a b c d _ H.out).mono ?_); rintro e w1 ⟨rfl, hb⟩; obtain ⟨hc, hf, hz⟩ := bcall hb; (try simp at hc hf hz)) | (go_at_call 135; (with_reducible refine (valid_ok a' b' c' d' _ G.out).mono ?_); rintro e w1 ⟨rfl, hb⟩; obtain ⟨hc, hf, hz⟩ := bcall hb; (try simp at hc hf hz)) | (go_at_call 181; (with_reducible refine (validRule_ok _ _ _ HR.out).mono ?_); rintro e w1 ⟨rfl, hb⟩; obtain ⟨hc, hf, hz⟩ := bcall hb; (try simp at hc hf hz)) | (go_at_call 182; (with_reducible refine (added_ok _ _ _ _ _ _ _ _ _ H.out G.out S.out).mono ?_); rintro e w1 ⟨rfl, hb⟩; obtain ⟨hc, hf, hz⟩ := bcall hb; (try simp at hc hf hz)))
  go_quiet (fail)
  go_wp2
  go_quiet (fail)
  go_wp2_with (go_at_call 154; (with_reducible refine (CO.out _).mono ?_); rintro e w9 ⟨rfl, hb9⟩; obtain ⟨hc9, hf9, hz9⟩ := bcall hb9; (try simp at hc9 hf9 hz9))
  go_region
  go_wp2
  go_region
  go_wp2
  go_region
  go_wp2
  refine bodyPost_ret (v := .tuple #[.agg #[.int .i64 (a + t), .int .i64 b, .int .i64 (c - t), .int .i64 d], .agg #[.int .i64 (a' - t), .int .i64 b', .int .i64 (c' + t), .int .i64 d'], .int .i64 0]) (by simp [results, Tryd.results153, go_sem, ↓IntWalk.iteOmega, *]) rfl ⟨rfl, ?_⟩
  (repeat' (first | (with_reducible exact Below.refl _ _) | (with_reducible refine Below.setCell ?_ (by first | omega | (simp; done) | (simp; omega)) _) | (with_reducible refine Below.alloc ?_ (by first | omega | (simp; done) | (simp; omega)) _) | (with_reducible refine Below.drew ?_) | (with_reducible refine below_drewN ?_ _) | (with_reducible refine Below.trans ?_ (Below.mono (by assumption) (by first | omega | (simp; done) | (simp; omega))))))

set_option maxRecDepth 100000 in
set_option maxHeartbeats 4000000 in
theorem exchC001 (a b c d a' b' c' d' k y t : Int) (w : World) (hT : Ends w) (h : Ok4 a b c d) (g : Ok4 a' b' c' d') (s : Ok4 (a + a') (b + b') (c + c') (d + d')) (hr : OkR k y) (x1 : a ≤ c') (x2 : a' < c) (t1 : -a ≤ t) (t2 : t ≤ a')
    (co : ∀ wx, Calls Tryd.prog 154 #[.agg #[.int .i64 a, .int .i64 a', .int .i64 a, .int .i64 a'], .agg #[.int .i64 k, .int .i64 y]] wx fun e w' => e = .returned (.tuple #[.agg #[.int .i64 (a + t), .int .i64 (a' - t), .int .i64 (a + t), .int .i64 (a' - t)], .int .i64 0]) ∧ Below wx.heap.size wx w') :
    Calls Tryd.prog 153 #[.agg #[.int .i64 a, .int .i64 b, .int .i64 c, .int .i64 d], .agg #[.int .i64 a', .int .i64 b', .int .i64 c', .int .i64 d'], .agg #[.int .i64 k, .int .i64 y], .int .i64 0, .func (.func 154) #[] #[]] w fun e w' => e = .returned (.tuple #[.agg #[.int .i64 (a + t), .int .i64 b, .int .i64 (c - t), .int .i64 d], .agg #[.int .i64 (a' - t), .int .i64 b', .int .i64 (c' + t), .int .i64 d'], .int .i64 0]) ∧ Below w.heap.size w w' := by
  have H := Lib.hid h
  have G := Lib.hid g
  have S := Lib.hid s
  have HR := Lib.hid hr; clear hr
  have CO := Lib.hid co; clear co
  obtain ⟨q0, q1, q2, q3⟩ := hT
  have hg := block_lt q0
  obtain ⟨_, _, _, _, _⟩ := h
  obtain ⟨_, _, _, _, _⟩ := g
  obtain ⟨_, _, _, _, _⟩ := s
  have tt : a + t - a = t := by omega
  go_enter Tryd.func153, Tryd.ntmps153
  go_wp2_with (first | (go_at_call 135; (with_reducible refine (valid_ok a b c d _ H.out).mono ?_); rintro e w1 ⟨rfl, hb⟩; obtain ⟨hc, hf, hz⟩ := bcall hb; (try simp at hc hf hz)) | (go_at_call 135; (with_reducible refine (valid_ok a' b' c' d' _ G.out).mono ?_); rintro e w1 ⟨rfl, hb⟩; obtain ⟨hc, hf, hz⟩ := bcall hb; (try simp at hc hf hz)) | (go_at_call 181; (with_reducible refine (validRule_ok _ _ _ HR.out).mono ?_); rintro e w1 ⟨rfl, hb⟩; obtain ⟨hc, hf, hz⟩ := bcall hb; (try simp at hc hf hz)) | (go_at_call 182; (with_reducible refine (added_ok _ _ _ _ _ _ _ _ _ H.out G.out S.out).mono ?_); rintro e w1 ⟨rfl, hb⟩; obtain ⟨hc, hf, hz⟩ := bcall hb; (try simp at hc hf hz)))
  go_quiet (fail)
  go_wp2
  go_quiet (fail)
  go_wp2_with (go_at_call 154; (with_reducible refine (CO.out _).mono ?_); rintro e w9 ⟨rfl, hb9⟩; obtain ⟨hc9, hf9, hz9⟩ := bcall hb9; (try simp at hc9 hf9 hz9))
  go_region
  go_wp2
  go_region
  go_wp2
  go_region
  go_wp2
  refine bodyPost_ret (v := .tuple #[.agg #[.int .i64 (a + t), .int .i64 b, .int .i64 (c - t), .int .i64 d], .agg #[.int .i64 (a' - t), .int .i64 b', .int .i64 (c' + t), .int .i64 d'], .int .i64 0]) (by simp [results, Tryd.results153, go_sem, ↓IntWalk.iteOmega, *]) rfl ⟨rfl, ?_⟩
  (repeat' (first | (with_reducible exact Below.refl _ _) | (with_reducible refine Below.setCell ?_ (by first | omega | (simp; done) | (simp; omega)) _) | (with_reducible refine Below.alloc ?_ (by first | omega | (simp; done) | (simp; omega)) _) | (with_reducible refine Below.drew ?_) | (with_reducible refine below_drewN ?_ _) | (with_reducible refine Below.trans ?_ (Below.mono (by assumption) (by first | omega | (simp; done) | (simp; omega))))))

set_option maxRecDepth 100000 in
set_option maxHeartbeats 4000000 in
theorem exchC010 (a b c d a' b' c' d' k y t : Int) (w : World) (hT : Ends w) (h : Ok4 a b c d) (g : Ok4 a' b' c' d') (s : Ok4 (a + a') (b + b') (c + c') (d + d')) (hr : OkR k y) (x1 : c' < a) (x2 : c ≤ a') (t1 : -c' ≤ t) (t2 : t ≤ c)
    (co : ∀ wx, Calls Tryd.prog 154 #[.agg #[.int .i64 c', .int .i64 c, .int .i64 c', .int .i64 c], .agg #[.int .i64 k, .int .i64 y]] wx fun e w' => e = .returned (.tuple #[.agg #[.int .i64 (c' + t), .int .i64 (c - t), .int .i64 (c' + t), .int .i64 (c - t)], .int .i64 0]) ∧ Below wx.heap.size wx w') :
    Calls Tryd.prog 153 #[.agg #[.int .i64 a, .int .i64 b, .int .i64 c, .int .i64 d], .agg #[.int .i64 a', .int .i64 b', .int .i64 c', .int .i64 d'], .agg #[.int .i64 k, .int .i64 y], .int .i64 0, .func (.func 154) #[] #[]] w fun e w' => e = .returned (.tuple #[.agg #[.int .i64 (a + t), .int .i64 b, .int .i64 (c - t), .int .i64 d], .agg #[.int .i64 (a' - t), .int .i64 b', .int .i64 (c' + t), .int .i64 d'], .int .i64 0]) ∧ Below w.heap.size w w' := by
  have H := Lib.hid h
  have G := Lib.hid g
  have S := Lib.hid s
  have HR := Lib.hid hr; clear hr
  have CO := Lib.hid co; clear co
  obtain ⟨q0, q1, q2, q3⟩ := hT
  have hg := block_lt q0
  obtain ⟨_, _, _, _, _⟩ := h
  obtain ⟨_, _, _, _, _⟩ := g
  obtain ⟨_, _, _, _, _⟩ := s
  have tt : c' + t - c' = t := by omega
  go_enter Tryd.func153, Tryd.ntmps153
  go_wp2_with (first | (go_at_call 135; (with_reducible refine (valid_ok a b c d _ H.out).mono ?_); rintro e w1 ⟨rfl, hb⟩; obtain ⟨hc, hf, hz⟩ := bcall hb; (try simp at hc hf hz)) | (go_at_call 135; (with_reducible refine (valid_ok a' b' c' d' _ G.out).mono ?_); rintro e w1 ⟨rfl, hb⟩; obtain ⟨hc, hf, hz⟩ := bcall hb; (try simp at hc hf hz)) | (go_at_call 181; (with_reducible refine (validRule_ok _ _ _ HR.out).mono ?_); rintro e w1 ⟨rfl, hb⟩; obtain ⟨hc, hf, hz⟩ := bcall hb; (try simp at hc hf hz)) | (go_at_call 182; (with_reducible refine (added_ok _ _ _ _ _ _ _ _ _ H.out G.out S.out).mono ?_); rintro e w1 ⟨rfl, hb⟩; obtain ⟨hc, hf, hz⟩ := bcall hb; (try simp at hc hf hz)))
  go_quiet (fail)
  go_wp2
  go_quiet (fail)
  go_wp2_with (go_at_call 154; (with_reducible refine (CO.out _).mono ?_); rintro e w9 ⟨rfl, hb9⟩; obtain ⟨hc9, hf9, hz9⟩ := bcall hb9; (try simp at hc9 hf9 hz9))
  go_region
  go_wp2
  go_region
  go_wp2
  go_region
  go_wp2
  refine bodyPost_ret (v := .tuple #[.agg #[.int .i64 (a + t), .int .i64 b, .int .i64 (c - t), .int .i64 d], .agg #[.int .i64 (a' - t), .int .i64 b', .int .i64 (c' + t), .int .i64 d'], .int .i64 0]) (by simp [results, Tryd.results153, go_sem, ↓IntWalk.iteOmega, *]) rfl ⟨rfl, ?_⟩
  (repeat' (first | (with_reducible exact Below.refl _ _) | (with_reducible refine Below.setCell ?_ (by first | omega | (simp; done) | (simp; omega)) _) | (with_reducible refine Below.alloc ?_ (by first | omega | (simp; done) | (simp; omega)) _) | (with_reducible refine Below.drew ?_) | (with_reducible refine below_drewN ?_ _) | (with_reducible refine Below.trans ?_ (Below.mono (by assumption) (by first | omega | (simp; done) | (simp; omega))))))

set_option maxRecDepth 100000 in
set_option maxHeartbeats 4000000 in
theorem exchC011 (a b c d a' b' c' d' k y t : Int) (w : World) (hT : Ends w) (h : Ok4 a b c d) (g : Ok4 a' b' c' d') (s : Ok4 (a + a') (b + b') (c + c') (d + d')) (hr : OkR k y) (x1 : c' < a) (x2 : a' < c) (t1 : -c' ≤ t) (t2 : t ≤ a')
    (co : ∀ wx, Calls Tryd.prog 154 #[.agg #[.int .i64 c', .int .i64 a', .int .i64 c', .int .i64 a'], .agg #[.int .i64 k, .int .i64 y]] wx fun e w' => e = .returned (.tuple #[.agg #[.int .i64 (c' + t), .int .i64 (a' - t), .int .i64 (c' + t), .int .i64 (a' - t)], .int .i64 0]) ∧ Below wx.heap.size wx w') :
    Calls Tryd.prog 153 #[.agg #[.int .i64 a, .int .i64 b, .int .i64 c, .int .i64 d], .agg #[.int .i64 a', .int .i64 b', .int .i64 c', .int .i64 d'], .agg #[.int .i64 k, .int .i64 y], .int .i64 0, .func (.func 154) #[] #[]] w fun e w' => e = .returned (.tuple #[.agg #[.int .i64 (a + t), .int .i64 b, .int .i64 (c - t), .int .i64 d], .agg #[.int .i64 (a' - t), .int .i64 b', .int .i64 (c' + t), .int .i64 d'], .int .i64 0]) ∧ Below w.heap.size w w' := by
  have H := Lib.hid h
  have G := Lib.hid g
  have S := Lib.hid s
  have HR := Lib.hid hr; clear hr
  have CO := Lib.hid co; clear co
  obtain ⟨q0, q1, q2, q3⟩ := hT
  have hg := block_lt q0
  obtain ⟨_, _, _, _, _⟩ := h
  obtain ⟨_, _, _, _, _⟩ := g
  obtain ⟨_, _, _, _, _⟩ := s
  have tt : c' + t - c' = t := by omega
  go_enter Tryd.func153, Tryd.ntmps153
  go_wp2_with (first | (go_at_call 135; (with_reducible refine (valid_ok a b c d _ H.out).mono ?_); rintro e w1 ⟨rfl, hb⟩; obtain ⟨hc, hf, hz⟩ := bcall hb; (try simp at hc hf hz)) | (go_at_call 135; (with_reducible refine (valid_ok a' b' c' d' _ G.out).mono ?_); rintro e w1 ⟨rfl, hb⟩; obtain ⟨hc, hf, hz⟩ := bcall hb; (try simp at hc hf hz)) | (go_at_call 181; (with_reducible refine (validRule_ok _ _ _ HR.out).mono ?_); rintro e w1 ⟨rfl, hb⟩; obtain ⟨hc, hf, hz⟩ := bcall hb; (try simp at hc hf hz)) | (go_at_call 182; (with_reducible refine (added_ok _ _ _ _ _ _ _ _ _ H.out G.out S.out).mono ?_); rintro e w1 ⟨rfl, hb⟩; obtain ⟨hc, hf, hz⟩ := bcall hb; (try simp at hc hf hz)))
  go_quiet (fail)
  go_wp2
  go_quiet (fail)
  go_wp2_with (go_at_call 154; (with_reducible refine (CO.out _).mono ?_); rintro e w9 ⟨rfl, hb9⟩; obtain ⟨hc9, hf9, hz9⟩ := bcall hb9; (try simp at hc9 hf9 hz9))
  go_region
  go_wp2
  go_region
  go_wp2
  go_region
  go_wp2
  refine bodyPost_ret (v := .tuple #[.agg #[.int .i64 (a + t), .int .i64 b, .int .i64 (c - t), .int .i64 d], .agg #[.int .i64 (a' - t), .int .i64 b', .int .i64 (c' + t), .int .i64 d'], .int .i64 0]) (by simp [results, Tryd.results153, go_sem, ↓IntWalk.iteOmega, *]) rfl ⟨rfl, ?_⟩
  (repeat' (first | (with_reducible exact Below.refl _ _) | (with_reducible refine Below.setCell ?_ (by first | omega | (simp; done) | (simp; omega)) _) | (with_reducible refine Below.alloc ?_ (by first | omega | (simp; done) | (simp; omega)) _) | (with_reducible refine Below.drew ?_) | (with_reducible refine below_drewN ?_ _) | (with_reducible refine Below.trans ?_ (Below.mono (by assumption) (by first | omega | (simp; done) | (simp; omega))))))

set_option maxRecDepth 100000 in
set_option maxHeartbeats 4000000 in
theorem exchC100 (a b c d a' b' c' d' k y t : Int) (w : World) (hT : Ends w) (h : Ok4 a b c d) (g : Ok4 a' b' c' d') (s : Ok4 (a + a') (b + b') (c + c') (d + d')) (hr : OkR k y) (x1 : b ≤ d') (x2 : d ≤ b') (t1 : -b ≤ t) (t2 : t ≤ d)
    (co : ∀ wx, Calls Tryd.prog 154 #[.agg #[.int .i64 b, .int .i64 d, .int .i64 b, .int .i64 d], .agg #[.int .i64 k, .int .i64 y]] wx fun e w' => e = .returned (.tuple #[.agg #[.int .i64 (b + t), .int .i64 (d - t), .int .i64 (b + t), .int .i64 (d - t)], .int .i64 0]) ∧ Below wx.heap.size wx w') :
    Calls Tryd.prog 153 #[.agg #[.int .i64 a, .int .i64 b, .int .i64 c, .int .i64 d], .agg #[.int .i64 a', .int .i64 b', .int .i64 c', .int .i64 d'], .agg #[.int .i64 k, .int .i64 y], .int .i64 1, .func (.func 154) #[] #[]] w fun e w' => e = .returned (.tuple #[.agg #[.int .i64 a, .int .i64 (b + t), .int .i64 c, .int .i64 (d - t)], .agg #[.int .i64 a', .int .i64 (b' - t), .int .i64 c', .int .i64 (d' + t)], .int .i64 0]) ∧ Below w.heap.size w w' := by
  have H := Lib.hid h
  have G := Lib.hid g
  have S := Lib.hid s
  have HR := Lib.hid hr; clear hr
  have CO := Lib.hid co; clear co
  obtain ⟨q0, q1, q2, q3⟩ := hT
  have hg := block_lt q0
  obtain ⟨_, _, _, _, _⟩ := h
  obtain ⟨_, _, _, _, _⟩ := g
  obtain ⟨_, _, _, _, _⟩ := s
  have tt : b + t - b = t := by omega
  go_enter Tryd.func153, Tryd.ntmps153
  go_wp2_with (first | (go_at_call 135; (with_reducible refine (valid_ok a b c d _ H.out).mono ?_); rintro e w1 ⟨rfl, hb⟩; obtain ⟨hc, hf, hz⟩ := bcall hb; (try simp at hc hf hz)) | (go_at_call 135; (with_reducible refine (valid_ok a' b' c' d' _ G.out).mono ?_); rintro e w1 ⟨rfl, hb⟩; obtain ⟨hc, hf, hz⟩ := bcall hb; (try simp at hc hf hz)) | (go_at_call 181; (with_reducible refine (validRule_ok _ _ _ HR.out).mono ?_); rintro e w1 ⟨rfl, hb⟩; obtain ⟨hc, hf, hz⟩ := bcall hb; (try simp at hc hf hz)) | (go_at_call 182; (with_reducible refine (added_ok _ _ _ _ _ _ _ _ _ H.out G.out S.out).mono ?_); rintro e w1 ⟨rfl, hb⟩; obtain ⟨hc, hf, hz⟩ := bcall hb; (try simp at hc hf hz)))
  go_quiet (fail)
  go_wp2
  go_quiet (fail)
  go_wp2_with (go_at_call 154; (with_reducible refine (CO.out _).mono ?_); rintro e w9 ⟨rfl, hb9⟩; obtain ⟨hc9, hf9, hz9⟩ := bcall hb9; (try simp at hc9 hf9 hz9))
  go_region
  go_wp2
  go_region
  go_wp2
  go_region
  go_wp2
  refine bodyPost_ret (v := .tuple #[.agg #[.int .i64 a, .int .i64 (b + t), .int .i64 c, .int .i64 (d - t)], .agg #[.int .i64 a', .int .i64 (b' - t), .int .i64 c', .int .i64 (d' + t)], .int .i64 0]) (by simp [results, Tryd.results153, go_sem, ↓IntWalk.iteOmega, *]) rfl ⟨rfl, ?_⟩
  (repeat' (first | (with_reducible exact Below.refl _ _) | (with_reducible refine Below.setCell ?_ (by first | omega | (simp; done) | (simp; omega)) _) | (with_reducible refine Below.alloc ?_ (by first | omega | (simp; done) | (simp; omega)) _) | (with_reducible refine Below.drew ?_) | (with_reducible refine below_drewN ?_ _) | (with_reducible refine Below.trans ?_ (Below.mono (by assumption) (by first | omega | (simp; done) | (simp; omega))))))

set_option maxRecDepth 100000 in
set_option maxHeartbeats 4000000 in
theorem exchC101 (a b c d a' b' c' d' k y t : Int) (w : World) (hT : Ends w) (h : Ok4 a b c d) (g : Ok4 a' b' c' d') (s : Ok4 (a + a') (b + b') (c + c') (d + d')) (hr : OkR k y) (x1 : b ≤ d') (x2 : b' < d) (t1 : -b ≤ t) (t2 : t ≤ b')
    (co : ∀ wx, Calls Tryd.prog 154 #[.agg #[.int .i64 b, .int .i64 b', .int .i64 b, .int .i64 b'], .agg #[.int .i64 k, .int .i64 y]] wx fun e w' => e = .returned (.tuple #[.agg #[.int .i64 (b + t), .int .i64 (b' - t), .int .i64 (b + t), .int .i64 (b' - t)], .int .i64 0]) ∧ Below wx.heap.size wx w') :
    Calls Tryd.prog 153 #[.agg #[.int .i64 a, .int .i64 b, .int .i64 c, .int .i64 d], .agg #[.int .i64 a', .int .i64 b', .int .i64 c', .int .i64 d'], .agg #[.int .i64 k, .int .i64 y], .int .i64 1, .func (.func 154) #[] #[]] w fun e w' => e = .returned (.tuple #[.agg #[.int .i64 a, .int .i64 (b + t), .int .i64 c, .int .i64 (d - t)], .agg #[.int .i64 a', .int .i64 (b' - t), .int .i64 c', .int .i64 (d' + t)], .int .i64 0]) ∧ Below w.heap.size w w' := by
  have H := Lib.hid h
  have G := Lib.hid g
  have S := Lib.hid s
  have HR := Lib.hid hr; clear hr
  have CO := Lib.hid co; clear co
  obtain ⟨q0, q1, q2, q3⟩ := hT
  have hg := block_lt q0
  obtain ⟨_, _, _, _, _⟩ := h
  obtain ⟨_, _, _, _, _⟩ := g
  obtain ⟨_, _, _, _, _⟩ := s
  have tt : b + t - b = t := by omega
  go_enter Tryd.func153, Tryd.ntmps153
  go_wp2_with (first | (go_at_call 135; (with_reducible refine (valid_ok a b c d _ H.out).mono ?_); rintro e w1 ⟨rfl, hb⟩; obtain ⟨hc, hf, hz⟩ := bcall hb; (try simp at hc hf hz)) | (go_at_call 135; (with_reducible refine (valid_ok a' b' c' d' _ G.out).mono ?_); rintro e w1 ⟨rfl, hb⟩; obtain ⟨hc, hf, hz⟩ := bcall hb; (try simp at hc hf hz)) | (go_at_call 181; (with_reducible refine (validRule_ok _ _ _ HR.out).mono ?_); rintro e w1 ⟨rfl, hb⟩; obtain ⟨hc, hf, hz⟩ := bcall hb; (try simp at hc hf hz)) | (go_at_call 182; (with_reducible refine (added_ok _ _ _ _ _ _ _ _ _ H.out G.out S.out).mono ?_); rintro e w1 ⟨rfl, hb⟩; obtain ⟨hc, hf, hz⟩ := bcall hb; (try simp at hc hf hz)))
  go_quiet (fail)
  go_wp2
  go_quiet (fail)
  go_wp2_with (go_at_call 154; (with_reducible refine (CO.out _).mono ?_); rintro e w9 ⟨rfl, hb9⟩; obtain ⟨hc9, hf9, hz9⟩ := bcall hb9; (try simp at hc9 hf9 hz9))
  go_region
  go_wp2
  go_region
  go_wp2
  go_region
  go_wp2
  refine bodyPost_ret (v := .tuple #[.agg #[.int .i64 a, .int .i64 (b + t), .int .i64 c, .int .i64 (d - t)], .agg #[.int .i64 a', .int .i64 (b' - t), .int .i64 c', .int .i64 (d' + t)], .int .i64 0]) (by simp [results, Tryd.results153, go_sem, ↓IntWalk.iteOmega, *]) rfl ⟨rfl, ?_⟩
  (repeat' (first | (with_reducible exact Below.refl _ _) | (with_reducible refine Below.setCell ?_ (by first | omega | (simp; done) | (simp; omega)) _) | (with_reducible refine Below.alloc ?_ (by first | omega | (simp; done) | (simp; omega)) _) | (with_reducible refine Below.drew ?_) | (with_reducible refine below_drewN ?_ _) | (with_reducible refine Below.trans ?_ (Below.mono (by assumption) (by first | omega | (simp; done) | (simp; omega))))))

set_option maxRecDepth 100000 in
set_option maxHeartbeats 4000000 in
theorem exchC110 (a b c d a' b' c' d' k y t : Int) (w : World) (hT : Ends w) (h : Ok4 a b c d) (g : Ok4 a' b' c' d') (s : Ok4 (a + a') (b + b') (c + c') (d + d')) (hr : OkR k y) (x1 : d' < b) (x2 : d ≤ b') (t1 : -d' ≤ t) (t2 : t ≤ d)
    (co : ∀ wx, Calls Tryd.prog 154 #[.agg #[.int .i64 d', .int .i64 d, .int .i64 d', .int .i64 d], .agg #[.int .i64 k, .int .i64 y]] wx fun e w' => e = .returned (.tuple #[.agg #[.int .i64 (d' + t), .int .i64 (d - t), .int .i64 (d' + t), .int .i64 (d - t)], .int .i64 0]) ∧ Below wx.heap.size wx w') :
    Calls Tryd.prog 153 #[.agg #[.int .i64 a, .int .i64 b, .int .i64 c, .int .i64 d], .agg #[.int .i64 a', .int .i64 b', .int .i64 c', .int .i64 d'], .agg #[.int .i64 k, .int .i64 y], .int .i64 1, .func (.func 154) #[] #[]] w fun e w' => e = .returned (.tuple #[.agg #[.int .i64 a, .int .i64 (b + t), .int .i64 c, .int .i64 (d - t)], .agg #[.int .i64 a', .int .i64 (b' - t), .int .i64 c', .int .i64 (d' + t)], .int .i64 0]) ∧ Below w.heap.size w w' := by
  have H := Lib.hid h
  have G := Lib.hid g
  have S := Lib.hid s
  have HR := Lib.hid hr; clear hr
  have CO := Lib.hid co; clear co
  obtain ⟨q0, q1, q2, q3⟩ := hT
  have hg := block_lt q0
  obtain ⟨_, _, _, _, _⟩ := h
  obtain ⟨_, _, _, _, _⟩ := g
  obtain ⟨_, _, _, _, _⟩ := s
  have tt : d' + t - d' = t := by omega
  go_enter Tryd.func153, Tryd.ntmps153
  go_wp2_with (first | (go_at_call 135; (with_reducible refine (valid_ok a b c d _ H.out).mono ?_); rintro e w1 ⟨rfl, hb⟩; obtain ⟨hc, hf, hz⟩ := bcall hb; (try simp at hc hf hz)) | (go_at_call 135; (with_reducible refine (valid_ok a' b' c' d' _ G.out).mono ?_); rintro e w1 ⟨rfl, hb⟩; obtain ⟨hc, hf, hz⟩ := bcall hb; (try simp at hc hf hz)) | (go_at_call 181; (with_reducible refine (validRule_ok _ _ _ HR.out).mono ?_); rintro e w1 ⟨rfl, hb⟩; obtain ⟨hc, hf, hz⟩ := bcall hb; (try simp at hc hf hz)) | (go_at_call 182; (with_reducible refine (added_ok _ _ _ _ _ _ _ _ _ H.out G.out S.out).mono ?_); rintro e w1 ⟨rfl, hb⟩; obtain ⟨hc, hf, hz⟩ := bcall hb; (try simp at hc hf hz)))
  go_quiet (fail)
  go_wp2
  go_quiet (fail)
  go_wp2_with (go_at_call 154; (with_reducible refine (CO.out _).mono ?_); rintro e w9 ⟨rfl, hb9⟩; obtain ⟨hc9, hf9, hz9⟩ := bcall hb9; (try simp at hc9 hf9 hz9))
  go_region
  go_wp2
  go_region
  go_wp2
  go_region
  go_wp2
  refine bodyPost_ret (v := .tuple #[.agg #[.int .i64 a, .int .i64 (b + t), .int .i64 c, .int .i64 (d - t)], .agg #[.int .i64 a', .int .i64 (b' - t), .int .i64 c', .int .i64 (d' + t)], .int .i64 0]) (by simp [results, Tryd.results153, go_sem, ↓IntWalk.iteOmega, *]) rfl ⟨rfl, ?_⟩
  (repeat' (first | (with_reducible exact Below.refl _ _) | (with_reducible refine Below.setCell ?_ (by first | omega | (simp; done) | (simp; omega)) _) | (with_reducible refine Below.alloc ?_ (by first | omega | (simp; done) | (simp; omega)) _) | (with_reducible refine Below.drew ?_) | (with_reducible refine below_drewN ?_ _) | (with_reducible refine Below.trans ?_ (Below.mono (by assumption) (by first | omega | (simp; done) | (simp; omega))))))

set_option maxRecDepth 100000 in
set_option maxHeartbeats 4000000 in
theorem exchC111 (a b c d a' b' c' d' k y t : Int) (w : World) (hT : Ends w) (h : Ok4 a b c d) (g : Ok4 a' b' c' d') (s : Ok4 (a + a') (b + b') (c + c') (d + d')) (hr : OkR k y) (x1 : d' < b) (x2 : b' < d) (t1 : -d' ≤ t) (t2 : t ≤ b')
    (co : ∀ wx, Calls Tryd.prog 154 #[.agg #[.int .i64 d', .int .i64 b', .int .i64 d', .int .i64 b'], .agg #[.int .i64 k, .int .i64 y]] wx fun e w' => e = .returned (.tuple #[.agg #[.int .i64 (d' + t), .int .i64 (b' - t), .int .i64 (d' + t), .int .i64 (b' - t)], .int .i64 0]) ∧ Below wx.heap.size wx w') :
    Calls Tryd.prog 153 #[.agg #[.int .i64 a, .int .i64 b, .int .i64 c, .int .i64 d], .agg #[.int .i64 a', .int .i64 b', .int .i64 c', .int .i64 d'], .agg #[.int .i64 k, .int .i64 y], .int .i64 1, .func (.func 154) #[] #[]] w fun e w' => e = .returned (.tuple #[.agg #[.int .i64 a, .int .i64 (b + t), .int .i64 c, .int .i64 (d - t)], .agg #[.int .i64 a', .int .i64 (b' - t), .int .i64 c', .int .i64 (d' + t)], .int .i64 0]) ∧ Below w.heap.size w w' := by
  have H := Lib.hid h
  have G := Lib.hid g
  have S := Lib.hid s
  have HR := Lib.hid hr; clear hr
  have CO := Lib.hid co; clear co
  obtain ⟨q0, q1, q2, q3⟩ := hT
  have hg := block_lt q0
  obtain ⟨_, _, _, _, _⟩ := h
  obtain ⟨_, _, _, _, _⟩ := g
  obtain ⟨_, _, _, _, _⟩ := s
  have tt : d' + t - d' = t := by omega
  go_enter Tryd.func153, Tryd.ntmps153
  go_wp2_with (first | (go_at_call 135; (with_reducible refine (valid_ok a b c d _ H.out).mono ?_); rintro e w1 ⟨rfl, hb⟩; obtain ⟨hc, hf, hz⟩ := bcall hb; (try simp at hc hf hz)) | (go_at_call 135; (with_reducible refine (valid_ok a' b' c' d' _ G.out).mono ?_); rintro e w1 ⟨rfl, hb⟩; obtain ⟨hc, hf, hz⟩ := bcall hb; (try simp at hc hf hz)) | (go_at_call 181; (with_reducible refine (validRule_ok _ _ _ HR.out).mono ?_); rintro e w1 ⟨rfl, hb⟩; obtain ⟨hc, hf, hz⟩ := bcall hb; (try simp at hc hf hz)) | (go_at_call 182; (with_reducible refine (added_ok _ _ _ _ _ _ _ _ _ H.out G.out S.out).mono ?_); rintro e w1 ⟨rfl, hb⟩; obtain ⟨hc, hf, hz⟩ := bcall hb; (try simp at hc hf hz)))
  go_quiet (fail)
  go_wp2
  go_quiet (fail)
  go_wp2_with (go_at_call 154; (with_reducible refine (CO.out _).mono ?_); rintro e w9 ⟨rfl, hb9⟩; obtain ⟨hc9, hf9, hz9⟩ := bcall hb9; (try simp at hc9 hf9 hz9))
  go_region
  go_wp2
  go_region
  go_wp2
  go_region
  go_wp2
  refine bodyPost_ret (v := .tuple #[.agg #[.int .i64 a, .int .i64 (b + t), .int .i64 c, .int .i64 (d - t)], .agg #[.int .i64 a', .int .i64 (b' - t), .int .i64 c', .int .i64 (d' + t)], .int .i64 0]) (by simp [results, Tryd.results153, go_sem, ↓IntWalk.iteOmega, *]) rfl ⟨rfl, ?_⟩
  (repeat' (first | (with_reducible exact Below.refl _ _) | (with_reducible refine Below.setCell ?_ (by first | omega | (simp; done) | (simp; omega)) _) | (with_reducible refine Below.alloc ?_ (by first | omega | (simp; done) | (simp; omega)) _) | (with_reducible refine Below.drew ?_) | (with_reducible refine below_drewN ?_ _) | (with_reducible refine Below.trans ?_ (Below.mono (by assumption) (by first | omega | (simp; done) | (simp; omega))))))

end Go.Proofs.YtglkikdjchpmjaaDoor
