/- The law CellKept: the walk. -/
import Derived.Test.YtpgheijgfjpdjaaMath2
import Derived.Test.YtpgheijgfjpdjaaUndo
import Derived.Test.YtpgheijgfjpdjaaAwake
namespace Go.Proofs.Ytpgheijgfjpdjaa
set_option linter.unusedSimpArgs false
set_option linter.unusedVariables false
open Go.RowKit

theorem massA (a b c d k y : Int) (w : World) (h : Ok4 a b c d) :
    Calls Try.prog 12 #[.agg #[.int .i64 (a + more a b c d k y), .int .i64 (b - more a b c d k y), .int .i64 (c + more a b c d k y), .int .i64 (d - more a b c d k y)]] w fun e w' => e = .returned (.tuple #[.int .i64 (a + b + c + d), .int .i64 0]) ∧ Below w.heap.size w w' := by
  have q := mass_ok _ _ _ _ w (ok_more k y h)
  have e : a + more a b c d k y + (b - more a b c d k y) + (c + more a b c d k y) + (d - more a b c d k y) = a + b + c + d := by omega
  rw [e] at q
  exact q
theorem momentumA (a b c d k y : Int) (w : World) (h : Ok4 a b c d) :
    Calls Try.prog 18 #[.agg #[.int .i64 (a + more a b c d k y), .int .i64 (b - more a b c d k y), .int .i64 (c + more a b c d k y), .int .i64 (d - more a b c d k y)]] w fun e w' => e = .returned (.tuple #[.int .i64 (a - c), .int .i64 (b - d), .int .i64 0]) ∧ Below w.heap.size w w' := by
  have q := momentum_ok _ _ _ _ w (ok_more k y h)
  have e : a + more a b c d k y - (c + more a b c d k y) = a - c := by omega
  have e' : b - more a b c d k y - (d - more a b c d k y) = b - d := by omega
  rw [e, e'] at q
  exact q
theorem undoA (a b c d k y : Int) (w : World) (h : Ok4 a b c d) (hr : OkR k y) :
    Calls Try.prog 25 #[.agg #[.int .i64 (a + more a b c d k y), .int .i64 (b - more a b c d k y), .int .i64 (c + more a b c d k y), .int .i64 (d - more a b c d k y)], .agg #[.int .i64 k, .int .i64 y]] w fun e w' => e = .returned (.tuple #[.agg #[.int .i64 a, .int .i64 b, .int .i64 c, .int .i64 d], .int .i64 0]) ∧ Below w.heap.size w w' := by
  have q := undo_ok _ _ _ _ k y w (ok_more k y h) hr
  rw [more_back h hr] at q
  have e : (.agg #[.int .i64 (a + more a b c d k y + -more a b c d k y), .int .i64 (b - more a b c d k y - -more a b c d k y), .int .i64 (c + more a b c d k y + -more a b c d k y), .int .i64 (d - more a b c d k y - -more a b c d k y)] : Value) = .agg #[.int .i64 a, .int .i64 b, .int .i64 c, .int .i64 d] := c4_eq (by omega) (by omega) (by omega) (by omega)
  rw [e] at q
  exact q
theorem collideA (a b c d k y : Int) (w : World) (h : Ok4 a b c d) (hr : OkR k y) :
    Calls Try.prog 23 #[.agg #[.int .i64 (a + more a b c d k (-y)), .int .i64 (b - more a b c d k (-y)), .int .i64 (c + more a b c d k (-y)), .int .i64 (d - more a b c d k (-y))], .agg #[.int .i64 k, .int .i64 y]] w fun e w' => e = .returned (.tuple #[.agg #[.int .i64 a, .int .i64 b, .int .i64 c, .int .i64 d], .int .i64 0]) ∧ Below w.heap.size w w' := by
  have q := collide_ok _ _ _ _ k y w (ok_more k (-y) h) hr
  have m := more_back h (okR_neg hr)
  rw [Int.neg_neg] at m
  rw [m] at q
  have e : (.agg #[.int .i64 (a + more a b c d k (-y) + -more a b c d k (-y)), .int .i64 (b - more a b c d k (-y) - -more a b c d k (-y)), .int .i64 (c + more a b c d k (-y) + -more a b c d k (-y)), .int .i64 (d - more a b c d k (-y) - -more a b c d k (-y))] : Value) = .agg #[.int .i64 a, .int .i64 b, .int .i64 c, .int .i64 d] := c4_eq (by omega) (by omega) (by omega) (by omega)
  rw [e] at q
  exact q

set_option maxHeartbeats 1000000 in
theorem cellKept_oo (a b c d k y : Int) (w : World) (h : Ok4 a b c d) (hr : OkR k y) :
    Calls Try.prog 5 #[.agg #[.int .i64 a, .int .i64 b, .int .i64 c, .int .i64 d], .agg #[.int .i64 k, .int .i64 y]] w fun e w' => e = .returned (.bool true) ∧ Below w.heap.size w w' := by
  have H := Lib.hid h; clear h
  have HR := Lib.hid hr; clear hr
  go_enter Try.func5, Try.ntmps5
  go_wp2_with (first | (go_at_call 23; (with_reducible refine (collide_ok a b c d k y _ H.out HR.out).mono ?_); rintro e w1 ⟨rfl, hb⟩; obtain ⟨hc, hf, hz⟩ := bcall hb; (try simp at hc hf hz)) | (go_at_call 23; (with_reducible refine (collide_ok a b c d k (-y) _ H.out (okR_neg HR.out)).mono ?_); rintro e w1 ⟨rfl, hb⟩; obtain ⟨hc, hf, hz⟩ := bcall hb; (try simp at hc hf hz)) | (go_at_call 23; (with_reducible refine (collideA a b c d k y _ H.out HR.out).mono ?_); rintro e w1 ⟨rfl, hb⟩; obtain ⟨hc, hf, hz⟩ := bcall hb; (try simp at hc hf hz)) | (go_at_call 12; (with_reducible refine (mass_ok a b c d _ H.out).mono ?_); rintro e w1 ⟨rfl, hb⟩; obtain ⟨hc, hf, hz⟩ := bcall hb; (try simp at hc hf hz)) | (go_at_call 12; (with_reducible refine (massA a b c d k y _ H.out).mono ?_); rintro e w1 ⟨rfl, hb⟩; obtain ⟨hc, hf, hz⟩ := bcall hb; (try simp at hc hf hz)) | (go_at_call 18; (with_reducible refine (momentum_ok a b c d _ H.out).mono ?_); rintro e w1 ⟨rfl, hb⟩; obtain ⟨hc, hf, hz⟩ := bcall hb; (try simp at hc hf hz)) | (go_at_call 18; (with_reducible refine (momentumA a b c d k y _ H.out).mono ?_); rintro e w1 ⟨rfl, hb⟩; obtain ⟨hc, hf, hz⟩ := bcall hb; (try simp at hc hf hz)) | (go_at_call 25; (with_reducible refine (undoA a b c d k y _ H.out HR.out).mono ?_); rintro e w1 ⟨rfl, hb⟩; obtain ⟨hc, hf, hz⟩ := bcall hb; (try simp at hc hf hz)) | (go_at_call 25; (with_reducible refine (undo_ok a b c d k y _ H.out HR.out).mono ?_); rintro e w1 ⟨rfl, hb⟩; obtain ⟨hc, hf, hz⟩ := bcall hb; (try simp at hc hf hz)) | (go_at_call 27; (with_reducible refine (inverse_ok _ _ _ HR.out).mono ?_); rintro e w1 ⟨rfl, hb⟩; obtain ⟨hc, hf, hz⟩ := bcall hb; (try simp at hc hf hz)) | (go_at_call 22; (with_reducible refine (awake_any _).mono ?_); rintro e w1 ⟨rfl, hb⟩; obtain ⟨hc, hf, hz⟩ := bcall hb; (try simp at hc hf hz)))
  go_ret
  refine ⟨rfl, ?_⟩
  (repeat' (first | exact Below.refl _ _ | refine Below.setCell ?_ (by first | omega | (simp; done) | (simp; omega)) _ | refine Below.alloc ?_ (by first | omega | (simp; done) | (simp; omega)) _ | refine Below.drew ?_ | refine below_drewN ?_ _ | (refine Below.trans ?_ (Below.mono (by assumption) (by first | omega | (simp; done) | (simp; omega))))))

set_option maxHeartbeats 1000000 in
theorem cellKept_bad (a b c d k y : Int) (w : World) (h : ¬ (Ok4 a b c d ∧ OkR k y)) :
    Calls Try.prog 5 #[.agg #[.int .i64 a, .int .i64 b, .int .i64 c, .int .i64 d], .agg #[.int .i64 k, .int .i64 y]] w fun e w' => e = .returned (.bool true) ∧ Below w.heap.size w w' := by
  have H := Lib.hid h; clear h
  go_enter Try.func5, Try.ntmps5
  go_wp2_with (first | (go_at_call 23; (with_reducible refine (collide_bad a b c d k y _ H.out).mono ?_); rintro e w1 ⟨rfl, hb⟩; obtain ⟨hc, hf, hz⟩ := bcall hb; (try simp at hc hf hz)) | (go_at_call 22; (with_reducible refine (awake_any _).mono ?_); rintro e w1 ⟨rfl, hb⟩; obtain ⟨hc, hf, hz⟩ := bcall hb; (try simp at hc hf hz)))
  go_ret
  refine ⟨rfl, ?_⟩
  (repeat' (first | exact Below.refl _ _ | refine Below.setCell ?_ (by first | omega | (simp; done) | (simp; omega)) _ | refine Below.alloc ?_ (by first | omega | (simp; done) | (simp; omega)) _ | refine Below.drew ?_ | refine below_drewN ?_ _ | (refine Below.trans ?_ (Below.mono (by assumption) (by first | omega | (simp; done) | (simp; omega))))))

theorem cellKept_any (a b c d k y : Int) (w : World) :
    Calls Try.prog 5 #[.agg #[.int .i64 a, .int .i64 b, .int .i64 c, .int .i64 d], .agg #[.int .i64 k, .int .i64 y]] w fun e w' => e = .returned (.bool true) ∧ Below w.heap.size w w' := by
  by_cases h : Ok4 a b c d ∧ OkR k y
  · exact cellKept_oo a b c d k y w h.1 h.2
  · exact cellKept_bad a b c d k y w h
end Go.Proofs.Ytpgheijgfjpdjaa
