/- Undo, by the program. -/
import Derived.Test.YtjlebdjnjjdnpaaDoorColl
namespace Go.Proofs.YtjlebdjnjjdnpaaDoor
set_option linter.unusedSimpArgs false
set_option linter.unusedVariables false
open Go.RowKit

theorem okR_neg {k y : Int} (h : OkR k y) : OkR k (-y) := by unfold OkR at *; omega

set_option maxHeartbeats 400000 in
theorem undo_ok (a b c d k y : Int) (w : World) (h : Ok4 a b c d) (hr : OkR k y) :
    Calls Tryd.prog 64 #[.agg #[.int .i64 a, .int .i64 b, .int .i64 c, .int .i64 d], .agg #[.int .i64 k, .int .i64 y]] w fun e w' => e = .returned (.tuple #[.agg #[.int .i64 (a + more a b c d k (-y)), .int .i64 (b - more a b c d k (-y)), .int .i64 (c + more a b c d k (-y)), .int .i64 (d - more a b c d k (-y))], .int .i64 0]) ∧ Below w.heap.size w w' := by
  have H := Lib.hid h; clear h
  have HR := Lib.hid hr; clear hr
  go_enter Tryd.func64, Tryd.ntmps64
  go_wp2_with (first | (go_at_call 92; (with_reducible refine (inverse_ok _ _ _ HR.out).mono ?_); rintro e w1 ⟨rfl, hb⟩; obtain ⟨hc, hf, hz⟩ := bcall hb; (try simp at hc hf hz)) | (go_at_call 62; (with_reducible refine (collide_ok _ _ _ _ _ _ _ H.out (okR_neg HR.out)).mono ?_); rintro e w1 ⟨rfl, hb⟩; obtain ⟨hc, hf, hz⟩ := bcall hb; (try simp at hc hf hz)))
  refine bodyPost_ret (v := .tuple #[.agg #[.int .i64 (a + more a b c d k (-y)), .int .i64 (b - more a b c d k (-y)), .int .i64 (c + more a b c d k (-y)), .int .i64 (d - more a b c d k (-y))], .int .i64 0]) (by simp [results, Tryd.results64, go_sem, ↓IntWalk.iteOmega, *]) rfl ⟨rfl, ?_⟩
  (repeat' (first | (with_reducible exact Below.refl _ _) | (with_reducible refine Below.setCell ?_ (by first | omega | (simp; done) | (simp; omega)) _) | (with_reducible refine Below.alloc ?_ (by first | omega | (simp; done) | (simp; omega)) _) | (with_reducible refine Below.drew ?_) | (with_reducible refine below_drewN ?_ _) | (with_reducible refine Below.trans ?_ (Below.mono (by assumption) (by first | omega | (simp; done) | (simp; omega))))))

set_option maxHeartbeats 400000 in
theorem undo_bad (a b c d k y : Int) (w : World) (h : ¬ (Ok4 a b c d ∧ OkR k y)) :
    Calls Tryd.prog 64 #[.agg #[.int .i64 a, .int .i64 b, .int .i64 c, .int .i64 d], .agg #[.int .i64 k, .int .i64 y]] w fun e w' => e = .returned (.tuple #[.agg #[.int .i64 0, .int .i64 0, .int .i64 0, .int .i64 0], .int .i64 1]) ∧ Below w.heap.size w w' := by
  have H := Lib.hid h; clear h
  by_cases hr : OkR k y
  · have HR := Lib.hid hr; clear hr
    have HB := Lib.hid (show ¬ (Ok4 a b c d ∧ OkR k (-y)) from fun h => H.out ⟨h.1, HR.out⟩)
    go_enter Tryd.func64, Tryd.ntmps64
    go_wp2_with (first | (go_at_call 92; (with_reducible refine (inverse_ok _ _ _ HR.out).mono ?_); rintro e w1 ⟨rfl, hb⟩; obtain ⟨hc, hf, hz⟩ := bcall hb; (try simp at hc hf hz)) | (go_at_call 62; (with_reducible refine (collide_bad _ _ _ _ _ _ _ HB.out).mono ?_); rintro e w1 ⟨rfl, hb⟩; obtain ⟨hc, hf, hz⟩ := bcall hb; (try simp at hc hf hz)))
    refine bodyPost_ret (v := .tuple #[.agg #[.int .i64 0, .int .i64 0, .int .i64 0, .int .i64 0], .int .i64 1]) (by simp [results, Tryd.results64, go_sem, ↓IntWalk.iteOmega, *]) rfl ⟨rfl, ?_⟩
    (repeat' (first | (with_reducible exact Below.refl _ _) | (with_reducible refine Below.setCell ?_ (by first | omega | (simp; done) | (simp; omega)) _) | (with_reducible refine Below.alloc ?_ (by first | omega | (simp; done) | (simp; omega)) _) | (with_reducible refine Below.drew ?_) | (with_reducible refine below_drewN ?_ _) | (with_reducible refine Below.trans ?_ (Below.mono (by assumption) (by first | omega | (simp; done) | (simp; omega))))))
  · have HR := Lib.hid hr; clear hr
    go_enter Tryd.func64, Tryd.ntmps64
    go_wp2_with (first | (go_at_call 92; (with_reducible refine (inverse_bad _ _ _ HR.out).mono ?_); rintro e w1 ⟨rfl, hb⟩; obtain ⟨hc, hf, hz⟩ := bcall hb; (try simp at hc hf hz)))
    refine bodyPost_ret (v := .tuple #[.agg #[.int .i64 0, .int .i64 0, .int .i64 0, .int .i64 0], .int .i64 1]) (by simp [results, Tryd.results64, go_sem, ↓IntWalk.iteOmega, *]) rfl ⟨rfl, ?_⟩
    (repeat' (first | (with_reducible exact Below.refl _ _) | (with_reducible refine Below.setCell ?_ (by first | omega | (simp; done) | (simp; omega)) _) | (with_reducible refine Below.alloc ?_ (by first | omega | (simp; done) | (simp; omega)) _) | (with_reducible refine Below.drew ?_) | (with_reducible refine below_drewN ?_ _) | (with_reducible refine Below.trans ?_ (Below.mono (by assumption) (by first | omega | (simp; done) | (simp; omega))))))
end Go.Proofs.YtjlebdjnjjdnpaaDoor
