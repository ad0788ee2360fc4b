/- The law CellTurns: the walk. -/
import Derived.Test.YtpgheijgfjpdjaaTurn
import Derived.Test.YtpgheijgfjpdjaaAwake
namespace Go.Proofs.Ytpgheijgfjpdjaa
set_option linter.unusedSimpArgs false
set_option linter.unusedVariables false
open Go.RowKit

theorem okT (k y : Int) (h : k = 1 ∧ y = 0) : OkR k y := by unfold OkR; omega
theorem more_mirror (a b c d k y : Int) : more c b a d k y = more a b c d k y := by
  unfold more
  rw [Int.min_comm c a]

theorem collideM (a b c d k y : Int) (w : World) (h : Ok4 a b c d) (hr : OkR k y) :
    Calls Try.prog 23 #[.agg #[.int .i64 c, .int .i64 b, .int .i64 a, .int .i64 d], .agg #[.int .i64 k, .int .i64 y]] w fun e w' => e = .returned (.tuple #[.agg #[.int .i64 (c + more a b c d k y), .int .i64 (b - more a b c d k y), .int .i64 (a + more a b c d k y), .int .i64 (d - more a b c d k y)], .int .i64 0]) ∧ Below w.heap.size w w' := by
  have q := collide_ok c b a d k y w (by obtain ⟨_, _, _, _, _⟩ := h; unfold Ok4; omega) hr
  rw [more_mirror] at q
  exact q

theorem collideT0 (a b c d : Int) (w : World) (h : Ok4 a b c d) :
    Calls Try.prog 23 #[.agg #[.int .i64 a, .int .i64 b, .int .i64 c, .int .i64 d], .agg #[.int .i64 1, .int .i64 0]] w fun e w' => e = .returned (.tuple #[.agg #[.int .i64 (a + more a b c d 1 0), .int .i64 (b - more a b c d 1 0), .int .i64 (c + more a b c d 1 0), .int .i64 (d - more a b c d 1 0)], .int .i64 0]) ∧ Below w.heap.size w w' := by
  have g : Ok4 a b c d := by obtain ⟨_, _, _, _, _⟩ := h; unfold Ok4; omega
  have q := collide_ok a b c d 1 0 w g (by unfold OkR; omega)
  exact q

theorem collideT1 (a b c d : Int) (w : World) (h : Ok4 a b c d) :
    Calls Try.prog 23 #[.agg #[.int .i64 d, .int .i64 a, .int .i64 b, .int .i64 c], .agg #[.int .i64 1, .int .i64 0]] w fun e w' => e = .returned (.tuple #[.agg #[.int .i64 (d - more a b c d 1 0), .int .i64 (a + more a b c d 1 0), .int .i64 (b - more a b c d 1 0), .int .i64 (c + more a b c d 1 0)], .int .i64 0]) ∧ Below w.heap.size w w' := by
  have g : Ok4 d a b c := by obtain ⟨_, _, _, _, _⟩ := h; unfold Ok4; omega
  have q := collide_ok d a b c 1 0 w g (by unfold OkR; omega)
  have e : (.agg #[.int .i64 (d + more d a b c 1 0), .int .i64 (a - more d a b c 1 0), .int .i64 (b + more d a b c 1 0), .int .i64 (c - more d a b c 1 0)] : Value) = .agg #[.int .i64 (d - more a b c d 1 0), .int .i64 (a + more a b c d 1 0), .int .i64 (b - more a b c d 1 0), .int .i64 (c + more a b c d 1 0)] := by
    rw [← more1, ← more1]
    exact c4_eq (by omega) (by omega) (by omega) (by omega)
  rw [e] at q
  exact q

theorem collideT2 (a b c d : Int) (w : World) (h : Ok4 a b c d) :
    Calls Try.prog 23 #[.agg #[.int .i64 c, .int .i64 d, .int .i64 a, .int .i64 b], .agg #[.int .i64 1, .int .i64 0]] w fun e w' => e = .returned (.tuple #[.agg #[.int .i64 (c + more a b c d 1 0), .int .i64 (d - more a b c d 1 0), .int .i64 (a + more a b c d 1 0), .int .i64 (b - more a b c d 1 0)], .int .i64 0]) ∧ Below w.heap.size w w' := by
  have g : Ok4 c d a b := by obtain ⟨_, _, _, _, _⟩ := h; unfold Ok4; omega
  have q := collide_ok c d a b 1 0 w g (by unfold OkR; omega)
  have e : (.agg #[.int .i64 (c + more c d a b 1 0), .int .i64 (d - more c d a b 1 0), .int .i64 (a + more c d a b 1 0), .int .i64 (b - more c d a b 1 0)] : Value) = .agg #[.int .i64 (c + more a b c d 1 0), .int .i64 (d - more a b c d 1 0), .int .i64 (a + more a b c d 1 0), .int .i64 (b - more a b c d 1 0)] := by
    rw [← more1, ← more1]
    exact c4_eq (by omega) (by omega) (by omega) (by omega)
  rw [e] at q
  exact q

theorem collideT3 (a b c d : Int) (w : World) (h : Ok4 a b c d) :
    Calls Try.prog 23 #[.agg #[.int .i64 b, .int .i64 c, .int .i64 d, .int .i64 a], .agg #[.int .i64 1, .int .i64 0]] w fun e w' => e = .returned (.tuple #[.agg #[.int .i64 (b - more a b c d 1 0), .int .i64 (c + more a b c d 1 0), .int .i64 (d - more a b c d 1 0), .int .i64 (a + more a b c d 1 0)], .int .i64 0]) ∧ Below w.heap.size w w' := by
  have g : Ok4 b c d a := by obtain ⟨_, _, _, _, _⟩ := h; unfold Ok4; omega
  have q := collide_ok b c d a 1 0 w g (by unfold OkR; omega)
  have e : (.agg #[.int .i64 (b + more b c d a 1 0), .int .i64 (c - more b c d a 1 0), .int .i64 (d + more b c d a 1 0), .int .i64 (a - more b c d a 1 0)] : Value) = .agg #[.int .i64 (b - more a b c d 1 0), .int .i64 (c + more a b c d 1 0), .int .i64 (d - more a b c d 1 0), .int .i64 (a + more a b c d 1 0)] := by
    rw [← more1, ← more1]
    exact c4_eq (by omega) (by omega) (by omega) (by omega)
  rw [e] at q
  exact q

set_option maxHeartbeats 2000000 in
theorem cellTurns_0ok (a b c d q k y : Int) (w : World) (h : Ok4 a b c d) (hq : q % 4 = 0) (r : OkR k y) :
    Calls Try.prog 9 #[.agg #[.int .i64 a, .int .i64 b, .int .i64 c, .int .i64 d], .int .i64 q, .agg #[.int .i64 k, .int .i64 y]] w fun e w' => e = .returned (.bool true) ∧ Below w.heap.size w w' := by
  have H := Lib.hid h; clear h
  have Q := Lib.hid hq; clear hq
  have R := Lib.hid r; clear r
  go_enter Try.func9, Try.ntmps9
  go_wp2_with (first | (go_at_call 39; (with_reducible refine (turned0 a b c d q _ H.out Q.out).mono ?_); rintro e w1 ⟨rfl, hb⟩; obtain ⟨hc, hf, hz⟩ := bcall hb; (try simp at hc hf hz)) | (go_at_call 40; (with_reducible refine (refTurned0 a b c d q _ H.out Q.out).mono ?_); rintro e w1 ⟨rfl, hb⟩; obtain ⟨hc, hf, hz⟩ := bcall hb; (try simp at hc hf hz)) | (go_at_call 41; (with_reducible refine (mirrored_ok a b c d _ H.out).mono ?_); rintro e w1 ⟨rfl, hb⟩; obtain ⟨hc, hf, hz⟩ := bcall hb; (try simp at hc hf hz)) | (go_at_call 42; (with_reducible refine (refMirrored_ok a b c d _ H.out).mono ?_); rintro e w1 ⟨rfl, hb⟩; obtain ⟨hc, hf, hz⟩ := bcall hb; (try simp at hc hf hz)) | (go_at_call 23; (with_reducible refine (collideT0 a b c d _ H.out).mono ?_); rintro e w1 ⟨rfl, hb⟩; obtain ⟨hc, hf, hz⟩ := bcall hb; (try simp at hc hf hz)) | (go_at_call 23; (with_reducible refine (collideT0 a b c d _ H.out).mono ?_); rintro e w1 ⟨rfl, hb⟩; obtain ⟨hc, hf, hz⟩ := bcall hb; (try simp at hc hf hz)) | (go_at_call 39; (with_reducible refine (turned0 (a + more a b c d 1 0) (b - more a b c d 1 0) (c + more a b c d 1 0) (d - more a b c d 1 0) q _ (ok_more 1 0 H.out) Q.out).mono ?_); rintro e w1 ⟨rfl, hb⟩; obtain ⟨hc, hf, hz⟩ := bcall hb; (try simp at hc hf hz)) | (go_at_call 23; (with_reducible refine (collide_ok a b c d k y _ H.out R.out).mono ?_); rintro e w1 ⟨rfl, hb⟩; obtain ⟨hc, hf, hz⟩ := bcall hb; (try simp at hc hf hz)) | (go_at_call 23; (with_reducible refine (collideM a b c d k y _ H.out R.out).mono ?_); rintro e w1 ⟨rfl, hb⟩; obtain ⟨hc, hf, hz⟩ := bcall hb; (try simp at hc hf hz)) | (go_at_call 41; (with_reducible refine (mirrored_ok (a + more a b c d k y) (b - more a b c d k y) (c + more a b c d k y) (d - more a b c d k y) _ (ok_more k y H.out)).mono ?_); rintro e w1 ⟨rfl, hb⟩; obtain ⟨hc, hf, hz⟩ := bcall hb; (try simp at hc hf hz)) | (go_at_call 22; (with_reducible refine (awake_any _).mono ?_); rintro e w1 ⟨rfl, hb⟩; obtain ⟨hc, hf, hz⟩ := bcall hb; (try simp at hc hf hz)))
  go_ret
  refine ⟨by simp, ?_⟩
  (repeat' (first | (with_reducible exact Below.refl _ _) | (with_reducible refine Below.setCell ?_ (by first | omega | (simp; done) | (simp; omega)) _) | (with_reducible refine Below.alloc ?_ (by first | omega | (simp; done) | (simp; omega)) _) | (with_reducible refine Below.drew ?_) | (with_reducible refine below_drewN ?_ _) | (with_reducible refine Below.trans ?_ (Below.mono (by assumption) (by first | omega | (simp; done) | (simp; omega))))))

set_option maxHeartbeats 2000000 in
theorem cellTurns_0bad (a b c d q k y : Int) (w : World) (h : Ok4 a b c d) (hq : q % 4 = 0) (r : ¬ OkR k y) :
    Calls Try.prog 9 #[.agg #[.int .i64 a, .int .i64 b, .int .i64 c, .int .i64 d], .int .i64 q, .agg #[.int .i64 k, .int .i64 y]] w fun e w' => e = .returned (.bool true) ∧ Below w.heap.size w w' := by
  have H := Lib.hid h; clear h
  have Q := Lib.hid hq; clear hq
  have ZR := Lib.hid (show ¬ (Ok4 a b c d ∧ OkR k y) from fun q => r q.2)
  have ZM := Lib.hid (show ¬ (Ok4 c b a d ∧ OkR k y) from fun q => r q.2)
  clear r
  go_enter Try.func9, Try.ntmps9
  go_wp2_with (first | (go_at_call 39; (with_reducible refine (turned0 a b c d q _ H.out Q.out).mono ?_); rintro e w1 ⟨rfl, hb⟩; obtain ⟨hc, hf, hz⟩ := bcall hb; (try simp at hc hf hz)) | (go_at_call 40; (with_reducible refine (refTurned0 a b c d q _ H.out Q.out).mono ?_); rintro e w1 ⟨rfl, hb⟩; obtain ⟨hc, hf, hz⟩ := bcall hb; (try simp at hc hf hz)) | (go_at_call 41; (with_reducible refine (mirrored_ok a b c d _ H.out).mono ?_); rintro e w1 ⟨rfl, hb⟩; obtain ⟨hc, hf, hz⟩ := bcall hb; (try simp at hc hf hz)) | (go_at_call 42; (with_reducible refine (refMirrored_ok a b c d _ H.out).mono ?_); rintro e w1 ⟨rfl, hb⟩; obtain ⟨hc, hf, hz⟩ := bcall hb; (try simp at hc hf hz)) | (go_at_call 23; (with_reducible refine (collideT0 a b c d _ H.out).mono ?_); rintro e w1 ⟨rfl, hb⟩; obtain ⟨hc, hf, hz⟩ := bcall hb; (try simp at hc hf hz)) | (go_at_call 23; (with_reducible refine (collideT0 a b c d _ H.out).mono ?_); rintro e w1 ⟨rfl, hb⟩; obtain ⟨hc, hf, hz⟩ := bcall hb; (try simp at hc hf hz)) | (go_at_call 39; (with_reducible refine (turned0 (a + more a b c d 1 0) (b - more a b c d 1 0) (c + more a b c d 1 0) (d - more a b c d 1 0) q _ (ok_more 1 0 H.out) Q.out).mono ?_); rintro e w1 ⟨rfl, hb⟩; obtain ⟨hc, hf, hz⟩ := bcall hb; (try simp at hc hf hz)) | (go_at_call 23; (with_reducible refine (collide_bad a b c d k y _ ZR.out).mono ?_); rintro e w1 ⟨rfl, hb⟩; obtain ⟨hc, hf, hz⟩ := bcall hb; (try simp at hc hf hz)) | (go_at_call 23; (with_reducible refine (collide_bad c b a d k y _ ZM.out).mono ?_); rintro e w1 ⟨rfl, hb⟩; obtain ⟨hc, hf, hz⟩ := bcall hb; (try simp at hc hf hz)) | (go_at_call 22; (with_reducible refine (awake_any _).mono ?_); rintro e w1 ⟨rfl, hb⟩; obtain ⟨hc, hf, hz⟩ := bcall hb; (try simp at hc hf hz)))
  go_ret
  refine ⟨by simp, ?_⟩
  (repeat' (first | (with_reducible exact Below.refl _ _) | (with_reducible refine Below.setCell ?_ (by first | omega | (simp; done) | (simp; omega)) _) | (with_reducible refine Below.alloc ?_ (by first | omega | (simp; done) | (simp; omega)) _) | (with_reducible refine Below.drew ?_) | (with_reducible refine below_drewN ?_ _) | (with_reducible refine Below.trans ?_ (Below.mono (by assumption) (by first | omega | (simp; done) | (simp; omega))))))

set_option maxHeartbeats 2000000 in
theorem cellTurns_1ok (a b c d q k y : Int) (w : World) (h : Ok4 a b c d) (hq : q % 4 = 1) (r : OkR k y) :
    Calls Try.prog 9 #[.agg #[.int .i64 a, .int .i64 b, .int .i64 c, .int .i64 d], .int .i64 q, .agg #[.int .i64 k, .int .i64 y]] w fun e w' => e = .returned (.bool true) ∧ Below w.heap.size w w' := by
  have H := Lib.hid h; clear h
  have Q := Lib.hid hq; clear hq
  have R := Lib.hid r; clear r
  go_enter Try.func9, Try.ntmps9
  go_wp2_with (first | (go_at_call 39; (with_reducible refine (turned1 a b c d q _ H.out Q.out).mono ?_); rintro e w1 ⟨rfl, hb⟩; obtain ⟨hc, hf, hz⟩ := bcall hb; (try simp at hc hf hz)) | (go_at_call 40; (with_reducible refine (refTurned1 a b c d q _ H.out Q.out).mono ?_); rintro e w1 ⟨rfl, hb⟩; obtain ⟨hc, hf, hz⟩ := bcall hb; (try simp at hc hf hz)) | (go_at_call 41; (with_reducible refine (mirrored_ok a b c d _ H.out).mono ?_); rintro e w1 ⟨rfl, hb⟩; obtain ⟨hc, hf, hz⟩ := bcall hb; (try simp at hc hf hz)) | (go_at_call 42; (with_reducible refine (refMirrored_ok a b c d _ H.out).mono ?_); rintro e w1 ⟨rfl, hb⟩; obtain ⟨hc, hf, hz⟩ := bcall hb; (try simp at hc hf hz)) | (go_at_call 23; (with_reducible refine (collideT1 a b c d _ H.out).mono ?_); rintro e w1 ⟨rfl, hb⟩; obtain ⟨hc, hf, hz⟩ := bcall hb; (try simp at hc hf hz)) | (go_at_call 23; (with_reducible refine (collideT0 a b c d _ H.out).mono ?_); rintro e w1 ⟨rfl, hb⟩; obtain ⟨hc, hf, hz⟩ := bcall hb; (try simp at hc hf hz)) | (go_at_call 39; (with_reducible refine (turned1 (a + more a b c d 1 0) (b - more a b c d 1 0) (c + more a b c d 1 0) (d - more a b c d 1 0) q _ (ok_more 1 0 H.out) Q.out).mono ?_); rintro e w1 ⟨rfl, hb⟩; obtain ⟨hc, hf, hz⟩ := bcall hb; (try simp at hc hf hz)) | (go_at_call 23; (with_reducible refine (collide_ok a b c d k y _ H.out R.out).mono ?_); rintro e w1 ⟨rfl, hb⟩; obtain ⟨hc, hf, hz⟩ := bcall hb; (try simp at hc hf hz)) | (go_at_call 23; (with_reducible refine (collideM a b c d k y _ H.out R.out).mono ?_); rintro e w1 ⟨rfl, hb⟩; obtain ⟨hc, hf, hz⟩ := bcall hb; (try simp at hc hf hz)) | (go_at_call 41; (with_reducible refine (mirrored_ok (a + more a b c d k y) (b - more a b c d k y) (c + more a b c d k y) (d - more a b c d k y) _ (ok_more k y H.out)).mono ?_); rintro e w1 ⟨rfl, hb⟩; obtain ⟨hc, hf, hz⟩ := bcall hb; (try simp at hc hf hz)) | (go_at_call 22; (with_reducible refine (awake_any _).mono ?_); rintro e w1 ⟨rfl, hb⟩; obtain ⟨hc, hf, hz⟩ := bcall hb; (try simp at hc hf hz)))
  go_ret
  refine ⟨by simp, ?_⟩
  (repeat' (first | (with_reducible exact Below.refl _ _) | (with_reducible refine Below.setCell ?_ (by first | omega | (simp; done) | (simp; omega)) _) | (with_reducible refine Below.alloc ?_ (by first | omega | (simp; done) | (simp; omega)) _) | (with_reducible refine Below.drew ?_) | (with_reducible refine below_drewN ?_ _) | (with_reducible refine Below.trans ?_ (Below.mono (by assumption) (by first | omega | (simp; done) | (simp; omega))))))

set_option maxHeartbeats 2000000 in
theorem cellTurns_1bad (a b c d q k y : Int) (w : World) (h : Ok4 a b c d) (hq : q % 4 = 1) (r : ¬ OkR k y) :
    Calls Try.prog 9 #[.agg #[.int .i64 a, .int .i64 b, .int .i64 c, .int .i64 d], .int .i64 q, .agg #[.int .i64 k, .int .i64 y]] w fun e w' => e = .returned (.bool true) ∧ Below w.heap.size w w' := by
  have H := Lib.hid h; clear h
  have Q := Lib.hid hq; clear hq
  have ZR := Lib.hid (show ¬ (Ok4 a b c d ∧ OkR k y) from fun q => r q.2)
  have ZM := Lib.hid (show ¬ (Ok4 c b a d ∧ OkR k y) from fun q => r q.2)
  clear r
  go_enter Try.func9, Try.ntmps9
  go_wp2_with (first | (go_at_call 39; (with_reducible refine (turned1 a b c d q _ H.out Q.out).mono ?_); rintro e w1 ⟨rfl, hb⟩; obtain ⟨hc, hf, hz⟩ := bcall hb; (try simp at hc hf hz)) | (go_at_call 40; (with_reducible refine (refTurned1 a b c d q _ H.out Q.out).mono ?_); rintro e w1 ⟨rfl, hb⟩; obtain ⟨hc, hf, hz⟩ := bcall hb; (try simp at hc hf hz)) | (go_at_call 41; (with_reducible refine (mirrored_ok a b c d _ H.out).mono ?_); rintro e w1 ⟨rfl, hb⟩; obtain ⟨hc, hf, hz⟩ := bcall hb; (try simp at hc hf hz)) | (go_at_call 42; (with_reducible refine (refMirrored_ok a b c d _ H.out).mono ?_); rintro e w1 ⟨rfl, hb⟩; obtain ⟨hc, hf, hz⟩ := bcall hb; (try simp at hc hf hz)) | (go_at_call 23; (with_reducible refine (collideT1 a b c d _ H.out).mono ?_); rintro e w1 ⟨rfl, hb⟩; obtain ⟨hc, hf, hz⟩ := bcall hb; (try simp at hc hf hz)) | (go_at_call 23; (with_reducible refine (collideT0 a b c d _ H.out).mono ?_); rintro e w1 ⟨rfl, hb⟩; obtain ⟨hc, hf, hz⟩ := bcall hb; (try simp at hc hf hz)) | (go_at_call 39; (with_reducible refine (turned1 (a + more a b c d 1 0) (b - more a b c d 1 0) (c + more a b c d 1 0) (d - more a b c d 1 0) q _ (ok_more 1 0 H.out) Q.out).mono ?_); rintro e w1 ⟨rfl, hb⟩; obtain ⟨hc, hf, hz⟩ := bcall hb; (try simp at hc hf hz)) | (go_at_call 23; (with_reducible refine (collide_bad a b c d k y _ ZR.out).mono ?_); rintro e w1 ⟨rfl, hb⟩; obtain ⟨hc, hf, hz⟩ := bcall hb; (try simp at hc hf hz)) | (go_at_call 23; (with_reducible refine (collide_bad c b a d k y _ ZM.out).mono ?_); rintro e w1 ⟨rfl, hb⟩; obtain ⟨hc, hf, hz⟩ := bcall hb; (try simp at hc hf hz)) | (go_at_call 22; (with_reducible refine (awake_any _).mono ?_); rintro e w1 ⟨rfl, hb⟩; obtain ⟨hc, hf, hz⟩ := bcall hb; (try simp at hc hf hz)))
  go_ret
  refine ⟨by simp, ?_⟩
  (repeat' (first | (with_reducible exact Below.refl _ _) | (with_reducible refine Below.setCell ?_ (by first | omega | (simp; done) | (simp; omega)) _) | (with_reducible refine Below.alloc ?_ (by first | omega | (simp; done) | (simp; omega)) _) | (with_reducible refine Below.drew ?_) | (with_reducible refine below_drewN ?_ _) | (with_reducible refine Below.trans ?_ (Below.mono (by assumption) (by first | omega | (simp; done) | (simp; omega))))))

set_option maxHeartbeats 2000000 in
theorem cellTurns_2ok (a b c d q k y : Int) (w : World) (h : Ok4 a b c d) (hq : q % 4 = 2) (r : OkR k y) :
    Calls Try.prog 9 #[.agg #[.int .i64 a, .int .i64 b, .int .i64 c, .int .i64 d], .int .i64 q, .agg #[.int .i64 k, .int .i64 y]] w fun e w' => e = .returned (.bool true) ∧ Below w.heap.size w w' := by
  have H := Lib.hid h; clear h
  have Q := Lib.hid hq; clear hq
  have R := Lib.hid r; clear r
  go_enter Try.func9, Try.ntmps9
  go_wp2_with (first | (go_at_call 39; (with_reducible refine (turned2 a b c d q _ H.out Q.out).mono ?_); rintro e w1 ⟨rfl, hb⟩; obtain ⟨hc, hf, hz⟩ := bcall hb; (try simp at hc hf hz)) | (go_at_call 40; (with_reducible refine (refTurned2 a b c d q _ H.out Q.out).mono ?_); rintro e w1 ⟨rfl, hb⟩; obtain ⟨hc, hf, hz⟩ := bcall hb; (try simp at hc hf hz)) | (go_at_call 41; (with_reducible refine (mirrored_ok a b c d _ H.out).mono ?_); rintro e w1 ⟨rfl, hb⟩; obtain ⟨hc, hf, hz⟩ := bcall hb; (try simp at hc hf hz)) | (go_at_call 42; (with_reducible refine (refMirrored_ok a b c d _ H.out).mono ?_); rintro e w1 ⟨rfl, hb⟩; obtain ⟨hc, hf, hz⟩ := bcall hb; (try simp at hc hf hz)) | (go_at_call 23; (with_reducible refine (collideT2 a b c d _ H.out).mono ?_); rintro e w1 ⟨rfl, hb⟩; obtain ⟨hc, hf, hz⟩ := bcall hb; (try simp at hc hf hz)) | (go_at_call 23; (with_reducible refine (collideT0 a b c d _ H.out).mono ?_); rintro e w1 ⟨rfl, hb⟩; obtain ⟨hc, hf, hz⟩ := bcall hb; (try simp at hc hf hz)) | (go_at_call 39; (with_reducible refine (turned2 (a + more a b c d 1 0) (b - more a b c d 1 0) (c + more a b c d 1 0) (d - more a b c d 1 0) q _ (ok_more 1 0 H.out) Q.out).mono ?_); rintro e w1 ⟨rfl, hb⟩; obtain ⟨hc, hf, hz⟩ := bcall hb; (try simp at hc hf hz)) | (go_at_call 23; (with_reducible refine (collide_ok a b c d k y _ H.out R.out).mono ?_); rintro e w1 ⟨rfl, hb⟩; obtain ⟨hc, hf, hz⟩ := bcall hb; (try simp at hc hf hz)) | (go_at_call 23; (with_reducible refine (collideM a b c d k y _ H.out R.out).mono ?_); rintro e w1 ⟨rfl, hb⟩; obtain ⟨hc, hf, hz⟩ := bcall hb; (try simp at hc hf hz)) | (go_at_call 41; (with_reducible refine (mirrored_ok (a + more a b c d k y) (b - more a b c d k y) (c + more a b c d k y) (d - more a b c d k y) _ (ok_more k y H.out)).mono ?_); rintro e w1 ⟨rfl, hb⟩; obtain ⟨hc, hf, hz⟩ := bcall hb; (try simp at hc hf hz)) | (go_at_call 22; (with_reducible refine (awake_any _).mono ?_); rintro e w1 ⟨rfl, hb⟩; obtain ⟨hc, hf, hz⟩ := bcall hb; (try simp at hc hf hz)))
  go_ret
  refine ⟨by simp, ?_⟩
  (repeat' (first | (with_reducible exact Below.refl _ _) | (with_reducible refine Below.setCell ?_ (by first | omega | (simp; done) | (simp; omega)) _) | (with_reducible refine Below.alloc ?_ (by first | omega | (simp; done) | (simp; omega)) _) | (with_reducible refine Below.drew ?_) | (with_reducible refine below_drewN ?_ _) | (with_reducible refine Below.trans ?_ (Below.mono (by assumption) (by first | omega | (simp; done) | (simp; omega))))))

set_option maxHeartbeats 2000000 in
theorem cellTurns_2bad (a b c d q k y : Int) (w : World) (h : Ok4 a b c d) (hq : q % 4 = 2) (r : ¬ OkR k y) :
    Calls Try.prog 9 #[.agg #[.int .i64 a, .int .i64 b, .int .i64 c, .int .i64 d], .int .i64 q, .agg #[.int .i64 k, .int .i64 y]] w fun e w' => e = .returned (.bool true) ∧ Below w.heap.size w w' := by
  have H := Lib.hid h; clear h
  have Q := Lib.hid hq; clear hq
  have ZR := Lib.hid (show ¬ (Ok4 a b c d ∧ OkR k y) from fun q => r q.2)
  have ZM := Lib.hid (show ¬ (Ok4 c b a d ∧ OkR k y) from fun q => r q.2)
  clear r
  go_enter Try.func9, Try.ntmps9
  go_wp2_with (first | (go_at_call 39; (with_reducible refine (turned2 a b c d q _ H.out Q.out).mono ?_); rintro e w1 ⟨rfl, hb⟩; obtain ⟨hc, hf, hz⟩ := bcall hb; (try simp at hc hf hz)) | (go_at_call 40; (with_reducible refine (refTurned2 a b c d q _ H.out Q.out).mono ?_); rintro e w1 ⟨rfl, hb⟩; obtain ⟨hc, hf, hz⟩ := bcall hb; (try simp at hc hf hz)) | (go_at_call 41; (with_reducible refine (mirrored_ok a b c d _ H.out).mono ?_); rintro e w1 ⟨rfl, hb⟩; obtain ⟨hc, hf, hz⟩ := bcall hb; (try simp at hc hf hz)) | (go_at_call 42; (with_reducible refine (refMirrored_ok a b c d _ H.out).mono ?_); rintro e w1 ⟨rfl, hb⟩; obtain ⟨hc, hf, hz⟩ := bcall hb; (try simp at hc hf hz)) | (go_at_call 23; (with_reducible refine (collideT2 a b c d _ H.out).mono ?_); rintro e w1 ⟨rfl, hb⟩; obtain ⟨hc, hf, hz⟩ := bcall hb; (try simp at hc hf hz)) | (go_at_call 23; (with_reducible refine (collideT0 a b c d _ H.out).mono ?_); rintro e w1 ⟨rfl, hb⟩; obtain ⟨hc, hf, hz⟩ := bcall hb; (try simp at hc hf hz)) | (go_at_call 39; (with_reducible refine (turned2 (a + more a b c d 1 0) (b - more a b c d 1 0) (c + more a b c d 1 0) (d - more a b c d 1 0) q _ (ok_more 1 0 H.out) Q.out).mono ?_); rintro e w1 ⟨rfl, hb⟩; obtain ⟨hc, hf, hz⟩ := bcall hb; (try simp at hc hf hz)) | (go_at_call 23; (with_reducible refine (collide_bad a b c d k y _ ZR.out).mono ?_); rintro e w1 ⟨rfl, hb⟩; obtain ⟨hc, hf, hz⟩ := bcall hb; (try simp at hc hf hz)) | (go_at_call 23; (with_reducible refine (collide_bad c b a d k y _ ZM.out).mono ?_); rintro e w1 ⟨rfl, hb⟩; obtain ⟨hc, hf, hz⟩ := bcall hb; (try simp at hc hf hz)) | (go_at_call 22; (with_reducible refine (awake_any _).mono ?_); rintro e w1 ⟨rfl, hb⟩; obtain ⟨hc, hf, hz⟩ := bcall hb; (try simp at hc hf hz)))
  go_ret
  refine ⟨by simp, ?_⟩
  (repeat' (first | (with_reducible exact Below.refl _ _) | (with_reducible refine Below.setCell ?_ (by first | omega | (simp; done) | (simp; omega)) _) | (with_reducible refine Below.alloc ?_ (by first | omega | (simp; done) | (simp; omega)) _) | (with_reducible refine Below.drew ?_) | (with_reducible refine below_drewN ?_ _) | (with_reducible refine Below.trans ?_ (Below.mono (by assumption) (by first | omega | (simp; done) | (simp; omega))))))

set_option maxHeartbeats 2000000 in
theorem cellTurns_3ok (a b c d q k y : Int) (w : World) (h : Ok4 a b c d) (hq : q % 4 = 3) (r : OkR k y) :
    Calls Try.prog 9 #[.agg #[.int .i64 a, .int .i64 b, .int .i64 c, .int .i64 d], .int .i64 q, .agg #[.int .i64 k, .int .i64 y]] w fun e w' => e = .returned (.bool true) ∧ Below w.heap.size w w' := by
  have H := Lib.hid h; clear h
  have Q := Lib.hid hq; clear hq
  have R := Lib.hid r; clear r
  go_enter Try.func9, Try.ntmps9
  go_wp2_with (first | (go_at_call 39; (with_reducible refine (turned3 a b c d q _ H.out Q.out).mono ?_); rintro e w1 ⟨rfl, hb⟩; obtain ⟨hc, hf, hz⟩ := bcall hb; (try simp at hc hf hz)) | (go_at_call 40; (with_reducible refine (refTurned3 a b c d q _ H.out Q.out).mono ?_); rintro e w1 ⟨rfl, hb⟩; obtain ⟨hc, hf, hz⟩ := bcall hb; (try simp at hc hf hz)) | (go_at_call 41; (with_reducible refine (mirrored_ok a b c d _ H.out).mono ?_); rintro e w1 ⟨rfl, hb⟩; obtain ⟨hc, hf, hz⟩ := bcall hb; (try simp at hc hf hz)) | (go_at_call 42; (with_reducible refine (refMirrored_ok a b c d _ H.out).mono ?_); rintro e w1 ⟨rfl, hb⟩; obtain ⟨hc, hf, hz⟩ := bcall hb; (try simp at hc hf hz)) | (go_at_call 23; (with_reducible refine (collideT3 a b c d _ H.out).mono ?_); rintro e w1 ⟨rfl, hb⟩; obtain ⟨hc, hf, hz⟩ := bcall hb; (try simp at hc hf hz)) | (go_at_call 23; (with_reducible refine (collideT0 a b c d _ H.out).mono ?_); rintro e w1 ⟨rfl, hb⟩; obtain ⟨hc, hf, hz⟩ := bcall hb; (try simp at hc hf hz)) | (go_at_call 39; (with_reducible refine (turned3 (a + more a b c d 1 0) (b - more a b c d 1 0) (c + more a b c d 1 0) (d - more a b c d 1 0) q _ (ok_more 1 0 H.out) Q.out).mono ?_); rintro e w1 ⟨rfl, hb⟩; obtain ⟨hc, hf, hz⟩ := bcall hb; (try simp at hc hf hz)) | (go_at_call 23; (with_reducible refine (collide_ok a b c d k y _ H.out R.out).mono ?_); rintro e w1 ⟨rfl, hb⟩; obtain ⟨hc, hf, hz⟩ := bcall hb; (try simp at hc hf hz)) | (go_at_call 23; (with_reducible refine (collideM a b c d k y _ H.out R.out).mono ?_); rintro e w1 ⟨rfl, hb⟩; obtain ⟨hc, hf, hz⟩ := bcall hb; (try simp at hc hf hz)) | (go_at_call 41; (with_reducible refine (mirrored_ok (a + more a b c d k y) (b - more a b c d k y) (c + more a b c d k y) (d - more a b c d k y) _ (ok_more k y H.out)).mono ?_); rintro e w1 ⟨rfl, hb⟩; obtain ⟨hc, hf, hz⟩ := bcall hb; (try simp at hc hf hz)) | (go_at_call 22; (with_reducible refine (awake_any _).mono ?_); rintro e w1 ⟨rfl, hb⟩; obtain ⟨hc, hf, hz⟩ := bcall hb; (try simp at hc hf hz)))
  go_ret
  refine ⟨by simp, ?_⟩
  (repeat' (first | (with_reducible exact Below.refl _ _) | (with_reducible refine Below.setCell ?_ (by first | omega | (simp; done) | (simp; omega)) _) | (with_reducible refine Below.alloc ?_ (by first | omega | (simp; done) | (simp; omega)) _) | (with_reducible refine Below.drew ?_) | (with_reducible refine below_drewN ?_ _) | (with_reducible refine Below.trans ?_ (Below.mono (by assumption) (by first | omega | (simp; done) | (simp; omega))))))

set_option maxHeartbeats 2000000 in
theorem cellTurns_3bad (a b c d q k y : Int) (w : World) (h : Ok4 a b c d) (hq : q % 4 = 3) (r : ¬ OkR k y) :
    Calls Try.prog 9 #[.agg #[.int .i64 a, .int .i64 b, .int .i64 c, .int .i64 d], .int .i64 q, .agg #[.int .i64 k, .int .i64 y]] w fun e w' => e = .returned (.bool true) ∧ Below w.heap.size w w' := by
  have H := Lib.hid h; clear h
  have Q := Lib.hid hq; clear hq
  have ZR := Lib.hid (show ¬ (Ok4 a b c d ∧ OkR k y) from fun q => r q.2)
  have ZM := Lib.hid (show ¬ (Ok4 c b a d ∧ OkR k y) from fun q => r q.2)
  clear r
  go_enter Try.func9, Try.ntmps9
  go_wp2_with (first | (go_at_call 39; (with_reducible refine (turned3 a b c d q _ H.out Q.out).mono ?_); rintro e w1 ⟨rfl, hb⟩; obtain ⟨hc, hf, hz⟩ := bcall hb; (try simp at hc hf hz)) | (go_at_call 40; (with_reducible refine (refTurned3 a b c d q _ H.out Q.out).mono ?_); rintro e w1 ⟨rfl, hb⟩; obtain ⟨hc, hf, hz⟩ := bcall hb; (try simp at hc hf hz)) | (go_at_call 41; (with_reducible refine (mirrored_ok a b c d _ H.out).mono ?_); rintro e w1 ⟨rfl, hb⟩; obtain ⟨hc, hf, hz⟩ := bcall hb; (try simp at hc hf hz)) | (go_at_call 42; (with_reducible refine (refMirrored_ok a b c d _ H.out).mono ?_); rintro e w1 ⟨rfl, hb⟩; obtain ⟨hc, hf, hz⟩ := bcall hb; (try simp at hc hf hz)) | (go_at_call 23; (with_reducible refine (collideT3 a b c d _ H.out).mono ?_); rintro e w1 ⟨rfl, hb⟩; obtain ⟨hc, hf, hz⟩ := bcall hb; (try simp at hc hf hz)) | (go_at_call 23; (with_reducible refine (collideT0 a b c d _ H.out).mono ?_); rintro e w1 ⟨rfl, hb⟩; obtain ⟨hc, hf, hz⟩ := bcall hb; (try simp at hc hf hz)) | (go_at_call 39; (with_reducible refine (turned3 (a + more a b c d 1 0) (b - more a b c d 1 0) (c + more a b c d 1 0) (d - more a b c d 1 0) q _ (ok_more 1 0 H.out) Q.out).mono ?_); rintro e w1 ⟨rfl, hb⟩; obtain ⟨hc, hf, hz⟩ := bcall hb; (try simp at hc hf hz)) | (go_at_call 23; (with_reducible refine (collide_bad a b c d k y _ ZR.out).mono ?_); rintro e w1 ⟨rfl, hb⟩; obtain ⟨hc, hf, hz⟩ := bcall hb; (try simp at hc hf hz)) | (go_at_call 23; (with_reducible refine (collide_bad c b a d k y _ ZM.out).mono ?_); rintro e w1 ⟨rfl, hb⟩; obtain ⟨hc, hf, hz⟩ := bcall hb; (try simp at hc hf hz)) | (go_at_call 22; (with_reducible refine (awake_any _).mono ?_); rintro e w1 ⟨rfl, hb⟩; obtain ⟨hc, hf, hz⟩ := bcall hb; (try simp at hc hf hz)))
  go_ret
  refine ⟨by simp, ?_⟩
  (repeat' (first | (with_reducible exact Below.refl _ _) | (with_reducible refine Below.setCell ?_ (by first | omega | (simp; done) | (simp; omega)) _) | (with_reducible refine Below.alloc ?_ (by first | omega | (simp; done) | (simp; omega)) _) | (with_reducible refine Below.drew ?_) | (with_reducible refine below_drewN ?_ _) | (with_reducible refine Below.trans ?_ (Below.mono (by assumption) (by first | omega | (simp; done) | (simp; omega))))))

set_option maxHeartbeats 1000000 in
theorem cellTurns_not (a b c d q k y : Int) (w : World) (h : ¬ Ok4 a b c d) :
    Calls Try.prog 9 #[.agg #[.int .i64 a, .int .i64 b, .int .i64 c, .int .i64 d], .int .i64 q, .agg #[.int .i64 k, .int .i64 y]] w fun e w' => e = .returned (.bool true) ∧ Below w.heap.size w w' := by
  have H := Lib.hid h; clear h
  go_enter Try.func9, Try.ntmps9
  go_wp2_with (first | (go_at_call 39; (with_reducible refine (turned_bad a b c d q _ H.out).mono ?_); rintro e w1 ⟨rfl, hb⟩; obtain ⟨hc, hf, hz⟩ := bcall hb; (try simp at hc hf hz)) | (go_at_call 40; (with_reducible refine (refTurned_bad a b c d q _ H.out).mono ?_); rintro e w1 ⟨rfl, hb⟩; obtain ⟨hc, hf, hz⟩ := bcall hb; (try simp at hc hf hz)) | (go_at_call 41; (with_reducible refine (mirrored_bad a b c d _ H.out).mono ?_); rintro e w1 ⟨rfl, hb⟩; obtain ⟨hc, hf, hz⟩ := bcall hb; (try simp at hc hf hz)) | (go_at_call 42; (with_reducible refine (refMirrored_bad a b c d _ H.out).mono ?_); rintro e w1 ⟨rfl, hb⟩; obtain ⟨hc, hf, hz⟩ := bcall hb; (try simp at hc hf hz)) | (go_at_call 22; (with_reducible refine (awake_any _).mono ?_); rintro e w1 ⟨rfl, hb⟩; obtain ⟨hc, hf, hz⟩ := bcall hb; (try simp at hc hf hz)))
  go_ret
  refine ⟨by simp, ?_⟩
  (repeat' (first | (with_reducible exact Below.refl _ _) | (with_reducible refine Below.setCell ?_ (by first | omega | (simp; done) | (simp; omega)) _) | (with_reducible refine Below.alloc ?_ (by first | omega | (simp; done) | (simp; omega)) _) | (with_reducible refine Below.drew ?_) | (with_reducible refine below_drewN ?_ _) | (with_reducible refine Below.trans ?_ (Below.mono (by assumption) (by first | omega | (simp; done) | (simp; omega))))))

theorem cellTurns_any (a b c d q k y : Int) (w : World) :
    Calls Try.prog 9 #[.agg #[.int .i64 a, .int .i64 b, .int .i64 c, .int .i64 d], .int .i64 q, .agg #[.int .i64 k, .int .i64 y]] w fun e w' => e = .returned (.bool true) ∧ Below w.heap.size w w' := by
  by_cases h : Ok4 a b c d
  · have hq : q % 4 = 0 ∨ q % 4 = 1 ∨ q % 4 = 2 ∨ q % 4 = 3 := by omega
    by_cases r : OkR k y
    · rcases hq with hq | hq | hq | hq
      · exact cellTurns_0ok a b c d q k y w h hq r
      · exact cellTurns_1ok a b c d q k y w h hq r
      · exact cellTurns_2ok a b c d q k y w h hq r
      · exact cellTurns_3ok a b c d q k y w h hq r
    · rcases hq with hq | hq | hq | hq
      · exact cellTurns_0bad a b c d q k y w h hq r
      · exact cellTurns_1bad a b c d q k y w h hq r
      · exact cellTurns_2bad a b c d q k y w h hq r
      · exact cellTurns_3bad a b c d q k y w h hq r
  · exact cellTurns_not a b c d q k y w h
end Go.Proofs.Ytpgheijgfjpdjaa
