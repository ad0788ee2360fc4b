/- Collisions of all cells, steps and steps back: by the reference. -/
import Derived.Test.YtnkehlankidlnaaRefG3
import Derived.Deep.CutRange
namespace Go.Proofs.Ytnkehlankidlnaa
set_option linter.unusedSimpArgs false
set_option linter.unusedVariables false
open Go.RowKit

theorem rowLt {w w' : World} {b n : Nat} {G : Nat → Nat → Int} (h : Hid (Row w b n G)) (hb : Below w.heap.size w w') : b < w'.heap.size := Nat.lt_of_lt_of_le h.out.1 hb.size
theorem rowGrd {w w' : World} {b n : Nat} {G : Nat → Nat → Int} (h : Hid (Row w b n G)) (hb : Below w.heap.size w w') : Grd w' b 0 n G := h.out.grd.below hb h.out.1
theorem Three.at {w : World} {B B' : Nat} {t : TypeId} {x y z : Value} (h : Three w B t x y z) (e : B = B') : Three w B' t x y z := e ▸ h
theorem Two.at {w : World} {B B' : Nat} {t : TypeId} {x y : Value} (h : Two w B t x y) (e : B = B') : Two w B' t x y := e ▸ h
theorem blocks3 {w wo : World} {t1 t2 t3 : TypeId} {a b c d e f g h : Value} (hb : Below (((w.alloc (.cells #[a, b, c] t1)).alloc (.cells #[d, e] t2)).alloc (.cells #[f, g, h] t3)).heap.size (((w.alloc (.cells #[a, b, c] t1)).alloc (.cells #[d, e] t2)).alloc (.cells #[f, g, h] t3)) wo) :
    Three wo w.heap.size t1 a b c ∧ Two wo (w.heap.size + 1) t2 d e ∧ Three wo (w.heap.size + 2) t3 f g h := by
  refine ⟨(Three.new3 w t1 a b c _ _).below hb (by simp; omega), Two.at (((Two.new (w.alloc (.cells #[a, b, c] t1)) t2 d e).alloc _).below hb (by simp)) (by simp), Three.at ((Three.new0 ((w.alloc (.cells #[a, b, c] t1)).alloc (.cells #[d, e] t2)) t3 f g h).below hb (by simp)) (by simp)⟩
theorem afterG (G : Nat → Nat → Int) (i : Nat) (k y : Int) (w : World) (h : Ok4 (G i 0) (G i 1) (G i 2) (G i 3)) (hr : OkR k y) :
    Calls Try.prog 51 #[.agg #[.int .i64 (G i 0), .int .i64 (G i 1), .int .i64 (G i 2), .int .i64 (G i 3)], .agg #[.int .i64 k, .int .i64 y]] w fun e w' => e = .returned (.agg #[.int .i64 (colG k y G i 0), .int .i64 (colG k y G i 1), .int .i64 (colG k y G i 2), .int .i64 (colG k y G i 3)]) ∧ Below w.heap.size w w' := by
  rw [colG0, colG1, colG2, colG3]
  exact after_ok _ _ _ _ k y w h hr

set_option maxHeartbeats 1000000 in
theorem flow1 (W H n b off cap : Nat) (G : Nat → Nat → Int) (w : World) (s : Sides W H n) (hlt : b < w.heap.size) (hG : Grd w b off n G) :
    Calls Try.prog 60 #[.agg #[.int .i64 W, .int .i64 H, .slice (some ⟨b, off, none⟩) n cap]] w (Gave W H n (pull W H 1 G) w) := by
  have D := Lib.hid (fun w' (hb : Below w.heap.size w w') => pulledF W H n b off cap G w' s (Nat.lt_of_lt_of_le hlt hb.size) (hG.below hb hlt))
  clear hG s
  go_enter Try.func60, Try.ntmps60
  go_wp2_with (go_at_call 103; (with_reducible refine (D.out _ (by (repeat' (first | (with_reducible exact Below.refl _ _) | (with_reducible refine Below.setCell ?_ (by first | omega | (simp; done) | (simp; omega)) _) | (with_reducible refine Below.alloc ?_ (by first | omega | (simp; done) | (simp; omega)) _) | (with_reducible refine Below.drew ?_) | (with_reducible refine below_drewN ?_ _) | (with_reducible refine Below.trans ?_ (Below.mono (by assumption) (by first | omega | (simp; done) | (simp; omega)))))))).mono ?_); rintro e wo ⟨o, co, rfl, ho, loo, hb⟩; have Co := Lib.hid ho; clear ho; obtain ⟨hc, hf, hz⟩ := bcall hb; (try simp at hc hf hz loo))
  have HB := Lib.hid (show Below w.heap.size w wo from by (repeat' (first | (with_reducible exact Below.refl _ _) | (with_reducible refine Below.setCell ?_ (by first | omega | (simp; done) | (simp; omega)) _) | (with_reducible refine Below.alloc ?_ (by first | omega | (simp; done) | (simp; omega)) _) | (with_reducible refine Below.drew ?_) | (with_reducible refine below_drewN ?_ _) | (with_reducible refine Below.trans ?_ (Below.mono (by assumption) (by first | omega | (simp; done) | (simp; omega)))))))
  refine bodyPost_ret (v := .agg #[.int .i64 W, .int .i64 H, .slice (some ⟨o, 0, none⟩) n co]) (by simp [results, Try.results60, go_sem, ↓IntWalk.iteOmega, *]) rfl ?_
  exact gave_pass Co.out HB.out (by omega) (by omega)

set_option maxHeartbeats 1000000 in
theorem ebb1 (W H n b off cap : Nat) (G : Nat → Nat → Int) (w : World) (s : Sides W H n) (hlt : b < w.heap.size) (hG : Grd w b off n G) :
    Calls Try.prog 62 #[.agg #[.int .i64 W, .int .i64 H, .slice (some ⟨b, off, none⟩) n cap]] w (Gave W H n (pull W H (-1) G) w) := by
  have D := Lib.hid (fun w' (hb : Below w.heap.size w w') => pulledT W H n b off cap G w' s (Nat.lt_of_lt_of_le hlt hb.size) (hG.below hb hlt))
  clear hG s
  go_enter Try.func62, Try.ntmps62
  go_wp2_with (go_at_call 103; (with_reducible refine (D.out _ (by (repeat' (first | (with_reducible exact Below.refl _ _) | (with_reducible refine Below.setCell ?_ (by first | omega | (simp; done) | (simp; omega)) _) | (with_reducible refine Below.alloc ?_ (by first | omega | (simp; done) | (simp; omega)) _) | (with_reducible refine Below.drew ?_) | (with_reducible refine below_drewN ?_ _) | (with_reducible refine Below.trans ?_ (Below.mono (by assumption) (by first | omega | (simp; done) | (simp; omega)))))))).mono ?_); rintro e wo ⟨o, co, rfl, ho, loo, hb⟩; have Co := Lib.hid ho; clear ho; obtain ⟨hc, hf, hz⟩ := bcall hb; (try simp at hc hf hz loo))
  have HB := Lib.hid (show Below w.heap.size w wo from by (repeat' (first | (with_reducible exact Below.refl _ _) | (with_reducible refine Below.setCell ?_ (by first | omega | (simp; done) | (simp; omega)) _) | (with_reducible refine Below.alloc ?_ (by first | omega | (simp; done) | (simp; omega)) _) | (with_reducible refine Below.drew ?_) | (with_reducible refine below_drewN ?_ _) | (with_reducible refine Below.trans ?_ (Below.mono (by assumption) (by first | omega | (simp; done) | (simp; omega)))))))
  refine bodyPost_ret (v := .agg #[.int .i64 W, .int .i64 H, .slice (some ⟨o, 0, none⟩) n co]) (by simp [results, Try.results62, go_sem, ↓IntWalk.iteOmega, *]) rfl ?_
  exact gave_pass Co.out HB.out (by omega) (by omega)

end Go.Proofs.Ytnkehlankidlnaa
