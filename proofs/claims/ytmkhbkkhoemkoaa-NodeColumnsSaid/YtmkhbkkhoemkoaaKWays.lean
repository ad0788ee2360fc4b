/- From where particles come into each cell, and where they go: by the program. -/
import Derived.Test.YtmkhbkkhoemkoaaKOwnC
import Derived.Test.YtmkhbkkhoemkoaaKChartM
import Derived.Deep.QuietTactic
namespace Go.Proofs.Ytmkhbkkhoemkoaa
set_option linter.unusedSimpArgs false
set_option linter.unusedVariables false
open Go.RowKit

/-- What ways gives. -/
def Ways (W H n : Nat) (w : World) (e : Ending) (w' : World) : Prop :=
  ∃ f cf t ct : Nat, e = .returned (.tuple #[.slice (some ⟨f, 0, none⟩) n cf, .slice (some ⟨t, 0, none⟩) n ct]) ∧ Hid (Row w' f n (pull W H 1 idG) ∧ Row w' t n (pull W H (-1) idG)) ∧ w.heap.size ≤ f ∧ w.heap.size ≤ t ∧ Below w.heap.size w w'

set_option maxRecDepth 100000 in
set_option maxHeartbeats 8000000 in
theorem ways_any (W H n cap : Nat) (ao : Option Addr) (w : World) (s : Sides W H n) :
    Calls Try.prog 46 #[.agg #[.int .i64 W, .int .i64 H, .slice (ao) n cap]] w (Ways W H n w) := by
  have hn1 := s.n1
  have h1 := row_of s
  obtain ⟨i0, hi, hz0, hz1, hz2⟩ := info_parts info_cell
  have HS := Lib.hid s; clear s
  have HI := Lib.hid (show TopH (w.heap.size + 1) (w.alloc (.cells #[.int .i64 W, .int .i64 H, .slice ao n cap] 24)) W H 0 idG (.slice none 0 0) ((w.alloc (.cells #[.int .i64 W, .int .i64 H, .slice ao n cap] 24)).alloc (.cells #[.int .i64 W, .int .i64 H, .slice none 0 0] 24)) from
    ⟨World.ownsRow_nil _ _ _ _, Three.new1 w _ _ _ _ _, (Below.refl _ _).alloc (by simp) _⟩)
  have P2 : (w.alloc (.cells #[.int .i64 W, .int .i64 H, .slice ao n cap] 24)).cell? ⟨w.heap.size, 2, none⟩ = some (.slice ao n cap) := by simp [go_sem]
  obtain ⟨w0, hw0⟩ : ∃ w0, w0 = w.alloc (.cells #[.int .i64 W, .int .i64 H, .slice ao n cap] 24) := ⟨_, rfl⟩
  have hs0 : w0.heap.size = w.heap.size + 1 := by rw [hw0]; simp
  have B0 := Lib.hid (show Below w.heap.size w w0 from by rw [hw0]; exact (Below.refl _ w).alloc (Nat.le_refl _) _)
  go_enter Try.func46, Try.ntmps46
  go_wp2
  rw [← hw0] at HI P2
  rw [← hw0]
  clear hw0
  go_loopw [18, 5] (fun i _ wr => ∃ (k : Nat) (v : Value), k ≤ n ∧ i = .int .i64 k ∧ Hid (TopH (w.heap.size + 1) w0 W H k idG v wr)) (fun i _ _ => n - (intOf i).toNat)
  case atStart => exact ⟨0, _, Nat.zero_le _, rfl, HI⟩
  case round =>
    obtain ⟨k, v, hk, rfl, HH⟩ := hrel
    have hb := HH.out.2.2
    have t3 := HH.out.2.1
    have l3 := t3.lt
    have hsr := hb.size
    have z0 := t3.c0
    have z1 := t3.c1
    have z2 := t3.c2
    have z3 := t3.free 2
    by_cases hlk : k < n
    · have HBb := Lib.hid hb
      clear hb t3
      go_wp2_with (at_builtin; refine wpList_append_own _ rfl _ _ 22 rfl (w.heap.size + 1 + 1) 40 i0 (.agg #[.int .i64 0, .int .i64 0, .int .i64 0, .int .i64 0]) 4 32 Try.underlying22 hi hz0 hz1 hz2 rfl (by omega) _ _ _ rfl (owns_below HH.out.1 ((Below.refl _ wr).alloc (Nat.le_refl _) _)) _ 1 1 [.int .i64 k, .int .i64 k, .int .i64 k, .int .i64 k] rfl rfl (four_new _ _ _ _ _ _) (four_one _ _ _ _) (by unfold maxLen; omega) (by omega) (by simp; omega) ?_; intro v' w6 hown hgrow _; obtain ⟨ao', c', rfl⟩ := owns_form hown; have t6 := HH.out.three6 ((Below.refl _ wr).alloc (Nat.le_refl _) _) hgrow; have t7 := t6.c2; have t8 := t6.free 2; clear t6)
      go_roundw
      case rel => exact ⟨k + 1, _, by omega, by go_num, Lib.hid (HH.out.app (by omega) ((Below.refl _ wr).alloc (Nat.le_refl _) _) hown hgrow)⟩
      case measure => simp [intOf]; omega
    · obtain rfl : n = k := by omega
      obtain ⟨g, c, rfl, hrow, hgB, _, _⟩ := row_of_owned HH.out.1 h1
      have Hbw := Lib.hid (show Below w.heap.size w wr from B0.out.trans (hb.mono (by omega)))
      have SR := Lib.hid (fun wx (hx : Below wr.heap.size wr wx) => gStreamR_ok W H g 0 n c idG wx HS.out (idG_ok hn1) (Nat.lt_of_lt_of_le hrow.1 hx.size) (hrow.grd.below hx hrow.1))
      have UR := Lib.hid (fun wx (hx : Below wr.heap.size wr wx) => gUnstreamR_ok W H g 0 n c idG wx HS.out (idG_ok hn1) (Nat.lt_of_lt_of_le hrow.1 hx.size) (hrow.grd.below hx hrow.1))
      clear hb hrow t3
      go_wp2_with fail
      (go_at_call 15; (with_reducible refine (SR.out _ (by (repeat' (first | (with_reducible exact Below.refl _ _) | (with_reducible refine Below.setCell ?_ (by first | omega | (simp; done) | (simp; omega)) _) | (with_reducible refine Below.alloc ?_ (by first | omega | (simp; done) | (simp; omega)) _) | (with_reducible refine Below.drew ?_) | (with_reducible refine below_drewN ?_ _) | (with_reducible refine Below.trans ?_ (Below.mono (by assumption) (by first | omega | (simp; done) | (simp; omega)))))))).mono ?_); rintro e w5 ⟨d, cd, rfl, hrd, hld, hb⟩; have Rd := Lib.hid hrd; clear hrd; obtain ⟨hc, hf, hz⟩ := bcall hb; (try simp at hc hf hz hld))
      go_wp2_with fail
      have hA := And.intro hc (And.intro hf (And.intro hz hb))
      clear hc hf hz hb
      obtain ⟨hcA, hfA, hzA, hbA⟩ := hA
      (go_at_call 65; (with_reducible refine (UR.out _ (by (repeat' (first | (with_reducible exact Below.refl _ _) | (with_reducible refine Below.setCell ?_ (by first | omega | (simp; done) | (simp; omega)) _) | (with_reducible refine Below.alloc ?_ (by first | omega | (simp; done) | (simp; omega)) _) | (with_reducible refine Below.drew ?_) | (with_reducible refine below_drewN ?_ _) | (with_reducible refine Below.trans ?_ (Below.mono (by assumption) (by first | omega | (simp; done) | (simp; omega)))))))).mono ?_); rintro e w6 ⟨t, ct, rfl, hrt, hlt, hb⟩; have Rt := Lib.hid hrt; clear hrt; obtain ⟨hc, hf, hz⟩ := bcall hb; (try simp at hc hf hz hlt))
      go_wp2
      go_quiet (fail)
      go_wp2
      go_ret2
      have hbw := Hbw.out
      have ld := Rd.out.1
      refine ⟨d, cd, t, ct, rfl, Lib.hid ⟨?_, ?_⟩, by omega, by omega, ?_⟩
      · exact Rd.out.below (show Below w5.heap.size w5 _ from by (repeat' (first | (with_reducible exact Below.refl _ _) | (with_reducible refine Below.setCell ?_ (by first | omega | (simp; done) | (simp; omega)) _) | (with_reducible refine Below.alloc ?_ (by first | omega | (simp; done) | (simp; omega)) _) | (with_reducible refine Below.drew ?_) | (with_reducible refine below_drewN ?_ _) | (with_reducible refine Below.trans ?_ (Below.mono (by assumption) (by first | omega | (simp; done) | (simp; omega))))))) ld
      · exact Rt.out.below (show Below w6.heap.size w6 _ from by (repeat' (first | (with_reducible exact Below.refl _ _) | (with_reducible refine Below.setCell ?_ (by first | omega | (simp; done) | (simp; omega)) _) | (with_reducible refine Below.alloc ?_ (by first | omega | (simp; done) | (simp; omega)) _) | (with_reducible refine Below.drew ?_) | (with_reducible refine below_drewN ?_ _) | (with_reducible refine Below.trans ?_ (Below.mono (by assumption) (by first | omega | (simp; done) | (simp; omega))))))) Rt.out.1
      · (repeat' (first | (with_reducible exact Below.refl _ _) | (with_reducible refine Below.setCell ?_ (by first | omega | (simp; done) | (simp; omega)) _) | (with_reducible refine Below.alloc ?_ (by first | omega | (simp; done) | (simp; omega)) _) | (with_reducible refine Below.drew ?_) | (with_reducible refine below_drewN ?_ _) | (with_reducible refine Below.trans ?_ (Below.mono (by assumption) (by first | omega | (simp; done) | (simp; omega))))))
end Go.Proofs.Ytmkhbkkhoemkoaa
