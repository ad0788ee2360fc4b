/- Whether rules are valid, and the rule of a step: by the reference. -/
import Derived.Test.YtloeggbndecbhaaAt
import Derived.LoopTactic
namespace Go.Proofs.Ytloeggbndecbhaa
set_option linter.unusedSimpArgs false
set_option linter.unusedVariables false
open Go.RowKit

theorem RulesAt.get {w wr : World} {b off n : Nat} {R : Nat → Int × Int} (h : RulesAt w b off n R) (hb : Below w.heap.size w wr) (hlt : b < w.heap.size) {k : Nat} (hk : k < n) :
    wr.cell? ⟨b, off + k * 2, none⟩ = some (.int .i64 ((R k).1)) ∧ wr.cell? ⟨b, off + k * 2 + 1, none⟩ = some (.int .i64 ((R k).2)) :=
  ⟨(hb.cell (p := ⟨b, off + k * 2, none⟩) hlt).trans (h k hk).1, (hb.cell (p := ⟨b, off + k * 2 + 1, none⟩) hlt).trans (h k hk).2⟩

set_option maxHeartbeats 1000000 in
theorem refValidRules_nil (ao : Option Addr) (cap : Nat) (w : World) :
    Calls Try.prog 27 #[.slice ao 0 cap] w fun e w' => e = .returned (.bool false) ∧ Below w.heap.size w w' := by
  go_enter Try.func27, Try.ntmps27
  go_wp2
  refine wp_loop_rounds 1 ?_
  rw [rounds_succ]
  go_wp2_with (go_at_call 79; (with_reducible refine (within_no _ _ _ _ (by omega)).mono ?_); rintro e w1 ⟨rfl, rfl⟩)
  go_ret
  exact ⟨rfl, Below.refl _ _⟩

set_option maxHeartbeats 2000000 in
theorem refValidRules_ok (b off len cap : Nat) (R : Nat → Int × Int) (w : World) (hk : OkRs len R) (hlt : b < w.heap.size) (hR : RulesAt w b off len R) :
    Calls Try.prog 27 #[.slice (some ⟨b, off, none⟩) len cap] w fun e w' => e = .returned (.bool true) ∧ Below w.heap.size w w' := by
  obtain ⟨h1, h8, hok⟩ := hk
  have HO := Lib.hid hok; clear hok
  have HR := Lib.hid hR; clear hR
  go_enter Try.func27, Try.ntmps27
  go_wp2
  go_loopw [3] (fun i wr => ∃ k : Nat, k ≤ len ∧ i = .int .i64 k ∧ Below w.heap.size w wr) (fun i _ => len - (intOf i).toNat)
  case atStart => exact ⟨0, Nat.zero_le _, rfl, Below.refl _ _⟩
  case round =>
    obtain ⟨k, hk, rfl, hB⟩ := hrel
    by_cases hlk : k < len
    · obtain ⟨c0, c1⟩ := HR.out.get hB hlt hlk
      have HK := Lib.hid (HO.out k hlk)
      have hs := hB.size
      go_wp2_with (go_at_call 69; (with_reducible refine (refValidRule_ok _ _ _ HK.out).mono ?_); rintro e w1 ⟨rfl, hb⟩; obtain ⟨hc, hf, hz⟩ := bcall hb; (try simp at hc hf hz))
      go_roundw
      case rel => exact ⟨k + 1, by omega, by go_num, hB.trans (hb.mono hs)⟩
      case measure => simp [intOf]; omega
    · obtain rfl : k = len := by omega
      go_wp2_with (go_at_call 79; (with_reducible refine (within_yes _ _ _ _ (by omega) (by omega)).mono ?_); rintro e w1 ⟨rfl, rfl⟩)
      go_ret
      exact ⟨rfl, hB⟩

set_option maxHeartbeats 2000000 in
theorem refValidRules_bad1 (b off len cap : Nat) (R : Nat → Int × Int) (w : World) (hm : len ≤ 1000000000000) (hk : ¬ OkRs len R) (hlt : b < w.heap.size) (hR : RulesAt w b off len R) :
    Calls Try.prog 27 #[.slice (some ⟨b, off, none⟩) len cap] w fun e w' => e = .returned (.bool false) ∧ Below w.heap.size w w' := by
  have HO := Lib.hid hk; clear hk
  have HR := Lib.hid hR; clear hR
  go_enter Try.func27, Try.ntmps27
  go_wp2
  go_loopw [3] (fun i wr => ∃ k : Nat, k ≤ len ∧ i = .int .i64 k ∧ Below w.heap.size w wr ∧ Hid (∀ i, i < k → OkR (R i).1 (R i).2)) (fun i _ => len - (intOf i).toNat)
  case atStart => exact ⟨0, Nat.zero_le _, rfl, Below.refl _ _, Lib.hid (by omega)⟩
  case round =>
    obtain ⟨k, hk, rfl, hB, HA⟩ := hrel
    by_cases hlk : k < len
    · obtain ⟨c0, c1⟩ := HR.out.get hB hlt hlk
      have hs := hB.size
      by_cases hx : OkR (R k).1 (R k).2
      · have HK := Lib.hid hx; clear hx
        go_wp2_with (go_at_call 69; (with_reducible refine (refValidRule_ok _ _ _ HK.out).mono ?_); rintro e w1 ⟨rfl, hb⟩; obtain ⟨hc, hf, hz⟩ := bcall hb; (try simp at hc hf hz))
        go_roundw
        case rel => exact ⟨k + 1, by omega, by go_num, hB.trans (hb.mono hs), Lib.hid (fun i hi => by
          by_cases e : i = k
          · subst e; exact HK.out
          · exact HA.out i (by omega))⟩
        case measure => simp [intOf]; omega
      · have HK := Lib.hid hx; clear hx
        go_wp2_with (go_at_call 69; (with_reducible refine (refValidRule_bad _ _ _ HK.out).mono ?_); rintro e w1 ⟨rfl, hb⟩; obtain ⟨hc, hf, hz⟩ := bcall hb; (try simp at hc hf hz))
        go_ret
        exact ⟨rfl, hB.trans (hb.mono hs)⟩
    · obtain rfl : len = k := by omega
      have hbad : len < 1 ∨ 8 < len := by
        by_cases h : 1 ≤ len ∧ len ≤ 8
        · exact absurd ⟨h.1, h.2, HA.out⟩ HO.out
        · omega
      clear HO HA
      go_wp2_with (go_at_call 79; (with_reducible refine (within_no _ _ _ _ (by omega)).mono ?_); rintro e w1 ⟨rfl, rfl⟩)
      go_ret
      exact ⟨rfl, hB⟩

theorem refValidRules_bad (ao : Option Addr) (len cap : Nat) (R : Nat → Int × Int) (w : World) (hm : len ≤ 1000000000000) (h : RulesIn w ao len R) (hk : ¬ OkRs len R) :
    Calls Try.prog 27 #[.slice ao len cap] w fun e w' => e = .returned (.bool false) ∧ Below w.heap.size w w' := by
  rcases h with h | ⟨b, off, rfl, hlt, hR⟩
  · subst h
    exact refValidRules_nil ao cap w
  · exact refValidRules_bad1 b off len cap R w hm hk hlt hR

set_option maxHeartbeats 1000000 in
theorem refRule_ok (b off len cap step : Nat) (R : Nat → Int × Int) (w : World) (h1 : 1 ≤ len) (h2 : len ≤ 1000000) (hs : step ≤ 4000000) (hlt : b < w.heap.size) (hR : RulesAt w b off len R) :
    Calls Try.prog 80 #[.slice (some ⟨b, off, none⟩) len cap, .int .i64 step] w fun e w' => e = .returned (.agg #[.int .i64 ((R (step % len)).1), .int .i64 ((R (step % len)).2)]) ∧ Below w.heap.size w w' := by
  obtain ⟨q, hq⟩ : ∃ q, q = step % len := ⟨_, rfl⟩
  have hql : q < len := by rw [hq]; exact Nat.mod_lt _ h1
  obtain ⟨c0, c1⟩ := hR q hql
  have e2 : (step : Int) % (len : Int) = (q : Int) := by rw [hq, Int.natCast_emod]
  rw [← hq]
  clear hq hR
  go_enter Try.func80, Try.ntmps80
  go_wp2
  refine bodyPost_ret (v := .agg #[.int .i64 ((R q).1), .int .i64 ((R q).2)]) (by simp [results, Try.results80, go_sem, ↓IntWalk.iteOmega, *]) rfl ⟨rfl, ?_⟩
  (repeat' (first | (with_reducible exact Below.refl _ _) | (with_reducible refine Below.setCell ?_ (by first | omega | (simp; done) | (simp; omega)) _) | (with_reducible refine Below.alloc ?_ (by first | omega | (simp; done) | (simp; omega)) _) | (with_reducible refine Below.drew ?_) | (with_reducible refine below_drewN ?_ _) | (with_reducible refine Below.trans ?_ (Below.mono (by assumption) (by first | omega | (simp; done) | (simp; omega))))))

theorem refValidRulesI_ok (ao : Option Addr) (len cap : Nat) (R : Nat → Int × Int) (w : World) (h : RulesIn w ao len R) (hk : OkRs len R) :
    Calls Try.prog 27 #[.slice ao len cap] w fun e w' => e = .returned (.bool true) ∧ Below w.heap.size w w' := by
  rcases h with h | ⟨b, off, rfl, hlt, hR⟩
  · have := hk.1
    omega
  · exact refValidRules_ok b off len cap R w hk hlt hR
theorem refRuleI_ok (ao : Option Addr) (len cap step : Nat) (R : Nat → Int × Int) (w : World) (h : RulesIn w ao len R) (hk : OkRs len R) (hs : step ≤ 4000000) :
    Calls Try.prog 80 #[.slice ao len cap, .int .i64 step] w fun e w' => e = .returned (.agg #[.int .i64 ((R (step % len)).1), .int .i64 ((R (step % len)).2)]) ∧ Below w.heap.size w w' := by
  have h1 := hk.1
  have h2 := hk.2.1
  rcases h with h | ⟨b, off, rfl, hlt, hR⟩
  · omega
  · exact refRule_ok b off len cap step R w h1 (by omega) hs hlt hR

set_option maxHeartbeats 1000000 in
theorem refAt_ok (ao : Option Addr) (len cap step : Nat) (R : Nat → Int × Int) (w : World) (h : RulesIn w ao len R) (hk : OkRs len R) (hs : step ≤ 1000000) :
    Calls Try.prog 25 #[.slice ao len cap, .int .i64 step] w fun e w' => e = .returned (.tuple #[.agg #[.int .i64 ((R (step % len)).1), .int .i64 ((R (step % len)).2)], .int .i64 0]) ∧ Below w.heap.size w w' := by
  have HK := Lib.hid hk; clear hk
  have H := Lib.hid h; clear h
  go_enter Try.func25, Try.ntmps25
  go_wp2_with (first | (go_at_call 27; (with_reducible refine (refValidRulesI_ok ao len cap R _ (H.out.below (by (repeat' (first | (with_reducible exact Below.refl _ _) | (with_reducible refine Below.setCell ?_ (by first | omega | (simp; done) | (simp; omega)) _) | (with_reducible refine Below.alloc ?_ (by first | omega | (simp; done) | (simp; omega)) _) | (with_reducible refine Below.drew ?_) | (with_reducible refine below_drewN ?_ _) | (with_reducible refine Below.trans ?_ (Below.mono (by assumption) (by first | omega | (simp; done) | (simp; omega)))))))) HK.out).mono ?_); rintro e w1 ⟨rfl, hb⟩; obtain ⟨hc, hf, hz⟩ := bcall hb; (try simp at hc hf hz)) | (go_at_call 79; (with_reducible refine (within_yes _ _ _ _ (by omega) (by omega)).mono ?_); rintro e w1 ⟨rfl, rfl⟩) | (go_at_call 80; (with_reducible refine (refRuleI_ok ao len cap step R _ (H.out.below (by (repeat' (first | (with_reducible exact Below.refl _ _) | (with_reducible refine Below.setCell ?_ (by first | omega | (simp; done) | (simp; omega)) _) | (with_reducible refine Below.alloc ?_ (by first | omega | (simp; done) | (simp; omega)) _) | (with_reducible refine Below.drew ?_) | (with_reducible refine below_drewN ?_ _) | (with_reducible refine Below.trans ?_ (Below.mono (by assumption) (by first | omega | (simp; done) | (simp; omega)))))))) HK.out (by omega)).mono ?_); rintro e w1 ⟨rfl, hb⟩; obtain ⟨hc, hf, hz⟩ := bcall hb; (try simp at hc hf hz)))
  refine bodyPost_ret (v := .tuple #[.agg #[.int .i64 ((R (step % len)).1), .int .i64 ((R (step % len)).2)], .int .i64 0]) (by simp [results, Try.results25, go_sem, ↓IntWalk.iteOmega, *]) rfl ⟨rfl, ?_⟩
  (repeat' (first | (with_reducible exact Below.refl _ _) | (with_reducible refine Below.setCell ?_ (by first | omega | (simp; done) | (simp; omega)) _) | (with_reducible refine Below.alloc ?_ (by first | omega | (simp; done) | (simp; omega)) _) | (with_reducible refine Below.drew ?_) | (with_reducible refine below_drewN ?_ _) | (with_reducible refine Below.trans ?_ (Below.mono (by assumption) (by first | omega | (simp; done) | (simp; omega))))))

set_option maxHeartbeats 1000000 in
theorem refAt_bad (ao : Option Addr) (len cap : Nat) (step : Int) (R : Nat → Int × Int) (w : World) (hm : len ≤ 1000000000000) (h : RulesIn w ao len R) (hk : ¬ OkRs len R) :
    Calls Try.prog 25 #[.slice ao len cap, .int .i64 step] w fun e w' => e = .returned (.tuple #[.agg #[.int .i64 0, .int .i64 0], .int .i64 1]) ∧ Below w.heap.size w w' := by
  have HK := Lib.hid hk; clear hk
  have H := Lib.hid h; clear h
  go_enter Try.func25, Try.ntmps25
  go_wp2_with (first | (go_at_call 27; (with_reducible refine (refValidRules_bad ao len cap R _ hm (H.out.below (by (repeat' (first | (with_reducible exact Below.refl _ _) | (with_reducible refine Below.setCell ?_ (by first | omega | (simp; done) | (simp; omega)) _) | (with_reducible refine Below.alloc ?_ (by first | omega | (simp; done) | (simp; omega)) _) | (with_reducible refine Below.drew ?_) | (with_reducible refine below_drewN ?_ _) | (with_reducible refine Below.trans ?_ (Below.mono (by assumption) (by first | omega | (simp; done) | (simp; omega)))))))) HK.out).mono ?_); rintro e w1 ⟨rfl, hb⟩; obtain ⟨hc, hf, hz⟩ := bcall hb; (try simp at hc hf hz)))
  refine bodyPost_ret (v := .tuple #[.agg #[.int .i64 0, .int .i64 0], .int .i64 1]) (by simp [results, Try.results25, go_sem, ↓IntWalk.iteOmega, *]) rfl ⟨rfl, ?_⟩
  (repeat' (first | (with_reducible exact Below.refl _ _) | (with_reducible refine Below.setCell ?_ (by first | omega | (simp; done) | (simp; omega)) _) | (with_reducible refine Below.alloc ?_ (by first | omega | (simp; done) | (simp; omega)) _) | (with_reducible refine Below.drew ?_) | (with_reducible refine below_drewN ?_ _) | (with_reducible refine Below.trans ?_ (Below.mono (by assumption) (by first | omega | (simp; done) | (simp; omega))))))

set_option maxHeartbeats 1000000 in
theorem refAt_range (ao : Option Addr) (len cap : Nat) (step : Int) (R : Nat → Int × Int) (w : World) (h : RulesIn w ao len R) (hk : OkRs len R) (hs : step < 0 ∨ 1000000 < step) :
    Calls Try.prog 25 #[.slice ao len cap, .int .i64 step] w fun e w' => e = .returned (.tuple #[.agg #[.int .i64 0, .int .i64 0], .int .i64 7]) ∧ Below w.heap.size w w' := by
  have HK := Lib.hid hk; clear hk
  have H := Lib.hid h; clear h
  have HS := Lib.hid hs; clear hs
  go_enter Try.func25, Try.ntmps25
  go_wp2_with (first | (go_at_call 27; (with_reducible refine (refValidRulesI_ok ao len cap R _ (H.out.below (by (repeat' (first | (with_reducible exact Below.refl _ _) | (with_reducible refine Below.setCell ?_ (by first | omega | (simp; done) | (simp; omega)) _) | (with_reducible refine Below.alloc ?_ (by first | omega | (simp; done) | (simp; omega)) _) | (with_reducible refine Below.drew ?_) | (with_reducible refine below_drewN ?_ _) | (with_reducible refine Below.trans ?_ (Below.mono (by assumption) (by first | omega | (simp; done) | (simp; omega)))))))) HK.out).mono ?_); rintro e w1 ⟨rfl, hb⟩; obtain ⟨hc, hf, hz⟩ := bcall hb; (try simp at hc hf hz)) | (go_at_call 79; (with_reducible refine (within_no _ _ _ _ HS.out).mono ?_); rintro e w1 ⟨rfl, rfl⟩))
  refine bodyPost_ret (v := .tuple #[.agg #[.int .i64 0, .int .i64 0], .int .i64 7]) (by simp [results, Try.results25, go_sem, ↓IntWalk.iteOmega, *]) rfl ⟨rfl, ?_⟩
  (repeat' (first | (with_reducible exact Below.refl _ _) | (with_reducible refine Below.setCell ?_ (by first | omega | (simp; done) | (simp; omega)) _) | (with_reducible refine Below.alloc ?_ (by first | omega | (simp; done) | (simp; omega)) _) | (with_reducible refine Below.drew ?_) | (with_reducible refine below_drewN ?_ _) | (with_reducible refine Below.trans ?_ (Below.mono (by assumption) (by first | omega | (simp; done) | (simp; omega))))))
end Go.Proofs.Ytloeggbndecbhaa
