/- The rule of a step: by the program. -/
import Derived.Test.YtmkhbkkhoemkoaaRules
namespace Go.Proofs.Ytmkhbkkhoemkoaa
set_option linter.unusedSimpArgs false
set_option linter.unusedVariables false
open Go.RowKit Go.Shelf
attribute [local go_sem] Oper.semAt_some

/-- The last one that came. -/
def lastOf (pre : List (Int × Int)) : Int × Int := pre.getLastD (0, 0)
theorem lastOf_snoc (pre : List (Int × Int)) (x : Int × Int) : lastOf (pre ++ [x]) = x := by simp [lastOf]

set_option maxRecDepth 100000 in
set_option maxHeartbeats 4000000 in
theorem at_in (b off len cap step : Nat) (R : Nat → Int × Int) (w : World) (hk : OkRs len R) (hb : b < w.heap.size) (hR : RulesAt w b off len R) (hs : step ≤ 1000000) :
    CallsIn Fence.wide 5 Try.prog 13 #[.slice (some ⟨b, off, none⟩) len cap, .int .i64 step] w fun e w' => e = .returned (.tuple #[.agg #[.int .i64 ((R (step % len)).1), .int .i64 ((R (step % len)).2)], .int .i64 0]) ∧ Below w.heap.size w w' := by
  have HK := Lib.hid hk
  obtain ⟨hlen, hlen', _⟩ := hk
  have HR := Lib.hid (show RulesIn w (some ⟨b, off, none⟩) len R from .inr ⟨b, off, rfl, hb, hR⟩)
  have s0 : decide ((step : Int) < 0) = false := decide_eq_false (by omega)
  have s1 : decide ((1000000 : Int) < (step : Int)) = false := decide_eq_false (by omega)
  refine callsIn_of_wp_marks Try.func13 rfl trivial ?_ rfl
  simp only [Try.ntmps13, List.size_toArray, List.length_cons, List.length_nil, Nat.reduceAdd, Nat.reduceSub, Array.replicate_succ, Array.replicate_zero, List.push_toArray, List.append_toArray, List.nil_append, List.cons_append]
  gi_wp2_with (first | (refine ⟨trivial, ?_⟩; gi_at_call 24; refine (callsIn_wide.2 (validRules_ok _ _ _ R _ (by omega) ((HR.out).below ((Below.refl _ w).alloc (Nat.le_refl _) _)) HK.out)).mono ?_; rintro e w1 ⟨rfl, hb1⟩) | (refine ⟨trivial, ?_⟩; gi_at_call 25; refine (run_in _ _ _ _ _ _ _).mono ?_; rintro e w' ⟨rfl, rfl⟩))
  have hbw : Below w.heap.size w w1 := ((Below.refl _ w).alloc (Nat.le_refl _) _).trans (hb1.mono (by simp))
  have hsw : w.heap.size + 1 ≤ w1.heap.size := by have := hb1.size; simp at this; exact this
  have tRes : Two w1 w.heap.size 36 (.int .i64 0) (.int .i64 0) := (Two.new w 36 (.int .i64 0) (.int .i64 0)).below hb1 (by simp)
  have hB0 : Below w.heap.size w ((((w1.alloc (.cells #[.int .i64 0, .int .i64 0] 36)).alloc (.cells #[.slice (some ⟨b, off, none⟩) len cap] 32)).alloc (.cells #[.int .i64 step] 3)).alloc (.cells #[.int .i64 1] 3)) := (((hbw.alloc (by omega) _).alloc (by simp; omega) _).alloc (by simp; omega) _).alloc (by simp; omega) _
  have bR := (((tRes.alloc (.cells #[.int .i64 0, .int .i64 0] 36)).alloc (.cells #[.slice (some ⟨b, off, none⟩) len cap] 32)).alloc (.cells #[.int .i64 step] 3)).alloc (.cells #[.int .i64 1] 3)
  have bA := (((Two.new w1 36 (.int .i64 0) (.int .i64 0)).alloc (.cells #[.slice (some ⟨b, off, none⟩) len cap] 32)).alloc (.cells #[.int .i64 step] 3)).alloc (.cells #[.int .i64 1] 3)
  have bL := ((Boxed.new (w1.alloc (.cells #[.int .i64 0, .int .i64 0] 36)) 32 (.slice (some ⟨b, off, none⟩) len cap)).alloc (.cells #[.int .i64 step] 3)).alloc (.cells #[.int .i64 1] 3)
  have bF := (Boxed.new ((w1.alloc (.cells #[.int .i64 0, .int .i64 0] 36)).alloc (.cells #[.slice (some ⟨b, off, none⟩) len cap] 32)) 3 (.int .i64 step)).alloc (.cells #[.int .i64 1] 3)
  have bN := Boxed.new (((w1.alloc (.cells #[.int .i64 0, .int .i64 0] 36)).alloc (.cells #[.slice (some ⟨b, off, none⟩) len cap] 32)).alloc (.cells #[.int .i64 step] 3)) 3 (.int .i64 1)
  have hsz : ((((w1.alloc (.cells #[.int .i64 0, .int .i64 0] 36)).alloc (.cells #[.slice (some ⟨b, off, none⟩) len cap] 32)).alloc (.cells #[.int .i64 step] 3)).alloc (.cells #[.int .i64 1] 3)).heap.size = w1.heap.size + 4 := by simp
  simp only [World.size_alloc] at bL bF bN
  obtain ⟨W0, hW0⟩ : ∃ W0, (((w1.alloc (.cells #[.int .i64 0, .int .i64 0] 36)).alloc (.cells #[.slice (some ⟨b, off, none⟩) len cap] 32)).alloc (.cells #[.int .i64 step] 3)).alloc (.cells #[.int .i64 1] 3) = W0 := ⟨_, rfl⟩
  rw [hW0] at hB0 bR bA bL bF bN hsz ⊢
  clear hW0 tRes hb1
  refine wpIn_rangeFunc_ownH (α := Int × Int) rfl (by omega) (gf := 47) (lb := #[.pointer (some ⟨w1.heap.size + 1 + 1 + 1, 0, none⟩), .pointer (some ⟨w1.heap.size + 1, 0, none⟩), .pointer (some ⟨w1.heap.size + 1 + 1, 0, none⟩)]) rfl trivial (enters_of Try.func47 (by kernel_rfl) rfl)
    (run_stops 4 (by omega) b off len cap step 1 (w1.heap.size + 1) R W0 W0 hlen (by omega) (by omega) (by omega) (by omega) bL.cell bF.cell bN.cell (by omega) (fun i hi => ⟨(hB0.cell (p := ⟨b, off + i * 2, none⟩) hb).trans (hR i hi).1, (hB0.cell (p := ⟨b, off + i * 2 + 1, none⟩) hb).trans (hR i hi).2⟩))
    (fun h g => KB.trans h g) (kb_put (fun k hk => by rcases hk with rfl | rfl | rfl <;> omega)) (Below.refl _ _) (fun _ => rfl)
    (fun pre W => (Two W w.heap.size 36 (.int .i64 0) (.int .i64 0) ∧ Two W w1.heap.size 36 (.int .i64 ((lastOf pre).1)) (.int .i64 ((lastOf pre).2))) ∧ Below w.heap.size w W ∧ w1.heap.size + 4 ≤ W.heap.size)
    (fun _ _ _ => False)
    (OwnFrom.and (OwnFrom.and (Own.from (two_own _ _ (fun _ => .int .i64 0) (fun _ => .int .i64 0)) _) (Own.from (two_own _ _ (fun pre => .int .i64 ((lastOf pre).1)) (fun pre => .int .i64 ((lastOf pre).2))) _)) (OwnFrom.and (ownFrom_below (Nat.le_refl _) (by omega)) (ownFrom_size _ _)))
    (fun _ _ _ _ _ hs _ _ => hs)
    ⟨⟨bR, bA⟩, hB0, by omega⟩
    (fun x a' W => ∃ Bx, w1.heap.size + 3 < Bx ∧ Two W Bx 36 (.int .i64 x.1) (.int .i64 x.2) ∧ a' = { tmps := #[.slice (some ⟨b, off, none⟩) len cap, .int .i64 step, undef, undef, .pointer (some ⟨w.heap.size, 0, none⟩), .int .i64 0, .pointer (some ⟨w1.heap.size, 0, none⟩), .pointer (some ⟨Bx, 0, none⟩), .slice (some ⟨b, off, none⟩) len cap, .bool true, .bool false, undef, .int .i64 step, .bool false, .bool false, .int .i64 step, .bool false, .bool false, undef, .slice (some ⟨b, off, none⟩) len cap, .int .i64 step,
      .func (.func 47) #[] #[.pointer (some ⟨w1.heap.size + 1 + 1 + 1, 0, none⟩), .pointer (some ⟨w1.heap.size + 1, 0, none⟩), .pointer (some ⟨w1.heap.size + 1 + 1, 0, none⟩)], .agg #[.int .i64 x.1, .int .i64 x.2], undef, undef], defers := [] })
    (fun x a' _ X Y row hs hg hr => by obtain ⟨Bx, h1, h2, h3⟩ := hs; exact ⟨Bx, h1, two_own Bx 36 (fun (_ : Unit) => .int .i64 x.1) (fun _ => .int .i64 x.2) () X Y row h2 hg (fun r e => (hr r e).2), h3⟩)
    ?assign ?body ?done ?stop
  case assign =>
    rintro l pre x W K ⟨⟨bR1, bA1⟩, hB1, hs1⟩ hK
    have hs2 := hB1.size
    gi_wp2
    exact hK _ _ ((KeepsOthers.alloc _ _).from _) ((KB.refl _ W).alloc (fun k hk => by rcases hk with rfl | rfl | rfl <;> omega) _) ⟨⟨bR1.alloc _, bA1.alloc _⟩, hB1.alloc hs2 _, by simp; omega⟩ ⟨W.heap.size, by omega, Two.new W _ _ _, rfl⟩
  case body =>
    rintro l pre x a' W _ _ ⟨⟨bR1, bA1⟩, hB1, hs1⟩ ⟨Bx, hBx, tX, rfl⟩ _
    have c0 := tX.c0
    have c1 := tX.c1
    have cA0 := bA1.c0
    have cA1 := bA1.c1
    have fA0 := bA1.f0 0
    have fA1 := bA1.f0 1
    have hs2 := hB1.size
    gi_wp2
    exact ⟨((KeepsOthers.setCell _ _ _).from _).trans ((KeepsOthers.setCell _ _ _).from _), (KB.set (by omega)).trans (KB.set (by omega)), ⟨⟨(bR1.other (by omega) 0 _).other (by omega) 1 _, by rw [lastOf_snoc]; exact bA1.set2 _ _⟩, (hB1.setCell (p := ⟨w1.heap.size, 0, none⟩) (show w.heap.size ≤ w1.heap.size by omega) _).setCell (p := ⟨w1.heap.size, 1, none⟩) (show w.heap.size ≤ w1.heap.size by omega) _, by simp [World.setCell]; exact hs1⟩⟩
  case done =>
    rintro D ys W hD rfl ⟨⟨bR1, bA1⟩, hB1, hs1⟩ hK
    have e1 : lastOf (upto (fun j => R ((step + j) % len)) 1) = R (step % len) := by simp [upto, lastOf]
    rw [e1] at bA1
    clear e1
    have cA0 := bA1.c0
    have cA1 := bA1.c1
    have cR0 := bR1.c0
    have cR1 := bR1.c1
    have fR0 := bR1.f0 0
    have fR1 := bR1.f0 1
    gi_wp2
    have hK1 := (KeepsOthers.setCell W ⟨w.heap.size, 0, none⟩ (.int .i64 ((R (step % len)).1))).same D _ hK rfl
    have hK' := (KeepsOthers.setCell (W.setCell ⟨w.heap.size, 0, none⟩ (.int .i64 ((R (step % len)).1))) ⟨w.heap.size, 1, none⟩ (.int .i64 ((R (step % len)).2))).same D _ hK1 rfl
    refine ⟨by simp, .inl ⟨_, _, rfl, run_takeDeferred hK', ?_⟩⟩
    have t2 := (bR1.set2 (.int .i64 ((R (step % len)).1)) (.int .i64 ((R (step % len)).2))).kept (grownBy_putObj' _ D (.deferred none)) (fun e => by cases e; have := (show _ = some (Obj.cells _ _ _) from bR1.set2 (.int .i64 ((R (step % len)).1)) (.int .i64 ((R (step % len)).2))).symm.trans hK'; cases this)
    have hc0 := t2.c0
    have hc1 := t2.c1
    refine ⟨.tuple #[.agg #[.int .i64 ((R (step % len)).1), .int .i64 ((R (step % len)).2)], .int .i64 0], by simp [results, Try.results13, go_sem, hc0, hc1], rfl, ((hB1.setCell (p := ⟨w.heap.size, 0, none⟩) (Nat.le_refl _) _).setCell (p := ⟨w.heap.size, 1, none⟩) (Nat.le_refl _) _).trans (belowK_b (w := w) (Nat.le_refl _) _ D _ _ (by omega) hK' rfl rfl)⟩
  case stop =>
    rintro D c pre W _ _ h _
    exact h.elim

theorem at_ok (ao : Option Addr) (len cap : Nat) (step : Int) (R : Nat → Int × Int) (w : World) (h : RulesIn w ao len R) (hk : OkRs len R) (h0 : 0 ≤ step) (h1 : step ≤ 1000000) :
    Calls Try.prog 13 #[.slice ao len cap, .int .i64 step] w fun e w' => e = .returned (.tuple #[.agg #[.int .i64 ((R (step.toNat % len)).1), .int .i64 ((R (step.toNat % len)).2)], .int .i64 0]) ∧ Below w.heap.size w w' := by
  obtain ⟨s, rfl⟩ := Int.eq_ofNat_of_zero_le h0
  rcases h with h | ⟨b, off, rfl, hlt, hR⟩
  · have := hk.1
    omega
  · exact callsIn_wide.1 (at_in b off len cap s R w hk hlt hR (by omega))

set_option maxHeartbeats 1000000 in
theorem at_bad (ao : Option Addr) (len cap : Nat) (step : Int) (R : Nat → Int × Int) (w : World) (hm : len ≤ 1000000000000) (h : RulesIn w ao len R) (hk : ¬ OkRs len R) :
    Calls Try.prog 13 #[.slice ao len cap, .int .i64 step] w fun e w' => e = .returned (.tuple #[.agg #[.int .i64 0, .int .i64 0], .int .i64 1]) ∧ Below w.heap.size w w' := by
  have H := Lib.hid h; clear h
  have K := Lib.hid hk; clear hk
  go_enter Try.func13, Try.ntmps13
  go_wp2_with (go_at_call 24; (with_reducible refine (validRules_bad ao len cap R _ hm (H.out.below ((Below.refl _ w).alloc (Nat.le_refl _) _)) K.out).mono ?_); rintro e w1 ⟨rfl, hb⟩; obtain ⟨hc, hf, hz⟩ := bcall hb; (try simp at hc hf hz))
  refine bodyPost_ret (v := .tuple #[.agg #[.int .i64 0, .int .i64 0], .int .i64 1]) (by simp [results, Try.results13, go_sem, ↓IntWalk.iteOmega, *]) rfl ⟨rfl, ?_⟩
  (repeat' (first | (with_reducible exact Below.refl _ _) | (with_reducible refine Below.setCell ?_ (by first | omega | (simp; done) | (simp; omega)) _) | (with_reducible refine Below.alloc ?_ (by first | omega | (simp; done) | (simp; omega)) _) | (with_reducible refine Below.drew ?_) | (with_reducible refine below_drewN ?_ _) | (with_reducible refine Below.trans ?_ (Below.mono (by assumption) (by first | omega | (simp; done) | (simp; omega))))))

set_option maxHeartbeats 1000000 in
theorem at_range (ao : Option Addr) (len cap : Nat) (step : Int) (R : Nat → Int × Int) (w : World) (hm : len ≤ 1000000000000) (h : RulesIn w ao len R) (hk : OkRs len R) (hs : step < 0 ∨ 1000000 < step) :
    Calls Try.prog 13 #[.slice ao len cap, .int .i64 step] w fun e w' => e = .returned (.tuple #[.agg #[.int .i64 0, .int .i64 0], .int .i64 7]) ∧ Below w.heap.size w w' := by
  have H := Lib.hid h; clear h
  have K := Lib.hid hk; clear hk
  rcases hs with hs | hs
  · go_enter Try.func13, Try.ntmps13
    go_wp2_with (go_at_call 24; (with_reducible refine (validRules_ok ao len cap R _ hm (H.out.below ((Below.refl _ w).alloc (Nat.le_refl _) _)) K.out).mono ?_); rintro e w1 ⟨rfl, hb⟩; obtain ⟨hc, hf, hz⟩ := bcall hb; (try simp at hc hf hz))
    refine bodyPost_ret (v := .tuple #[.agg #[.int .i64 0, .int .i64 0], .int .i64 7]) (by simp [results, Try.results13, go_sem, ↓IntWalk.iteOmega, *]) rfl ⟨rfl, ?_⟩
    (repeat' (first | (with_reducible exact Below.refl _ _) | (with_reducible refine Below.setCell ?_ (by first | omega | (simp; done) | (simp; omega)) _) | (with_reducible refine Below.alloc ?_ (by first | omega | (simp; done) | (simp; omega)) _) | (with_reducible refine Below.drew ?_) | (with_reducible refine below_drewN ?_ _) | (with_reducible refine Below.trans ?_ (Below.mono (by assumption) (by first | omega | (simp; done) | (simp; omega))))))
  · have hs' : ¬ step < 0 := by omega
    go_enter Try.func13, Try.ntmps13
    go_wp2_with (go_at_call 24; (with_reducible refine (validRules_ok ao len cap R _ hm (H.out.below ((Below.refl _ w).alloc (Nat.le_refl _) _)) K.out).mono ?_); rintro e w1 ⟨rfl, hb⟩; obtain ⟨hc, hf, hz⟩ := bcall hb; (try simp at hc hf hz))
    refine bodyPost_ret (v := .tuple #[.agg #[.int .i64 0, .int .i64 0], .int .i64 7]) (by simp [results, Try.results13, go_sem, ↓IntWalk.iteOmega, *]) rfl ⟨rfl, ?_⟩
    (repeat' (first | (with_reducible exact Below.refl _ _) | (with_reducible refine Below.setCell ?_ (by first | omega | (simp; done) | (simp; omega)) _) | (with_reducible refine Below.alloc ?_ (by first | omega | (simp; done) | (simp; omega)) _) | (with_reducible refine Below.drew ?_) | (with_reducible refine below_drewN ?_ _) | (with_reducible refine Below.trans ?_ (Below.mono (by assumption) (by first | omega | (simp; done) | (simp; omega))))))
end Go.Proofs.Ytmkhbkkhoemkoaa
