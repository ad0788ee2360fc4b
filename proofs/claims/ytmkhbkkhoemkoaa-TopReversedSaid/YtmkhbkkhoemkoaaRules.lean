/- Whether rules are valid, and the rule of a step: by the program and by the reference. -/
import Derived.Test.YtmkhbkkhoemkoaaRun
namespace Go.Proofs.Ytmkhbkkhoemkoaa
set_option linter.unusedSimpArgs false
set_option linter.unusedVariables false
open Go.RowKit Go.Shelf
attribute [local go_sem] Oper.semAt_some

/-- One to eight rules, all of them valid. -/
def OkRs (n : Nat) (R : Nat → Int × Int) : Prop := 1 ≤ n ∧ n ≤ 8 ∧ ∀ i, i < n → OkR (R i).1 (R i).2

/-- A block of two cells. -/
def Two (W : World) (B : Nat) (t : TypeId) (x y : Value) : Prop := W.heap[B]? = some (.cells #[x, y] t (0, 0))
theorem Two.lt {W : World} {B : Nat} {t : TypeId} {x y : Value} (h : Two W B t x y) : B < W.heap.size := (Array.getElem?_eq_some_iff.1 h).1
theorem Two.c0 {W : World} {B : Nat} {t : TypeId} {x y : Value} (h : Two W B t x y) : W.cell? ⟨B, 0, none⟩ = some x := by simp [World.cell?, show W.heap[B]? = _ from h]
theorem Two.c1 {W : World} {B : Nat} {t : TypeId} {x y : Value} (h : Two W B t x y) : W.cell? ⟨B, 1, none⟩ = some y := by simp [World.cell?, show W.heap[B]? = _ from h]
theorem Two.f0 {W : World} {B : Nat} {t : TypeId} {x y : Value} (h : Two W B t x y) (i : Nat) : W.frozen? ⟨B, i, none⟩ = false := by simp [World.frozen?, show W.heap[B]? = _ from h]
theorem Two.new (W : World) (t : TypeId) (x y : Value) : Two (W.alloc (.cells #[x, y] t)) W.heap.size t x y := World.alloc_heap_new W _
theorem Two.kept {W W' : World} {row : Option Nat} {B : Nat} {t : TypeId} {x y : Value} (h : Two W B t x y) (hg : W.grownBy W' row) (hne : some B ≠ row) : Two W' B t x y := (hg.block B h.lt hne).trans h
theorem Two.alloc {W : World} {B : Nat} {t : TypeId} {x y : Value} (h : Two W B t x y) (o : Obj) : Two (W.alloc o) B t x y := h.kept (World.grownBy_alloc W o none) (by simp)
theorem Two.below {n : Nat} {W W' : World} {B : Nat} {t : TypeId} {x y : Value} (h : Two W B t x y) (hb : Below n W W') (hB : B < n) : Two W' B t x y := (hb.block B hB).trans h
theorem Two.set2 {W : World} {B : Nat} {t : TypeId} {x y : Value} (h : Two W B t x y) (u v : Value) : Two ((W.setCell ⟨B, 0, none⟩ u).setCell ⟨B, 1, none⟩ v) B t u v := by
  unfold Two at *
  simp only [World.setCell, Array.getElem?_modify, ↓reduceIte, h, Option.map_some]
  rfl
theorem Two.other {W : World} {B B' : Nat} {t : TypeId} {x y : Value} (h : Two W B t x y) (hne : B ≠ B') (i : Nat) (u : Value) : Two (W.setCell ⟨B', i, none⟩ u) B t x y := (Below.heap_setCell W ⟨B', i, none⟩ u B hne).trans h
theorem two_own {β : Type} (B : Nat) (t : TypeId) (f g : β → Value) : Own (fun s W => Two W B t (f s) (g s)) := fun s X Y row hs hg hrow =>
  hs.kept hg (fun e' => by obtain ⟨o, ho, hc⟩ := hrow B e'.symm; rw [show X.heap[B]? = _ from hs] at ho; cases ho; cases hc)

theorem run_in (n : Nat) (ao : Option Addr) (len cap : Nat) (first cnt : Int) (w : World) :
    CallsIn Fence.wide n Try.prog 25 #[.slice ao len cap, .int .i64 first, .int .i64 cnt] w fun e w' => e = .returned (.func (.func 47) #[] #[.pointer (some ⟨w.heap.size + 1 + 1, 0, none⟩), .pointer (some ⟨w.heap.size, 0, none⟩), .pointer (some ⟨w.heap.size + 1, 0, none⟩)]) ∧
      w' = ((w.alloc (.cells #[.slice ao len cap] 32)).alloc (.cells #[.int .i64 first] 3)).alloc (.cells #[.int .i64 cnt] 3) := by
  refine callsIn_of_wp Try.func25 rfl trivial ?_ rfl
  simp only [Try.ntmps25, List.size_toArray, List.length_cons, List.length_nil, Nat.reduceAdd, Nat.reduceSub, Array.replicate_succ, Array.replicate_zero, List.push_toArray, List.append_toArray, List.nil_append, List.cons_append]
  gi_wp2
  go_ret
  exact ⟨rfl, rfl⟩

/-- What a run of rules has kept, in the world behind it. -/
theorem run_stops (n : Nat) (hn : 1 ≤ n) (b off len cap first cnt m : Nat) (R : Nat → Int × Int) (w W : World) (hlen : 1 ≤ len) (hlen' : len ≤ 1000) (hfirst : first ≤ 4000000) (hcnt : cnt ≤ 4000000) (hb : b < m)
    (hc0 : w.cell? ⟨m, 0, none⟩ = some (.slice (some ⟨b, off, none⟩) len cap)) (hc1 : w.cell? ⟨m + 1, 0, none⟩ = some (.int .i64 first)) (hc2 : w.cell? ⟨m + 1 + 1, 0, none⟩ = some (.int .i64 cnt)) (hm : m + 1 + 1 < w.heap.size) (hR : RulesAt w b off len R) :
    SeqStopsK Fence.wide n Try.prog 47 #[.pointer (some ⟨m + 1 + 1, 0, none⟩), .pointer (some ⟨m, 0, none⟩), .pointer (some ⟨m + 1, 0, none⟩)] (fun x : Int × Int => #[.agg #[.int .i64 x.1, .int .i64 x.2]]) (KB (fun k => k = b ∨ k = m ∨ k = m + 1))
      (fun ys => ys = upto (fun j => R ((first + j) % len)) cnt) (fun pre => ∃ k, k ≤ cnt ∧ pre = upto (fun j => R ((first + j) % len)) k) cnt w := fun l J Jx W' hW hJ hJx hY h0 =>
  run1_in n hn l (m + 1 + 1) m (m + 1) b off len cap first cnt R (fun k => k = b ∨ k = m ∨ k = m + 1) (.inr (.inl rfl)) (.inr (.inr rfl)) (.inl rfl) hlen hlen' hfirst hcnt J Jx W' hJ hY
    ((hW.cell (p := ⟨m + 1 + 1, 0, none⟩) hm).trans hc2) ((hW.cell (p := ⟨m, 0, none⟩) (show m < w.heap.size by omega)).trans hc0) ((hW.cell (p := ⟨m + 1, 0, none⟩) (show m + 1 < w.heap.size by omega)).trans hc1)
    (fun i hi => ⟨(hW.cell (p := ⟨b, off + i * 2, none⟩) (show b < w.heap.size by omega)).trans (hR i hi).1, (hW.cell (p := ⟨b, off + i * 2 + 1, none⟩) (show b < w.heap.size by omega)).trans (hR i hi).2⟩) h0

theorem keepsFrom_of_below {B : Nat} {W W' : World} (h : Below W.heap.size W W') : KeepsFrom B W W' :=
  ⟨h.size, fun k o _ hk _ => (h.block k (Array.getElem?_eq_some_iff.1 hk).1).trans hk⟩

theorem ownFrom_size {β : Type} (B m : Nat) : OwnFrom B (fun (_ : β) W => m ≤ W.heap.size) := fun _ _ _ _ hs hg _ => Nat.le_trans hs hg.size

def AllOk (len : Nat) (R : Nat → Int × Int) (bb : Bool) : Prop := bb = true ↔ ∀ i, i < len → OkR (R i).1 (R i).2
def Ans (len : Nat) (R : Nat → Int × Int) (w : World) (e : Ending) (w' : World) : Prop := ∃ bb : Bool, e = .returned (.bool bb) ∧ AllOk len R bb ∧ Below w.heap.size w w'

set_option maxRecDepth 100000 in
set_option maxHeartbeats 4000000 in
theorem validRules_in (b off len cap : Nat) (R : Nat → Int × Int) (w : World) (hlen : 1 ≤ len) (hlen' : len ≤ 8) (hb : b < w.heap.size) (hR : RulesAt w b off len R) :
    CallsIn Fence.wide 5 Try.prog 24 #[.slice (some ⟨b, off, none⟩) len cap] w (Ans len R w) := by
  have d1 : decide ((len : Int) < 1) = false := by simp; omega
  have d2 : decide ((8 : Int) < (len : Int)) = false := by simp; omega
  refine callsIn_of_wp_marks Try.func24 rfl trivial ?_ rfl
  simp only [Try.ntmps24, List.size_toArray, List.length_cons, List.length_nil, Nat.reduceAdd, Nat.reduceSub, Array.replicate_succ, Array.replicate_zero, List.push_toArray, List.append_toArray, List.nil_append, List.cons_append]
  gi_wp2_with (refine ⟨trivial, ?_⟩; gi_at_call 25; refine (run_in _ _ _ _ _ _ _).mono ?_; rintro e w' ⟨rfl, rfl⟩)
  have hB0 : Below w.heap.size w ((((w.alloc (.cells #[.bool false] 4)).alloc (.cells #[.slice (some ⟨b, off, none⟩) len cap] 32)).alloc (.cells #[.int .i64 0] 3)).alloc (.cells #[.int .i64 len] 3)) := ((((Below.refl _ w).alloc (Nat.le_refl _) _).alloc (by simp) _).alloc (by simp; omega) _).alloc (by simp; omega) _
  have bR := ((((Boxed.new w 4 (.bool false)).alloc (.cells #[.slice (some ⟨b, off, none⟩) len cap] 32)).alloc (.cells #[.int .i64 0] 3)).alloc (.cells #[.int .i64 len] 3))
  have bL := ((Boxed.new (w.alloc (.cells #[.bool false] 4)) 32 (.slice (some ⟨b, off, none⟩) len cap)).alloc (.cells #[.int .i64 0] 3)).alloc (.cells #[.int .i64 len] 3)
  have bF := (Boxed.new ((w.alloc (.cells #[.bool false] 4)).alloc (.cells #[.slice (some ⟨b, off, none⟩) len cap] 32)) 3 (.int .i64 0)).alloc (.cells #[.int .i64 len] 3)
  have bN := Boxed.new (((w.alloc (.cells #[.bool false] 4)).alloc (.cells #[.slice (some ⟨b, off, none⟩) len cap] 32)).alloc (.cells #[.int .i64 0] 3)) 3 (.int .i64 len)
  have hsz : ((((w.alloc (.cells #[.bool false] 4)).alloc (.cells #[.slice (some ⟨b, off, none⟩) len cap] 32)).alloc (.cells #[.int .i64 0] 3)).alloc (.cells #[.int .i64 len] 3)).heap.size = w.heap.size + 4 := by simp
  simp only [World.size_alloc] at bL bF bN
  obtain ⟨W0, hW0⟩ : ∃ W0, (((w.alloc (.cells #[.bool false] 4)).alloc (.cells #[.slice (some ⟨b, off, none⟩) len cap] 32)).alloc (.cells #[.int .i64 0] 3)).alloc (.cells #[.int .i64 len] 3) = W0 := ⟨_, rfl⟩
  rw [hW0] at hB0 bR bL bF bN hsz ⊢
  clear hW0
  refine wpIn_rangeFunc_ownH (α := Int × Int) rfl (by omega) (gf := 47) (lb := #[.pointer (some ⟨w.heap.size + 1 + 1 + 1, 0, none⟩), .pointer (some ⟨w.heap.size + 1, 0, none⟩), .pointer (some ⟨w.heap.size + 1 + 1, 0, none⟩)]) rfl trivial (enters_of Try.func47 (by kernel_rfl) rfl)
    (run_stops 4 (by omega) b off len cap 0 len (w.heap.size + 1) R W0 W0 hlen (by omega) (by omega) (by omega) (by omega) bL.cell bF.cell bN.cell (by omega) (fun i hi => ⟨(hB0.cell (p := ⟨b, off + i * 2, none⟩) hb).trans (hR i hi).1, (hB0.cell (p := ⟨b, off + i * 2 + 1, none⟩) hb).trans (hR i hi).2⟩))
    (fun h g => KB.trans h g) (kb_put (fun k hk => by rcases hk with rfl | rfl | rfl <;> omega)) (Below.refl _ _) (fun _ => rfl)
    (fun pre W => ((∀ p ∈ pre, OkR p.1 p.2) ∧ Boxed W w.heap.size 4 (.bool false)) ∧ Below w.heap.size w W ∧ w.heap.size + 4 ≤ W.heap.size)
    (fun c pre W => ((c = .ret ∧ ∃ p ∈ pre, ¬ OkR p.1 p.2) ∧ Boxed W w.heap.size 4 (.bool false)) ∧ Below w.heap.size w W ∧ w.heap.size + 4 ≤ W.heap.size)
    (OwnFrom.and (OwnFrom.and (ownFrom_pure _ _) (Own.from (boxed_own _ _ _) _)) (OwnFrom.and (ownFrom_below (Nat.le_refl _) (by omega)) (ownFrom_size _ _)))
    (fun c => OwnFrom.and (OwnFrom.and (ownFrom_pure _ _) (Own.from (boxed_own _ _ _) _)) (OwnFrom.and (ownFrom_below (Nat.le_refl _) (by omega)) (ownFrom_size _ _)))
    ⟨⟨by simp, bR⟩, hB0, by omega⟩
    (fun x a' W => ∃ Bx, w.heap.size + 3 < Bx ∧ Two W Bx 36 (.int .i64 x.1) (.int .i64 x.2) ∧ a' = { tmps := #[.slice (some ⟨b, off, none⟩) len cap, undef, .pointer (some ⟨w.heap.size, 0, none⟩), .pointer (some ⟨Bx, 0, none⟩), .slice (some ⟨b, off, none⟩) len cap, .int .i64 len, .bool false, .bool false, .slice (some ⟨b, off, none⟩) len cap, .int .i64 len, .bool false, .bool false, .slice (some ⟨b, off, none⟩) len cap, .slice (some ⟨b, off, none⟩) len cap, .int .i64 len,
      .func (.func 47) #[] #[.pointer (some ⟨w.heap.size + 1 + 1 + 1, 0, none⟩), .pointer (some ⟨w.heap.size + 1, 0, none⟩), .pointer (some ⟨w.heap.size + 1 + 1, 0, none⟩)], .agg #[.int .i64 x.1, .int .i64 x.2], undef, undef, undef], defers := [] })
    (fun x a' _ X Y row hs hg hr => by obtain ⟨Bx, h1, h2, h3⟩ := hs; exact ⟨Bx, h1, two_own Bx 36 (fun (_ : Unit) => .int .i64 x.1) (fun _ => .int .i64 x.2) () X Y row h2 hg (fun r e => (hr r e).2), h3⟩)
    ?assign ?body ?done ?stop
  case assign =>
    rintro l pre x W K ⟨⟨hp, bR1⟩, hB1, hs1⟩ hK
    have hs2 := hB1.size
    gi_wp2
    exact hK _ _ ((KeepsOthers.alloc _ _).from _) ((KB.refl _ W).alloc (fun k hk => by rcases hk with rfl | rfl | rfl <;> omega) _) ⟨⟨hp, bR1.alloc _⟩, hB1.alloc hs2 _, by simp; omega⟩ ⟨W.heap.size, by omega, Two.new W _ _ _, rfl⟩
  case body =>
    rintro l pre x a' W _ _ ⟨⟨hp, bR1⟩, hB1, hs1⟩ ⟨Bx, hBx, tX, rfl⟩ _
    have c0 := tX.c0
    have c1 := tX.c1
    have cR := bR1.cell
    have fR := bR1.frozen
    have hlB := bR1.lt
    have hs2 := hB1.size
    by_cases hx : OkR x.1 x.2
    · have HX := Lib.hid hx
      clear hx
      gi_wp2_with (refine ⟨trivial, ?_⟩; gi_at_call 27; refine (CallsIn.inRound l (callsIn_wide.2 (validRule_ok _ _ _ HX.out))).mono ?_; rintro e w' ⟨rfl, hb⟩)
      exact ⟨keepsFrom_of_below hb, KB.of_below hb (fun k hk => by rcases hk with rfl | rfl | rfl <;> omega), ⟨⟨fun p hp' => (List.mem_append.1 hp').elim (hp p) (fun e => by simp at e; subst e; exact HX.out), (hb.block _ hlB).trans bR1⟩, hB1.trans (hb.mono hs2), Nat.le_trans hs1 hb.size⟩⟩
    · have HX := Lib.hid hx
      clear hx
      gi_wp2_with (refine ⟨trivial, ?_⟩; gi_at_call 27; refine (CallsIn.inRound l (callsIn_wide.2 (validRule_bad _ _ _ HX.out))).mono ?_; rintro e w' ⟨rfl, hb⟩; have cR' := (hb.cell (p := ⟨w.heap.size, 0, none⟩) hlB).trans cR; have fR' := (hb.frozen (p := ⟨w.heap.size, 0, none⟩) hlB).trans fR)
      exact ⟨(keepsFrom_of_below hb).trans ((KeepsOthers.setCell _ _ _).from _), ⟨⟨rfl, x, List.mem_append.2 (.inr (by simp)), HX.out⟩, Boxed.set _ ((hb.block _ hlB).trans bR1)⟩, (hB1.trans (hb.mono hs2)).setCell (p := ⟨w.heap.size, 0, none⟩) (Nat.le_refl _) _, Nat.le_trans hs1 (Nat.le_trans hb.size (by simp [World.setCell]))⟩
  case done =>
    rintro D ys W hD rfl ⟨⟨hp, bR1⟩, hB1, hs1⟩ hK
    have cR := bR1.cell
    have fR := bR1.frozen
    gi_wp2
    have hK' := (KeepsOthers.setCell W ⟨w.heap.size, 0, none⟩ (.bool true)).same D _ hK rfl
    refine ⟨by simp, .inl ⟨_, _, rfl, run_takeDeferred hK', ?_⟩⟩
    have hc5 := cell_kept (World.cell?_setCell_same' W ⟨w.heap.size, 0, none⟩ (.bool true) (by rw [cR]; rfl)) (grownBy_putObj' _ D (.deferred none)) (fun r e => by cases e; exact ⟨_, hK', rfl⟩)
    refine ⟨.bool true, by simp [results, Try.results24, go_sem, hc5], true, rfl, ⟨fun _ i hi => hp (R i) ?_, fun _ => rfl⟩, (hB1.setCell (p := ⟨w.heap.size, 0, none⟩) (Nat.le_refl _) _).trans (belowK_b (w := w) (Nat.le_refl _) _ D _ _ (by omega) hK' rfl rfl)⟩
    simp only [upto, List.mem_map, List.mem_range]
    exact ⟨i, hi, by rw [Nat.zero_add, Nat.mod_eq_of_lt hi]⟩
  case stop =>
    rintro D c pre W hD ⟨k, hk, rfl⟩ ⟨⟨⟨rfl, p, hp, hbad⟩, bR1⟩, hB1, hs1⟩ hK
    have cR := bR1.cell
    gi_wp2
    refine ⟨by simp, .inl ⟨_, _, rfl, run_takeDeferred hK, ?_⟩⟩
    have hc5 := cell_kept cR (grownBy_putObj' _ D (.deferred none)) (fun r e => by cases e; exact ⟨_, hK, rfl⟩)
    refine ⟨.bool false, by simp [results, Try.results24, go_sem, hc5], false, rfl, ⟨fun h => by simp at h, fun h => ?_⟩, hB1.trans (belowK_b (w := w) (Nat.le_refl _) _ D _ _ (by omega) hK rfl rfl)⟩
    simp only [upto, List.mem_map, List.mem_range] at hp
    obtain ⟨j, hj, rfl⟩ := hp
    exact absurd (h ((0 + j) % len) (Nat.mod_lt _ hlen)) hbad

/-- Rules of an argument: where there is one it lies in memory. -/
def RulesIn (w : World) (ao : Option Addr) (n : Nat) (R : Nat → Int × Int) : Prop := n = 0 ∨ ∃ b off, ao = some ⟨b, off, none⟩ ∧ b < w.heap.size ∧ RulesAt w b off n R
theorem RulesIn.below {w w' : World} {ao : Option Addr} {n : Nat} {R : Nat → Int × Int} (h : RulesIn w ao n R) (hb : Below w.heap.size w w') : RulesIn w' ao n R := by
  rcases h with h | ⟨b, off, rfl, hlt, hR⟩
  · exact .inl h
  · exact .inr ⟨b, off, rfl, Nat.lt_of_lt_of_le hlt hb.size, fun i hi => ⟨(hb.cell (p := ⟨b, off + i * 2, none⟩) hlt).trans (hR i hi).1, (hb.cell (p := ⟨b, off + i * 2 + 1, none⟩) hlt).trans (hR i hi).2⟩⟩

set_option maxHeartbeats 1000000 in
theorem validRules_few (ao : Option Addr) (len cap : Nat) (w : World) (h : len < 1 ∨ 8 < len) (hm : len ≤ 1000000000000) :
    Calls Try.prog 24 #[.slice ao len cap] w fun e w' => e = .returned (.bool false) ∧ Below w.heap.size w w' := by
  rcases h with h | h
  · obtain rfl : len = 0 := by omega
    go_enter Try.func24, Try.ntmps24
    go_wp2
    refine bodyPost_ret (v := .bool false) (by simp [results, Try.results24, go_sem, ↓IntWalk.iteOmega, *]) rfl ⟨rfl, ?_⟩
    (repeat' (first | (with_reducible exact Below.refl _ _) | (with_reducible refine Below.setCell ?_ (by first | omega | (simp; done) | (simp; omega)) _) | (with_reducible refine Below.alloc ?_ (by first | omega | (simp; done) | (simp; omega)) _) | (with_reducible refine Below.drew ?_) | (with_reducible refine below_drewN ?_ _) | (with_reducible refine Below.trans ?_ (Below.mono (by assumption) (by first | omega | (simp; done) | (simp; omega))))))
  · have h1 : ¬ ((len : Int) < 1) := by omega
    have h2 : (8 : Int) < (len : Int) := by omega
    clear h
    go_enter Try.func24, Try.ntmps24
    go_wp2
    refine bodyPost_ret (v := .bool false) (by simp [results, Try.results24, go_sem, ↓IntWalk.iteOmega, *]) rfl ⟨rfl, ?_⟩
    (repeat' (first | (with_reducible exact Below.refl _ _) | (with_reducible refine Below.setCell ?_ (by first | omega | (simp; done) | (simp; omega)) _) | (with_reducible refine Below.alloc ?_ (by first | omega | (simp; done) | (simp; omega)) _) | (with_reducible refine Below.drew ?_) | (with_reducible refine below_drewN ?_ _) | (with_reducible refine Below.trans ?_ (Below.mono (by assumption) (by first | omega | (simp; done) | (simp; omega))))))

theorem validRules_ok (ao : Option Addr) (len cap : Nat) (R : Nat → Int × Int) (w : World) (hm : len ≤ 1000000000000) (h : RulesIn w ao len R) (hk : OkRs len R) :
    Calls Try.prog 24 #[.slice ao len cap] w fun e w' => e = .returned (.bool true) ∧ Below w.heap.size w w' := by
  obtain ⟨h1, h2, h3⟩ := hk
  rcases h with h | ⟨b, off, rfl, hlt, hR⟩
  · omega
  · refine (callsIn_wide.1 (validRules_in b off len cap R w h1 h2 hlt hR)).mono fun e w' ⟨bb, he, ha, hb⟩ => ⟨?_, hb⟩
    rw [he, ha.2 h3]
theorem validRules_bad (ao : Option Addr) (len cap : Nat) (R : Nat → Int × Int) (w : World) (hm : len ≤ 1000000000000) (h : RulesIn w ao len R) (hk : ¬ OkRs len R) :
    Calls Try.prog 24 #[.slice ao len cap] w fun e w' => e = .returned (.bool false) ∧ Below w.heap.size w w' := by
  by_cases hl : len < 1 ∨ 8 < len
  · exact validRules_few ao len cap w hl hm
  · rcases h with h | ⟨b, off, rfl, hlt, hR⟩
    · omega
    · refine (callsIn_wide.1 (validRules_in b off len cap R w (by omega) (by omega) hlt hR)).mono fun e w' ⟨bb, he, ha, hb⟩ => ⟨?_, hb⟩
      cases bb with
      | true => exact absurd ⟨by omega, by omega, ha.1 rfl⟩ hk
      | false => exact he
end Go.Proofs.Ytmkhbkkhoemkoaa
