/- A machine's deed at each number of a step: by the program. -/
import Derived.Test.YtmkhbkkhoemkoaaPeriod
namespace Go.Proofs.Ytmkhbkkhoemkoaa
set_option linter.unusedSimpArgs false
set_option linter.unusedVariables false
open Go.RowKit Go.Shelf
attribute [local go_sem] Oper.semAt_some

/-- One step by the rules, and one step back. -/
def fwd (W H len : Nat) (R : Nat → Int × Int) (t : Nat) (G : Nat → Nat → Int) : Nat → Nat → Int := pull W H 1 (colG (R (t % len)).1 (R (t % len)).2 G)
def bwd (W H len : Nat) (R : Nat → Int × Int) (t : Nat) (G : Nat → Nat → Int) : Nat → Nat → Int := colG (R (t % len)).1 (-(R (t % len)).2) (pull W H (-1) G)
theorem okG_fwd {W H n len : Nat} {R : Nat → Int × Int} {t : Nat} {G : Nat → Nat → Int} (hn : n = W * H) (h : OkG n G) : OkG n (fwd W H len R t G) := okG_pull hn (okG_col h)
theorem okG_bwd {W H n len : Nat} {R : Nat → Int × Int} {t : Nat} {G : Nat → Nat → Int} (hn : n = W * H) (h : OkG n G) : OkG n (bwd W H len R t G) := okG_col (okG_pull hn h)
def foldG (F : Nat → (Nat → Nat → Int) → (Nat → Nat → Int)) (l : List Stp) (G : Nat → Nat → Int) : Nat → Nat → Int := l.foldl (fun K t => F t.1 K) G
theorem foldG_snoc (F : Nat → (Nat → Nat → Int) → (Nat → Nat → Int)) (l : List Stp) (x : Stp) (G : Nat → Nat → Int) : foldG F (l ++ [x]) G = F x.1 (foldG F l G) := by simp [foldG]
theorem okG_fold {n : Nat} {F : Nat → (Nat → Nat → Int) → (Nat → Nat → Int)} (hF : ∀ t K, OkG n K → OkG n (F t K)) (l : List Stp) {G : Nat → Nat → Int} (h : OkG n G) : OkG n (foldG F l G) := by
  induction l generalizing G with
  | nil => exact h
  | cons x l ih => exact ih (hF _ _ h)

theorem ex_own {β : Type} {Bd : Nat} {S : Nat → Prop} {w : World} (hB : w.heap.size ≤ Bd) : OwnFrom Bd (fun (_ : β) W => Ex S w W) := fun s X Y row hs hg hr =>
  ⟨hg.os.trans hs.os, hg.tape.trans hs.tape, hg.output.trans hs.output, Nat.le_trans hs.size hg.size, fun k hk hn => (hg.block k (Nat.lt_of_lt_of_le hk hs.size) (fun e => by have := (hr k e.symm).1; omega)).trans (hs.block k hk hn)⟩

set_option maxRecDepth 100000 in
set_option maxHeartbeats 4000000 in
theorem do_step (m W H n rb ro len rc B U cnt s8 : Nat) (first by' : Int) (f : Nat → Stp) (R : Nat → Int × Int) (G : Nat → Nat → Int) (w : World) (h : MchG w m W H n rb ro len rc R G B U) (s : Sides W H n) (hG : OkG n G) (hk : OkRs len R)
    (hcnt : cnt ≤ 1000) (hf0 : -2000000 ≤ first) (hf1 : first ≤ 2000000) (hb0 : -1 ≤ by') (hb1 : by' ≤ 1) (hf : ∀ j, j < cnt → ((f j).1 : Int) = first + by' * j)
    (hU : U ≤ s8) (b0 : Boxed w s8 3 (.int .i64 first)) (b1 : Boxed w (s8 + 1) 3 (.int .i64 by')) (b2 : Boxed w (s8 + 1 + 1) 3 (.int .i64 cnt)) :
    CallsIn Fence.wide 6 Try.prog 35 #[.func (.func 36) #[.pointer (some ⟨m, 0, none⟩)] #[], .func (.func 56) #[] #[.pointer (some ⟨s8 + 1 + 1, 0, none⟩), .pointer (some ⟨s8, 0, none⟩), .pointer (some ⟨s8 + 1, 0, none⟩)]] w fun e w' =>
      e = .returned (.tuple #[]) ∧ MchG w' m W H n rb ro len rc R (foldG (fwd W H len R) (upto f cnt) G) B U ∧ Ex (fun k => B ≤ k ∧ k < U) w w' := by
  have hBU : B ≤ U := by
    obtain ⟨⟨_, _, _, _, _, _, _, _, _, _, _, q0, _, _, u0, _⟩, _⟩ := h
    omega
  refine callsIn_of_wp_marks Try.func35 rfl trivial ?_ rfl
  simp only [Try.ntmps35, List.size_toArray, List.length_cons, List.length_nil, Nat.reduceAdd, Nat.reduceSub, Array.replicate_succ, Array.replicate_zero, List.push_toArray, List.append_toArray, List.nil_append, List.cons_append]
  gi_wp2
  have l2 := b2.lt
  have bD := Boxed.new w 73 (.func (.func 36) #[.pointer (some ⟨m, 0, none⟩)] #[])
  have x4 : Below w.heap.size w (w.alloc (.cells #[.func (.func 36) #[.pointer (some ⟨m, 0, none⟩)] #[]] 73)) := (Below.refl _ w).alloc (Nat.le_refl _) _
  have hsz : (w.alloc (.cells #[.func (.func 36) #[.pointer (some ⟨m, 0, none⟩)] #[]] 73)).heap.size = w.heap.size + 1 := by simp
  obtain ⟨w4, hw4⟩ : ∃ w4, w4 = w.alloc (.cells #[.func (.func 36) #[.pointer (some ⟨m, 0, none⟩)] #[]] 73) := ⟨_, rfl⟩
  rw [← hw4] at bD x4 hsz ⊢
  clear hw4
  have c0 : Boxed w4 s8 3 (.int .i64 first) := (x4.block _ b0.lt).trans b0
  have c1 : Boxed w4 (s8 + 1) 3 (.int .i64 by') := (x4.block _ b1.lt).trans b1
  have c2 : Boxed w4 (s8 + 1 + 1) 3 (.int .i64 cnt) := (x4.block _ l2).trans b2
  have hM := h.ext x4
  have htop := h.top
  refine wpIn_rangeFunc_ownH (α := Stp) rfl (by omega) (gf := 56) (lb := #[.pointer (some ⟨s8 + 1 + 1, 0, none⟩), .pointer (some ⟨s8, 0, none⟩), .pointer (some ⟨s8 + 1, 0, none⟩)]) rfl trivial (enters_of Try.func56 (by kernel_rfl) rfl)
    (nums_stops 5 (by omega) cnt s8 first by' f w4 hcnt hf0 hf1 hb0 hb1 hf c0.cell c1.cell c2.cell (by omega))
    (fun h g => KB.trans h g) (kb_put (fun k hk => by rcases hk with rfl | rfl <;> omega)) (Below.refl _ _) (fun _ => rfl)
    (fun pre X => (MchG X m W H n rb ro len rc R (foldG (fwd W H len R) pre G) B U ∧ Boxed X w.heap.size 73 (.func (.func 36) #[.pointer (some ⟨m, 0, none⟩)] #[])) ∧ Ex (fun k => B ≤ k ∧ k < U) w X ∧ w.heap.size + 1 ≤ X.heap.size)
    (fun _ _ _ => False)
    (OwnFrom.and (OwnFrom.and (mchG_own _ m W H n rb ro len rc R (fun pre => foldG (fwd W H len R) pre G) B U) (Own.from (boxed_own _ _ _) _)) (OwnFrom.and (ex_own (by omega)) (ownFrom_size _ _)))
    (fun _ _ _ _ _ hs _ _ => hs)
    ⟨⟨hM, bD⟩, Ex.of_below x4, by omega⟩
    (fun x a' _ => a' = { tmps := #[.func (.func 36) #[.pointer (some ⟨m, 0, none⟩)] #[], .func (.func 56) #[] #[.pointer (some ⟨s8 + 1 + 1, 0, none⟩), .pointer (some ⟨s8, 0, none⟩), .pointer (some ⟨s8 + 1, 0, none⟩)], .pointer (some ⟨w.heap.size, 0, none⟩), undef, .int .i64 x.1, .func (.func 56) #[] #[.pointer (some ⟨s8 + 1 + 1, 0, none⟩), .pointer (some ⟨s8, 0, none⟩), .pointer (some ⟨s8 + 1, 0, none⟩)], .int .i64 x.1, undef, undef, undef], defers := [] })
    (fun _ _ _ _ _ _ hs _ _ => hs)
    ?assign ?body ?done ?stop
  case assign =>
    rintro l pre x X K hI hK
    gi_wp2
    exact hK _ _ (KeepsFrom.refl _ _) (KB.refl _ _) hI rfl
  case body =>
    rintro l pre x a' X _ _ ⟨⟨hMx, bX⟩, hx, hs1⟩ rfl _
    have cX := bX.cell
    have SA := Lib.hid (step_any m W H n rb ro len rc x.1 B U R _ X hMx s (okG_fold (fun t K h => okG_fwd s.n0 h) pre hG) hk x.2)
    have lX := bX.lt
    clear hMx
    gi_wp2_with fail
    refine ⟨trivial, ?_⟩
    gi_at_call 36
    refine (CallsIn.inRound l (callsIn_wide.2 SA.out)).mono ?_
    rintro e X2 ⟨rfl, hM2, hx2⟩
    have bX2 : Boxed X2 _ _ _ := (hx2.block _ lX (by omega)).trans bX
    have HE := Lib.hid (show KeepsFrom w4.heap.size X X2 ∧ KB (fun k => k = s8 ∨ k = s8 + 1) X X2 ∧ (MchG X2 m W H n rb ro len rc R (foldG (fwd W H len R) (pre ++ [x]) G) B U ∧ Boxed X2 w.heap.size 73 (.func (.func 36) #[.pointer (some ⟨m, 0, none⟩)] #[])) ∧ Ex (fun k => B ≤ k ∧ k < U) w X2 ∧ w.heap.size + 1 ≤ X2.heap.size from
      ⟨keepsFrom_ex hx2 (fun k hk => by omega), kb_ex hx2 (fun k hk => ⟨by omega, by omega⟩), ⟨by rw [foldG_snoc]; exact hM2, bX2⟩, hx.trans hx2, Nat.le_trans hs1 hx2.size⟩)
    clear hM2 hx2 bX2
    gi_wp2
    exact HE.out
  case done =>
    rintro D ys X hD rfl ⟨⟨hMx, bX⟩, hx, hs1⟩ hK
    gi_wp2
    refine ⟨by simp, .inl ⟨_, _, rfl, run_takeDeferred hK, ?_⟩⟩
    have hg := grownBy_putObj' X D (.deferred none)
    have hr' : ∀ r, some D = some r → 0 ≤ r ∧ ∃ o : Obj, X.heap[r]? = some o ∧ o.isCells = false := fun r e => by cases e; exact ⟨Nat.zero_le _, _, hK, rfl⟩
    refine ⟨.tuple #[], by simp [results, Try.results35, go_sem], rfl, mchG_own 0 m W H n rb ro len rc R (fun (_ : Unit) => foldG (fwd W H len R) (upto f cnt) G) B U () _ _ _ hMx hg hr', ex_own (β := Unit) (Bd := w.heap.size) (Nat.le_refl _) () _ _ _ hx hg (fun r e => by cases e; exact ⟨by omega, _, hK, rfl⟩)⟩
  case stop =>
    rintro D c pre X _ _ h _
    exact h.elim

end Go.Proofs.Ytmkhbkkhoemkoaa
