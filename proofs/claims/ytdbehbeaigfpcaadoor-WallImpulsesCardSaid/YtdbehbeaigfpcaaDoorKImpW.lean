/- A tunnel's impulse on a body: by the program. -/
import Derived.Test.YtdbehbeaigfpcaaDoorKSeqW
import Derived.Test.YtdbehbeaigfpcaaDoorKRunU
import Derived.Test.YtdbehbeaigfpcaaDoorKInRound
namespace Go.Proofs.YtdbehbeaigfpcaaDoor
set_option linter.unusedSimpArgs false
set_option linter.unusedVariables false
open Go.RowKit Go.Shelf
attribute [local go_sem] Oper.semAt_some

/-- What the walls' turning of a cell gives, and the sum over cells. -/
def dE (K : Nat → Int) (G : Nat → Nat → Int) (i : Nat) : Int := (sn (K i).toNat 0 (G i 0) (G i 1) (G i 2) (G i 3) - sn (K i).toNat 2 (G i 0) (G i 1) (G i 2) (G i 3)) - (G i 0 - G i 2)
def dN (K : Nat → Int) (G : Nat → Nat → Int) (i : Nat) : Int := (sn (K i).toNat 1 (G i 0) (G i 1) (G i 2) (G i 3) - sn (K i).toNat 3 (G i 0) (G i 1) (G i 2) (G i 3)) - (G i 1 - G i 3)
def sumL (f : Nat → Int) (l : List Nat) : Int := l.foldl (fun a i => a + f i) 0
theorem sumL_snoc (f : Nat → Int) (l : List Nat) (x : Nat) : sumL f (l ++ [x]) = sumL f l + f x := by simp [sumL]
theorem sumL_acc {f : Nat → Int} {c : Int} (hc : 0 ≤ c) (l : List Nat) (h : ∀ i ∈ l, -c ≤ f i ∧ f i ≤ c) (a : Int) : a - c * (l.length : Int) ≤ l.foldl (fun a i => a + f i) a ∧ l.foldl (fun a i => a + f i) a ≤ a + c * (l.length : Int) := by
  induction l generalizing a with
  | nil => simp
  | cons x l ih =>
    have h1 := ih (fun i hi => h i (List.mem_cons_of_mem _ hi)) (a + f x)
    have h2 := h x (by simp)
    simp only [List.foldl_cons, List.length_cons, Int.natCast_add, Int.mul_add, Int.natCast_one, Int.mul_one]
    omega
theorem sumL_bd {f : Nat → Int} {c : Int} (hc : 0 ≤ c) (l : List Nat) (h : ∀ i ∈ l, -c ≤ f i ∧ f i ≤ c) : -(c * (l.length : Int)) ≤ sumL f l ∧ sumL f l ≤ c * (l.length : Int) := by
  have := sumL_acc hc l h 0
  unfold sumL
  omega
theorem d_bd {n : Nat} {K : Nat → Int} {G : Nat → Nat → Int} (hK : OkK n K) (hG : OkG n G) {i : Nat} (hi : i < n) : (-2000000000 ≤ dE K G i ∧ dE K G i ≤ 2000000000) ∧ (-2000000000 ≤ dN K G i ∧ dN K G i ≤ 2000000000) := by
  have h1 := hG.1 i hi
  have h2 := sn_ok (okK_lt hK hi) h1
  unfold Ok4 at h1 h2
  unfold dE dN
  omega

/-- A block of four numbers. -/
def Quad (w : World) (E : Nat) (a b c d : Int) : Prop := w.heap[E]? = some (.cells #[.int .i64 a, .int .i64 b, .int .i64 c, .int .i64 d] 50 (0, 0))
theorem Quad.lt {w : World} {E : Nat} {a b c d : Int} (h : Quad w E a b c d) : E < w.heap.size := (Array.getElem?_eq_some_iff.1 h).1
theorem Quad.c0 {w : World} {E : Nat} {a b c d : Int} (h : Quad w E a b c d) : w.cell? ⟨E, 0, none⟩ = some (.int .i64 a) := by simp [World.cell?, show w.heap[E]? = _ from h]
theorem Quad.c1 {w : World} {E : Nat} {a b c d : Int} (h : Quad w E a b c d) : w.cell? ⟨E, 1, none⟩ = some (.int .i64 b) := by simp [World.cell?, show w.heap[E]? = _ from h]
theorem Quad.c2 {w : World} {E : Nat} {a b c d : Int} (h : Quad w E a b c d) : w.cell? ⟨E, 2, none⟩ = some (.int .i64 c) := by simp [World.cell?, show w.heap[E]? = _ from h]
theorem Quad.c3 {w : World} {E : Nat} {a b c d : Int} (h : Quad w E a b c d) : w.cell? ⟨E, 3, none⟩ = some (.int .i64 d) := by simp [World.cell?, show w.heap[E]? = _ from h]
theorem Quad.set {w : World} {E : Nat} {a b c d : Int} (h : Quad w E a b c d) (v0 v1 v2 v3 : Int) : Quad ((((w.setCell ⟨E, 0, none⟩ (.int .i64 v0)).setCell ⟨E, 1, none⟩ (.int .i64 v1)).setCell ⟨E, 2, none⟩ (.int .i64 v2)).setCell ⟨E, 3, none⟩ (.int .i64 v3)) E v0 v1 v2 v3 := by
  unfold Quad at *
  simp only [World.setCell, Array.getElem?_modify, ↓reduceIte, h, Option.map_some]
  rfl
/-- What stands while the impulse is summed up. -/
structure ImI (P m N : Nat) (K : Nat → Int) (G : Nat → Nat → Int) (w : World) (pre : List (CelW N)) (X : World) : Prop where
  push : Two X (P + 1 + 1) 33 (.int .i64 (sumL (dE K G) (pre.map (·.1)))) (.int .i64 (sumL (dN K G) (pre.map (·.1))))
  res : Two X (P + 1) 33 (.int .i64 0) (.int .i64 0)
  box : Boxed X P 55 (.pointer (some ⟨m, 0, none⟩))
  below : Below w.heap.size w X
  size : P + 5 ≤ X.heap.size
theorem imI_own {Bd P m N : Nat} {K : Nat → Int} {G : Nat → Nat → Int} {w : World} (hB : w.heap.size ≤ Bd) : OwnFrom Bd (ImI P m N K G w) := fun s X Y row hs hg hr => by
  have hr' : ∀ r, row = some r → ∃ o : Obj, X.heap[r]? = some o ∧ o.isCells = false := fun r e => (hr r e).2
  exact ⟨two_own (β := Unit) _ _ (fun _ => .int .i64 (sumL (dE K G) (s.map (·.1)))) (fun _ => .int .i64 (sumL (dN K G) (s.map (·.1)))) () X Y row hs.push hg hr', two_own (β := Unit) _ _ (fun _ => .int .i64 0) (fun _ => .int .i64 0) () X Y row hs.res hg hr', boxed_own _ _ (fun (_ : Unit) => .pointer (some ⟨m, 0, none⟩)) () X Y row hs.box hg hr', ownFrom_below (β := Unit) (Nat.le_refl _) hB () X Y row hs.below hg hr, Nat.le_trans hs.size hg.size⟩

set_option maxRecDepth 100000 in
set_option maxHeartbeats 8000000 in
theorem wimpulse_in (m W H n b1 c1 bk ok ck bb ob cb : Nat) (rv : Value) (K B : Nat → Int) (body : Int) (G : Nat → Nat → Int) (w : World) (hM : Tun w m W H n b1 c1 (.slice (some ⟨bk, ok, none⟩) n ck) (.slice (some ⟨bb, ob, none⟩) n cb) rv) (hr : Row w b1 n G) (hn : n ≤ 1024) (hG : OkG n G) (hK : OkK n K) (hT : Tbl w) (lbk : bk < w.heap.size) (hN : NumsAt w bk ok n K) (lbb : bb < w.heap.size) (hB : NumsAt w bb ob n B) :
    CallsIn Fence.wide 6 Tryd.prog 22 #[.pointer (some ⟨m, 0, none⟩), .int .i64 body] w fun e w' => e = .returned (.agg #[.int .i64 (sumL (dE K G) (ownN B body n)), .int .i64 (sumL (dN K G) (ownN B body n))]) ∧ Below w.heap.size w w' := by
  have hmx : Tryd.prog.follows .mixedOrders = true := by kernel_rfl
  have k3 := hM.k3
  have k4 := hM.k4
  have lm := hM.lt
  have HM := Lib.hid hM
  have HR := Lib.hid hr
  have HG := Lib.hid hG
  have HK := Lib.hid hK
  have HT := Lib.hid hT
  have HN := Lib.hid hN
  have HB := Lib.hid hB
  clear hM hr hG hK hT hN hB
  refine callsIn_of_wp_marks Tryd.func22 rfl trivial ?_ rfl
  simp only [Tryd.ntmps22, List.size_toArray, List.length_cons, List.length_nil, Nat.reduceAdd, Nat.reduceSub, Array.replicate_succ, Array.replicate_zero, List.push_toArray, List.append_toArray, List.nil_append, List.cons_append]
  gi_wp2_with (first | (refine ⟨trivial, ?_⟩; gi_at_call 32; (with_reducible refine (cellsOf_in _ _ _ _ _ _ _ _ _).mono ?_); rintro e wD ⟨rfl, rfl⟩))
  have bA := ((Boxed.new w 55 (.pointer (some ⟨m, 0, none⟩))).alloc (.cells #[.int .i64 0, .int .i64 0] 33)).alloc (.cells #[.int .i64 0, .int .i64 0] 33)
  have bA := (bA.alloc (.cells #[.slice (some ⟨bk, ok, none⟩) n ck, .slice (some ⟨bb, ob, none⟩) n cb] 27)).alloc (.cells #[.int .i64 body] 3)
  have tA := (Two.new (w.alloc (.cells #[.pointer (some ⟨m, 0, none⟩)] 55)) 33 (.int .i64 0) (.int .i64 0)).alloc (.cells #[.int .i64 0, .int .i64 0] 33)
  have tA := (tA.alloc (.cells #[.slice (some ⟨bk, ok, none⟩) n ck, .slice (some ⟨bb, ob, none⟩) n cb] 27)).alloc (.cells #[.int .i64 body] 3)
  have tB := Two.new ((w.alloc (.cells #[.pointer (some ⟨m, 0, none⟩)] 55)).alloc (.cells #[.int .i64 0, .int .i64 0] 33)) 33 (.int .i64 0) (.int .i64 0)
  have tB := (tB.alloc (.cells #[.slice (some ⟨bk, ok, none⟩) n ck, .slice (some ⟨bb, ob, none⟩) n cb] 27)).alloc (.cells #[.int .i64 body] 3)
  have tC := (Two.new (((w.alloc (.cells #[.pointer (some ⟨m, 0, none⟩)] 55)).alloc (.cells #[.int .i64 0, .int .i64 0] 33)).alloc (.cells #[.int .i64 0, .int .i64 0] 33)) 27 (.slice (some ⟨bk, ok, none⟩) n ck) (.slice (some ⟨bb, ob, none⟩) n cb)).alloc (.cells #[.int .i64 body] 3)
  have bC := Boxed.new ((((w.alloc (.cells #[.pointer (some ⟨m, 0, none⟩)] 55)).alloc (.cells #[.int .i64 0, .int .i64 0] 33)).alloc (.cells #[.int .i64 0, .int .i64 0] 33)).alloc (.cells #[.slice (some ⟨bk, ok, none⟩) n ck, .slice (some ⟨bb, ob, none⟩) n cb] 27)) 3 (.int .i64 body)
  simp only [World.size_alloc] at bA tA tB tC bC
  have hbW : Below w.heap.size w (((((w.alloc (.cells #[.pointer (some ⟨m, 0, none⟩)] 55)).alloc (.cells #[.int .i64 0, .int .i64 0] 33)).alloc (.cells #[.int .i64 0, .int .i64 0] 33)).alloc (.cells #[.slice (some ⟨bk, ok, none⟩) n ck, .slice (some ⟨bb, ob, none⟩) n cb] 27)).alloc (.cells #[.int .i64 body] 3)) := by (repeat' (first | (with_reducible exact Below.refl _ _) | (with_reducible refine Below.setCell ?_ (by first | omega | (simp; done) | (simp; omega)) _) | (with_reducible refine Below.alloc ?_ (by first | omega | (simp; done) | (simp; omega)) _) | (with_reducible refine Below.drew ?_) | (with_reducible refine below_drewN ?_ _) | (with_reducible refine Below.trans ?_ (Below.mono (by assumption) (by first | omega | (simp; done) | (simp; omega))))))
  have hsz : (((((w.alloc (.cells #[.pointer (some ⟨m, 0, none⟩)] 55)).alloc (.cells #[.int .i64 0, .int .i64 0] 33)).alloc (.cells #[.int .i64 0, .int .i64 0] 33)).alloc (.cells #[.slice (some ⟨bk, ok, none⟩) n ck, .slice (some ⟨bb, ob, none⟩) n cb] 27)).alloc (.cells #[.int .i64 body] 3)).heap.size = w.heap.size + 5 := by simp
  obtain ⟨w4, hw4⟩ : ∃ w4, w4 = ((((w.alloc (.cells #[.pointer (some ⟨m, 0, none⟩)] 55)).alloc (.cells #[.int .i64 0, .int .i64 0] 33)).alloc (.cells #[.int .i64 0, .int .i64 0] 33)).alloc (.cells #[.slice (some ⟨bk, ok, none⟩) n ck, .slice (some ⟨bb, ob, none⟩) n cb] 27)).alloc (.cells #[.int .i64 body] 3) := ⟨_, rfl⟩
  rw [← hw4] at bA tA tB tC bC hbW hsz ⊢
  have HB4 := Lib.hid (HB.out.below hbW lbb)
  clear hw4 k3 k4
  refine wpIn_rangeFunc_ownH (α := CelW n) rfl (by omega) (gf := 51) (lb := #[.pointer (some ⟨w.heap.size + 1 + 1 + 1, 0, none⟩), .pointer (some ⟨w.heap.size + 1 + 1 + 1 + 1, 0, none⟩)]) rfl trivial (enters_of Tryd.func51 (by kernel_rfl) rfl)
    (cells_stops 5 (by omega) (w.heap.size + 1 + 1 + 1) (w.heap.size + 1 + 1 + 1 + 1) bb ob n cb B body w4 hn (by omega) (by omega) (by omega) tC.c1 bC.cell HB4.out)
    (fun h g => KB.trans h g) (kb_put (fun k hk => by omega)) (Below.refl _ _) (fun _ => rfl)
    (ImI w.heap.size m n K G w) (fun _ _ _ => False) (imI_own (by omega)) (fun _ _ _ _ _ hs _ _ => hs)
    ⟨tB, tA, bA, hbW, by omega⟩
    (fun x a' _ => a' = { tmps := #[.pointer (some ⟨m, 0, none⟩), .int .i64 body, .pointer (some ⟨w.heap.size, 0, none⟩), undef, .pointer (some ⟨w.heap.size + 1, 0, none⟩), .pointer (some ⟨w.heap.size + 1 + 1, 0, none⟩), .int .i64 ((x.1 : Int)), undef, undef, undef, undef, undef, undef, undef, undef, .pointer (some ⟨m, 0, none⟩), .pointer (some ⟨m, 0, none⟩), .pointer (some ⟨m, 3, none⟩), .agg #[.slice (some ⟨bk, ok, none⟩) n ck, .slice (some ⟨bb, ob, none⟩) n cb], .int .i64 body, .func (.func 51) #[] #[.pointer (some ⟨w.heap.size + 1 + 1 + 1, 0, none⟩), .pointer (some ⟨w.heap.size + 1 + 1 + 1 + 1, 0, none⟩)], .int .i64 ((x.1 : Int)), undef, undef, undef, undef, undef, undef, undef, undef, undef, undef, undef, undef, undef, undef, undef, undef, undef, undef, undef, undef, undef, undef, undef, undef, undef, undef, undef, undef, undef, undef, undef, undef, undef, undef, undef, undef, undef, undef, undef, undef, undef, undef, undef, undef, undef], defers := [] })
    (fun _ _ _ _ _ _ hs _ _ => hs)
    ?assign ?body ?done ?stop
  case assign =>
    rintro l pre x X K' hI hK'
    gi_wp2
    exact hK' _ _ (KeepsFrom.refl _ _) (KB.refl _ _) hI rfl
  case body =>
    rintro l pre x a' X _ _ hI rfl hlen
    have hbX := hI.below
    have hsX := hI.size
    have hM2 := HM.out.below hbX lm
    have k2 := hM2.k2
    have k3 := hM2.k3
    have lm2 := hM2.lt
    obtain ⟨x, hx⟩ := x
    have hR2 := HR.out.below hbX HR.out.1
    obtain ⟨a0, a1, a2, a3⟩ := hR2.at4 hx
    have lb1 := hR2.1
    have kk := (HN.out.below hbX lbk) x hx
    have lbk2 : bk < X.heap.size := Nat.lt_of_lt_of_le lbk hbX.size
    have TB := Lib.hid (HT.out.below hbX)
    have lP := hI.box.lt
    have bc := hI.box.cell
    have lq := hI.push.lt
    have c0 := hI.push.c0
    have c1 := hI.push.c1
    have f0 := hI.push.f0 0
    have f1 := hI.push.f0 1
    obtain ⟨q, hq⟩ := Int.eq_ofNat_of_zero_le (HK.out x hx).1
    have hq3 : q < 4 := by have := (HK.out x hx).2; omega
    (try dsimp only at kk)
    rw [hq] at kk
    have O1 := Lib.hid (HG.out.1 x hx)
    have O2 := Lib.hid (sn_ok hq3 O1.out)
    have eE : dE K G x = (sn q 0 (G x 0) (G x 1) (G x 2) (G x 3) - sn q 2 (G x 0) (G x 1) (G x 2) (G x 3)) - (G x 0 - G x 2) := by unfold dE; rw [hq]; rfl
    have eN : dN K G x = (sn q 1 (G x 0) (G x 1) (G x 2) (G x 3) - sn q 3 (G x 0) (G x 1) (G x 2) (G x 3)) - (G x 1 - G x 3) := by unfold dN; rw [hq]; rfl
    have SN := Lib.hid (fun wx (hb : Below X.heap.size X wx) => wsent_any q (G x 0) (G x 1) (G x 2) (G x 3) wx hq3 (TB.out.below hb))
    obtain ⟨v0, hv0⟩ : ∃ v, v = sn q 0 (G x 0) (G x 1) (G x 2) (G x 3) := ⟨_, rfl⟩
    obtain ⟨v1, hv1⟩ : ∃ v, v = sn q 1 (G x 0) (G x 1) (G x 2) (G x 3) := ⟨_, rfl⟩
    obtain ⟨v2, hv2⟩ : ∃ v, v = sn q 2 (G x 0) (G x 1) (G x 2) (G x 3) := ⟨_, rfl⟩
    obtain ⟨v3, hv3⟩ : ∃ v, v = sn q 3 (G x 0) (G x 1) (G x 2) (G x 3) := ⟨_, rfl⟩
    rw [← hv0, ← hv1, ← hv2, ← hv3] at SN O2
    rw [← hv0, ← hv2] at eE
    rw [← hv1, ← hv3] at eN
    obtain ⟨u0, hu0⟩ : ∃ v, v = G x 0 := ⟨_, rfl⟩
    obtain ⟨u1, hu1⟩ : ∃ v, v = G x 1 := ⟨_, rfl⟩
    obtain ⟨u2, hu2⟩ : ∃ v, v = G x 2 := ⟨_, rfl⟩
    obtain ⟨u3, hu3⟩ : ∃ v, v = G x 3 := ⟨_, rfl⟩
    rw [← hu0, ← hu1, ← hu2, ← hu3] at SN O1
    rw [← hu0] at a0
    rw [← hu1] at a1
    rw [← hu2] at a2
    rw [← hu3] at a3
    rw [← hu0, ← hu2] at eE
    rw [← hu1, ← hu3] at eN
    obtain ⟨sE, hsE⟩ : ∃ s, s = sumL (dE K G) (pre.map (·.1)) := ⟨_, rfl⟩
    obtain ⟨sN, hsN⟩ : ∃ s, s = sumL (dN K G) (pre.map (·.1)) := ⟨_, rfl⟩
    have bE := sumL_bd (f := dE K G) (c := 2000000000) (by omega) (pre.map (·.1)) (fun i hi => by obtain ⟨z, _, rfl⟩ := List.mem_map.1 hi; exact (d_bd HK.out HG.out z.2).1)
    have bN := sumL_bd (f := dN K G) (c := 2000000000) (by omega) (pre.map (·.1)) (fun i hi => by obtain ⟨z, _, rfl⟩ := List.mem_map.1 hi; exact (d_bd HK.out HG.out z.2).2)
    rw [← hsE, List.length_map] at bE
    rw [← hsN, List.length_map] at bN
    have bE : -2100000000000 ≤ sE ∧ sE ≤ 2100000000000 := by omega
    have bN : -2100000000000 ≤ sN ∧ sN ≤ 2100000000000 := by omega
    have hbbX : bb < X.heap.size := Nat.lt_of_lt_of_le lbb hbX.size
    rw [← hsE] at c0
    rw [← hsN] at c1
    have hO1 := O1.out
    have hO2 := O2.out
    obtain ⟨g0, g1, g2, g3, g4⟩ := hO1
    obtain ⟨h0, h1, h2, h3, h4⟩ := hO2
    have HSE := Lib.hid hsE.symm
    have HSN := Lib.hid hsN.symm
    have ES := Lib.hid (show sumL (dE K G) ((pre ++ [(⟨x, hx⟩ : CelW n)]).map (·.1)) = sE + ((v0 - v2) - (u0 - u2)) from by rw [List.map_append, List.map_singleton, sumL_snoc, ← hsE, eE])
    have NS := Lib.hid (show sumL (dN K G) ((pre ++ [(⟨x, hx⟩ : CelW n)]).map (·.1)) = sN + ((v1 - v3) - (u1 - u3)) from by rw [List.map_append, List.map_singleton, sumL_snoc, ← hsN, eN])
    have p0 : (0 : Int) ≤ (x : Int) := by omega
    have p1 : (x : Int) < (n : Int) := by omega
    have HI := Lib.hid hI
    have HHB := Lib.hid hbX
    clear hI hM2 hR2 hv0 hv1 hv2 hv3 hu0 hu1 hu2 hu3 hsE hsN eE eN hq hbX
    gi_wp2_with fail
    obtain ⟨w5, hw5⟩ : ∃ w5, w5 = X.alloc (.cells #[.int .i64 u0, .int .i64 u1, .int .i64 u2, .int .i64 u3] 50) := ⟨_, rfl⟩
    obtain ⟨Z, hZ⟩ : ∃ Z, Z = X.heap.size := ⟨_, rfl⟩
    have hb5 : Below X.heap.size X w5 := by rw [hw5]; exact (Below.refl _ _).alloc (Nat.le_refl _) _
    have qd : ∀ k v, (#[.int .i64 u0, .int .i64 u1, .int .i64 u2, .int .i64 u3] : Array Value)[k]? = some v → w5.cell? ⟨Z, k, none⟩ = some v := fun k v h => by rw [hw5, hZ]; exact (World.cell?_alloc_at _ _ _ _ rfl).trans h
    have d0 := qd 0 _ rfl
    have d1 := qd 1 _ rfl
    have d2 := qd 2 _ rfl
    have d3 := qd 3 _ rfl
    have ls5 : w5.heap.size = Z + 1 := by rw [hw5, hZ]; simp
    have bc5 := keep_cell hb5 lP bc
    have k35 := keep_cell hb5 lm2 k3
    have kk5 := keep_cell hb5 lbk2 kk
    have HFACT := Lib.hid (And.intro bE (And.intro bN (And.intro g0 (And.intro g1 (And.intro g2 (And.intro g3 (And.intro g4 (And.intro h0 (And.intro h1 (And.intro h2 (And.intro h3 h4)))))))))))
    have HPUSH := Lib.hid (And.intro lq (And.intro c0 (And.intro c1 (And.intro f0 f1))))
    have HZ5 := Lib.hid (And.intro hb5 hZ)
    have SN5 := Lib.hid (fun wx (hb : Below w5.heap.size w5 wx) => SN.out wx (hb5.trans (hb.mono hb5.size)))
    have l5a : w.heap.size < w5.heap.size := by omega
    have l5b : m < w5.heap.size := by omega
    have l5c : bk < w5.heap.size := by omega
    rw [← hw5, ← hZ]
    clear bE bN g0 g1 g2 g3 g4 h0 h1 h2 h3 h4 lq c0 c1 f0 f1 hb5 hw5 hZ qd bc k3 kk k2 a0 a1 a2 a3 SN lm2 lb1 lbk2 lP hlen TB bA tA tB tC bC hbW hsz HM HR HG HK HT HN HB HB4 lm hn lbk
    refine region_inRound l _ (S := (fun w' => w'.cell? ⟨w.heap.size, 0, none⟩ = some (.pointer (some ⟨m, 0, none⟩)) ∧ w'.cell? ⟨m, 3, none⟩ = some (.slice (some ⟨bk, ok, none⟩) n ck) ∧ w'.cell? ⟨bk, ok + x, none⟩ = some (.int .i64 q) ∧ w'.cell? ⟨Z, 0, none⟩ = some (.int .i64 u0) ∧ w'.cell? ⟨Z, 1, none⟩ = some (.int .i64 u1) ∧ w'.cell? ⟨Z, 2, none⟩ = some (.int .i64 u2) ∧ w'.cell? ⟨Z, 3, none⟩ = some (.int .i64 u3))) (by kernel_rfl) (by kernel_rfl) ?_ (fun hHeld => ?_)
    · ((try dsimp only); (first | (go_split_ands; (try dsimp only); refine ⟨?_, ?_, ?_, ?_, ?_, ?_, ?_⟩ <;> (first | (with_reducible assumption) | (with_reducible exact keep_cell (by assumption) (by first | omega | (simp; done) | (simp; omega)) (by assumption)) | (with_reducible exact (World.cell?_alloc_past _ _ _ (by show _ < _; omega)).trans (by assumption)) | (with_reducible exact (World.cell?_alloc_past _ _ _ (by show _ < _; omega)).trans ((World.cell?_alloc_past _ _ _ (by show _ < _; omega)).symm.trans (by assumption))) | (simp [go_sem]; with_reducible assumption))) | (simp [go_sem, ↓IntWalk.iteOmega, *]; done)))
    refine wpAnyH_take (i := 6) (v := ?_) rfl (by kernel_rfl) (by kernel_rfl) (by kernel_rfl) (fun _ _ _ h => h) (Or.inl ⟨by rfl, ?_⟩) (by assumption) ?_
    rotate_left
    · (intro w hSw; (try dsimp only at hSw); go_simp; (try with_reducible rfl))
    (try simp only [Act.put, List.setIfInBounds_toArray, List.set_cons_zero, List.set_cons_succ])
    refine wpAnyH_take (i := 1) (v := ?_) rfl (by kernel_rfl) (by kernel_rfl) (by kernel_rfl) (fun _ _ _ h => h) (Or.inl ⟨by rfl, ?_⟩) (by assumption) ?_
    rotate_left
    · (intro w hSw; (try dsimp only at hSw); go_simp; (try with_reducible rfl))
    (try simp only [Act.put, List.setIfInBounds_toArray, List.set_cons_zero, List.set_cons_succ])
    refine wpAnyH_take (i := 2) (v := ?_) rfl (by kernel_rfl) (by kernel_rfl) (by kernel_rfl) (fun _ _ _ h => h) (Or.inl ⟨by rfl, ?_⟩) (by assumption) ?_
    rotate_left
    · (intro w hSw; (try dsimp only at hSw); go_simp; (try with_reducible rfl))
    (try simp only [Act.put, List.setIfInBounds_toArray, List.set_cons_zero, List.set_cons_succ])
    refine wpAnyH_take (i := 3) (v := ?_) rfl (by kernel_rfl) (by kernel_rfl) (by kernel_rfl) (fun _ _ _ h => h) (Or.inl ⟨by rfl, ?_⟩) (by assumption) ?_
    rotate_left
    · (intro w hSw; (try dsimp only at hSw); go_simp; (try with_reducible rfl))
    (try simp only [Act.put, List.setIfInBounds_toArray, List.set_cons_zero, List.set_cons_succ])
    refine wpAnyH_take (i := 4) (v := ?_) rfl (by kernel_rfl) (by kernel_rfl) (by kernel_rfl) (fun _ _ _ h => h) (Or.inl ⟨by rfl, ?_⟩) (by assumption) ?_
    rotate_left
    · (intro w hSw; (try dsimp only at hSw); go_simp; (try with_reducible rfl))
    (try simp only [Act.put, List.setIfInBounds_toArray, List.set_cons_zero, List.set_cons_succ])
    refine wpAnyH_take (i := 5) (v := ?_) rfl (by kernel_rfl) (by kernel_rfl) (by kernel_rfl) (fun _ _ _ h => h) (Or.inl ⟨by rfl, ?_⟩) (by assumption) ?_
    rotate_left
    · (intro w hSw; (try dsimp only at hSw); go_simp; (try with_reducible rfl))
    (try simp only [Act.put, List.setIfInBounds_toArray, List.set_cons_zero, List.set_cons_succ])
    refine wpAnyH_take (i := 7) (v := ?_) rfl (by kernel_rfl) (by kernel_rfl) (by kernel_rfl) (fun _ _ _ h => h) (Or.inl ⟨by rfl, ?_⟩) (by assumption) ?_
    rotate_left
    · (intro w hSw; (try dsimp only at hSw); go_simp; (try with_reducible rfl))
    (try simp only [Act.put, List.setIfInBounds_toArray, List.set_cons_zero, List.set_cons_succ])
    refine wpAnyH_take (i := 8) (v := ?_) rfl (by kernel_rfl) (by kernel_rfl) (by kernel_rfl) (fun _ _ _ h => h) (Or.inl ⟨by rfl, ?_⟩) (by assumption) ?_
    rotate_left
    · (intro w hSw; (try dsimp only at hSw); go_simp; (try with_reducible rfl))
    (try simp only [Act.put, List.setIfInBounds_toArray, List.set_cons_zero, List.set_cons_succ])
    refine wpAnyH_take (i := 0) (v := ?_) rfl (by kernel_rfl) (by kernel_rfl) (by kernel_rfl) (fun _ _ _ h => h) (Or.inl ⟨by rfl, ?_⟩) (by assumption) ?_
    rotate_left
    · (intro w hSw; (try dsimp only at hSw); go_simp; (try with_reducible rfl))
    (try simp only [Act.put, List.setIfInBounds_toArray, List.set_cons_zero, List.set_cons_succ])
    refine wpAnyH_ready (rs := [9, 10]) (by kernel_rfl) (by simp) ?_
    refine AllReadyH.cons rfl (fun K hK => ?_) (AllReadyH.cons rfl (fun K hK => ?_) (AllReadyH.nil))
    · go_simp; (go_at_call 41; (with_reducible refine (SN5.out _ (by (repeat' (first | (with_reducible exact Below.refl _ _) | (with_reducible refine Below.setCell ?_ (by first | omega | (simp; done) | (simp; omega)) _) | (with_reducible refine Below.alloc ?_ (by first | omega | (simp; done) | (simp; omega)) _) | (with_reducible refine Below.drew ?_) | (with_reducible refine below_drewN ?_ _) | (with_reducible refine Below.trans ?_ (Below.mono (by assumption) (by first | omega | (simp; done) | (simp; omega)))))))).mono ?_); rintro e w7 ⟨rfl, hb7⟩; obtain ⟨hc7, hf7, hz7⟩ := bcall hb7; (try simp at hc7 hf7 hz7)); (try go_wp2_with fail)
      refine hK.out _ _ ?_ (fun hHeld => ?_)
      · ((try dsimp only); (first | (go_split_ands; (try dsimp only); refine ⟨?_, ?_, ?_, ?_, ?_, ?_, ?_⟩ <;> (first | (with_reducible assumption) | (with_reducible exact keep_cell (by assumption) (by first | omega | (simp; done) | (simp; omega)) (by assumption)) | (with_reducible exact (World.cell?_alloc_past _ _ _ (by show _ < _; omega)).trans (by assumption)) | (with_reducible exact (World.cell?_alloc_past _ _ _ (by show _ < _; omega)).trans ((World.cell?_alloc_past _ _ _ (by show _ < _; omega)).symm.trans (by assumption))) | (simp [go_sem]; with_reducible assumption))) | (simp [go_sem, ↓IntWalk.iteOmega, *]; done)))
      clear hK K
      (try simp only [Act.put, List.setIfInBounds_toArray, List.set_cons_zero, List.set_cons_succ])
      refine wpAnyH_ready (rs := [10]) (by kernel_rfl) (by simp) ?_
      refine AllReadyH.cons rfl (fun K hK => ?_) AllReadyH.nil
      go_simp
      refine hK.out _ _ ?_ (fun hHeld => ?_)
      · ((try dsimp only); (first | (go_split_ands; (try dsimp only); refine ⟨?_, ?_, ?_, ?_, ?_, ?_, ?_⟩ <;> (first | (with_reducible assumption) | (with_reducible exact keep_cell (by assumption) (by first | omega | (simp; done) | (simp; omega)) (by assumption)) | (with_reducible exact (World.cell?_alloc_past _ _ _ (by show _ < _; omega)).trans (by assumption)) | (with_reducible exact (World.cell?_alloc_past _ _ _ (by show _ < _; omega)).trans ((World.cell?_alloc_past _ _ _ (by show _ < _; omega)).symm.trans (by assumption))) | (simp [go_sem]; with_reducible assumption))) | (simp [go_sem, ↓IntWalk.iteOmega, *]; done)))
      clear hK K
      (try simp only [Act.put, List.setIfInBounds_toArray, List.set_cons_zero, List.set_cons_succ])
      refine wpAnyH_ready (rs := [11]) (by kernel_rfl) (by simp) ?_
      refine AllReadyH.cons rfl (fun K hK => ?_) AllReadyH.nil
      go_simp
      refine hK.out _ _ ?_ (fun hHeld => ?_)
      · ((try dsimp only); (first | (go_split_ands; (try dsimp only); refine ⟨?_, ?_, ?_, ?_, ?_, ?_, ?_⟩ <;> (first | (with_reducible assumption) | (with_reducible exact keep_cell (by assumption) (by first | omega | (simp; done) | (simp; omega)) (by assumption)) | (with_reducible exact (World.cell?_alloc_past _ _ _ (by show _ < _; omega)).trans (by assumption)) | (with_reducible exact (World.cell?_alloc_past _ _ _ (by show _ < _; omega)).trans ((World.cell?_alloc_past _ _ _ (by show _ < _; omega)).symm.trans (by assumption))) | (simp [go_sem]; with_reducible assumption))) | (simp [go_sem, ↓IntWalk.iteOmega, *]; done)))
      clear hK K
      (try simp only [Act.put, List.setIfInBounds_toArray, List.set_cons_zero, List.set_cons_succ])
      refine wpAnyH_done (by kernel_rfl) ?_ _
      refine OnlyN.normal ?_
      have y8 : Below w5.heap.size w5 (w7.alloc (.cells #[.int .i64 v0, .int .i64 v1, .int .i64 v2, .int .i64 v3] 50)) := by (repeat' (first | (with_reducible exact Below.refl _ _) | (with_reducible refine Below.setCell ?_ (by first | omega | (simp; done) | (simp; omega)) _) | (with_reducible refine Below.alloc ?_ (by first | omega | (simp; done) | (simp; omega)) _) | (with_reducible refine Below.drew ?_) | (with_reducible refine below_drewN ?_ _) | (with_reducible refine Below.trans ?_ (Below.mono (by assumption) (by first | omega | (simp; done) | (simp; omega))))))
      have q8 : Quad (w7.alloc (.cells #[.int .i64 v0, .int .i64 v1, .int .i64 v2, .int .i64 v3] 50)) w7.heap.size v0 v1 v2 v3 := World.alloc_heap_new w7 _
      obtain ⟨E, hE⟩ : ∃ E, E = w7.heap.size := ⟨_, rfl⟩
      obtain ⟨w8, hw8⟩ : ∃ w8, w8 = w7.alloc (.cells #[.int .i64 v0, .int .i64 v1, .int .i64 v2, .int .i64 v3] 50) := ⟨_, rfl⟩
      rw [← hw8] at y8 q8 ⊢
      rw [← hE] at q8 ⊢
      clear hw8 hE
      clear hb7 hc7 hf7 hz7
      have e0 := q8.c0
      have e1 := q8.c1
      have e2 := q8.c2
      have e3 := q8.c3
      have lE := q8.lt
      have s8 := y8.size
      have z0 := keep_cell y8 (by omega) d0
      have z1 := keep_cell y8 (by omega) d1
      have z2 := keep_cell y8 (by omega) d2
      have z3 := keep_cell y8 (by omega) d3
      obtain ⟨bE, bN, g0, g1, g2, g3, g4, h0, h1, h2, h3, h4⟩ := HFACT.out
      obtain ⟨hb5, hZ⟩ := HZ5.out
      have hZ1 : X.heap.size ≤ Z := by omega
      clear hZ
      have hX8 : Below X.heap.size X w8 := hb5.trans (y8.mono hb5.size)
      have t8 := HI.out.push.below hX8 HPUSH.out.1
      have pc0 := t8.c0
      have pc1 := t8.c1
      have f0 := t8.f0 0
      have f1 := t8.f0 1
      have lq8 := t8.lt
      rw [HSE.out] at pc0
      rw [HSN.out] at pc1
      have HX8 := Lib.hid hX8
      have T8 := Lib.hid t8
      have lX8 := hX8.size
      clear hX8 t8 y8 q8 d0 d1 d2 d3 bc5 k35 kk5 SN5 hb5
      gi_wp2_with (first | (refine ⟨trivial, ?_⟩; gi_at_call 37; (with_reducible refine (CallsIn.inRound l (callsIn_wide.2 (momentum_ok u0 u1 u2 u3 _ O1.out))).mono ?_); rintro e wB ⟨rfl, hB⟩; obtain ⟨hcB, hfB, hzB⟩ := bcall hB; (try simp at hcB hfB hzB)) | (refine ⟨trivial, ?_⟩; gi_at_call 37; (with_reducible refine (CallsIn.inRound l (callsIn_wide.2 (momentum_ok v0 v1 v2 v3 _ O2.out))).mono ?_); rintro e wC ⟨rfl, hC⟩; obtain ⟨hcC, hfC, hzC⟩ := bcall hC; (try simp at hcC hfC hzC)))
      have hXC : Below X.heap.size X wC := HX8.out.trans ((hB.trans (hC.mono hB.size)).mono (by omega))
      have pC := HI.out.push.below hXC HPUSH.out.1
      have hsC := hXC.size
      refine ⟨((keepsFrom_of_below hXC).trans ((KeepsOthers.setCell _ _ _).from _)).trans ((KeepsOthers.setCell _ _ _).from _), ((KB.of_below hXC (fun k hk => by have := HI.out.size; omega)).trans (KB.set (fun hk => by omega))).trans (KB.set (fun hk => by omega)), ?_, ?_, ?_, ?_, ?_⟩
      · rw [ES.out, NS.out]
        exact pC.set2 _ _
      · have q9 : wC.heap[w.heap.size + 1]? = _ := (hXC.block _ (by have := HI.out.size; omega)).trans HI.out.res
        exact ((Ex.block (S := fun k => k = w.heap.size + 1 + 1) (by refine Ex.setCell (Ex.setCell (Ex.refl _ _) ?_ _) ?_ _ <;> rfl) (w.heap.size + 1) (by have := HI.out.size; omega) (by omega)).trans q9)
      · have q9 : wC.heap[w.heap.size]? = _ := (hXC.block _ (by have := HI.out.size; omega)).trans HI.out.box
        exact ((Ex.block (S := fun k => k = w.heap.size + 1 + 1) (by refine Ex.setCell (Ex.setCell (Ex.refl _ _) ?_ _) ?_ _ <;> rfl) (w.heap.size) (by have := HI.out.size; omega) (by omega)).trans q9)
      · exact ((HHB.out.trans (hXC.mono HHB.out.size)).setCell (p := ⟨w.heap.size + 1 + 1, 0, none⟩) (show w.heap.size ≤ w.heap.size + 1 + 1 by omega) _).setCell (p := ⟨w.heap.size + 1 + 1, 1, none⟩) (show w.heap.size ≤ w.heap.size + 1 + 1 by omega) _
      · have := HI.out.size
        simp
        omega
    · go_simp
      refine hK.out _ _ ?_ (fun hHeld => ?_)
      · ((try dsimp only); (first | (go_split_ands; (try dsimp only); refine ⟨?_, ?_, ?_, ?_, ?_, ?_, ?_⟩ <;> (first | (with_reducible assumption) | (with_reducible exact keep_cell (by assumption) (by first | omega | (simp; done) | (simp; omega)) (by assumption)) | (with_reducible exact (World.cell?_alloc_past _ _ _ (by show _ < _; omega)).trans (by assumption)) | (with_reducible exact (World.cell?_alloc_past _ _ _ (by show _ < _; omega)).trans ((World.cell?_alloc_past _ _ _ (by show _ < _; omega)).symm.trans (by assumption))) | (simp [go_sem]; with_reducible assumption))) | (simp [go_sem, ↓IntWalk.iteOmega, *]; done)))
      clear hK K
      (try simp only [Act.put, List.setIfInBounds_toArray, List.set_cons_zero, List.set_cons_succ])
      refine wpAnyH_ready (rs := [9]) (by kernel_rfl) (by simp) ?_
      refine AllReadyH.cons rfl (fun K hK => ?_) AllReadyH.nil
      go_simp; (go_at_call 41; (with_reducible refine (SN5.out _ (by (repeat' (first | (with_reducible exact Below.refl _ _) | (with_reducible refine Below.setCell ?_ (by first | omega | (simp; done) | (simp; omega)) _) | (with_reducible refine Below.alloc ?_ (by first | omega | (simp; done) | (simp; omega)) _) | (with_reducible refine Below.drew ?_) | (with_reducible refine below_drewN ?_ _) | (with_reducible refine Below.trans ?_ (Below.mono (by assumption) (by first | omega | (simp; done) | (simp; omega)))))))).mono ?_); rintro e w7 ⟨rfl, hb7⟩; obtain ⟨hc7, hf7, hz7⟩ := bcall hb7; (try simp at hc7 hf7 hz7)); (try go_wp2_with fail)
      refine hK.out _ _ ?_ (fun hHeld => ?_)
      · ((try dsimp only); (first | (go_split_ands; (try dsimp only); refine ⟨?_, ?_, ?_, ?_, ?_, ?_, ?_⟩ <;> (first | (with_reducible assumption) | (with_reducible exact keep_cell (by assumption) (by first | omega | (simp; done) | (simp; omega)) (by assumption)) | (with_reducible exact (World.cell?_alloc_past _ _ _ (by show _ < _; omega)).trans (by assumption)) | (with_reducible exact (World.cell?_alloc_past _ _ _ (by show _ < _; omega)).trans ((World.cell?_alloc_past _ _ _ (by show _ < _; omega)).symm.trans (by assumption))) | (simp [go_sem]; with_reducible assumption))) | (simp [go_sem, ↓IntWalk.iteOmega, *]; done)))
      clear hK K
      (try simp only [Act.put, List.setIfInBounds_toArray, List.set_cons_zero, List.set_cons_succ])
      refine wpAnyH_ready (rs := [11]) (by kernel_rfl) (by simp) ?_
      refine AllReadyH.cons rfl (fun K hK => ?_) AllReadyH.nil
      go_simp
      refine hK.out _ _ ?_ (fun hHeld => ?_)
      · ((try dsimp only); (first | (go_split_ands; (try dsimp only); refine ⟨?_, ?_, ?_, ?_, ?_, ?_, ?_⟩ <;> (first | (with_reducible assumption) | (with_reducible exact keep_cell (by assumption) (by first | omega | (simp; done) | (simp; omega)) (by assumption)) | (with_reducible exact (World.cell?_alloc_past _ _ _ (by show _ < _; omega)).trans (by assumption)) | (with_reducible exact (World.cell?_alloc_past _ _ _ (by show _ < _; omega)).trans ((World.cell?_alloc_past _ _ _ (by show _ < _; omega)).symm.trans (by assumption))) | (simp [go_sem]; with_reducible assumption))) | (simp [go_sem, ↓IntWalk.iteOmega, *]; done)))
      clear hK K
      (try simp only [Act.put, List.setIfInBounds_toArray, List.set_cons_zero, List.set_cons_succ])
      refine wpAnyH_done (by kernel_rfl) ?_ _
      refine OnlyN.normal ?_
      have y8 : Below w5.heap.size w5 ((((w7.setCell ⟨Z + 1, 0, none⟩ (.int .i64 v0)).setCell ⟨Z + 1, 1, none⟩ (.int .i64 v1)).setCell ⟨Z + 1, 2, none⟩ (.int .i64 v2)).setCell ⟨Z + 1, 3, none⟩ (.int .i64 v3)) := by (repeat' (first | (with_reducible exact Below.refl _ _) | (with_reducible refine Below.setCell ?_ (by first | omega | (simp; done) | (simp; omega)) _) | (with_reducible refine Below.alloc ?_ (by first | omega | (simp; done) | (simp; omega)) _) | (with_reducible refine Below.drew ?_) | (with_reducible refine below_drewN ?_ _) | (with_reducible refine Below.trans ?_ (Below.mono (by assumption) (by first | omega | (simp; done) | (simp; omega))))))
      have n7 : Quad (w5.drew.alloc (.cells #[.int .i64 0, .int .i64 0, .int .i64 0, .int .i64 0] 50)) (Z + 1) 0 0 0 0 := by rw [← ls5]; exact World.alloc_heap_new w5.drew _
      have q8 := Quad.set (w := w7) ((hb7.block (Z + 1) n7.lt).trans n7) v0 v1 v2 v3
      obtain ⟨E, hE⟩ : ∃ E, E = Z + 1 := ⟨_, rfl⟩
      obtain ⟨w8, hw8⟩ : ∃ w8, w8 = (((w7.setCell ⟨Z + 1, 0, none⟩ (.int .i64 v0)).setCell ⟨Z + 1, 1, none⟩ (.int .i64 v1)).setCell ⟨Z + 1, 2, none⟩ (.int .i64 v2)).setCell ⟨Z + 1, 3, none⟩ (.int .i64 v3) := ⟨_, rfl⟩
      rw [← hw8] at y8 q8 ⊢
      rw [← hE] at q8 ⊢
      clear hw8 hE n7
      clear hb7 hc7 hf7 hz7
      have e0 := q8.c0
      have e1 := q8.c1
      have e2 := q8.c2
      have e3 := q8.c3
      have lE := q8.lt
      have s8 := y8.size
      have z0 := keep_cell y8 (by omega) d0
      have z1 := keep_cell y8 (by omega) d1
      have z2 := keep_cell y8 (by omega) d2
      have z3 := keep_cell y8 (by omega) d3
      obtain ⟨bE, bN, g0, g1, g2, g3, g4, h0, h1, h2, h3, h4⟩ := HFACT.out
      obtain ⟨hb5, hZ⟩ := HZ5.out
      have hZ1 : X.heap.size ≤ Z := by omega
      clear hZ
      have hX8 : Below X.heap.size X w8 := hb5.trans (y8.mono hb5.size)
      have t8 := HI.out.push.below hX8 HPUSH.out.1
      have pc0 := t8.c0
      have pc1 := t8.c1
      have f0 := t8.f0 0
      have f1 := t8.f0 1
      have lq8 := t8.lt
      rw [HSE.out] at pc0
      rw [HSN.out] at pc1
      have HX8 := Lib.hid hX8
      have T8 := Lib.hid t8
      have lX8 := hX8.size
      clear hX8 t8 y8 q8 d0 d1 d2 d3 bc5 k35 kk5 SN5 hb5
      gi_wp2_with (first | (refine ⟨trivial, ?_⟩; gi_at_call 37; (with_reducible refine (CallsIn.inRound l (callsIn_wide.2 (momentum_ok u0 u1 u2 u3 _ O1.out))).mono ?_); rintro e wB ⟨rfl, hB⟩; obtain ⟨hcB, hfB, hzB⟩ := bcall hB; (try simp at hcB hfB hzB)) | (refine ⟨trivial, ?_⟩; gi_at_call 37; (with_reducible refine (CallsIn.inRound l (callsIn_wide.2 (momentum_ok v0 v1 v2 v3 _ O2.out))).mono ?_); rintro e wC ⟨rfl, hC⟩; obtain ⟨hcC, hfC, hzC⟩ := bcall hC; (try simp at hcC hfC hzC)))
      have hXC : Below X.heap.size X wC := HX8.out.trans ((hB.trans (hC.mono hB.size)).mono (by omega))
      have pC := HI.out.push.below hXC HPUSH.out.1
      have hsC := hXC.size
      refine ⟨((keepsFrom_of_below hXC).trans ((KeepsOthers.setCell _ _ _).from _)).trans ((KeepsOthers.setCell _ _ _).from _), ((KB.of_below hXC (fun k hk => by have := HI.out.size; omega)).trans (KB.set (fun hk => by omega))).trans (KB.set (fun hk => by omega)), ?_, ?_, ?_, ?_, ?_⟩
      · rw [ES.out, NS.out]
        exact pC.set2 _ _
      · have q9 : wC.heap[w.heap.size + 1]? = _ := (hXC.block _ (by have := HI.out.size; omega)).trans HI.out.res
        exact ((Ex.block (S := fun k => k = w.heap.size + 1 + 1) (by refine Ex.setCell (Ex.setCell (Ex.refl _ _) ?_ _) ?_ _ <;> rfl) (w.heap.size + 1) (by have := HI.out.size; omega) (by omega)).trans q9)
      · have q9 : wC.heap[w.heap.size]? = _ := (hXC.block _ (by have := HI.out.size; omega)).trans HI.out.box
        exact ((Ex.block (S := fun k => k = w.heap.size + 1 + 1) (by refine Ex.setCell (Ex.setCell (Ex.refl _ _) ?_ _) ?_ _ <;> rfl) (w.heap.size) (by have := HI.out.size; omega) (by omega)).trans q9)
      · exact ((HHB.out.trans (hXC.mono HHB.out.size)).setCell (p := ⟨w.heap.size + 1 + 1, 0, none⟩) (show w.heap.size ≤ w.heap.size + 1 + 1 by omega) _).setCell (p := ⟨w.heap.size + 1 + 1, 1, none⟩) (show w.heap.size ≤ w.heap.size + 1 + 1 by omega) _
      · have := HI.out.size
        simp
        omega
  case done =>
    rintro D ys X hD hys hI hK'
    have pc0 := hI.push.c0
    have pc1 := hI.push.c1
    have r0 := hI.res.c0
    have r1 := hI.res.c1
    have f0 := hI.res.f0 0
    have f1 := hI.res.f0 1
    have lp := hI.push.lt
    have lr := hI.res.lt
    have hy : ys.map (·.1) = ownN B body n := hys
    rw [hy] at pc0 pc1
    have HI := Lib.hid hI
    clear hI hys hy
    gi_wp2
    have hK1 := (KeepsOthers.setCell X ⟨w.heap.size + 1, 0, none⟩ (.int .i64 (sumL (dE K G) (ownN B body n)))).same D _ hK' rfl
    have hK2 := (KeepsOthers.setCell (X.setCell ⟨w.heap.size + 1, 0, none⟩ (.int .i64 (sumL (dE K G) (ownN B body n)))) ⟨w.heap.size + 1, 1, none⟩ (.int .i64 (sumL (dN K G) (ownN B body n)))).same D _ hK1 rfl
    refine ⟨by simp, .inl ⟨_, _, rfl, run_takeDeferred hK2, ?_⟩⟩
    have q2 := HI.out.res.set2 (.int .i64 (sumL (dE K G) (ownN B body n))) (.int .i64 (sumL (dN K G) (ownN B body n)))
    have g0 := cell_kept q2.c0 (grownBy_putObj' _ D (.deferred none)) (fun r e => by cases e; exact ⟨_, hK2, rfl⟩)
    have g1 := cell_kept q2.c1 (grownBy_putObj' _ D (.deferred none)) (fun r e => by cases e; exact ⟨_, hK2, rfl⟩)
    refine ⟨.agg #[.int .i64 (sumL (dE K G) (ownN B body n)), .int .i64 (sumL (dN K G) (ownN B body n))], by simp [results, Tryd.results22, go_sem, g0, g1], rfl, ?_⟩
    have hbl : Below w.heap.size w X := HI.out.below
    exact ((hbl.setCell (p := ⟨w.heap.size + 1, 0, none⟩) (show w.heap.size ≤ w.heap.size + 1 by omega) _).setCell (p := ⟨w.heap.size + 1, 1, none⟩) (show w.heap.size ≤ w.heap.size + 1 by omega) _).trans (belowK_b (w := w) (Nat.le_refl _) _ D _ _ (by omega) hK2 rfl rfl)
  case stop =>
    rintro D c pre X _ _ h _
    exact h.elim
end Go.Proofs.YtdbehbeaigfpcaaDoor
