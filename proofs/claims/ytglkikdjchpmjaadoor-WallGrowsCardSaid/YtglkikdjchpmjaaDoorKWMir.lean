/- Walls mirrored: the mathematics; by the program. -/
import Derived.Test.YtglkikdjchpmjaaDoorKWRun
import Derived.Test.YtglkikdjchpmjaaDoorKGMath
namespace Go.Proofs.YtglkikdjchpmjaaDoor
set_option linter.unusedSimpArgs false
set_option linter.unusedVariables false
open Go.RowKit

/-- The kind that a mirror makes of a kind. -/
def flipK (k : Int) : Int := if k = 2 then 3 else if k = 3 then 2 else k
/-- The kinds, and the bodies, of a mirrored wall. -/
def miK (W : Nat) (K : Nat → Int) : Nat → Int := fun i => flipK (K (mip W i))
def miB (W : Nat) (B : Nat → Int) : Nat → Int := fun i => B (mip W i)
theorem eqG_mi {W H n : Nat} {G K : Nat → Nat → Int} (hn : n = W * H) (h : EqG n G K) : EqG n (miG W G) (miG W K) := fun i hi d hd => by
  subst hn
  exact h _ (mip_parts hi).1 _ (mdir_lt hd)
theorem okP_mi {W H n : Nat} {K B : Nat → Int} (hn : n = W * H) (h : ∀ i, i < n → OkP (K i) (B i)) : ∀ i, i < n → OkP (miK W K i) (miB W B i) := fun i hi => by
  subst hn
  have := h _ (mip_parts hi).1
  unfold OkP miK miB flipK at *
  split
  · omega
  · split <;> omega
theorem sn_mi (q d : Nat) (a b c e : Int) (hq : q < 4) (hd : d < 4) : sn (flipK q).toNat d c b a e = sn q (mdir d) a b c e := by
  match q, hq with
  | 0, _ => match d, hd with
    | 0, _ => rfl
    | 1, _ => rfl
    | 2, _ => rfl
    | 3, _ => rfl
  | 1, _ => match d, hd with
    | 0, _ => rfl
    | 1, _ => rfl
    | 2, _ => rfl
    | 3, _ => rfl
  | 2, _ => match d, hd with
    | 0, _ => rfl
    | 1, _ => rfl
    | 2, _ => rfl
    | 3, _ => rfl
  | 3, _ => match d, hd with
    | 0, _ => rfl
    | 1, _ => rfl
    | 2, _ => rfl
    | 3, _ => rfl
theorem met_mi {W H n : Nat} {K : Nat → Int} {k y : Int} (G : Nat → Nat → Int) (hn : n = W * H) (hK : OkK n K) : EqG n (metG (miK W K) k y (miG W G)) (miG W (metG K k y G)) := fun i hi d hd => by
  subst hn
  have hj := (mip_parts hi).1
  have ec := col_miG (W := W) (n := W * H) (k := k) (z := y) G i hi d hd
  show _ = metG K k y G (mip W i) (mdir d)
  obtain ⟨q, hq⟩ := Int.eq_ofNat_of_zero_le (hK _ hj).1
  have hq3 : q < 4 := by have := (hK _ hj).2; omega
  by_cases h : q = 0
  · subst h
    have h0 : K (mip W i) = 0 := hq
    rw [met_open (K := miK W K) (by unfold miK flipK; rw [h0]; rfl), met_open h0, ec]
    rfl
  · have h0 : K (mip W i) ≠ 0 := by omega
    have h1 : miK W K i ≠ 0 := by
      unfold miK flipK
      split
      · omega
      · split <;> omega
    rw [met_shut h1, met_shut h0]
    have e1 : miK W K i = flipK q := by unfold miK; rw [hq]
    rw [e1, hq, Int.toNat_natCast]
    exact sn_mi q d _ _ _ _ hq3 hd
theorem fwd_mi {W H n len : Nat} {K : Nat → Int} {R : Nat → Int × Int} {t : Nat} (G : Nat → Nat → Int) (hn : n = W * H) (hK : OkK n K) : EqG n (fwdW W H (miK W K) len R t (miG W G)) (miG W (fwdW W H K len R t G)) := by
  unfold fwdW
  exact (EqG.pull hn (met_mi G hn hK)).trans (pull_miG _ hn)

set_option maxHeartbeats 1000000 in
theorem windex_any (W H : Int) (ao : Option Addr) (n cap : Nat) (px py : Int) (q : Nat) (w : World) (h0 : 0 ≤ W) (h1 : W ≤ 64) (p0 : 0 ≤ px) (p1 : px ≤ 5000) (y0 : 0 ≤ py) (y1 : py ≤ 5000) (hq : px + W * py = q) (hq1 : q ≤ 100000) :
    Calls Tryd.prog 86 #[.agg #[.int .i64 W, .int .i64 H, .slice (ao) n cap], .agg #[.int .i64 px, .int .i64 py]] w fun e w' => e = .returned (.int .i64 q) ∧ Below w.heap.size w w' := by
  have hm : 0 ≤ W * py := Int.mul_nonneg h0 y0
  have e1 : IntKind.i64.wrap (W * py) = W * py := IntWalk.i64_in _ ⟨by omega, by omega⟩
  have e2 : IntKind.i64.wrap (px + W * py) = q := by rw [hq]; exact IntWalk.i64_in _ ⟨by omega, by omega⟩
  clear hq
  go_enter Tryd.func86, Tryd.ntmps86
  go_wp2
  go_ret
  refine ⟨by simp [e2], ?_⟩
  (repeat' (first | (with_reducible exact Below.refl _ _) | (with_reducible refine Below.setCell ?_ (by first | omega | (simp; done) | (simp; omega)) _) | (with_reducible refine Below.alloc ?_ (by first | omega | (simp; done) | (simp; omega)) _) | (with_reducible refine Below.drew ?_) | (with_reducible refine below_drewN ?_ _) | (with_reducible refine Below.trans ?_ (Below.mono (by assumption) (by first | omega | (simp; done) | (simp; omega))))))

theorem rowI_zeros (w : World) (n : Nat) : RowI (w.alloc (.cells (zerosI n) 3)) w.heap.size n (fun _ => 0) := by
  have hh : (w.alloc (.cells (zerosI n) 3)).heap[w.heap.size]? = some (.cells (zerosI n) 3 (0, 0)) := World.alloc_heap_new w _
  refine ⟨(Array.getElem?_eq_some_iff.1 hh).1, fun j hj => ⟨?_, frozen_of_row _ _ j _ _ hh⟩⟩
  simp only [World.cell?, hh]
  exact zerosI_get n j hj
theorem two_zerosR (w0 : World) (n s : Nat) (hs : w0.heap.size = s) : RowI (((w0.alloc (.cells (zerosI n) 3)).alloc (.cells (zerosI n) 3)).drew) s n (fun _ => 0) ∧ RowI (((w0.alloc (.cells (zerosI n) 3)).alloc (.cells (zerosI n) 3)).drew) (s + 1) n (fun _ => 0) := by
  subst hs
  have h1 := rowI_zeros w0 n
  have h2 := rowI_zeros (w0.alloc (.cells (zerosI n) 3)) n
  rw [World.size_alloc] at h2
  exact ⟨h1.below (m := w0.heap.size + 1) (((Below.refl _ _).alloc (by simp) _).drew) (by omega), h2.below (m := w0.heap.size + 1 + 1) ((Below.refl _ _).drew) (by omega)⟩

set_option maxHeartbeats 2000000 in
theorem wopenR_any (W H : Int) (ao : Option Addr) (n cap : Nat) (w : World) (hn : n ≤ 100000) : Calls Tryd.prog 84 #[.agg #[.int .i64 W, .int .i64 H, .slice (ao) n cap]] w (OwnW n (fun _ => 0) (fun _ => 0) w) := by
  have hmk := fun wx => run_zerosI n hn wx
  go_enter Tryd.func84, Tryd.ntmps84
  go_wp2
  go_region
  all_goals (rename_i Q9 K9 a9; refine a9 _ _ ?_; dsimp +zetaDelta only; go_wp2)
  · refine bodyPost_ret (v := .agg #[.slice (some ⟨w.heap.size + 1 + 1, 0, none⟩) n n, .slice (some ⟨w.heap.size + 1 + 1 + 1, 0, none⟩) n n]) (by simp [results, Tryd.results84, go_sem, ↓IntWalk.iteOmega, *]) rfl ?_
    have tz := two_zerosR ((w.alloc (.cells #[.int .i64 W, .int .i64 H, .slice ao n cap] 24)).alloc (.cells #[.slice (some ⟨w.heap.size + 1 + 1, 0, none⟩) n n, .slice (some ⟨w.heap.size + 1 + 1 + 1, 0, none⟩) n n] 27)) n (w.heap.size + 1 + 1) (by simp)
    exact ⟨_, _, n, n, rfl, Lib.hid ⟨tz.1, tz.2, by omega⟩, by omega, by omega, by (repeat' (first | (with_reducible exact Below.refl _ _) | (with_reducible refine Below.setCell ?_ (by first | omega | (simp; done) | (simp; omega)) _) | (with_reducible refine Below.alloc ?_ (by first | omega | (simp; done) | (simp; omega)) _) | (with_reducible refine Below.drew ?_) | (with_reducible refine below_drewN ?_ _) | (with_reducible refine Below.trans ?_ (Below.mono (by assumption) (by first | omega | (simp; done) | (simp; omega))))))⟩
  · refine bodyPost_ret (v := .agg #[.slice (some ⟨w.heap.size + 1 + 1 + 1, 0, none⟩) n n, .slice (some ⟨w.heap.size + 1 + 1, 0, none⟩) n n]) (by simp [results, Tryd.results84, go_sem, ↓IntWalk.iteOmega, *]) rfl ?_
    have tz := two_zerosR ((w.alloc (.cells #[.int .i64 W, .int .i64 H, .slice ao n cap] 24)).alloc (.cells #[.slice (some ⟨w.heap.size + 1 + 1 + 1, 0, none⟩) n n, .slice (some ⟨w.heap.size + 1 + 1, 0, none⟩) n n] 27)) n (w.heap.size + 1 + 1) (by simp)
    exact ⟨_, _, n, n, rfl, Lib.hid ⟨tz.2, tz.1, by omega⟩, by omega, by omega, by (repeat' (first | (with_reducible exact Below.refl _ _) | (with_reducible refine Below.setCell ?_ (by first | omega | (simp; done) | (simp; omega)) _) | (with_reducible refine Below.alloc ?_ (by first | omega | (simp; done) | (simp; omega)) _) | (with_reducible refine Below.drew ?_) | (with_reducible refine below_drewN ?_ _) | (with_reducible refine Below.trans ?_ (Below.mono (by assumption) (by first | omega | (simp; done) | (simp; omega))))))⟩

theorem blocks3y {w wo : World} {t1 t2 t4 : TypeId} {a b c d e h i : Value} (hb : Below (((w.alloc (.cells #[a, b, c] t1)).alloc (.cells #[d, e] t2)).alloc (.cells #[h, i] t4)).heap.size (((w.alloc (.cells #[a, b, c] t1)).alloc (.cells #[d, e] t2)).alloc (.cells #[h, i] t4)) wo) : Three wo w.heap.size t1 a b c ∧ Two wo (w.heap.size + 1) t2 d e ∧ Two wo (w.heap.size + 2) t4 h i := by
  have x1 : Below (w.heap.size + 1) (w.alloc (.cells #[a, b, c] t1)) wo := by
    have y : Below (w.heap.size + 1) (w.alloc (.cells #[a, b, c] t1)) (((w.alloc (.cells #[a, b, c] t1)).alloc (.cells #[d, e] t2)).alloc (.cells #[h, i] t4)) := ((Below.refl _ _).alloc (by simp) _).alloc (by simp) _
    exact y.trans (hb.mono (by simp))
  have x2 : Below (w.heap.size + 2) ((w.alloc (.cells #[a, b, c] t1)).alloc (.cells #[d, e] t2)) wo := by
    have y : Below (w.heap.size + 2) ((w.alloc (.cells #[a, b, c] t1)).alloc (.cells #[d, e] t2)) (((w.alloc (.cells #[a, b, c] t1)).alloc (.cells #[d, e] t2)).alloc (.cells #[h, i] t4)) := (Below.refl _ _).alloc (by simp) _
    exact y.trans (hb.mono (by simp))
  exact ⟨(Three.newAt rfl).below x1 (by omega), (Two.newAt (by simp)).below x2 (by omega), (Two.newAt (by simp)).below hb (by simp)⟩

/-- The block of the flipped kinds. -/
def FlB (w : World) (P : Nat) : Prop := w.heap[P]? = some (.cells #[.int .i64 0, .int .i64 1, .int .i64 3, .int .i64 2] 76 (0, 0))
theorem FlB.lt {w : World} {P : Nat} (h : FlB w P) : P < w.heap.size := (Array.getElem?_eq_some_iff.1 h).1
theorem FlB.at {w : World} {P q : Nat} (h : FlB w P) (hq : q < 4) : w.cell? ⟨P, q, none⟩ = some (.int .i64 (flipK q)) := by
  match q, hq with
  | 0, _ => simp [World.cell?, show w.heap[P]? = _ from h, flipK]
  | 1, _ => simp [World.cell?, show w.heap[P]? = _ from h, flipK]
  | 2, _ => simp [World.cell?, show w.heap[P]? = _ from h, flipK]
  | 3, _ => simp [World.cell?, show w.heap[P]? = _ from h, flipK]
theorem FlB.ex {S : Nat → Prop} {w w' : World} {P : Nat} (h : FlB w P) (x : Ex S w w') (hs : ¬ S P) : FlB w' P := (x.block P h.lt hs).trans h
theorem FlB.below {w w' : World} {P m : Nat} (h : FlB w P) (hb : Below m w w') (hm : P < m) : FlB w' P := (hb.block P hm).trans h
theorem Two.ex {S : Nat → Prop} {w w' : World} {B : Nat} {t : TypeId} {x y : Value} (h : Two w B t x y) (hx : Ex S w w') (hs : ¬ S B) : Two w' B t x y := (hx.block B h.lt hs).trans h
theorem RowI.set {w : World} {b n i : Nat} {K : Nat → Int} (h : RowI w b n K) (hi : i < n) (x : Int) : RowI (w.setCell ⟨b, i, none⟩ (.int .i64 x)) b n (fun j => if j = i then x else K j) := by
  refine ⟨by simpa [World.setCell] using h.1, fun j hj => ⟨?_, by rw [World.frozen?_setCell]; exact (h.2 j hj).2⟩⟩
  by_cases e : j = i
  · subst e
    rw [World.cell?_setCell_same' _ _ _ (by rw [(h.2 j hj).1]; rfl)]
    simp
  · rw [World.cell?_setCell_other _ _ _ _ (by intro e'; cases e'; exact e rfl)]
    simp [e, (h.2 j hj).1]
theorem wmir_rel {w4 wr w5 : World} {gk gb n k m W H : Nat} {L M K B : Nat → Int} (hn : n = W * H) (ne : gk ≠ gb) (hk : k < n) (hm : m = mip W k)
    (h : Ex (fun x => x = gk ∨ x = gb) w4 wr ∧ RowI wr gk n L ∧ RowI wr gb n M ∧ ∀ j, j < k → L (mip W j) = flipK (K j) ∧ M (mip W j) = B j) (hb : Below wr.heap.size wr w5) {u v : Int} (hu : u = flipK (K k)) (hv : v = B k) :
    ∃ L' M' : Nat → Int, Ex (fun x => x = gk ∨ x = gb) w4 ((w5.setCell ⟨gk, m, none⟩ (.int .i64 u)).setCell ⟨gb, m, none⟩ (.int .i64 v)) ∧ RowI ((w5.setCell ⟨gk, m, none⟩ (.int .i64 u)).setCell ⟨gb, m, none⟩ (.int .i64 v)) gk n L' ∧ RowI ((w5.setCell ⟨gk, m, none⟩ (.int .i64 u)).setCell ⟨gb, m, none⟩ (.int .i64 v)) gb n M' ∧ ∀ j, j < k + 1 → L' (mip W j) = flipK (K j) ∧ M' (mip W j) = B j := by
  obtain ⟨hx, hL, hM, hd⟩ := h
  have hmn : m < n := by
    subst hm hn
    exact (mip_parts hk).1
  have x1 : Ex (fun _ => False) wr w5 := Ex.of_below hb
  have y1 : Ex (fun x => x = gk) w5 (w5.setCell ⟨gk, m, none⟩ (.int .i64 u)) := by refine Ex.setCell (Ex.refl _ _) ?_ _; rfl
  have y2 : Ex (fun x => x = gb) (w5.setCell ⟨gk, m, none⟩ (.int .i64 u)) ((w5.setCell ⟨gk, m, none⟩ (.int .i64 u)).setCell ⟨gb, m, none⟩ (.int .i64 v)) := by refine Ex.setCell (Ex.refl _ _) ?_ _; rfl
  have r1 := ((hL.ex x1 (fun h => h)).set hmn u).ex y2 ne
  have r2 := ((hM.ex x1 (fun h => h)).ex y1 (Ne.symm ne)).set hmn v
  refine ⟨_, _, ((hx.trans (x1.mono (fun _ h => h.elim))).trans (y1.mono (fun _ h => .inl h))).trans (y2.mono (fun _ h => .inr h)), r1, r2, fun j hj => ?_⟩
  by_cases e : j = k
  · subst e
    rw [← hm]
    simp [hu, hv]
  · have hjk : j < k := by omega
    have hne : mip W j ≠ m := fun h => e (by
      subst hm hn
      have a := mip_back (W := W) (H := H) (i := j) (by omega)
      have c := mip_back (W := W) (H := H) (i := k) hk
      rw [h, c] at a
      exact a.symm)
    have := hd j hjk
    simp [hne, this]
theorem wmir_all {n W H : Nat} {L M K B : Nat → Int} (hn : n = W * H) (hd : ∀ j, j < n → L (mip W j) = flipK (K j) ∧ M (mip W j) = B j) : (∀ j, j < n → L j = miK W K j) ∧ ∀ j, j < n → M j = miB W B j := by
  subst hn
  have key : ∀ j, j < W * H → L j = miK W K j ∧ M j = miB W B j := fun j hj => by
    have := hd (mip W j) (mip_parts hj).1
    rw [mip_back hj] at this
    exact this
  exact ⟨fun j hj => (key j hj).1, fun j hj => (key j hj).2⟩
theorem RowI.eqI {w : World} {b n : Nat} {K L : Nat → Int} (h : RowI w b n K) (e : ∀ j, j < n → K j = L j) : RowI w b n L := ⟨h.1, fun j hj => by rw [← e j hj]; exact h.2 j hj⟩

set_option maxRecDepth 100000 in
set_option maxHeartbeats 8000000 in
theorem wmir_in (W H n b off cap bk ok ck bb ob cb : Nat) (K B : Nat → Int) (G : Nat → Nat → Int) (w : World) (s : Sides W H n) (hO : OkG n G) (hlt : b < w.heap.size) (hG : Grd w b off n G) (hP : ∀ i, i < n → OkP (K i) (B i)) (hbk : bk < w.heap.size) (hN : NumsAt w bk ok n K) (hbb : bb < w.heap.size) (hB : NumsAt w bb ob n B) :
    Calls Tryd.prog 26 #[.agg #[.int .i64 W, .int .i64 H, .slice (some ⟨b, off, none⟩) n cap], .agg #[.slice (some ⟨bk, ok, none⟩) n ck, .slice (some ⟨bb, ob, none⟩) n cb]] w (GaveWE n (miK W K) (miB W B) w) := by
  have V := Lib.hid (fun wx (hb : Below w.heap.size w wx) => wValid_yes W H (some ⟨b, off, none⟩) n cap G (some ⟨bk, ok, none⟩) n ck K (some ⟨bb, ob, none⟩) n cb B wx ⟨vg_of s hO, rfl, rfl, hP⟩ ((show CellsIn w _ n G from .inr ⟨b, off, rfl, hlt, hG⟩).below hb) ((show NumsIn w _ n K from .inr ⟨bk, ok, rfl, hbk, hN⟩).below hb) ((show NumsIn w _ n B from .inr ⟨bb, ob, rfl, hbb, hB⟩).below hb))
  have hn1 := s.n1
  have OP := Lib.hid (fun wx => wopenR_any W H (some ⟨b, off, none⟩) n cap wx (by omega))
  have HN := Lib.hid hN
  have HB := Lib.hid hB
  have S := Lib.hid s
  have HK := Lib.hid (okK_of hP)
  clear hG s hP hN hB hO
  go_enter Tryd.func26, Tryd.ntmps26
  go_wp2_with (go_at_call 85; (with_reducible refine (V.out _ (by (repeat' (first | (with_reducible exact Below.refl _ _) | (with_reducible refine Below.setCell ?_ (by first | omega | (simp; done) | (simp; omega)) _) | (with_reducible refine Below.alloc ?_ (by first | omega | (simp; done) | (simp; omega)) _) | (with_reducible refine Below.drew ?_) | (with_reducible refine below_drewN ?_ _) | (with_reducible refine Below.trans ?_ (Below.mono (by assumption) (by first | omega | (simp; done) | (simp; omega)))))))).mono ?_); rintro e w1 ⟨rfl, hb⟩; obtain ⟨hc, hf, hz⟩ := bcall hb; (try simp at hc hf hz))
  have hbw : Below w.heap.size w w1 := by (repeat' (first | (with_reducible exact Below.refl _ _) | (with_reducible refine Below.setCell ?_ (by first | omega | (simp; done) | (simp; omega)) _) | (with_reducible refine Below.alloc ?_ (by first | omega | (simp; done) | (simp; omega)) _) | (with_reducible refine Below.drew ?_) | (with_reducible refine below_drewN ?_ _) | (with_reducible refine Below.trans ?_ (Below.mono (by assumption) (by first | omega | (simp; done) | (simp; omega))))))
  have hsz : w.heap.size + 3 ≤ w1.heap.size := by omega
  obtain ⟨tg, tw, tr⟩ := blocks3y hb
  obtain ⟨w9, hw9⟩ : ∃ x, x = w1 := ⟨w1, rfl⟩
  subst hw9
  obtain ⟨P, hP⟩ : ∃ P, P = w9.heap.size := ⟨_, rfl⟩
  obtain ⟨w2, hw2⟩ : ∃ w2, w2 = w9.alloc (.cells #[.int .i64 0, .int .i64 1, .int .i64 3, .int .i64 2] 76) := ⟨_, rfl⟩
  have fl2 : FlB w2 P := by rw [hw2, hP]; exact World.alloc_heap_new w9 _
  have hb2 : Below w9.heap.size w9 w2 := by rw [hw2]; exact (Below.refl _ _).alloc (Nat.le_refl _) _
  have lw2 : w2.heap.size = P + 1 := by rw [hw2, hP]; simp
  rw [← hw2, ← hP]
  clear hc hf hz hb hw2 V
  go_at_call 84
  refine (OP.out _).mono ?_
  rintro e w3 ⟨gk, gb, c1, c2, rfl, hW, lo1, lo2, hb3⟩
  have hb4 : Below w3.heap.size w3 (w3.alloc (.cells #[.slice (some ⟨gk, 0, none⟩) n c1, .slice (some ⟨gb, 0, none⟩) n c2] 27)) := (Below.refl _ _).alloc (Nat.le_refl _) _
  have t7 := Two.new w3 27 (.slice (some ⟨gk, 0, none⟩) n c1) (.slice (some ⟨gb, 0, none⟩) n c2)
  obtain ⟨Q, hQ⟩ : ∃ Q, Q = w3.heap.size := ⟨_, rfl⟩
  obtain ⟨w4, hw4⟩ : ∃ w4, w4 = w3.alloc (.cells #[.slice (some ⟨gk, 0, none⟩) n c1, .slice (some ⟨gb, 0, none⟩) n c2] 27) := ⟨_, rfl⟩
  have lw3 : w2.heap.size ≤ w3.heap.size := hb3.size
  have lw4 : w4.heap.size = Q + 1 := by rw [hw4, hQ]; simp
  have lgk := hW.out.1.1
  have lgb := hW.out.2.1.1
  rw [← hw4] at hb4 t7
  have TG := Lib.hid (((tg.below hb2 (by omega)).below hb3 (by omega)).below hb4 (by omega))
  have TW := Lib.hid (((tw.below hb2 (by omega)).below hb3 (by omega)).below hb4 (by omega))
  have TR := Lib.hid (((tr.below hb2 (by omega)).below hb3 (by omega)).below hb4 (by omega))
  have FL := Lib.hid ((fl2.below hb3 (by omega)).below hb4 (by omega))
  have RK := Lib.hid (hW.out.1.below hb4 lgk)
  have RB := Lib.hid (hW.out.2.1.below hb4 lgb)
  have ngk := hW.out.2.2
  have HBW := Lib.hid (show Below w.heap.size w w4 from ((hbw.trans (hb2.mono (by omega))).trans (hb3.mono (by omega))).trans (hb4.mono (by omega)))
  rw [← hQ] at t7
  have T7 := Lib.hid t7
  have v0 := TW.out.c0
  have ltw := TW.out.lt
  have hPl : w.heap.size + 3 ≤ P := by omega
  rw [hw4] at v0 ltw
  go_wp2_with fail
  rw [← hw4, ← hQ]
  have hQ1 : gk < Q := by omega
  have hQ2 : gb < Q := by omega
  have hPQ : P < Q := by omega
  clear v0 ltw hb2 hb3 hb4 fl2 tg tw tr hW t7 hw4 hQ OP
  have q0 : w.heap.size ≤ gk := by omega
  go_loopw [22] (fun i wr => ∃ (k : Nat) (L M : Nat → Int), k ≤ n ∧ i = .int .i64 k ∧ Hid (Ex (fun x => x = gk ∨ x = gb) w4 wr ∧ RowI wr gk n L ∧ RowI wr gb n M ∧ ∀ j, j < k → L (mip W j) = flipK (K j) ∧ M (mip W j) = B j)) (fun i _ => n - (intOf i).toNat)
  case atStart => exact ⟨0, _, _, Nat.zero_le _, rfl, Lib.hid ⟨Ex.refl _ _, RK.out, RB.out, fun j hj => by omega⟩⟩
  case round =>
    obtain ⟨k, L, M, hk, rfl, HH⟩ := hrel
    have t7 := T7.out.ex HH.out.1 (by omega)
    have l7 := t7.lt
    have d0 := t7.c0
    have d1 := t7.c1
    by_cases hlk : k < n
    · have tg := TG.out.ex HH.out.1 (by omega)
      have tw := TW.out.ex HH.out.1 (by omega)
      have hlg := tg.lt
      have k0 := tg.c0
      have k1 := tg.c1
      have k2 := tg.c2
      have v0 := tw.c0
      have v1 := tw.c1
      have hlw := tw.lt
      have hBr := HBW.out.trans (HH.out.1.below HBW.out.size (fun k hk => by omega))
      have kk := (hBr.cell (p := ⟨bk, ok + k, none⟩) hbk).trans (HN.out k hlk)
      have bv := (hBr.cell (p := ⟨bb, ob + k, none⟩) hbb).trans (HB.out k hlk)
      have lbk : bk < wr.heap.size := Nat.lt_of_lt_of_le hbk hBr.size
      have lbb : bb < wr.heap.size := Nat.lt_of_lt_of_le hbb hBr.size
      have p0 : (0 : Int) ≤ (k : Int) := by omega
      have p1 : (k : Int) < (n : Int) := by omega
      obtain ⟨q, hq⟩ := Int.eq_ofNat_of_zero_le (HK.out k hlk).1
      have hq3 : q < 4 := by have := (HK.out k hlk).2; omega
      have flq := (FL.out.ex HH.out.1 (by omega)).at hq3
      have lfl := (FL.out.ex HH.out.1 (by omega)).lt
      rw [hq] at kk
      rw [hP] at flq lfl
      have HQ := Lib.hid hq
      obtain ⟨m, hm⟩ : ∃ m, m = mip W k := ⟨_, rfl⟩
      have hmn : m < n := by
        rw [hm, S.out.n0]
        exact (mip_parts (by have := S.out.n0; omega)).1
      obtain ⟨a0, f0⟩ := HH.out.2.1.2 m hmn
      obtain ⟨b0, g0⟩ := HH.out.2.2.1.2 m hmn
      have lk := HH.out.2.1.1
      have lb := HH.out.2.2.1.1
      obtain ⟨x, hx⟩ : ∃ x, x = k % W := ⟨_, rfl⟩
      obtain ⟨y, hy⟩ : ∃ y, y = k / W := ⟨_, rfl⟩
      have w0' := S.out.w0
      have w1' := S.out.w1
      have hxW : x < W := by rw [hx]; exact Nat.mod_lt _ (by omega)
      have hy5 : y ≤ k := by rw [hy]; exact Nat.div_le_self _ _
      have tm : (k : Int).tmod (W : Int) = (x : Int) := by rw [Int.tmod_eq_emod_of_nonneg (by omega), hx]; rfl
      have td : (k : Int).tdiv (W : Int) = (y : Int) := by rw [Int.tdiv_eq_ediv_of_nonneg (by omega), hy]; rfl
      have wne : ¬ W = 0 := by omega
      have e1 : IntKind.i64.wrap ((W : Int) - 1) = (W : Int) - 1 := IntWalk.i64_in _ ⟨by omega, by omega⟩
      have e2 : IntKind.i64.wrap ((W : Int) - 1 - (x : Int)) = (W : Int) - 1 - (x : Int) := IntWalk.i64_in _ ⟨by omega, by omega⟩
      have e3 : IntKind.i64.wrap (y : Int) = (y : Int) := IntWalk.i64_in _ ⟨by omega, by omega⟩
      have e4 : IntKind.i64.wrap (x : Int) = (x : Int) := IntWalk.i64_in _ ⟨by omega, by omega⟩
      have HM := Lib.hid (show (W : Int) - 1 - (x : Int) + (W : Int) * (y : Int) = (m : Int) from by
        rw [hm, hx, hy]
        unfold mip
        rw [Int.natCast_add, Int.natCast_mul]
        have : k % W < W := Nat.mod_lt _ (by omega)
        omega)
      have HMM := Lib.hid hm
      have IX := Lib.hid (fun wx => windex_any W H (some ⟨b, off, none⟩) n cap ((W : Int) - 1 - (x : Int)) (y : Int) m wx (by omega) (by omega) (by omega) (by omega) (by omega) (by omega) HM.out (by omega))
      clear tg tw t7 hBr hq hm hx hy
      go_wp2
      go_region_held3 (fun w' => w'.cell? ⟨w.heap.size, 0, none⟩ = some (.int .i64 W) ∧ w'.cell? ⟨w.heap.size, 1, none⟩ = some (.int .i64 H) ∧ w'.cell? ⟨w.heap.size, 2, none⟩ = some (.slice (some ⟨b, off, none⟩) n cap)) (first | (go_split_ands; (try dsimp only); refine ⟨?_, ?_, ?_⟩ <;> (first | (with_reducible assumption) | (with_reducible exact keep_cell (by assumption) (by first | omega | (simp; done) | (simp; omega)) (by assumption)) | (with_reducible exact (World.cell?_alloc_past _ _ _ (by show _ < _; omega)).trans (by assumption)) | (with_reducible exact (World.cell?_alloc_past _ _ _ (by show _ < _; omega)).trans ((World.cell?_alloc_past _ _ _ (by show _ < _; omega)).symm.trans (by assumption))) | (simp [go_sem]; with_reducible assumption))) | (simp [go_sem, ↓IntWalk.iteOmega, *]; done)) ((go_at_call 86; (with_reducible refine (IX.out _).mono ?_); rintro e w1 ⟨rfl, hb⟩; obtain ⟨hc, hf, hz⟩ := bcall hb; (try simp at hc hf hz)))
      have hbx : Below wr.heap.size wr w1 := by (repeat' (first | (with_reducible exact Below.refl _ _) | (with_reducible refine Below.setCell ?_ (by first | omega | (simp; done) | (simp; omega)) _) | (with_reducible refine Below.alloc ?_ (by first | omega | (simp; done) | (simp; omega)) _) | (with_reducible refine Below.drew ?_) | (with_reducible refine below_drewN ?_ _) | (with_reducible refine Below.trans ?_ (Below.mono (by assumption) (by first | omega | (simp; done) | (simp; omega))))))
      have HX := Lib.hid hbx
      have kx0 := keep_cell hbx l7 d0
      have kx1 := keep_cell hbx l7 d1
      have kx2 := keep_cell hbx lfl flq
      have kx3 := keep_cell hbx hlw v1
      have kx4 := keep_cell hbx lbb bv
      have kx5 := keep_cell hbx lk a0
      have kx6 := keep_cell hbx lb b0
      have kx7 := (hbx.frozen (p := ⟨gk, m, none⟩) lk).trans f0
      have kx8 := (hbx.frozen (p := ⟨gb, m, none⟩) lb).trans g0
      have sx := hbx.size
      have m0 : (0 : Int) ≤ (m : Int) := by omega
      have m1 : (m : Int) < (n : Int) := by omega
      have s0 : (0 : Int) ≤ (q : Int) := by omega
      have s1 : (q : Int) < 4 := by omega
      clear hc hf hb hbx d0 d1 flq v0 v1 bv kk a0 b0 f0 g0 k0 k1 k2
      go_wp2
      go_region_held3 (fun w' => w'.cell? ⟨Q, 0, none⟩ = some (.slice (some ⟨gk, 0, none⟩) n c1) ∧ w'.cell? ⟨Q, 1, none⟩ = some (.slice (some ⟨gb, 0, none⟩) n c2) ∧ w'.cell? ⟨w9.heap.size, q, none⟩ = some (.int .i64 (flipK q)) ∧ w'.cell? ⟨w.heap.size + 1, 1, none⟩ = some (.slice (some ⟨bb, ob, none⟩) n cb) ∧ w'.cell? ⟨bb, ob + k, none⟩ = some (.int .i64 (B k))) (first | (go_split_ands; (try dsimp only); refine ⟨?_, ?_, ?_, ?_, ?_⟩ <;> (first | (with_reducible assumption) | (with_reducible exact keep_cell (by assumption) (by first | omega | (simp; done) | (simp; omega)) (by assumption)) | (with_reducible exact (World.cell?_alloc_past _ _ _ (by show _ < _; omega)).trans (by assumption)) | (with_reducible exact (World.cell?_alloc_past _ _ _ (by show _ < _; omega)).trans ((World.cell?_alloc_past _ _ _ (by show _ < _; omega)).symm.trans (by assumption))) | (simp [go_sem]; with_reducible assumption))) | (simp [go_sem, ↓IntWalk.iteOmega, *]; done)) (fail)
      go_wp2
      rename_i hHeld9
      clear hHeld9
      obtain ⟨L', M', r0, r1, r2, r3⟩ := wmir_rel S.out.n0 ngk hlk HMM.out HH.out HX.out (u := flipK q) (v := B k) (by rw [HQ.out]) rfl
      refine ⟨⟨k + 1, L', M', by omega, by go_num, Lib.hid ⟨r0.drew, r1.ex (S := fun _ => False) ((Ex.refl _ _).drew) (fun h => h), r2.ex (S := fun _ => False) ((Ex.refl _ _).drew) (fun h => h), r3⟩⟩, ?_⟩
      simp [intOf]
      omega
    · obtain rfl : n = k := by omega
      have tr := TR.out.ex HH.out.1 (by omega)
      have z0 := tr.c0
      have z1 := tr.c1
      have g0 := tr.f0 0
      have g1 := tr.f0 1
      have ltr := tr.lt
      have HBr := Lib.hid (HBW.out.trans (HH.out.1.below HBW.out.size (fun k hk => by omega)))
      obtain ⟨ea, eb⟩ := wmir_all S.out.n0 HH.out.2.2.2
      have HA := Lib.hid (HH.out.2.1.eqI ea)
      have HC := Lib.hid (HH.out.2.2.1.eqI eb)
      clear tr t7 ea eb
      go_wp2
      refine bodyPost_ret (v := .tuple #[.agg #[.slice (some ⟨gk, 0, none⟩) n c1, .slice (some ⟨gb, 0, none⟩) n c2], .int .i64 0]) (by simp [results, Tryd.results26, go_sem, ↓IntWalk.iteOmega, *]) rfl ?_
      refine ⟨gk, gb, c1, c2, rfl, Lib.hid ⟨(show NumsIn wr (some ⟨gk, 0, none⟩) n (miK W K) from .inr ⟨gk, 0, rfl, HA.out.1, HA.out.nums⟩).two (by omega), (show NumsIn wr (some ⟨gb, 0, none⟩) n (miB W B) from .inr ⟨gb, 0, rfl, HC.out.1, HC.out.nums⟩).two (by omega)⟩, by omega, by omega, ?_⟩
      have hB9 := HBr.out
      have hs9 := hB9.size
      exact hB9.trans ((Ex.below (S := fun k => k = w.heap.size + 1 + 1) (by refine Ex.setCell (Ex.setCell (Ex.refl _ _) ?_ _) ?_ _ <;> rfl) hs9 (fun k hk => by omega)))
end Go.Proofs.YtglkikdjchpmjaaDoor
