/- Grids that are moved: by the program. -/
import Derived.Test.YtdbehbeaigfpcaaDoorKDiff
import Derived.Test.YtdbehbeaigfpcaaDoorKMove
namespace Go.Proofs.YtdbehbeaigfpcaaDoor
set_option linter.unusedSimpArgs false
set_option linter.unusedVariables false
open Go.RowKit

set_option maxHeartbeats 1000000 in
theorem index_any (W H : Int) (ao : Option Addr) (n cap : Nat) (px py : Int) (q : Nat) (w : World) (h0 : 0 ≤ W) (h1 : W ≤ 64) (p0 : 0 ≤ px) (p1 : px ≤ 5000) (y0 : 0 ≤ py) (y1 : py ≤ 5000) (hq : px + W * py = q) (hq1 : q ≤ 1000000) :
    Calls Tryd.prog 67 #[.agg #[.int .i64 W, .int .i64 H, .slice (ao) n cap], .agg #[.int .i64 px, .int .i64 py]] w fun e w' => e = .returned (.int .i64 q) ∧ Below w.heap.size w w' := by
  have m0 : 0 ≤ W * py := Int.mul_nonneg h0 y0
  have m1 : W * py ≤ 1000000 := by omega
  have HQ := Lib.hid hq; clear hq
  go_enter Tryd.func67, Tryd.ntmps67
  go_wp2
  go_ret
  refine ⟨ret_i HQ.out, ?_⟩
  (repeat' (first | (with_reducible exact Below.refl _ _) | (with_reducible refine Below.setCell ?_ (by first | omega | (simp; done) | (simp; omega)) _) | (with_reducible refine Below.alloc ?_ (by first | omega | (simp; done) | (simp; omega)) _) | (with_reducible refine Below.drew ?_) | (with_reducible refine below_drewN ?_ _) | (with_reducible refine Below.trans ?_ (Below.mono (by assumption) (by first | omega | (simp; done) | (simp; omega))))))

set_option maxHeartbeats 1000000 in
theorem stays_any (x y : Int) (w : World) : Calls Tryd.prog 52 #[.agg #[.int .i64 x, .int .i64 y]] w fun e w' => e = .returned (.agg #[.int .i64 x, .int .i64 y]) ∧ Below w.heap.size w w' := by
  go_enter Tryd.func52, Tryd.ntmps52
  go_wp2
  refine bodyPost_ret (v := .agg #[.int .i64 x, .int .i64 y]) (by simp [results, Tryd.results52, go_sem, ↓IntWalk.iteOmega, *]) rfl ⟨rfl, ?_⟩
  (repeat' (first | (with_reducible exact Below.refl _ _) | (with_reducible refine Below.setCell ?_ (by first | omega | (simp; done) | (simp; omega)) _) | (with_reducible refine Below.alloc ?_ (by first | omega | (simp; done) | (simp; omega)) _) | (with_reducible refine Below.drew ?_) | (with_reducible refine below_drewN ?_ _) | (with_reducible refine Below.trans ?_ (Below.mono (by assumption) (by first | omega | (simp; done) | (simp; omega))))))

/-- What a turn by quarters makes of a cell. -/
theorem turned_at (a b c d q : Int) (k : Nat) (w : World) (h : Ok4 a b c d) (hk : k < 4) (hq : q = k) :
    Calls Tryd.prog 69 #[.agg #[.int .i64 a, .int .i64 b, .int .i64 c, .int .i64 d], .int .i64 q] w fun e w' => e = .returned (.tuple #[(if k = 0 then .agg #[.int .i64 a, .int .i64 b, .int .i64 c, .int .i64 d] else if k = 1 then .agg #[.int .i64 d, .int .i64 a, .int .i64 b, .int .i64 c] else if k = 2 then .agg #[.int .i64 c, .int .i64 d, .int .i64 a, .int .i64 b] else .agg #[.int .i64 b, .int .i64 c, .int .i64 d, .int .i64 a]), .int .i64 0]) ∧ Below w.heap.size w w' := by
  subst hq
  match k, hk with
  | 0, _ => exact turned0 a b c d _ w h rfl
  | 1, _ => exact turned1 a b c d _ w h rfl
  | 2, _ => exact turned2 a b c d _ w h rfl
  | 3, _ => exact turned3 a b c d _ w h rfl

set_option maxHeartbeats 1000000 in
theorem quarters0 (a b c d : Int) (qb : Nat) (w : World) (h : Ok4 a b c d) (lq : qb < w.heap.size) (kq : w.cell? ⟨qb, 0, none⟩ = some (.int .i64 0)) :
    Calls Tryd.prog 68 #[.agg #[.int .i64 a, .int .i64 b, .int .i64 c, .int .i64 d], .pointer (some ⟨qb, 0, none⟩)] w fun e w' => e = .returned (.tuple #[.agg #[.int .i64 a, .int .i64 b, .int .i64 c, .int .i64 d], .int .i64 0]) ∧ Below w.heap.size w w' := by
  have H := Lib.hid (fun w' => turned0 a b c d 0 w' h (by decide)); clear h
  go_enter Tryd.func68, Tryd.ntmps68
  go_wp2_with (go_at_call 69; (with_reducible refine (H.out _).mono ?_); rintro e w1 ⟨rfl, hb⟩; obtain ⟨hc, hf, hz⟩ := bcall hb; (try simp at hc hf hz))
  refine bodyPost_ret (v := .tuple #[.agg #[.int .i64 a, .int .i64 b, .int .i64 c, .int .i64 d], .int .i64 0]) (by simp [results, Tryd.results68, go_sem, ↓IntWalk.iteOmega, *]) rfl ⟨rfl, ?_⟩
  (repeat' (first | (with_reducible exact Below.refl _ _) | (with_reducible refine Below.setCell ?_ (by first | omega | (simp; done) | (simp; omega)) _) | (with_reducible refine Below.alloc ?_ (by first | omega | (simp; done) | (simp; omega)) _) | (with_reducible refine Below.drew ?_) | (with_reducible refine below_drewN ?_ _) | (with_reducible refine Below.trans ?_ (Below.mono (by assumption) (by first | omega | (simp; done) | (simp; omega))))))

set_option maxHeartbeats 1000000 in
theorem quarters1 (a b c d : Int) (qb : Nat) (w : World) (h : Ok4 a b c d) (lq : qb < w.heap.size) (kq : w.cell? ⟨qb, 0, none⟩ = some (.int .i64 1)) :
    Calls Tryd.prog 68 #[.agg #[.int .i64 a, .int .i64 b, .int .i64 c, .int .i64 d], .pointer (some ⟨qb, 0, none⟩)] w fun e w' => e = .returned (.tuple #[.agg #[.int .i64 d, .int .i64 a, .int .i64 b, .int .i64 c], .int .i64 0]) ∧ Below w.heap.size w w' := by
  have H := Lib.hid (fun w' => turned1 a b c d 1 w' h (by decide)); clear h
  go_enter Tryd.func68, Tryd.ntmps68
  go_wp2_with (go_at_call 69; (with_reducible refine (H.out _).mono ?_); rintro e w1 ⟨rfl, hb⟩; obtain ⟨hc, hf, hz⟩ := bcall hb; (try simp at hc hf hz))
  refine bodyPost_ret (v := .tuple #[.agg #[.int .i64 d, .int .i64 a, .int .i64 b, .int .i64 c], .int .i64 0]) (by simp [results, Tryd.results68, go_sem, ↓IntWalk.iteOmega, *]) rfl ⟨rfl, ?_⟩
  (repeat' (first | (with_reducible exact Below.refl _ _) | (with_reducible refine Below.setCell ?_ (by first | omega | (simp; done) | (simp; omega)) _) | (with_reducible refine Below.alloc ?_ (by first | omega | (simp; done) | (simp; omega)) _) | (with_reducible refine Below.drew ?_) | (with_reducible refine below_drewN ?_ _) | (with_reducible refine Below.trans ?_ (Below.mono (by assumption) (by first | omega | (simp; done) | (simp; omega))))))

set_option maxHeartbeats 1000000 in
theorem quarters2 (a b c d : Int) (qb : Nat) (w : World) (h : Ok4 a b c d) (lq : qb < w.heap.size) (kq : w.cell? ⟨qb, 0, none⟩ = some (.int .i64 2)) :
    Calls Tryd.prog 68 #[.agg #[.int .i64 a, .int .i64 b, .int .i64 c, .int .i64 d], .pointer (some ⟨qb, 0, none⟩)] w fun e w' => e = .returned (.tuple #[.agg #[.int .i64 c, .int .i64 d, .int .i64 a, .int .i64 b], .int .i64 0]) ∧ Below w.heap.size w w' := by
  have H := Lib.hid (fun w' => turned2 a b c d 2 w' h (by decide)); clear h
  go_enter Tryd.func68, Tryd.ntmps68
  go_wp2_with (go_at_call 69; (with_reducible refine (H.out _).mono ?_); rintro e w1 ⟨rfl, hb⟩; obtain ⟨hc, hf, hz⟩ := bcall hb; (try simp at hc hf hz))
  refine bodyPost_ret (v := .tuple #[.agg #[.int .i64 c, .int .i64 d, .int .i64 a, .int .i64 b], .int .i64 0]) (by simp [results, Tryd.results68, go_sem, ↓IntWalk.iteOmega, *]) rfl ⟨rfl, ?_⟩
  (repeat' (first | (with_reducible exact Below.refl _ _) | (with_reducible refine Below.setCell ?_ (by first | omega | (simp; done) | (simp; omega)) _) | (with_reducible refine Below.alloc ?_ (by first | omega | (simp; done) | (simp; omega)) _) | (with_reducible refine Below.drew ?_) | (with_reducible refine below_drewN ?_ _) | (with_reducible refine Below.trans ?_ (Below.mono (by assumption) (by first | omega | (simp; done) | (simp; omega))))))

/-- While cells are moved. -/
def Mv (w : World) (W H wide high : Int) (b off n cap : Nat) (G K : Nat → Nat → Int) (wr : World) : Prop :=
  Three wr w.heap.size 24 (.int .i64 W) (.int .i64 H) (.slice (some ⟨b, off, none⟩) n cap) ∧ Three wr (w.heap.size + 1) 24 (.int .i64 0) (.int .i64 0) (.slice none 0 0) ∧ Three wr (w.heap.size + 3) 24 (.int .i64 wide) (.int .i64 high) (.slice (some ⟨w.heap.size + 2, 0, none⟩) n n) ∧ Row wr (w.heap.size + 2) n K ∧ Below w.heap.size w wr
theorem Mv.step {w wr wr' : World} {W H wide high : Int} {b off n cap : Nat} {G K K' : Nat → Nat → Int} (h : Mv w W H wide high b off n cap G K wr) (hx : Ex (fun k => k = w.heap.size + 2) wr wr') (hr : Row wr' (w.heap.size + 2) n K') : Mv w W H wide high b off n cap G K' wr' := by
  obtain ⟨t0, t1, t3, _, hb⟩ := h
  exact ⟨t0.ex hx (by omega), t1.ex hx (by omega), t3.ex hx (by omega), hr, hb.trans (hx.below hb.size (fun k hk => by omega))⟩
theorem mv_start (w : World) (W H wide high : Int) (b off n cap : Nat) (G : Nat → Nat → Int) (hn : n ≤ 100000) :
    Mv w W H wide high b off n cap G (fun _ _ => 0) ((((w.alloc (.cells #[.int .i64 W, .int .i64 H, .slice (some ⟨b, off, none⟩) n cap] 24)).alloc (.cells #[.int .i64 0, .int .i64 0, .slice none 0 0] 24)).alloc (.cells (zeros n) 50)).alloc (.cells #[.int .i64 wide, .int .i64 high, .slice (some ⟨w.heap.size + 1 + 1, 0, none⟩) n n] 24)) := by
  have b0 : Below w.heap.size w (((w.alloc (.cells #[.int .i64 W, .int .i64 H, .slice (some ⟨b, off, none⟩) n cap] 24)).alloc (.cells #[.int .i64 0, .int .i64 0, .slice none 0 0] 24)).alloc (.cells (zeros n) 50)) := by (repeat' (first | (with_reducible exact Below.refl _ _) | (with_reducible refine Below.setCell ?_ (by first | omega | (simp; done) | (simp; omega)) _) | (with_reducible refine Below.alloc ?_ (by first | omega | (simp; done) | (simp; omega)) _) | (with_reducible refine Below.drew ?_) | (with_reducible refine below_drewN ?_ _) | (with_reducible refine Below.trans ?_ (Below.mono (by assumption) (by first | omega | (simp; done) | (simp; omega))))))
  have x : Ex (fun _ => False) ((w.alloc (.cells #[.int .i64 W, .int .i64 H, .slice (some ⟨b, off, none⟩) n cap] 24)).alloc (.cells #[.int .i64 0, .int .i64 0, .slice none 0 0] 24)) ((((w.alloc (.cells #[.int .i64 W, .int .i64 H, .slice (some ⟨b, off, none⟩) n cap] 24)).alloc (.cells #[.int .i64 0, .int .i64 0, .slice none 0 0] 24)).alloc (.cells (zeros n) 50)).alloc (.cells #[.int .i64 wide, .int .i64 high, .slice (some ⟨w.heap.size + 1 + 1, 0, none⟩) n n] 24)) := ((Ex.refl _ _).alloc _).alloc _
  refine ⟨?_, (Three.new1 w _ _ _ _ _).ex x (fun h => h), ?_, ?_, b0.alloc (by simp; omega) _⟩
  · have t : Three (w.alloc (.cells #[.int .i64 W, .int .i64 H, .slice (some ⟨b, off, none⟩) n cap] 24)) w.heap.size 24 (.int .i64 W) (.int .i64 H) (.slice (some ⟨b, off, none⟩) n cap) := World.alloc_heap_new w _
    exact (t.ex ((Ex.refl (fun _ => False) _).alloc _) (fun h => h)).ex x (fun h => h)
  · have := World.alloc_heap_new (((w.alloc (.cells #[.int .i64 W, .int .i64 H, .slice (some ⟨b, off, none⟩) n cap] 24)).alloc (.cells #[.int .i64 0, .int .i64 0, .slice none 0 0] 24)).alloc (.cells (zeros n) 50)) (.cells #[.int .i64 wide, .int .i64 high, .slice (some ⟨w.heap.size + 1 + 1, 0, none⟩) n n] 24)
    simp only [World.size_alloc] at this
    exact this
  · have := row_zeros ((w.alloc (.cells #[.int .i64 W, .int .i64 H, .slice (some ⟨b, off, none⟩) n cap] 24)).alloc (.cells #[.int .i64 0, .int .i64 0, .slice none 0 0] 24)) n
    simp only [World.size_alloc] at this
    exact this.alloc _

/-- The cells below k have come to their places. -/
def Put (σ : Nat → Nat) (D K : Nat → Nat → Int) (k : Nat) : Prop := ∀ j, j < k → ∀ d, d < 4 → K (σ j) d = D j d
theorem put_step {n : Nat} {σ : Nat → Nat} {D K : Nat → Nat → Int} {k : Nat} (hinj : ∀ i j, i < n → j < n → σ i = σ j → i = j) (hk : k < n) (h : Put σ D K k) :
    Put σ D (upd (upd (upd (upd K (σ k) 0 (D k 0)) (σ k) 1 (D k 1)) (σ k) 2 (D k 2)) (σ k) 3 (D k 3)) (k + 1) := by
  intro j hj d hd
  have e : upd (upd (upd (upd K (σ k) 0 (D k 0)) (σ k) 1 (D k 1)) (σ k) 2 (D k 2)) (σ k) 3 (D k 3) (σ j) d = if σ j = σ k then D k d else K (σ j) d := by
    unfold upd
    match d, hd with
    | 0, _ => simp
    | 1, _ => simp
    | 2, _ => simp
    | 3, _ => simp
  rw [e]
  by_cases ej : j = k
  · subst ej; rw [if_pos rfl]
  · rw [if_neg (fun e' => ej (hinj j k (by omega) hk e'))]
    exact h j (by omega) d hd
theorem put_all {n : Nat} {σ τ : Nat → Nat} {D K L : Nat → Nat → Int} (h : Put σ D K n) (ht : ∀ i, i < n → τ i < n ∧ σ (τ i) = i) (hL : ∀ j, j < n → ∀ d, d < 4 → L (σ j) d = D j d) : EqG n K L := by
  intro i hi d hd
  obtain ⟨h1, h2⟩ := ht i hi
  have a := h (τ i) h1 d hd
  have b := hL (τ i) h1 d hd
  rw [h2] at a b
  rw [a, b]

set_option maxRecDepth 100000 in
set_option maxHeartbeats 8000000 in
theorem movedR (W H wide high n b off cap : Nat) (q0 : Nat) (G D L : Nat → Nat → Int) (σ τ : Nat → Nat) (px py : Nat → Int) (w : World) (s : Sides W H n) (hlt : b < w.heap.size) (hG : Grd w b off n G)
    (hp : ∀ k, k < n → ∀ w', Below w.heap.size w w' → Calls Tryd.prog 52 #[.agg #[.int .i64 ((k : Int) % (W : Int)), .int .i64 ((k : Int) / (W : Int))]] w' fun e w'' => e = .returned (.agg #[.int .i64 (px k), .int .i64 (py k)]) ∧ Below w'.heap.size w' w'')
    (hd : ∀ k, k < n → ∀ w', Below w.heap.size w w' → Calls Tryd.prog 68 #[.agg #[.int .i64 (G k 0), .int .i64 (G k 1), .int .i64 (G k 2), .int .i64 (G k 3)], .pointer (some ⟨q0, 0, none⟩)] w' fun e w'' => e = .returned (.tuple #[.agg #[.int .i64 (D k 0), .int .i64 (D k 1), .int .i64 (D k 2), .int .i64 (D k 3)], .int .i64 0]) ∧ Below w'.heap.size w' w'')
    (hi : ∀ k, k < n → ∀ w' ao, Calls Tryd.prog 67 #[.agg #[.int .i64 wide, .int .i64 high, .slice (ao) n n], .agg #[.int .i64 (px k), .int .i64 (py k)]] w' fun e w'' => e = .returned (.int .i64 (σ k)) ∧ Below w'.heap.size w' w'')
    (hs : ∀ k, k < n → σ k < n) (hinj : ∀ i j, i < n → j < n → σ i = σ j → i = j) (ht : ∀ i, i < n → τ i < n ∧ σ (τ i) = i) (hL : ∀ j, j < n → ∀ d, d < 4 → L (σ j) d = D j d) :
    Calls Tryd.prog 53 #[.agg #[.int .i64 W, .int .i64 H, .slice (some ⟨b, off, none⟩) n cap], .int .i64 wide, .int .i64 high, .func (.func 52) #[] #[], .func (.func 68) #[] #[.pointer (some ⟨q0, 0, none⟩)]] w (Gave wide high n L w) := by
  have hn1 := s.n1
  have hw0 := s.w0
  have hw1 := s.w1
  have hmk := fun wx => run_zeros n (by omega) wx
  have HG := Lib.hid hG
  have HP := Lib.hid hp
  have HD := Lib.hid hd
  have HI := Lib.hid hi
  have HS := Lib.hid hs
  have HJ := Lib.hid hinj
  have HT := Lib.hid ht
  have HL := Lib.hid hL
  clear s hG hp hd hi hs hinj ht hL
  have H0 := Lib.hid (mv_start w W H wide high b off n cap G (by omega))
  go_enter Tryd.func53, Tryd.ntmps53
  go_wp2
  go_loopw [25] (fun i wr => ∃ (k : Nat) (K : Nat → Nat → Int), k ≤ n ∧ i = .int .i64 k ∧ Hid (Mv w W H wide high b off n cap G K wr ∧ Put σ D K k)) (fun i _ => n - (intOf i).toNat)
  case atStart => exact ⟨0, _, Nat.zero_le _, rfl, Lib.hid ⟨H0.out, fun j hj => by omega⟩⟩
  case round =>
    obtain ⟨k, K, hk, rfl, HH⟩ := hrel
    obtain ⟨t0, t1, t3, hrow, hbw⟩ := HH.out.1
    have l3 := t3.lt
    have g0 := t0.c0
    have o0 := t3.c0
    have o1 := t3.c1
    have o2 := t3.c2
    by_cases hlk : k < n
    · obtain ⟨e0, e1, e2, e3⟩ := HG.out.get hbw hlt hlk
      have ho := HS.out k hlk
      obtain ⟨a0, a1, a2, a3⟩ := hrow.at4 ho
      obtain ⟨f0, f1, f2, f3⟩ := hrow.free4 ho
      have lr := hrow.1
      have hsz := hbw.size
      obtain ⟨q, hq⟩ : ∃ q, q = σ k := ⟨_, rfl⟩
      rw [← hq] at ho a0 a1 a2 a3 f0 f1 f2 f3
      obtain ⟨x0, x1, y0, y1⟩ := coords W k (by omega)
      have eq1 : IntKind.i64.wrap ((k : Int) / (W : Int)) = (k : Int) / (W : Int) := IntWalk.i64_in _ ⟨by omega, by omega⟩
      have rp := Lib.hid (HP.out k hlk)
      have rd := Lib.hid (HD.out k hlk)
      have ri := Lib.hid (fun w' ao => hq ▸ HI.out k hlk w' ao)
      have HB := Lib.hid hbw
      have HQ := Lib.hid hq
      have tm : (k : Int).tmod (W : Int) = (k : Int) % (W : Int) := Int.tmod_eq_emod_of_nonneg (by omega)
      have wI : (0 : Int) < (W : Int) := by omega
      have wz : ¬ W = 0 := by omega
      clear t0 t1 t3 hrow hbw hq
      go_wp2
      go_region_held3 (fun w' => w'.cell? ⟨w.heap.size, 0, none⟩ = some (.int .i64 W)) (first | (go_split_ands; (try dsimp only); (first | (with_reducible assumption) | (with_reducible exact keep_cell (by assumption) (by first | omega | (simp; done) | (simp; omega)) (by assumption)) | (with_reducible exact (World.cell?_alloc_past _ _ _ (by show _ < _; omega)).trans (by assumption)) | (with_reducible exact (World.cell?_alloc_past _ _ _ (by show _ < _; omega)).trans ((World.cell?_alloc_past _ _ _ (by show _ < _; omega)).symm.trans (by assumption))) | (simp [go_sem]; with_reducible assumption))) | (simp [go_sem, ↓IntWalk.iteOmega, *]; done)) ((go_at_call 52; (with_reducible refine (rp.out _ (HB.out.trans (by (repeat' (first | (with_reducible exact Below.refl _ _) | (with_reducible refine Below.setCell ?_ (by first | omega | (simp; done) | (simp; omega)) _) | (with_reducible refine Below.alloc ?_ (by first | omega | (simp; done) | (simp; omega)) _) | (with_reducible refine Below.drew ?_) | (with_reducible refine below_drewN ?_ _) | (with_reducible refine Below.trans ?_ (Below.mono (by assumption) (by first | omega | (simp; done) | (simp; omega))))))))).mono ?_); rintro e w4 ⟨rfl, hb4⟩; obtain ⟨hc4, hf4, hz4⟩ := bcall hb4; (try simp at hc4 hf4 hz4)))
      go_wp2
      · go_region_held3 (fun w' => w'.cell? ⟨w.heap.size + 3, 0, none⟩ = some (.int .i64 wide) ∧ w'.cell? ⟨w.heap.size + 3, 1, none⟩ = some (.int .i64 high) ∧ w'.cell? ⟨w.heap.size + 3, 2, none⟩ = some (.slice (some ⟨w.heap.size + 2, 0, none⟩) n n) ∧ w'.cell? ⟨w4.heap.size, 0, none⟩ = some (.int .i64 (px k)) ∧ w'.cell? ⟨w4.heap.size, 1, none⟩ = some (.int .i64 (py k)) ∧ w'.cell? ⟨wr.heap.size, 0, none⟩ = some (.int .i64 (G k 0)) ∧ w'.cell? ⟨wr.heap.size, 1, none⟩ = some (.int .i64 (G k 1)) ∧ w'.cell? ⟨wr.heap.size, 2, none⟩ = some (.int .i64 (G k 2)) ∧ w'.cell? ⟨wr.heap.size, 3, none⟩ = some (.int .i64 (G k 3))) (first | (go_split_ands; (try dsimp only); refine ⟨?_, ?_, ?_, ?_, ?_, ?_, ?_, ?_, ?_⟩ <;> (first | (with_reducible assumption) | (with_reducible exact keep_cell (by assumption) (by first | omega | (simp; done) | (simp; omega)) (by assumption)) | (with_reducible exact (World.cell?_alloc_past _ _ _ (by show _ < _; omega)).trans (by assumption)) | (with_reducible exact (World.cell?_alloc_past _ _ _ (by show _ < _; omega)).trans ((World.cell?_alloc_past _ _ _ (by show _ < _; omega)).symm.trans (by assumption))) | (simp [go_sem]; with_reducible assumption))) | (simp [go_sem, ↓IntWalk.iteOmega, *]; done)) (first | (go_at_call 67; (with_reducible refine (ri.out _ _).mono ?_); rintro e w5 ⟨rfl, hb5⟩; obtain ⟨hc5, hf5, hz5⟩ := bcall hb5; (try simp at hc5 hf5 hz5)) | (go_at_call 68; (with_reducible refine (rd.out _ (HB.out.trans (by (repeat' (first | (with_reducible exact Below.refl _ _) | (with_reducible refine Below.setCell ?_ (by first | omega | (simp; done) | (simp; omega)) _) | (with_reducible refine Below.alloc ?_ (by first | omega | (simp; done) | (simp; omega)) _) | (with_reducible refine Below.drew ?_) | (with_reducible refine below_drewN ?_ _) | (with_reducible refine Below.trans ?_ (Below.mono (by assumption) (by first | omega | (simp; done) | (simp; omega))))))))).mono ?_); rintro e w7 ⟨rfl, hb7⟩; obtain ⟨hc7, hf7, hz7⟩ := bcall hb7; (try simp at hc7 hf7 hz7)))
        go_wp2
        have hx := Lib.hid (show Below wr.heap.size wr w7 from by (repeat' (first | (with_reducible exact Below.refl _ _) | (with_reducible refine Below.setCell ?_ (by first | omega | (simp; done) | (simp; omega)) _) | (with_reducible refine Below.alloc ?_ (by first | omega | (simp; done) | (simp; omega)) _) | (with_reducible refine Below.drew ?_) | (with_reducible refine below_drewN ?_ _) | (with_reducible refine Below.trans ?_ (Below.mono (by assumption) (by first | omega | (simp; done) | (simp; omega)))))))
        clear hc4 hf4 hc5 hf5 hc7 hf7 hb4 hb5 hb7
        go_roundw
        case rel =>
          obtain ⟨hm, hpt⟩ := HH.out
          have x := Ex.of_below (S := fun _ => False) hx.out
          obtain ⟨c1, c2⟩ := chain1 (hm.2.2.2.1.ex x (fun h => h)) ho (D k 0) (D k 1) (D k 2) (D k 3)
          exact ⟨k + 1, _, by omega, by go_num, Lib.hid ⟨hm.step ((x.mono (fun _ h => h.elim)).trans c1) c2, HQ.out ▸ put_step HJ.out hlk hpt⟩⟩
        case measure => simp [intOf]; omega
      · go_region_held3 (fun w' => w'.cell? ⟨w.heap.size + 3, 0, none⟩ = some (.int .i64 wide) ∧ w'.cell? ⟨w.heap.size + 3, 1, none⟩ = some (.int .i64 high) ∧ w'.cell? ⟨w.heap.size + 3, 2, none⟩ = some (.slice (some ⟨w.heap.size + 2, 0, none⟩) n n) ∧ w'.cell? ⟨wr.heap.size + 1, 0, none⟩ = some (.int .i64 (px k)) ∧ w'.cell? ⟨wr.heap.size + 1, 1, none⟩ = some (.int .i64 (py k)) ∧ w'.cell? ⟨wr.heap.size, 0, none⟩ = some (.int .i64 (G k 0)) ∧ w'.cell? ⟨wr.heap.size, 1, none⟩ = some (.int .i64 (G k 1)) ∧ w'.cell? ⟨wr.heap.size, 2, none⟩ = some (.int .i64 (G k 2)) ∧ w'.cell? ⟨wr.heap.size, 3, none⟩ = some (.int .i64 (G k 3))) (first | (go_split_ands; (try dsimp only); refine ⟨?_, ?_, ?_, ?_, ?_, ?_, ?_, ?_, ?_⟩ <;> (first | (with_reducible assumption) | (with_reducible exact keep_cell (by assumption) (by first | omega | (simp; done) | (simp; omega)) (by assumption)) | (with_reducible exact (World.cell?_alloc_past _ _ _ (by show _ < _; omega)).trans (by assumption)) | (with_reducible exact (World.cell?_alloc_past _ _ _ (by show _ < _; omega)).trans ((World.cell?_alloc_past _ _ _ (by show _ < _; omega)).symm.trans (by assumption))) | (simp [go_sem]; with_reducible assumption))) | (simp [go_sem, ↓IntWalk.iteOmega, *]; done)) (first | (go_at_call 67; (with_reducible refine (ri.out _ _).mono ?_); rintro e w5 ⟨rfl, hb5⟩; obtain ⟨hc5, hf5, hz5⟩ := bcall hb5; (try simp at hc5 hf5 hz5)) | (go_at_call 68; (with_reducible refine (rd.out _ (HB.out.trans (by (repeat' (first | (with_reducible exact Below.refl _ _) | (with_reducible refine Below.setCell ?_ (by first | omega | (simp; done) | (simp; omega)) _) | (with_reducible refine Below.alloc ?_ (by first | omega | (simp; done) | (simp; omega)) _) | (with_reducible refine Below.drew ?_) | (with_reducible refine below_drewN ?_ _) | (with_reducible refine Below.trans ?_ (Below.mono (by assumption) (by first | omega | (simp; done) | (simp; omega))))))))).mono ?_); rintro e w7 ⟨rfl, hb7⟩; obtain ⟨hc7, hf7, hz7⟩ := bcall hb7; (try simp at hc7 hf7 hz7)))
        go_wp2
        have hx := Lib.hid (show Below wr.heap.size wr w7 from by (repeat' (first | (with_reducible exact Below.refl _ _) | (with_reducible refine Below.setCell ?_ (by first | omega | (simp; done) | (simp; omega)) _) | (with_reducible refine Below.alloc ?_ (by first | omega | (simp; done) | (simp; omega)) _) | (with_reducible refine Below.drew ?_) | (with_reducible refine below_drewN ?_ _) | (with_reducible refine Below.trans ?_ (Below.mono (by assumption) (by first | omega | (simp; done) | (simp; omega)))))))
        clear hc4 hf4 hc5 hf5 hc7 hf7 hb4 hb5 hb7
        go_roundw
        case rel =>
          obtain ⟨hm, hpt⟩ := HH.out
          have x := Ex.of_below (S := fun _ => False) hx.out
          obtain ⟨c1, c2⟩ := chain1 (hm.2.2.2.1.ex x (fun h => h)) ho (D k 0) (D k 1) (D k 2) (D k 3)
          exact ⟨k + 1, _, by omega, by go_num, Lib.hid ⟨hm.step ((x.mono (fun _ h => h.elim)).trans c1) c2, HQ.out ▸ put_step HJ.out hlk hpt⟩⟩
        case measure => simp [intOf]; omega
    · obtain rfl : n = k := by omega
      have p0' := t3.c0
      have p1' := t3.c1
      have g0' := t1.free 0
      have g1' := t1.free 1
      have g2' := t1.free 2
      have q0' := t1.c0
      have q1' := t1.c1
      have q2' := t1.c2
      have lr := hrow.1
      have HB := Lib.hid hbw
      have HR := Lib.hid hrow
      clear t0 t1 t3 hrow hbw
      go_wp2
      refine bodyPost_ret (v := .agg #[.int .i64 wide, .int .i64 high, .slice (some ⟨w.heap.size + 2, 0, none⟩) n n]) (by simp [results, Tryd.results53, go_sem, ↓IntWalk.iteOmega, *]) rfl ?_
      exact gave_pass (HR.out.eqG (put_all HH.out.2 HT.out HL.out)) HB.out (by omega) (by omega)

end Go.Proofs.YtdbehbeaigfpcaaDoor

/- Shifted, Turned, Mirrored, Reversed: by the program. -/

namespace Go.Proofs.YtdbehbeaigfpcaaDoor
set_option linter.unusedSimpArgs false
set_option linter.unusedVariables false
open Go.RowKit

set_option maxHeartbeats 400000 in
theorem around_all (n m : Int) (w : World) (hm : 0 < m) (hm' : m ≤ 4000000000) :
    Calls Tryd.prog 110 #[.int .i64 n, .int .i64 m] w fun e w' => e = .returned (.int .i64 (n % m)) ∧ w = w' := by
  have q0 := Int.emod_nonneg n (show m ≠ 0 by omega)
  have q1 := Int.emod_lt_of_pos n hm
  by_cases hn : 0 ≤ n
  · go_enter Tryd.func110, Tryd.ntmps110
    go_wp2
    go_ret
    exact ⟨rfl, rfl⟩
  · rcases tmod_neg (n := n) (m := m) (by omega) hm with ⟨t0, t1⟩ | ⟨t0, t1⟩
    · have T := Lib.hid t1; clear t1
      have t2 : -4000000000 ≤ n.tmod m := by have := T.out; omega
      have t3 : n.tmod m + m ≤ 4000000000 := by have := T.out; omega
      go_enter Tryd.func110, Tryd.ntmps110
      go_wp2
      go_ret
      exact ⟨ret_i T.out, rfl⟩
    · have T := Lib.hid t1; clear t1
      have T0 := Lib.hid t0
      have t2 : 0 ≤ n.tmod m := by omega
      have t3 : n.tmod m ≤ 0 := by omega
      clear t0
      go_enter Tryd.func110, Tryd.ntmps110
      go_wp2
      go_ret
      exact ⟨ret_i (by rw [T.out, T0.out]), rfl⟩

/-- What turns a cell by quarters. -/
def Qt (k : Int) (w : World) (e : Ending) (w' : World) : Prop := ∃ q, e = .returned (.func (.func 68) #[] #[.pointer (some ⟨q, 0, none⟩)]) ∧ w'.cell? ⟨q, 0, none⟩ = some (.int .i64 k) ∧ q < w'.heap.size ∧ Below w.heap.size w w'
set_option maxHeartbeats 400000 in
theorem turnedBy_any (k : Int) (w : World) : Calls Tryd.prog 54 #[.int .i64 k] w (Qt k w) := by
  go_enter Tryd.func54, Tryd.ntmps54
  go_wp2
  go_ret
  exact ⟨w.heap.size, rfl, by simp, by simp, by (repeat' (first | (with_reducible exact Below.refl _ _) | (with_reducible refine Below.setCell ?_ (by first | omega | (simp; done) | (simp; omega)) _) | (with_reducible refine Below.alloc ?_ (by first | omega | (simp; done) | (simp; omega)) _) | (with_reducible refine Below.drew ?_) | (with_reducible refine below_drewN ?_ _) | (with_reducible refine Below.trans ?_ (Below.mono (by assumption) (by first | omega | (simp; done) | (simp; omega))))))⟩

theorem xy_int {W H n k : Nat} (s : Sides W H n) (hk : k < n) : (k : Int) % (W : Int) = ((k % W : Nat) : Int) ∧ (k : Int) / (W : Int) = ((k / W : Nat) : Int) ∧ k % W < W ∧ k / W < H ∧ 0 ≤ (k : Int) % (W : Int) ∧ 0 ≤ (k : Int) / (W : Int) :=
  ⟨(Int.natCast_emod _ _).symm, (Int.natCast_ediv _ _).symm, (xy_of (s.n0 ▸ hk)).1, (xy_of (s.n0 ▸ hk)).2.1, by rw [← Int.natCast_emod]; exact Int.natCast_nonneg _, by rw [← Int.natCast_ediv]; exact Int.natCast_nonneg _⟩

theorem reMoved (W H n b off cap q0 : Nat) (G : Nat → Nat → Int) (w : World) (s : Sides W H n) (hO : OkG n G) (hlt : b < w.heap.size) (hG : Grd w b off n G) (lq : q0 < w.heap.size) (kq : w.cell? ⟨q0, 0, none⟩ = some (.int .i64 2)) :
    Calls Tryd.prog 53 #[.agg #[.int .i64 W, .int .i64 H, .slice (some ⟨b, off, none⟩) n cap], .int .i64 W, .int .i64 H, .func (.func 52) #[] #[], .func (.func 68) #[] #[.pointer (some ⟨q0, 0, none⟩)]] w (Gave W H n (reG G) w) := by
  refine movedR W H W H n b off cap q0 G (reG G) (reG G) (fun i => i) (fun i => i) (fun k => (k : Int) % (W : Int)) (fun k => (k : Int) / (W : Int)) w s hlt hG ?_ ?_ ?_ (fun k hk => hk) (fun i j _ _ h => h) (fun i hi => ⟨hi, rfl⟩) (fun _ _ _ _ => rfl)
  · exact fun k _ w' _ => stays_any _ _ w'
  · exact fun k hk w' hb => quarters2 _ _ _ _ q0 w' (hO.1 k hk) (Nat.lt_of_lt_of_le lq hb.size) ((hb.cell (p := ⟨q0, 0, none⟩) lq).trans kq)
  · intro k hk w' ao
    obtain ⟨e1, e2, h1, h2, h3, h4⟩ := xy_int s hk
    have := s.w1
    have := s.h1
    have := s.n1
    refine index_any W H ao n n _ _ k w' (by omega) (by omega) (by omega) (by omega) (by omega) (by omega) ?_ (by omega)
    rw [e1, e2, ← Int.natCast_mul, ← Int.natCast_add, Nat.mod_add_div]

set_option maxHeartbeats 2000000 in
theorem gReversed_in (W H n b off cap : Nat) (G : Nat → Nat → Int) (w : World) (s : Sides W H n) (hG : OkG n G) (hlt : b < w.heap.size) (hC : Grd w b off n G) :
    Calls Tryd.prog 33 #[.agg #[.int .i64 W, .int .i64 H, .slice (some ⟨b, off, none⟩) n cap]] w (Made W H n (reG G) w) := by
  have HV := Lib.hid (fun w' (hb : Below w.heap.size w w') => gValid_ok W H (some ⟨b, off, none⟩) n cap G w' (vg_of s hG) ((show CellsIn w _ n G from .inr ⟨b, off, rfl, hlt, hC⟩).below hb))
  have S := Lib.hid s
  have HO := Lib.hid hG
  have HC := Lib.hid hC
  clear s hG hC
  go_enter Tryd.func33, Tryd.ntmps33
  go_wp2_with (go_at_call 36; (with_reducible refine (HV.out _ (by (repeat' (first | (with_reducible exact Below.refl _ _) | (with_reducible refine Below.setCell ?_ (by first | omega | (simp; done) | (simp; omega)) _) | (with_reducible refine Below.alloc ?_ (by first | omega | (simp; done) | (simp; omega)) _) | (with_reducible refine Below.drew ?_) | (with_reducible refine below_drewN ?_ _) | (with_reducible refine Below.trans ?_ (Below.mono (by assumption) (by first | omega | (simp; done) | (simp; omega)))))))).mono ?_); rintro e w1 ⟨rfl, hb⟩; obtain ⟨hc, hf, hz⟩ := bcall hb; (try simp at hc hf hz))
  go_region_held3 (fun w' => w'.cell? ⟨w.heap.size, 0, none⟩ = some (.int .i64 W) ∧ w'.cell? ⟨w.heap.size, 1, none⟩ = some (.int .i64 H) ∧ w'.cell? ⟨w.heap.size, 2, none⟩ = some (.slice (some ⟨b, off, none⟩) n cap)) (first | (go_split_ands; (try dsimp only); refine ⟨?_, ?_, ?_⟩ <;> (first | (with_reducible assumption) | (with_reducible exact keep_cell (by assumption) (by first | omega | (simp; done) | (simp; omega)) (by assumption)) | (with_reducible exact (World.cell?_alloc_past _ _ _ (by show _ < _; omega)).trans (by assumption)) | (with_reducible exact (World.cell?_alloc_past _ _ _ (by show _ < _; omega)).trans ((World.cell?_alloc_past _ _ _ (by show _ < _; omega)).symm.trans (by assumption))) | (simp [go_sem]; with_reducible assumption))) | (simp [go_sem, ↓IntWalk.iteOmega, *]; done)) (first | (go_at_call 54; (with_reducible refine (turnedBy_any 2 _).mono ?_); rintro e wq ⟨q, rfl, kq, lq, hbq⟩; obtain ⟨hcq, hfq, hzq⟩ := bcall hbq; (try simp at hcq hfq hzq)) | (go_at_call 53; (with_reducible refine (reMoved W H n b off cap q G wq S.out HO.out (Nat.lt_of_lt_of_le hlt (Below.size (show Below w.heap.size w wq from by (repeat' (first | (with_reducible exact Below.refl _ _) | (with_reducible refine Below.setCell ?_ (by first | omega | (simp; done) | (simp; omega)) _) | (with_reducible refine Below.alloc ?_ (by first | omega | (simp; done) | (simp; omega)) _) | (with_reducible refine Below.drew ?_) | (with_reducible refine below_drewN ?_ _) | (with_reducible refine Below.trans ?_ (Below.mono (by assumption) (by first | omega | (simp; done) | (simp; omega))))))))) (HC.out.below (by (repeat' (first | (with_reducible exact Below.refl _ _) | (with_reducible refine Below.setCell ?_ (by first | omega | (simp; done) | (simp; omega)) _) | (with_reducible refine Below.alloc ?_ (by first | omega | (simp; done) | (simp; omega)) _) | (with_reducible refine Below.drew ?_) | (with_reducible refine below_drewN ?_ _) | (with_reducible refine Below.trans ?_ (Below.mono (by assumption) (by first | omega | (simp; done) | (simp; omega))))))) hlt) lq kq).mono ?_); rintro e wo ⟨o, co, rfl, ho, lo, hb⟩; have Co := Lib.hid ho; clear ho; obtain ⟨hc, hf, hz⟩ := bcall hb; (try simp at hc hf hz lo)))
  go_wp2
  have HB := Lib.hid (show Below w.heap.size w wo from by (repeat' (first | (with_reducible exact Below.refl _ _) | (with_reducible refine Below.setCell ?_ (by first | omega | (simp; done) | (simp; omega)) _) | (with_reducible refine Below.alloc ?_ (by first | omega | (simp; done) | (simp; omega)) _) | (with_reducible refine Below.drew ?_) | (with_reducible refine below_drewN ?_ _) | (with_reducible refine Below.trans ?_ (Below.mono (by assumption) (by first | omega | (simp; done) | (simp; omega)))))))
  refine bodyPost_ret (v := .tuple #[.agg #[.int .i64 W, .int .i64 H, .slice (some ⟨o, 0, none⟩) n co], .int .i64 0]) (by simp [results, Tryd.results33, go_sem, ↓IntWalk.iteOmega, *]) rfl ?_
  exact made_pass Co.out.cellsIn HB.out (by omega) (by omega)

attribute [local irreducible] wpStill
set_option maxHeartbeats 1000000 in
theorem gReversed_bad (W H : Int) (n cap : Nat) (ao : Option Addr) (G : Nat → Nat → Int) (w : World) (hv : ¬ VG W H n G) (hC : CellsIn w ao n G) :
    Calls Tryd.prog 33 #[.agg #[.int .i64 W, .int .i64 H, .slice (ao) n cap]] w fun e w' => e = .returned (.tuple #[.agg #[.int .i64 0, .int .i64 0, .slice (none) 0 0], .int .i64 1]) ∧ Below w.heap.size w w' := by
  have HV := Lib.hid hv; clear hv
  have HC := Lib.hid hC; clear hC
  go_enter Tryd.func33, Tryd.ntmps33
  go_wp2_with (go_at_call 36; (with_reducible refine (gValid_bad W H ao n cap G _ HV.out (HC.out.below (by (repeat' (first | (with_reducible exact Below.refl _ _) | (with_reducible refine Below.setCell ?_ (by first | omega | (simp; done) | (simp; omega)) _) | (with_reducible refine Below.alloc ?_ (by first | omega | (simp; done) | (simp; omega)) _) | (with_reducible refine Below.drew ?_) | (with_reducible refine below_drewN ?_ _) | (with_reducible refine Below.trans ?_ (Below.mono (by assumption) (by first | omega | (simp; done) | (simp; omega))))))))).mono ?_); rintro e w1 ⟨rfl, hb⟩; obtain ⟨hc, hf, hz⟩ := bcall hb; (try simp at hc hf hz))
  refine bodyPost_ret (v := .tuple #[.agg #[.int .i64 0, .int .i64 0, .slice (none) 0 0], .int .i64 1]) (by simp [results, Tryd.results33, go_sem, ↓IntWalk.iteOmega, *]) rfl ⟨rfl, ?_⟩
  (repeat' (first | (with_reducible exact Below.refl _ _) | (with_reducible refine Below.setCell ?_ (by first | omega | (simp; done) | (simp; omega)) _) | (with_reducible refine Below.alloc ?_ (by first | omega | (simp; done) | (simp; omega)) _) | (with_reducible refine Below.drew ?_) | (with_reducible refine below_drewN ?_ _) | (with_reducible refine Below.trans ?_ (Below.mono (by assumption) (by first | omega | (simp; done) | (simp; omega))))))

theorem gReversed_ok (W H n cap : Nat) (ao : Option Addr) (G : Nat → Nat → Int) (w : World) (s : Sides W H n) (hG : OkG n G) (hC : CellsIn w ao n G) : Calls Tryd.prog 33 #[.agg #[.int .i64 W, .int .i64 H, .slice (ao) n cap]] w (Made W H n (reG G) w) := by
  obtain ⟨b, off, rfl, hlt, hC⟩ := cells_of s hC
  exact gReversed_in W H n b off cap G w s hG hlt hC
end Go.Proofs.YtdbehbeaigfpcaaDoor
