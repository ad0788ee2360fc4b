/- Grids that are moved: by the program. -/
import Derived.Test.YtmkhbkkhoemkoaaStreamed
import Derived.Test.YtmkhbkkhoemkoaaMove
namespace Go.Proofs.Ytmkhbkkhoemkoaa
set_option linter.unusedSimpArgs false
set_option linter.unusedVariables false
open Go.RowKit

set_option maxHeartbeats 1000000 in
theorem index_any (W H : Int) (ao : Option Addr) (n cap : Nat) (px py : Int) (q : Nat) (w : World) (h0 : 0 ≤ W) (h1 : W ≤ 64) (p0 : 0 ≤ px) (p1 : px ≤ 5000) (y0 : 0 ≤ py) (y1 : py ≤ 5000) (hq : px + W * py = q) (hq1 : q ≤ 1000000) :
    Calls Try.prog 57 #[.agg #[.int .i64 W, .int .i64 H, .slice (ao) n cap], .agg #[.int .i64 px, .int .i64 py]] w fun e w' => e = .returned (.int .i64 q) ∧ Below w.heap.size w w' := by
  have m0 : 0 ≤ W * py := Int.mul_nonneg h0 y0
  have m1 : W * py ≤ 1000000 := by omega
  have HQ := Lib.hid hq; clear hq
  go_enter Try.func57, Try.ntmps57
  go_wp2
  go_ret
  refine ⟨ret_i HQ.out, ?_⟩
  (repeat' (first | (with_reducible exact Below.refl _ _) | (with_reducible refine Below.setCell ?_ (by first | omega | (simp; done) | (simp; omega)) _) | (with_reducible refine Below.alloc ?_ (by first | omega | (simp; done) | (simp; omega)) _) | (with_reducible refine Below.drew ?_) | (with_reducible refine below_drewN ?_ _) | (with_reducible refine Below.trans ?_ (Below.mono (by assumption) (by first | omega | (simp; done) | (simp; omega))))))

set_option maxHeartbeats 1000000 in
theorem stays_any (x y : Int) (w : World) : Calls Try.prog 38 #[.agg #[.int .i64 x, .int .i64 y]] w fun e w' => e = .returned (.agg #[.int .i64 x, .int .i64 y]) ∧ Below w.heap.size w w' := by
  go_enter Try.func38, Try.ntmps38
  go_wp2
  refine bodyPost_ret (v := .agg #[.int .i64 x, .int .i64 y]) (by simp [results, Try.results38, go_sem, ↓IntWalk.iteOmega, *]) rfl ⟨rfl, ?_⟩
  (repeat' (first | (with_reducible exact Below.refl _ _) | (with_reducible refine Below.setCell ?_ (by first | omega | (simp; done) | (simp; omega)) _) | (with_reducible refine Below.alloc ?_ (by first | omega | (simp; done) | (simp; omega)) _) | (with_reducible refine Below.drew ?_) | (with_reducible refine below_drewN ?_ _) | (with_reducible refine Below.trans ?_ (Below.mono (by assumption) (by first | omega | (simp; done) | (simp; omega))))))

/-- What a turn by quarters makes of a cell. -/
theorem turned_at (a b c d q : Int) (k : Nat) (w : World) (h : Ok4 a b c d) (hk : k < 4) (hq : q = k) :
    Calls Try.prog 59 #[.agg #[.int .i64 a, .int .i64 b, .int .i64 c, .int .i64 d], .int .i64 q] w fun e w' => e = .returned (.tuple #[(if k = 0 then .agg #[.int .i64 a, .int .i64 b, .int .i64 c, .int .i64 d] else if k = 1 then .agg #[.int .i64 d, .int .i64 a, .int .i64 b, .int .i64 c] else if k = 2 then .agg #[.int .i64 c, .int .i64 d, .int .i64 a, .int .i64 b] else .agg #[.int .i64 b, .int .i64 c, .int .i64 d, .int .i64 a]), .int .i64 0]) ∧ Below w.heap.size w w' := by
  subst hq
  match k, hk with
  | 0, _ => exact turned0 a b c d _ w h rfl
  | 1, _ => exact turned1 a b c d _ w h rfl
  | 2, _ => exact turned2 a b c d _ w h rfl
  | 3, _ => exact turned3 a b c d _ w h rfl

set_option maxHeartbeats 1000000 in
theorem quarters0 (a b c d : Int) (qb : Nat) (w : World) (h : Ok4 a b c d) (lq : qb < w.heap.size) (kq : w.cell? ⟨qb, 0, none⟩ = some (.int .i64 0)) :
    Calls Try.prog 58 #[.agg #[.int .i64 a, .int .i64 b, .int .i64 c, .int .i64 d], .pointer (some ⟨qb, 0, none⟩)] w fun e w' => e = .returned (.tuple #[.agg #[.int .i64 a, .int .i64 b, .int .i64 c, .int .i64 d], .int .i64 0]) ∧ Below w.heap.size w w' := by
  have H := Lib.hid (fun w' => turned0 a b c d 0 w' h (by decide)); clear h
  go_enter Try.func58, Try.ntmps58
  go_wp2_with (go_at_call 59; (with_reducible refine (H.out _).mono ?_); rintro e w1 ⟨rfl, hb⟩; obtain ⟨hc, hf, hz⟩ := bcall hb; (try simp at hc hf hz))
  refine bodyPost_ret (v := .tuple #[.agg #[.int .i64 a, .int .i64 b, .int .i64 c, .int .i64 d], .int .i64 0]) (by simp [results, Try.results58, go_sem, ↓IntWalk.iteOmega, *]) rfl ⟨rfl, ?_⟩
  (repeat' (first | (with_reducible exact Below.refl _ _) | (with_reducible refine Below.setCell ?_ (by first | omega | (simp; done) | (simp; omega)) _) | (with_reducible refine Below.alloc ?_ (by first | omega | (simp; done) | (simp; omega)) _) | (with_reducible refine Below.drew ?_) | (with_reducible refine below_drewN ?_ _) | (with_reducible refine Below.trans ?_ (Below.mono (by assumption) (by first | omega | (simp; done) | (simp; omega))))))

set_option maxHeartbeats 1000000 in
theorem quarters1 (a b c d : Int) (qb : Nat) (w : World) (h : Ok4 a b c d) (lq : qb < w.heap.size) (kq : w.cell? ⟨qb, 0, none⟩ = some (.int .i64 1)) :
    Calls Try.prog 58 #[.agg #[.int .i64 a, .int .i64 b, .int .i64 c, .int .i64 d], .pointer (some ⟨qb, 0, none⟩)] w fun e w' => e = .returned (.tuple #[.agg #[.int .i64 d, .int .i64 a, .int .i64 b, .int .i64 c], .int .i64 0]) ∧ Below w.heap.size w w' := by
  have H := Lib.hid (fun w' => turned1 a b c d 1 w' h (by decide)); clear h
  go_enter Try.func58, Try.ntmps58
  go_wp2_with (go_at_call 59; (with_reducible refine (H.out _).mono ?_); rintro e w1 ⟨rfl, hb⟩; obtain ⟨hc, hf, hz⟩ := bcall hb; (try simp at hc hf hz))
  refine bodyPost_ret (v := .tuple #[.agg #[.int .i64 d, .int .i64 a, .int .i64 b, .int .i64 c], .int .i64 0]) (by simp [results, Try.results58, go_sem, ↓IntWalk.iteOmega, *]) rfl ⟨rfl, ?_⟩
  (repeat' (first | (with_reducible exact Below.refl _ _) | (with_reducible refine Below.setCell ?_ (by first | omega | (simp; done) | (simp; omega)) _) | (with_reducible refine Below.alloc ?_ (by first | omega | (simp; done) | (simp; omega)) _) | (with_reducible refine Below.drew ?_) | (with_reducible refine below_drewN ?_ _) | (with_reducible refine Below.trans ?_ (Below.mono (by assumption) (by first | omega | (simp; done) | (simp; omega))))))

set_option maxHeartbeats 1000000 in
theorem quarters2 (a b c d : Int) (qb : Nat) (w : World) (h : Ok4 a b c d) (lq : qb < w.heap.size) (kq : w.cell? ⟨qb, 0, none⟩ = some (.int .i64 2)) :
    Calls Try.prog 58 #[.agg #[.int .i64 a, .int .i64 b, .int .i64 c, .int .i64 d], .pointer (some ⟨qb, 0, none⟩)] w fun e w' => e = .returned (.tuple #[.agg #[.int .i64 c, .int .i64 d, .int .i64 a, .int .i64 b], .int .i64 0]) ∧ Below w.heap.size w w' := by
  have H := Lib.hid (fun w' => turned2 a b c d 2 w' h (by decide)); clear h
  go_enter Try.func58, Try.ntmps58
  go_wp2_with (go_at_call 59; (with_reducible refine (H.out _).mono ?_); rintro e w1 ⟨rfl, hb⟩; obtain ⟨hc, hf, hz⟩ := bcall hb; (try simp at hc hf hz))
  refine bodyPost_ret (v := .tuple #[.agg #[.int .i64 c, .int .i64 d, .int .i64 a, .int .i64 b], .int .i64 0]) (by simp [results, Try.results58, go_sem, ↓IntWalk.iteOmega, *]) rfl ⟨rfl, ?_⟩
  (repeat' (first | (with_reducible exact Below.refl _ _) | (with_reducible refine Below.setCell ?_ (by first | omega | (simp; done) | (simp; omega)) _) | (with_reducible refine Below.alloc ?_ (by first | omega | (simp; done) | (simp; omega)) _) | (with_reducible refine Below.drew ?_) | (with_reducible refine below_drewN ?_ _) | (with_reducible refine Below.trans ?_ (Below.mono (by assumption) (by first | omega | (simp; done) | (simp; omega))))))

/-- While cells are moved. -/
def Mv (w : World) (W H wide high : Int) (b off n cap : Nat) (G K : Nat → Nat → Int) (wr : World) : Prop :=
  Three wr w.heap.size 24 (.int .i64 W) (.int .i64 H) (.slice (some ⟨b, off, none⟩) n cap) ∧ Three wr (w.heap.size + 1) 24 (.int .i64 0) (.int .i64 0) (.slice none 0 0) ∧ Three wr (w.heap.size + 3) 24 (.int .i64 wide) (.int .i64 high) (.slice (some ⟨w.heap.size + 2, 0, none⟩) n n) ∧ Row wr (w.heap.size + 2) n K ∧ Below w.heap.size w wr
theorem Mv.step {w wr wr' : World} {W H wide high : Int} {b off n cap : Nat} {G K K' : Nat → Nat → Int} (h : Mv w W H wide high b off n cap G K wr) (hx : Ex (fun k => k = w.heap.size + 2) wr wr') (hr : Row wr' (w.heap.size + 2) n K') : Mv w W H wide high b off n cap G K' wr' := by
  obtain ⟨t0, t1, t3, _, hb⟩ := h
  exact ⟨t0.ex hx (by omega), t1.ex hx (by omega), t3.ex hx (by omega), hr, hb.trans (hx.below hb.size (fun k hk => by omega))⟩
theorem mv_start (w : World) (W H wide high : Int) (b off n cap : Nat) (G : Nat → Nat → Int) (hn : n ≤ 100000) :
    Mv w W H wide high b off n cap G (fun _ _ => 0) ((((w.alloc (.cells #[.int .i64 W, .int .i64 H, .slice (some ⟨b, off, none⟩) n cap] 24)).alloc (.cells #[.int .i64 0, .int .i64 0, .slice none 0 0] 24)).alloc (.cells (zeros n) 40)).alloc (.cells #[.int .i64 wide, .int .i64 high, .slice (some ⟨w.heap.size + 1 + 1, 0, none⟩) n n] 24)) := by
  have b0 : Below w.heap.size w (((w.alloc (.cells #[.int .i64 W, .int .i64 H, .slice (some ⟨b, off, none⟩) n cap] 24)).alloc (.cells #[.int .i64 0, .int .i64 0, .slice none 0 0] 24)).alloc (.cells (zeros n) 40)) := by (repeat' (first | (with_reducible exact Below.refl _ _) | (with_reducible refine Below.setCell ?_ (by first | omega | (simp; done) | (simp; omega)) _) | (with_reducible refine Below.alloc ?_ (by first | omega | (simp; done) | (simp; omega)) _) | (with_reducible refine Below.drew ?_) | (with_reducible refine below_drewN ?_ _) | (with_reducible refine Below.trans ?_ (Below.mono (by assumption) (by first | omega | (simp; done) | (simp; omega))))))
  have x : Ex (fun _ => False) ((w.alloc (.cells #[.int .i64 W, .int .i64 H, .slice (some ⟨b, off, none⟩) n cap] 24)).alloc (.cells #[.int .i64 0, .int .i64 0, .slice none 0 0] 24)) ((((w.alloc (.cells #[.int .i64 W, .int .i64 H, .slice (some ⟨b, off, none⟩) n cap] 24)).alloc (.cells #[.int .i64 0, .int .i64 0, .slice none 0 0] 24)).alloc (.cells (zeros n) 40)).alloc (.cells #[.int .i64 wide, .int .i64 high, .slice (some ⟨w.heap.size + 1 + 1, 0, none⟩) n n] 24)) := ((Ex.refl _ _).alloc _).alloc _
  refine ⟨?_, (Three.new1 w _ _ _ _ _).ex x (fun h => h), ?_, ?_, b0.alloc (by simp; omega) _⟩
  · have t : Three (w.alloc (.cells #[.int .i64 W, .int .i64 H, .slice (some ⟨b, off, none⟩) n cap] 24)) w.heap.size 24 (.int .i64 W) (.int .i64 H) (.slice (some ⟨b, off, none⟩) n cap) := World.alloc_heap_new w _
    exact (t.ex ((Ex.refl (fun _ => False) _).alloc _) (fun h => h)).ex x (fun h => h)
  · have := World.alloc_heap_new (((w.alloc (.cells #[.int .i64 W, .int .i64 H, .slice (some ⟨b, off, none⟩) n cap] 24)).alloc (.cells #[.int .i64 0, .int .i64 0, .slice none 0 0] 24)).alloc (.cells (zeros n) 40)) (.cells #[.int .i64 wide, .int .i64 high, .slice (some ⟨w.heap.size + 1 + 1, 0, none⟩) n n] 24)
    simp only [World.size_alloc] at this
    exact this
  · have := row_zeros ((w.alloc (.cells #[.int .i64 W, .int .i64 H, .slice (some ⟨b, off, none⟩) n cap] 24)).alloc (.cells #[.int .i64 0, .int .i64 0, .slice none 0 0] 24)) n
    simp only [World.size_alloc] at this
    exact this.alloc _

/-- The cells below k have come to their places. -/
def Put (σ : Nat → Nat) (D K : Nat → Nat → Int) (k : Nat) : Prop := ∀ j, j < k → ∀ d, d < 4 → K (σ j) d = D j d
theorem put_step {n : Nat} {σ : Nat → Nat} {D K : Nat → Nat → Int} {k : Nat} (hinj : ∀ i j, i < n → j < n → σ i = σ j → i = j) (hk : k < n) (h : Put σ D K k) :
    Put σ D (upd (upd (upd (upd K (σ k) 0 (D k 0)) (σ k) 1 (D k 1)) (σ k) 2 (D k 2)) (σ k) 3 (D k 3)) (k + 1) := by
  intro j hj d hd
  have e : upd (upd (upd (upd K (σ k) 0 (D k 0)) (σ k) 1 (D k 1)) (σ k) 2 (D k 2)) (σ k) 3 (D k 3) (σ j) d = if σ j = σ k then D k d else K (σ j) d := by
    unfold upd
    match d, hd with
    | 0, _ => simp
    | 1, _ => simp
    | 2, _ => simp
    | 3, _ => simp
  rw [e]
  by_cases ej : j = k
  · subst ej; rw [if_pos rfl]
  · rw [if_neg (fun e' => ej (hinj j k (by omega) hk e'))]
    exact h j (by omega) d hd
theorem put_all {n : Nat} {σ τ : Nat → Nat} {D K L : Nat → Nat → Int} (h : Put σ D K n) (ht : ∀ i, i < n → τ i < n ∧ σ (τ i) = i) (hL : ∀ j, j < n → ∀ d, d < 4 → L (σ j) d = D j d) : EqG n K L := by
  intro i hi d hd
  obtain ⟨h1, h2⟩ := ht i hi
  have a := h (τ i) h1 d hd
  have b := hL (τ i) h1 d hd
  rw [h2] at a b
  rw [a, b]

set_option maxRecDepth 100000 in
set_option maxHeartbeats 8000000 in
theorem movedR (W H wide high n b off cap : Nat) (q0 : Nat) (G D L : Nat → Nat → Int) (σ τ : Nat → Nat) (px py : Nat → Int) (w : World) (s : Sides W H n) (hlt : b < w.heap.size) (hG : Grd w b off n G)
    (hp : ∀ k, k < n → ∀ w', Below w.heap.size w w' → Calls Try.prog 38 #[.agg #[.int .i64 ((k : Int) % (W : Int)), .int .i64 ((k : Int) / (W : Int))]] w' fun e w'' => e = .returned (.agg #[.int .i64 (px k), .int .i64 (py k)]) ∧ Below w'.heap.size w' w'')
    (hd : ∀ k, k < n → ∀ w', Below w.heap.size w w' → Calls Try.prog 58 #[.agg #[.int .i64 (G k 0), .int .i64 (G k 1), .int .i64 (G k 2), .int .i64 (G k 3)], .pointer (some ⟨q0, 0, none⟩)] w' fun e w'' => e = .returned (.tuple #[.agg #[.int .i64 (D k 0), .int .i64 (D k 1), .int .i64 (D k 2), .int .i64 (D k 3)], .int .i64 0]) ∧ Below w'.heap.size w' w'')
    (hi : ∀ k, k < n → ∀ w' ao, Calls Try.prog 57 #[.agg #[.int .i64 wide, .int .i64 high, .slice (ao) n n], .agg #[.int .i64 (px k), .int .i64 (py k)]] w' fun e w'' => e = .returned (.int .i64 (σ k)) ∧ Below w'.heap.size w' w'')
    (hs : ∀ k, k < n → σ k < n) (hinj : ∀ i j, i < n → j < n → σ i = σ j → i = j) (ht : ∀ i, i < n → τ i < n ∧ σ (τ i) = i) (hL : ∀ j, j < n → ∀ d, d < 4 → L (σ j) d = D j d) :
    Calls Try.prog 39 #[.agg #[.int .i64 W, .int .i64 H, .slice (some ⟨b, off, none⟩) n cap], .int .i64 wide, .int .i64 high, .func (.func 38) #[] #[], .func (.func 58) #[] #[.pointer (some ⟨q0, 0, none⟩)]] w (Gave wide high n L w) := by
  have hn1 := s.n1
  have hw0 := s.w0
  have hw1 := s.w1
  have hmk := fun wx => run_zeros n (by omega) wx
  have HG := Lib.hid hG
  have HP := Lib.hid hp
  have HD := Lib.hid hd
  have HI := Lib.hid hi
  have HS := Lib.hid hs
  have HJ := Lib.hid hinj
  have HT := Lib.hid ht
  have HL := Lib.hid hL
  clear s hG hp hd hi hs hinj ht hL
  have H0 := Lib.hid (mv_start w W H wide high b off n cap G (by omega))
  go_enter Try.func39, Try.ntmps39
  go_wp2
  go_loopw [25] (fun i wr => ∃ (k : Nat) (K : Nat → Nat → Int), k ≤ n ∧ i = .int .i64 k ∧ Hid (Mv w W H wide high b off n cap G K wr ∧ Put σ D K k)) (fun i _ => n - (intOf i).toNat)
  case atStart => exact ⟨0, _, Nat.zero_le _, rfl, Lib.hid ⟨H0.out, fun j hj => by omega⟩⟩
  case round =>
    obtain ⟨k, K, hk, rfl, HH⟩ := hrel
    obtain ⟨t0, t1, t3, hrow, hbw⟩ := HH.out.1
    have l3 := t3.lt
    have g0 := t0.c0
    have o0 := t3.c0
    have o1 := t3.c1
    have o2 := t3.c2
    by_cases hlk : k < n
    · obtain ⟨e0, e1, e2, e3⟩ := HG.out.get hbw hlt hlk
      have ho := HS.out k hlk
      obtain ⟨a0, a1, a2, a3⟩ := hrow.at4 ho
      obtain ⟨f0, f1, f2, f3⟩ := hrow.free4 ho
      have lr := hrow.1
      have hsz := hbw.size
      obtain ⟨q, hq⟩ : ∃ q, q = σ k := ⟨_, rfl⟩
      rw [← hq] at ho a0 a1 a2 a3 f0 f1 f2 f3
      obtain ⟨x0, x1, y0, y1⟩ := coords W k (by omega)
      have eq1 : IntKind.i64.wrap ((k : Int) / (W : Int)) = (k : Int) / (W : Int) := IntWalk.i64_in _ ⟨by omega, by omega⟩
      have rp := Lib.hid (HP.out k hlk)
      have rd := Lib.hid (HD.out k hlk)
      have ri := Lib.hid (fun w' ao => hq ▸ HI.out k hlk w' ao)
      have HB := Lib.hid hbw
      have HQ := Lib.hid hq
      have tm : (k : Int).tmod (W : Int) = (k : Int) % (W : Int) := Int.tmod_eq_emod_of_nonneg (by omega)
      have wI : (0 : Int) < (W : Int) := by omega
      have wz : ¬ W = 0 := by omega
      clear t0 t1 t3 hrow hbw hq
      go_wp2
      go_region_held3 (fun w' => w'.cell? ⟨w.heap.size, 0, none⟩ = some (.int .i64 W)) (first | (go_split_ands; (try dsimp only); (first | (with_reducible assumption) | (with_reducible exact keep_cell (by assumption) (by first | omega | (simp; done) | (simp; omega)) (by assumption)) | (with_reducible exact (World.cell?_alloc_past _ _ _ (by show _ < _; omega)).trans (by assumption)) | (with_reducible exact (World.cell?_alloc_past _ _ _ (by show _ < _; omega)).trans ((World.cell?_alloc_past _ _ _ (by show _ < _; omega)).symm.trans (by assumption))) | (simp [go_sem]; with_reducible assumption))) | (simp [go_sem, ↓IntWalk.iteOmega, *]; done)) ((go_at_call 38; (with_reducible refine (rp.out _ (HB.out.trans (by (repeat' (first | (with_reducible exact Below.refl _ _) | (with_reducible refine Below.setCell ?_ (by first | omega | (simp; done) | (simp; omega)) _) | (with_reducible refine Below.alloc ?_ (by first | omega | (simp; done) | (simp; omega)) _) | (with_reducible refine Below.drew ?_) | (with_reducible refine below_drewN ?_ _) | (with_reducible refine Below.trans ?_ (Below.mono (by assumption) (by first | omega | (simp; done) | (simp; omega))))))))).mono ?_); rintro e w4 ⟨rfl, hb4⟩; obtain ⟨hc4, hf4, hz4⟩ := bcall hb4; (try simp at hc4 hf4 hz4)))
      go_wp2
      · go_region_held3 (fun w' => w'.cell? ⟨w.heap.size + 3, 0, none⟩ = some (.int .i64 wide) ∧ w'.cell? ⟨w.heap.size + 3, 1, none⟩ = some (.int .i64 high) ∧ w'.cell? ⟨w.heap.size + 3, 2, none⟩ = some (.slice (some ⟨w.heap.size + 2, 0, none⟩) n n) ∧ w'.cell? ⟨w4.heap.size, 0, none⟩ = some (.int .i64 (px k)) ∧ w'.cell? ⟨w4.heap.size, 1, none⟩ = some (.int .i64 (py k)) ∧ w'.cell? ⟨wr.heap.size, 0, none⟩ = some (.int .i64 (G k 0)) ∧ w'.cell? ⟨wr.heap.size, 1, none⟩ = some (.int .i64 (G k 1)) ∧ w'.cell? ⟨wr.heap.size, 2, none⟩ = some (.int .i64 (G k 2)) ∧ w'.cell? ⟨wr.heap.size, 3, none⟩ = some (.int .i64 (G k 3))) (first | (go_split_ands; (try dsimp only); refine ⟨?_, ?_, ?_, ?_, ?_, ?_, ?_, ?_, ?_⟩ <;> (first | (with_reducible assumption) | (with_reducible exact keep_cell (by assumption) (by first | omega | (simp; done) | (simp; omega)) (by assumption)) | (with_reducible exact (World.cell?_alloc_past _ _ _ (by show _ < _; omega)).trans (by assumption)) | (with_reducible exact (World.cell?_alloc_past _ _ _ (by show _ < _; omega)).trans ((World.cell?_alloc_past _ _ _ (by show _ < _; omega)).symm.trans (by assumption))) | (simp [go_sem]; with_reducible assumption))) | (simp [go_sem, ↓IntWalk.iteOmega, *]; done)) (first | (go_at_call 57; (with_reducible refine (ri.out _ _).mono ?_); rintro e w5 ⟨rfl, hb5⟩; obtain ⟨hc5, hf5, hz5⟩ := bcall hb5; (try simp at hc5 hf5 hz5)) | (go_at_call 58; (with_reducible refine (rd.out _ (HB.out.trans (by (repeat' (first | (with_reducible exact Below.refl _ _) | (with_reducible refine Below.setCell ?_ (by first | omega | (simp; done) | (simp; omega)) _) | (with_reducible refine Below.alloc ?_ (by first | omega | (simp; done) | (simp; omega)) _) | (with_reducible refine Below.drew ?_) | (with_reducible refine below_drewN ?_ _) | (with_reducible refine Below.trans ?_ (Below.mono (by assumption) (by first | omega | (simp; done) | (simp; omega))))))))).mono ?_); rintro e w7 ⟨rfl, hb7⟩; obtain ⟨hc7, hf7, hz7⟩ := bcall hb7; (try simp at hc7 hf7 hz7)))
        go_wp2
        have hx := Lib.hid (show Below wr.heap.size wr w7 from by (repeat' (first | (with_reducible exact Below.refl _ _) | (with_reducible refine Below.setCell ?_ (by first | omega | (simp; done) | (simp; omega)) _) | (with_reducible refine Below.alloc ?_ (by first | omega | (simp; done) | (simp; omega)) _) | (with_reducible refine Below.drew ?_) | (with_reducible refine below_drewN ?_ _) | (with_reducible refine Below.trans ?_ (Below.mono (by assumption) (by first | omega | (simp; done) | (simp; omega)))))))
        clear hc4 hf4 hc5 hf5 hc7 hf7 hb4 hb5 hb7
        go_roundw
        case rel =>
          obtain ⟨hm, hpt⟩ := HH.out
          have x := Ex.of_below (S := fun _ => False) hx.out
          obtain ⟨c1, c2⟩ := chain1 (hm.2.2.2.1.ex x (fun h => h)) ho (D k 0) (D k 1) (D k 2) (D k 3)
          exact ⟨k + 1, _, by omega, by go_num, Lib.hid ⟨hm.step ((x.mono (fun _ h => h.elim)).trans c1) c2, HQ.out ▸ put_step HJ.out hlk hpt⟩⟩
        case measure => simp [intOf]; omega
      · go_region_held3 (fun w' => w'.cell? ⟨w.heap.size + 3, 0, none⟩ = some (.int .i64 wide) ∧ w'.cell? ⟨w.heap.size + 3, 1, none⟩ = some (.int .i64 high) ∧ w'.cell? ⟨w.heap.size + 3, 2, none⟩ = some (.slice (some ⟨w.heap.size + 2, 0, none⟩) n n) ∧ w'.cell? ⟨wr.heap.size + 1, 0, none⟩ = some (.int .i64 (px k)) ∧ w'.cell? ⟨wr.heap.size + 1, 1, none⟩ = some (.int .i64 (py k)) ∧ w'.cell? ⟨wr.heap.size, 0, none⟩ = some (.int .i64 (G k 0)) ∧ w'.cell? ⟨wr.heap.size, 1, none⟩ = some (.int .i64 (G k 1)) ∧ w'.cell? ⟨wr.heap.size, 2, none⟩ = some (.int .i64 (G k 2)) ∧ w'.cell? ⟨wr.heap.size, 3, none⟩ = some (.int .i64 (G k 3))) (first | (go_split_ands; (try dsimp only); refine ⟨?_, ?_, ?_, ?_, ?_, ?_, ?_, ?_, ?_⟩ <;> (first | (with_reducible assumption) | (with_reducible exact keep_cell (by assumption) (by first | omega | (simp; done) | (simp; omega)) (by assumption)) | (with_reducible exact (World.cell?_alloc_past _ _ _ (by show _ < _; omega)).trans (by assumption)) | (with_reducible exact (World.cell?_alloc_past _ _ _ (by show _ < _; omega)).trans ((World.cell?_alloc_past _ _ _ (by show _ < _; omega)).symm.trans (by assumption))) | (simp [go_sem]; with_reducible assumption))) | (simp [go_sem, ↓IntWalk.iteOmega, *]; done)) (first | (go_at_call 57; (with_reducible refine (ri.out _ _).mono ?_); rintro e w5 ⟨rfl, hb5⟩; obtain ⟨hc5, hf5, hz5⟩ := bcall hb5; (try simp at hc5 hf5 hz5)) | (go_at_call 58; (with_reducible refine (rd.out _ (HB.out.trans (by (repeat' (first | (with_reducible exact Below.refl _ _) | (with_reducible refine Below.setCell ?_ (by first | omega | (simp; done) | (simp; omega)) _) | (with_reducible refine Below.alloc ?_ (by first | omega | (simp; done) | (simp; omega)) _) | (with_reducible refine Below.drew ?_) | (with_reducible refine below_drewN ?_ _) | (with_reducible refine Below.trans ?_ (Below.mono (by assumption) (by first | omega | (simp; done) | (simp; omega))))))))).mono ?_); rintro e w7 ⟨rfl, hb7⟩; obtain ⟨hc7, hf7, hz7⟩ := bcall hb7; (try simp at hc7 hf7 hz7)))
        go_wp2
        have hx := Lib.hid (show Below wr.heap.size wr w7 from by (repeat' (first | (with_reducible exact Below.refl _ _) | (with_reducible refine Below.setCell ?_ (by first | omega | (simp; done) | (simp; omega)) _) | (with_reducible refine Below.alloc ?_ (by first | omega | (simp; done) | (simp; omega)) _) | (with_reducible refine Below.drew ?_) | (with_reducible refine below_drewN ?_ _) | (with_reducible refine Below.trans ?_ (Below.mono (by assumption) (by first | omega | (simp; done) | (simp; omega)))))))
        clear hc4 hf4 hc5 hf5 hc7 hf7 hb4 hb5 hb7
        go_roundw
        case rel =>
          obtain ⟨hm, hpt⟩ := HH.out
          have x := Ex.of_below (S := fun _ => False) hx.out
          obtain ⟨c1, c2⟩ := chain1 (hm.2.2.2.1.ex x (fun h => h)) ho (D k 0) (D k 1) (D k 2) (D k 3)
          exact ⟨k + 1, _, by omega, by go_num, Lib.hid ⟨hm.step ((x.mono (fun _ h => h.elim)).trans c1) c2, HQ.out ▸ put_step HJ.out hlk hpt⟩⟩
        case measure => simp [intOf]; omega
    · obtain rfl : n = k := by omega
      have p0' := t3.c0
      have p1' := t3.c1
      have g0' := t1.free 0
      have g1' := t1.free 1
      have g2' := t1.free 2
      have q0' := t1.c0
      have q1' := t1.c1
      have q2' := t1.c2
      have lr := hrow.1
      have HB := Lib.hid hbw
      have HR := Lib.hid hrow
      clear t0 t1 t3 hrow hbw
      go_wp2
      refine bodyPost_ret (v := .agg #[.int .i64 wide, .int .i64 high, .slice (some ⟨w.heap.size + 2, 0, none⟩) n n]) (by simp [results, Try.results39, go_sem, ↓IntWalk.iteOmega, *]) rfl ?_
      exact gave_pass (HR.out.eqG (put_all HH.out.2 HT.out HL.out)) HB.out (by omega) (by omega)

end Go.Proofs.Ytmkhbkkhoemkoaa
