/- Crossings and parities: the mathematics. -/
import Derived.Test.YtmdeooflgkjbbaaDoorKFTab
import Derived.Test.YtmdeooflgkjbbaaDoorKRunU
import Derived.Test.YtmdeooflgkjbbaaDoorKFCrossC
import Derived.Test.YtmdeooflgkjbbaaDoorKFMainP
import Derived.Test.YtmdeooflgkjbbaaDoorKLawFM
namespace Go.Proofs.YtmdeooflgkjbbaaDoor
set_option linter.unusedSimpArgs false
set_option linter.unusedVariables false
open Go.RowKit Go.Shelf

/-- Whether a cell is even. -/
def evn (W q : Nat) : Bool := decide ((q % W + q / W) % 2 = 0)
/-- The sum over the even cells, over the odd ones, of the first k. -/
def evS (W : Nat) (f : Nat → Int) (k : Nat) : Int := sm k fun q => if evn W q then f q else 0
def odS (W : Nat) (f : Nat → Int) (k : Nat) : Int := sm k fun q => if evn W q then 0 else f q
theorem evS_odS (W : Nat) (f : Nat → Int) (k : Nat) : evS W f k + odS W f k = sm k f := by
  induction k with
  | zero => rfl
  | succ k ih =>
    unfold evS odS at *
    simp only [sm]
    split <;> omega
theorem evS_bd {W : Nat} {f : Nat → Int} (k : Nat) (h : ∀ i, i < k → 0 ≤ f i ∧ f i ≤ 1000000000) : (0 ≤ evS W f k ∧ evS W f k ≤ 1000000000 * (k : Int)) ∧ 0 ≤ odS W f k ∧ odS W f k ≤ 1000000000 * (k : Int) := by
  induction k with
  | zero => simp [evS, odS, sm]
  | succ k ih =>
    have h1 := ih (fun i hi => h i (by omega))
    have h2 := h k (by omega)
    unfold evS odS at *
    simp only [sm]
    push_cast
    split <;> omega
theorem evn_xy {W x y : Nat} (hx : x < W) : evn W (x + W * y) = decide ((x + y) % 2 = 0) := by
  unfold evn
  rw [Nat.add_mul_mod_self_left, Nat.mod_eq_of_lt hx, Nat.add_mul_div_left _ _ (by omega), Nat.div_eq_of_lt hx, Nat.zero_add]
theorem evn_nb {W H n q d : Nat} (hn : n = W * H) (hq : q < n) (hd : d < 4) (hW : W % 2 = 0) (hH : H % 2 = 0) : evn W (nb W H (-1) q d) = !evn W q := by
  have hW0 : 0 < W := by
    rcases Nat.eq_zero_or_pos W with h | h
    · rw [h, Nat.zero_mul] at hn; omega
    · exact h
  have hy : q / W < H := (Nat.div_lt_iff_lt_mul hW0).2 (by rw [Nat.mul_comm, ← hn]; exact hq)
  have hx : q % W < W := Nat.mod_lt _ hW0
  have e : q = q % W + W * (q / W) := (Nat.mod_add_div q W).symm
  obtain ⟨x, hx2⟩ : ∃ x, x = q % W := ⟨_, rfl⟩
  obtain ⟨y, hy2⟩ : ∃ y, y = q / W := ⟨_, rfl⟩
  rw [← hx2] at hx e
  rw [← hy2] at hy e
  rw [e, evn_xy hx]
  obtain ⟨b0, b1, b2, b3⟩ := nb_xy hx hy
  have fl : ∀ a b : Nat, (a + b) % 2 = 1 → decide (a % 2 = 0) = !decide (b % 2 = 0) := fun a b h => by
    by_cases h2 : b % 2 = 0
    · rw [decide_eq_true h2, decide_eq_false (by omega)]; rfl
    · rw [decide_eq_false h2, decide_eq_true (by omega)]; rfl
  have px : (prv W x + x) % 2 = 1 := by unfold prv; split <;> omega
  have py : (prv H y + y) % 2 = 1 := by unfold prv; split <;> omega
  have nx : (nxt W x + x) % 2 = 1 := by unfold nxt; split <;> omega
  have ny : (nxt H y + y) % 2 = 1 := by unfold nxt; split <;> omega
  match d, hd with
  | 0, _ => rw [b0, evn_xy (prv_lt hx)]; exact fl _ _ (by omega)
  | 1, _ => rw [b1, evn_xy hx]; exact fl _ _ (by omega)
  | 2, _ => rw [b2, evn_xy (nxt_lt hx)]; exact fl _ _ (by omega)
  | 3, _ => rw [b3, evn_xy hx]; exact fl _ _ (by omega)
theorem evS_pull {W H n : Nat} (G : Nat → Nat → Int) (hn : n = W * H) (hW : W % 2 = 0) (hH : H % 2 = 0) {d : Nat} (hd : d < 4) : evS W (fun q => pull W H 1 G q d) n = odS W (fun q => G q d) n := by
  unfold evS odS
  have e1 : sm n (fun q => if evn W q then pull W H 1 G q d else 0) = sm n (fun q => (fun p => if evn W p then 0 else G p d) (nb W H (-1) q d)) := by
    refine sm_congr _ _ _ fun q hq => ?_
    show (if evn W q then G (nb W H (-1) q d) d else 0) = if evn W (nb W H (-1) q d) then 0 else G (nb W H (-1) q d) d
    rw [evn_nb hn hq hd hW hH]
    cases evn W q <;> rfl
  rw [e1]
  refine sm_perm n (fun p => if evn W p then 0 else G p d) (fun q => nb W H (-1) q d) (fun q => nb W H 1 q d) (fun i hi => ⟨nb_lt hn hi d, ?_⟩) (fun i hi => ⟨nb_lt hn hi d, ?_⟩)
  · have := nb_back W H (-1) i d (hn ▸ hi)
    rwa [Int.neg_neg] at this
  · exact nb_back W H 1 i d (hn ▸ hi)
theorem evS_succ (W : Nat) (f : Nat → Int) (k : Nat) : evS W f (k + 1) = evS W f k + if evn W k then f k else 0 := rfl
theorem odS_succ (W : Nat) (f : Nat → Int) (k : Nat) : odS W f (k + 1) = odS W f k + if evn W k then 0 else f k := rfl
theorem evS_four (W : Nat) (K : Nat → Nat → Int) (k : Nat) : evS W (msC K) k = evS W (fun q => K q 0) k + evS W (fun q => K q 1) k + evS W (fun q => K q 2) k + evS W (fun q => K q 3) k := by
  induction k with
  | zero => rfl
  | succ k ih =>
    rw [evS_succ, evS_succ, evS_succ, evS_succ, evS_succ, ih]
    unfold msC
    split <;> omega
theorem odS_four (W : Nat) (K : Nat → Nat → Int) (k : Nat) : odS W (msC K) k = odS W (fun q => K q 0) k + odS W (fun q => K q 1) k + odS W (fun q => K q 2) k + odS W (fun q => K q 3) k := by
  induction k with
  | zero => rfl
  | succ k ih =>
    rw [odS_succ, odS_succ, odS_succ, odS_succ, odS_succ, ih]
    unfold msC
    split <;> omega
theorem ms_col (k y : Int) (G : Nat → Nat → Int) : msC (colG k y G) = msC G := by
  funext q
  unfold msC colG
  simp only [show (0 : Nat) % 2 = 0 from rfl, show (2 : Nat) % 2 = 0 from rfl, ↓reduceIte, show ¬ ((1 : Nat) % 2 = 0) by decide, show ¬ ((3 : Nat) % 2 = 0) by decide]
  omega
/-- P8.5: with each step of a grid with even sides the parities change places. -/
theorem evS_fwd {W H n len : Nat} {R : Nat → Int × Int} {t : Nat} {G : Nat → Nat → Int} (hn : n = W * H) (hW : W % 2 = 0) (hH : H % 2 = 0) : evS W (msC (fwd W H len R t G)) n = odS W (msC G) n := by
  unfold fwd
  rw [evS_four, evS_pull _ hn hW hH (by omega), evS_pull _ hn hW hH (by omega), evS_pull _ hn hW hH (by omega), evS_pull _ hn hW hH (by omega), ← odS_four, ms_col]
theorem sm_ms_fwd {W H n len : Nat} {R : Nat → Int × Int} {t : Nat} {G : Nat → Nat → Int} (hn : n = W * H) : sm n (msC (fwd W H len R t G)) = sm n (msC G) := by
  rw [wt_ms, wt_ms]
  unfold fwd
  rw [wt_pull _ hn, wt_col]
theorem sm_subF (f g : Nat → Int) (n : Nat) : sm n (fun x => f x - g x) = sm n f - sm n g := by
  induction n with
  | zero => rfl
  | succ n ih => simp only [sm]; rw [ih]; omega
/-- What crosses forth less back, at the lines of an axis. -/
def crD (a W H : Nat) (G : Nat → Nat → Int) (i : Nat) : Int := lnS a W H (fun q => G q a) (prv (lnN a W H) i) - lnS a W H (fun q => G q (a + 2)) i
theorem crD_sum (a W H : Nat) (G : Nat → Nat → Int) : sm (lnN a W H) (crD a W H G) = sm (W * H) (fun q => G q a) - sm (W * H) (fun q => G q (a + 2)) := by
  unfold crD
  rw [sm_subF (fun i => lnS a W H (fun q => G q a) (prv (lnN a W H) i)), sm_prv (lnN a W H) (lnS a W H (fun q => G q a)), sm_lines, sm_lines]
/-- A sum over one line, as a sum over all cells. -/
def lnK (a W q : Nat) : Nat := if a = 0 then q % W else q / W
theorem lnS_all (a W H : Nat) (f : Nat → Int) (i : Nat) (hi : i < lnN a W H) : sm (W * H) (fun q => if lnK a W q = i then f q else 0) = lnS a W H f i := by
  have e1 := sm_lines a W H (fun q => if lnK a W q = i then f q else 0)
  rw [← e1]
  have z : ∀ k, sm k (fun _ => (0 : Int)) = 0 := fun k => by
    induction k with
    | zero => rfl
    | succ k ih => simp only [sm]; rw [ih]; rfl
  have one : ∀ (n : Nat) (c : Int), i < n → sm n (fun j => if j = i then c else 0) = c := by
    intro n c hin
    induction n with
    | zero => omega
    | succ n ih =>
      simp only [sm]
      by_cases e : n = i
      · subst e
        rw [if_pos rfl, (sm_congr n (fun j => if j = n then c else 0) (fun _ => 0) (fun j hj => if_neg (show ¬ j = n by omega))).trans (z n)]
        omega
      · rw [if_neg e, ih (by omega)]
        omega
  rw [← one (lnN a W H) (lnS a W H f i) hi]
  refine sm_congr _ _ _ fun j hj => ?_
  unfold lnN at hj
  unfold lnS lnK
  by_cases ha : a = 0
  · rw [if_pos ha] at hj
    simp only [if_pos ha]
    by_cases e : j = i
    · subst e
      rw [if_pos rfl]
      exact sm_congr _ _ _ fun y _ => if_pos (by rw [Nat.add_mul_mod_self_left, Nat.mod_eq_of_lt hj])
    · rw [if_neg e]
      exact (sm_congr H _ (fun _ => 0) fun y _ => if_neg (show ¬ (j + W * y) % W = i by rw [Nat.add_mul_mod_self_left, Nat.mod_eq_of_lt hj]; exact e)).trans (z H)
  · rw [if_neg ha] at hj
    simp only [if_neg ha]
    by_cases e : j = i
    · subst e
      rw [if_pos rfl]
      exact sm_congr _ _ _ fun x hx => if_pos (by rw [Nat.add_mul_div_left _ _ (by omega), Nat.div_eq_of_lt hx, Nat.zero_add])
    · rw [if_neg e]
      exact (sm_congr W _ (fun _ => 0) fun x hx => if_neg (show ¬ (x + W * j) / W = i by rw [Nat.add_mul_div_left _ _ (by omega), Nat.div_eq_of_lt hx, Nat.zero_add]; exact e)).trans (z W)
/-- The same by the line behind. -/
theorem nxt_iff {n i j : Nat} (hi : i < n) (hj : j < n) : ((j + 1) % n = i) ↔ j = prv n i := by
  rw [nxt_mod hj]
  constructor
  · intro h; rw [← h, prv_nxt hj]
  · intro h; rw [h, nxt_prv hi]
end Go.Proofs.YtmdeooflgkjbbaaDoor

/- Crossing's refusals, Rows, Parity: by the program of the fields. -/




namespace Go.Proofs.YtmdeooflgkjbbaaDoor
set_option linter.unusedSimpArgs false
set_option linter.unusedVariables false
open Go.RowKit Go.Shelf
attribute [local go_sem] Oper.semAt_some

section
variable (W H : Int) (ao : Option Addr) (n cap : Nat) (G : Nat → Nat → Int) (a at_ : Int) (w : World) (hG : CellsIn w ao n G)
include hG
set_option maxRecDepth 100000 in
set_option maxHeartbeats 4000000 in
theorem fCross_bad (hv : ¬ VG W H n G) : Calls Tryd.prog 27 #[.agg #[.int .i64 W, .int .i64 H, .slice (ao) n cap], .int .i64 a, .int .i64 at_] w fun e w' => e = .returned (.tuple #[.int .i64 0, .int .i64 0, .int .i64 1]) ∧ Below w.heap.size w w' := by
  have CS := Lib.hid (fun wx (hb : Below w.heap.size w wx) => flines_bad W H ao n cap G a wx (hG.below hb) hv)
  clear hv hG
  go_enter Tryd.func27, Tryd.ntmps27
  go_wp2_with (go_at_call 79; (with_reducible refine (CS.out _ (by (repeat' (first | (with_reducible exact Below.refl _ _) | (with_reducible refine Below.setCell ?_ (by first | omega | (simp; done) | (simp; omega)) _) | (with_reducible refine Below.alloc ?_ (by first | omega | (simp; done) | (simp; omega)) _) | (with_reducible refine Below.drew ?_) | (with_reducible refine below_drewN ?_ _) | (with_reducible refine Below.trans ?_ (Below.mono (by assumption) (by first | omega | (simp; done) | (simp; omega)))))))).mono ?_); rintro e w1 ⟨rfl, hb⟩; obtain ⟨hc, hf, hz⟩ := bcall hb; (try simp at hc hf hz))
  refine bodyPost_ret (v := .tuple #[.int .i64 0, .int .i64 0, .int .i64 1]) (by simp [results, Tryd.results27, go_sem, ↓IntWalk.iteOmega, *]) rfl ⟨rfl, ?_⟩
  (repeat' (first | (with_reducible exact Below.refl _ _) | (with_reducible refine Below.setCell ?_ (by first | omega | (simp; done) | (simp; omega)) _) | (with_reducible refine Below.alloc ?_ (by first | omega | (simp; done) | (simp; omega)) _) | (with_reducible refine Below.drew ?_) | (with_reducible refine below_drewN ?_ _) | (with_reducible refine Below.trans ?_ (Below.mono (by assumption) (by first | omega | (simp; done) | (simp; omega))))))
set_option maxRecDepth 100000 in
set_option maxHeartbeats 4000000 in
theorem fCross_rng (hv : VG W H n G) (h : ¬ (0 ≤ a ∧ a ≤ 1)) : Calls Tryd.prog 27 #[.agg #[.int .i64 W, .int .i64 H, .slice (ao) n cap], .int .i64 a, .int .i64 at_] w fun e w' => e = .returned (.tuple #[.int .i64 0, .int .i64 0, .int .i64 7]) ∧ Below w.heap.size w w' := by
  have CS := Lib.hid (fun wx (hb : Below w.heap.size w wx) => flines_rng W H ao n cap G a wx (hG.below hb) hv h)
  clear hv hG h
  go_enter Tryd.func27, Tryd.ntmps27
  go_wp2_with (go_at_call 79; (with_reducible refine (CS.out _ (by (repeat' (first | (with_reducible exact Below.refl _ _) | (with_reducible refine Below.setCell ?_ (by first | omega | (simp; done) | (simp; omega)) _) | (with_reducible refine Below.alloc ?_ (by first | omega | (simp; done) | (simp; omega)) _) | (with_reducible refine Below.drew ?_) | (with_reducible refine below_drewN ?_ _) | (with_reducible refine Below.trans ?_ (Below.mono (by assumption) (by first | omega | (simp; done) | (simp; omega)))))))).mono ?_); rintro e w1 ⟨rfl, hb⟩; obtain ⟨hc, hf, hz⟩ := bcall hb; (try simp at hc hf hz))
  refine bodyPost_ret (v := .tuple #[.int .i64 0, .int .i64 0, .int .i64 7]) (by simp [results, Tryd.results27, go_sem, ↓IntWalk.iteOmega, *]) rfl ⟨rfl, ?_⟩
  (repeat' (first | (with_reducible exact Below.refl _ _) | (with_reducible refine Below.setCell ?_ (by first | omega | (simp; done) | (simp; omega)) _) | (with_reducible refine Below.alloc ?_ (by first | omega | (simp; done) | (simp; omega)) _) | (with_reducible refine Below.drew ?_) | (with_reducible refine below_drewN ?_ _) | (with_reducible refine Below.trans ?_ (Below.mono (by assumption) (by first | omega | (simp; done) | (simp; omega))))))
set_option maxRecDepth 100000 in
set_option maxHeartbeats 4000000 in
theorem fRows_bad (hv : ¬ VG W H n G) : Calls Tryd.prog 29 #[.agg #[.int .i64 W, .int .i64 H, .slice (ao) n cap]] w fun e w' => e = .returned (.tuple #[.slice none 0 0, .int .i64 1]) ∧ Below w.heap.size w w' := by
  have CS := Lib.hid (fun wx (hb : Below w.heap.size w wx) => flines_bad W H ao n cap G 1 wx (hG.below hb) hv)
  clear hv hG
  go_enter Tryd.func29, Tryd.ntmps29
  go_wp2_with (go_at_call 79; (with_reducible refine (CS.out _ (by (repeat' (first | (with_reducible exact Below.refl _ _) | (with_reducible refine Below.setCell ?_ (by first | omega | (simp; done) | (simp; omega)) _) | (with_reducible refine Below.alloc ?_ (by first | omega | (simp; done) | (simp; omega)) _) | (with_reducible refine Below.drew ?_) | (with_reducible refine below_drewN ?_ _) | (with_reducible refine Below.trans ?_ (Below.mono (by assumption) (by first | omega | (simp; done) | (simp; omega)))))))).mono ?_); rintro e w1 ⟨rfl, hb⟩; obtain ⟨hc, hf, hz⟩ := bcall hb; (try simp at hc hf hz))
  refine bodyPost_ret (v := .tuple #[.slice none 0 0, .int .i64 1]) (by simp [results, Tryd.results29, go_sem, ↓IntWalk.iteOmega, *]) rfl ⟨rfl, ?_⟩
  (repeat' (first | (with_reducible exact Below.refl _ _) | (with_reducible refine Below.setCell ?_ (by first | omega | (simp; done) | (simp; omega)) _) | (with_reducible refine Below.alloc ?_ (by first | omega | (simp; done) | (simp; omega)) _) | (with_reducible refine Below.drew ?_) | (with_reducible refine below_drewN ?_ _) | (with_reducible refine Below.trans ?_ (Below.mono (by assumption) (by first | omega | (simp; done) | (simp; omega))))))
set_option maxRecDepth 100000 in
set_option maxHeartbeats 4000000 in
theorem fPar_bad (hv : ¬ VG W H n G) : Calls Tryd.prog 31 #[.agg #[.int .i64 W, .int .i64 H, .slice (ao) n cap]] w fun e w' => e = .returned (.tuple #[.int .i64 0, .int .i64 0, .int .i64 1]) ∧ Below w.heap.size w w' := by
  have CS := Lib.hid (fun wx (hb : Below w.heap.size w wx) => gMass_bad W H ao n cap G wx hv (hG.below hb))
  clear hv hG
  go_enter Tryd.func31, Tryd.ntmps31
  go_wp2_with (go_at_call 24; (with_reducible refine (CS.out _ (by (repeat' (first | (with_reducible exact Below.refl _ _) | (with_reducible refine Below.setCell ?_ (by first | omega | (simp; done) | (simp; omega)) _) | (with_reducible refine Below.alloc ?_ (by first | omega | (simp; done) | (simp; omega)) _) | (with_reducible refine Below.drew ?_) | (with_reducible refine below_drewN ?_ _) | (with_reducible refine Below.trans ?_ (Below.mono (by assumption) (by first | omega | (simp; done) | (simp; omega)))))))).mono ?_); rintro e w1 ⟨rfl, hb⟩; obtain ⟨hc, hf, hz⟩ := bcall hb; (try simp at hc hf hz))
  refine bodyPost_ret (v := .tuple #[.int .i64 0, .int .i64 0, .int .i64 1]) (by simp [results, Tryd.results31, go_sem, ↓IntWalk.iteOmega, *]) rfl ⟨rfl, ?_⟩
  (repeat' (first | (with_reducible exact Below.refl _ _) | (with_reducible refine Below.setCell ?_ (by first | omega | (simp; done) | (simp; omega)) _) | (with_reducible refine Below.alloc ?_ (by first | omega | (simp; done) | (simp; omega)) _) | (with_reducible refine Below.drew ?_) | (with_reducible refine below_drewN ?_ _) | (with_reducible refine Below.trans ?_ (Below.mono (by assumption) (by first | omega | (simp; done) | (simp; omega))))))
end
set_option maxRecDepth 100000 in
set_option maxHeartbeats 8000000 in
theorem frow_in (W H n cap b off : Nat) (G : Nat → Nat → Int) (w : World) (s : Sides W H n) (hO : OkG n G) (lb : b < w.heap.size) (hG : Grd w b off n G) :
    Calls Tryd.prog 29 #[.agg #[.int .i64 W, .int .i64 H, .slice (some ⟨b, off, none⟩) n cap]] w fun e w' => ∃ v, e = .returned (.tuple #[v, .int .i64 0]) ∧ w'.ownsRow w.heap.size 3 1 v (lnN 1 W H) (iV (fnL (lnS 1 W H (eaC G)) (lnN 1 W H))) ∧ Below w.heap.size w w' := by
  have LN := Lib.hid (fun wx (hb : Below w.heap.size w wx) => flines_any 1 W H n cap b off G wx s (Nat.lt_of_lt_of_le lb hb.size) (hG.below hb lb) (by omega) hO)
  have hl := lnN_one (a := 1) s
  have SU := Lib.hid (fun g c wy (hb : Below w.heap.size w wy) (lg : g < wy.heap.size) (hB : BlksAt wy g (lnN 1 W H) W H (wiL 1 W) (hiL 1 H) (some ⟨b, off, none⟩) n cap (pL 1)) =>
    fsums_in g (lnN 1 W H) c W H (wiL 1 W) (hiL 1 H) n cap (some ⟨b, off, none⟩) (pL 1) 70 (lnS 1 W H (eaC G)) wy (by omega) lg hB (fun i hi wx hx => fsum_line 1 W H n cap b off G w s lb hG 70 #[] (eaC G) i hi wx (hb.trans (hx.mono hb.size)) (tells_east wx n G hO) (tells_bd hO).2.1))
  obtain ⟨L, hL⟩ : ∃ L, L = lnN 1 W H := ⟨_, rfl⟩
  obtain ⟨xs, hxs⟩ : ∃ xs, xs = iV (fnL (lnS 1 W H (eaC G)) (lnN 1 W H)) := ⟨_, rfl⟩
  rw [← hxs]
  rw [← hxs] at SU
  rw [← hL] at LN SU ⊢
  clear hL hxs s hO hG
  go_enter Tryd.func29, Tryd.ntmps29
  go_wp2_with fail
  go_at_call 79
  refine (LN.out _ (by (repeat' (first | (with_reducible exact Below.refl _ _) | (with_reducible refine Below.setCell ?_ (by first | omega | (simp; done) | (simp; omega)) _) | (with_reducible refine Below.alloc ?_ (by first | omega | (simp; done) | (simp; omega)) _) | (with_reducible refine Below.drew ?_) | (with_reducible refine below_drewN ?_ _) | (with_reducible refine Below.trans ?_ (Below.mono (by assumption) (by first | omega | (simp; done) | (simp; omega)))))))).mono ?_
  rintro e w1 ⟨g, c, rfl, hBl, lg, hb⟩
  have hbw := Lib.hid (show Below w.heap.size w w1 from by (repeat' (first | (with_reducible exact Below.refl _ _) | (with_reducible refine Below.setCell ?_ (by first | omega | (simp; done) | (simp; omega)) _) | (with_reducible refine Below.alloc ?_ (by first | omega | (simp; done) | (simp; omega)) _) | (with_reducible refine Below.drew ?_) | (with_reducible refine below_drewN ?_ _) | (with_reducible refine Below.trans ?_ (Below.mono (by assumption) (by first | omega | (simp; done) | (simp; omega)))))))
  have hbs := hbw.out.size
  have HBl := Lib.hid hBl
  clear hBl hb
  go_wp2_with fail
  go_at_call 78
  refine (SU.out g c _ hbw.out lg HBl.out).mono ?_
  rintro e w2 ⟨v, rfl, hr, hb2⟩
  have HR := Lib.hid hr
  have HB2 := Lib.hid hb2
  clear hr hb2
  go_wp2
  go_ret2
  exact ⟨v, rfl, ownsRow_base_a HR.out hbs, hbw.out.trans (HB2.out.mono hbs)⟩

set_option maxRecDepth 100000 in
set_option maxHeartbeats 8000000 in
theorem fCross_at (a W H n cap b off : Nat) (at_ : Int) (G : Nat → Nat → Int) (w : World) (s : Sides W H n) (hO : OkG n G) (lb : b < w.heap.size) (hG : Grd w b off n G) (ha : a < 2) (hat : ¬ (0 ≤ at_ ∧ at_ < (lnN a W H : Int))) :
    Calls Tryd.prog 27 #[.agg #[.int .i64 W, .int .i64 H, .slice (some ⟨b, off, none⟩) n cap], .int .i64 ((a : Int)), .int .i64 at_] w fun e w' => e = .returned (.tuple #[.int .i64 0, .int .i64 0, .int .i64 7]) ∧ Below w.heap.size w w' := by
  have LN := Lib.hid (fun wx (hb : Below w.heap.size w wx) => flines_any a W H n cap b off G wx s (Nat.lt_of_lt_of_le lb hb.size) (hG.below hb lb) ha hO)
  have hl := lnN_one (a := a) s
  obtain ⟨L, hL⟩ : ∃ L, L = lnN a W H := ⟨_, rfl⟩
  rw [← hL] at LN hl hat
  have h' : at_ < 0 ∨ (¬ at_ < 0 ∧ (L : Int) ≤ at_) := by omega
  clear hL s hO hG hat
  go_enter Tryd.func27, Tryd.ntmps27
  go_wp2_with fail
  go_at_call 79
  refine (LN.out _ (by (repeat' (first | (with_reducible exact Below.refl _ _) | (with_reducible refine Below.setCell ?_ (by first | omega | (simp; done) | (simp; omega)) _) | (with_reducible refine Below.alloc ?_ (by first | omega | (simp; done) | (simp; omega)) _) | (with_reducible refine Below.drew ?_) | (with_reducible refine below_drewN ?_ _) | (with_reducible refine Below.trans ?_ (Below.mono (by assumption) (by first | omega | (simp; done) | (simp; omega)))))))).mono ?_
  rintro e w1 ⟨g, c, rfl, hBl, lg, hb⟩
  have hbw := Lib.hid (show Below w.heap.size w w1 from by (repeat' (first | (with_reducible exact Below.refl _ _) | (with_reducible refine Below.setCell ?_ (by first | omega | (simp; done) | (simp; omega)) _) | (with_reducible refine Below.alloc ?_ (by first | omega | (simp; done) | (simp; omega)) _) | (with_reducible refine Below.drew ?_) | (with_reducible refine below_drewN ?_ _) | (with_reducible refine Below.trans ?_ (Below.mono (by assumption) (by first | omega | (simp; done) | (simp; omega)))))))
  clear hBl hb LN
  rcases h' with h1 | ⟨h1, h2⟩
  all_goals
    go_wp2
    go_ret3
    exact ⟨rfl, hbw.out⟩

set_option maxRecDepth 100000 in
set_option maxHeartbeats 16000000 in
theorem fPar_ok (W H n cap b off : Nat) (G : Nat → Nat → Int) (w : World) (s : Sides W H n) (hO : OkG n G) (lb : b < w.heap.size) (hG : Grd w b off n G) :
    Calls Tryd.prog 31 #[.agg #[.int .i64 W, .int .i64 H, .slice (some ⟨b, off, none⟩) n cap]] w fun e w' => e = .returned (.tuple #[.int .i64 (evS W (msC G) n), .int .i64 (odS W (msC G) n), .int .i64 0]) ∧ Below w.heap.size w w' := by
  have hC : CellsIn w (some ⟨b, off, none⟩) n G := .inr ⟨b, off, rfl, lb, hG⟩
  have MS := Lib.hid (fun wx (hb : Below w.heap.size w wx) => gMass_ok W H (some ⟨b, off, none⟩) n cap G wx (vg_of s hO) (hC.below hb))
  have HE : wt G n - evS W (msC G) n = odS W (msC G) n := by have := evS_odS W (msC G) n; rw [wt_ms] at this; omega
  have HM := Lib.hid (fun q (hq : q < n) => (show 0 ≤ msC G q ∧ msC G q ≤ 1000000000 from by obtain ⟨a0, a1, a2, a3, a4⟩ := hO.1 q hq; exact ⟨by show 0 ≤ G q 0 + G q 1 + G q 2 + G q 3; omega, a4⟩))
  have HO := Lib.hid hO
  have HG := Lib.hid hG
  have hW0 := s.w0
  have hW1 := s.w1
  have hn1 := s.n1
  have hwt : 0 ≤ wt G n ∧ wt G n ≤ 1000000000 := ⟨(wt_le hO.1 n (Nat.le_refl _)).1, hO.2⟩
  obtain ⟨z, hz⟩ : ∃ z, z = wt G n := ⟨_, rfl⟩
  rw [← hz] at MS HE hwt
  have HE := Lib.hid HE
  clear hz hC hO hG s
  have t0 := Three.new0 w 24 (.int .i64 W) (.int .i64 H) (.slice (some ⟨b, off, none⟩) n cap)
  go_enter Tryd.func31, Tryd.ntmps31
  go_wp2_with (go_at_call 24; (with_reducible refine (MS.out _ (by (repeat' (first | (with_reducible exact Below.refl _ _) | (with_reducible refine Below.setCell ?_ (by first | omega | (simp; done) | (simp; omega)) _) | (with_reducible refine Below.alloc ?_ (by first | omega | (simp; done) | (simp; omega)) _) | (with_reducible refine Below.drew ?_) | (with_reducible refine below_drewN ?_ _) | (with_reducible refine Below.trans ?_ (Below.mono (by assumption) (by first | omega | (simp; done) | (simp; omega)))))))).mono ?_); rintro e w1 ⟨rfl, hb⟩; obtain ⟨hc, hf, hz⟩ := bcall hb; (try simp at hc hf hz))
  have u0 : Three w1 w.heap.size 24 (.int .i64 W) (.int .i64 H) (.slice (some ⟨b, off, none⟩) n cap) := t0.below hb t0.lt
  have hbw : Below w.heap.size w w1 := by (repeat' (first | (with_reducible exact Below.refl _ _) | (with_reducible refine Below.setCell ?_ (by first | omega | (simp; done) | (simp; omega)) _) | (with_reducible refine Below.alloc ?_ (by first | omega | (simp; done) | (simp; omega)) _) | (with_reducible refine Below.drew ?_) | (with_reducible refine below_drewN ?_ _) | (with_reducible refine Below.trans ?_ (Below.mono (by assumption) (by first | omega | (simp; done) | (simp; omega))))))
  obtain ⟨wa, hwa⟩ : ∃ wa, wa = w1 := ⟨_, rfl⟩
  subst hwa
  clear hb hc hf hz t0
  have s1 := hbw.size
  have l0 := u0.lt
  go_loopw [2, 20] (fun e i wr => ∃ k : Nat, k ≤ n ∧ i = .int .i64 (k : Int) ∧ e = .int .i64 (evS W (msC G) k) ∧ Below wa.heap.size wa wr) (fun _ i _ => n - (Go.RowKit.intOf i).toNat)
  case atStart => exact ⟨0, Nat.zero_le _, rfl, rfl, Below.refl _ _⟩
  case round =>
    obtain ⟨k, hk, rfl, rfl, hB⟩ := hrel
    have hbd := (evS_bd (W := W) (f := msC G) k (fun i hi => HM.out i (by omega))).1
    by_cases hlk : k < n
    · have hmk := HM.out k hlk
      obtain ⟨z0, z1, z2, z3⟩ := HG.out.below (hbw.trans (hB.mono s1)) lb k hlk
      have v0 := u0.below hB l0
      have g0 := v0.c0
      have g1 := v0.c1
      have g2 := v0.c2
      have lr := v0.lt
      have lbr : b < wr.heap.size := Nat.lt_of_lt_of_le lb (hbw.trans (hB.mono s1)).size
      have PT := Lib.hid (fun wx => fpoint_in W H k (some ⟨b, off, none⟩) n cap wx hW0 hW1 (by omega))
      have MO := Lib.hid (fun wx => massOf_in (G k 0) (G k 1) (G k 2) (G k 3) wx (HO.out.1 k hlk))
      have HD := Lib.hid (evS_succ W (msC G) k)
      have he2 : evn W k = decide ((k % W + k / W) % 2 = 0) := rfl
      have hx2 : k % W ≤ 5000 := by have := Nat.mod_le k W; omega
      have hy2 : k / W ≤ 5000 := by have := Nat.div_le_self k W; omega
      obtain ⟨x, hx⟩ : ∃ x, x = k % W := ⟨_, rfl⟩
      obtain ⟨y, hy⟩ : ∃ y, y = k / W := ⟨_, rfl⟩
      rw [← hx, ← hy] at PT he2
      rw [← hx] at hx2
      rw [← hy] at hy2
      have e1 : IntKind.i64.wrap ((x : Int) + (y : Int)) = (x : Int) + (y : Int) := IntWalk.i64_in _ ⟨by omega, by omega⟩
      obtain ⟨r, hr⟩ : ∃ r, r = (x + y) % 2 := ⟨_, rfl⟩
      have e2 : Int.tmod ((x : Int) + (y : Int)) 2 = (r : Int) := by rw [Int.tmod_eq_emod_of_nonneg (by omega), hr]; push_cast; rfl
      have e3 : IntKind.i64.wrap (r : Int) = (r : Int) := IntWalk.i64_in _ ⟨by omega, by omega⟩
      have e4 : ((x : Int) + (y : Int)) % 2 = (r : Int) := by rw [hr]; push_cast; rfl
      rw [← hr] at he2
      obtain ⟨m, hm⟩ : ∃ m, m = msC G k := ⟨_, rfl⟩
      have hm2 : m = G k 0 + G k 1 + G k 2 + G k 3 := hm
      rw [← hm2] at MO
      rw [← hm] at HD hmk
      obtain ⟨ev, hev⟩ : ∃ t, t = evS W (msC G) k := ⟨_, rfl⟩
      rw [← hev] at HD hbd ⊢
      obtain ⟨d0, hd0⟩ : ∃ d, d = G k 0 := ⟨_, rfl⟩
      obtain ⟨d1, hd1⟩ : ∃ d, d = G k 1 := ⟨_, rfl⟩
      obtain ⟨d2, hd2⟩ : ∃ d, d = G k 2 := ⟨_, rfl⟩
      obtain ⟨d3, hd3⟩ : ∃ d, d = G k 3 := ⟨_, rfl⟩
      rw [← hd0, ← hd1, ← hd2, ← hd3] at MO
      rw [← hd0] at z0
      rw [← hd1] at z1
      rw [← hd2] at z2
      rw [← hd3] at z3
      have e5 : IntKind.i64.wrap (ev + m) = ev + m := IntWalk.i64_in _ ⟨by omega, by omega⟩
      have p0 : (0 : Int) ≤ (k : Int) := by omega
      have p1 : (k : Int) < (n : Int) := by omega
      have HB := Lib.hid hB
      have sB := hB.size
      clear hx hy hm hm2 hev hd0 hd1 hd2 hd3 hbd hmk hB v0 hx2 hy2
      by_cases hr0 : r = 0
      · have HD2 := Lib.hid (show evS W (msC G) (k + 1) = ev + m from by rw [HD.out, he2, decide_eq_true hr0]; simp)
        have e6 : (r : Int) = 0 := by omega
        clear he2 hr
        go_wp2_with (first | (go_at_call 88; (with_reducible refine (PT.out _).mono ?_); rintro e w1 ⟨rfl, hb⟩; obtain ⟨hc, hf, hz⟩ := bcall hb; (try simp at hc hf hz)) | (go_at_call 67; (with_reducible refine (MO.out _).mono ?_); rintro e w1 ⟨rfl, hb⟩; obtain ⟨hc, hf, hz⟩ := bcall hb; (try simp at hc hf hz)))
        go_roundw
        case rel => exact ⟨k + 1, by omega, by go_num, by rw [HD2.out], by have := HB.out; (repeat' (first | (with_reducible exact Below.refl _ _) | (with_reducible refine Below.setCell ?_ (by first | omega | (simp; done) | (simp; omega)) _) | (with_reducible refine Below.alloc ?_ (by first | omega | (simp; done) | (simp; omega)) _) | (with_reducible refine Below.drew ?_) | (with_reducible refine below_drewN ?_ _) | (with_reducible refine Below.trans ?_ (Below.mono (by assumption) (by first | omega | (simp; done) | (simp; omega))))))⟩
        case measure => simp [Go.RowKit.intOf]; omega
      · have HD2 := Lib.hid (show evS W (msC G) (k + 1) = ev from by rw [HD.out, he2, decide_eq_false hr0]; simp)
        have e6 : ¬ (r : Int) = 0 := by omega
        clear he2 hr
        go_wp2_with (go_at_call 88; (with_reducible refine (PT.out _).mono ?_); rintro e w1 ⟨rfl, hb⟩; obtain ⟨hc, hf, hz⟩ := bcall hb; (try simp at hc hf hz))
        go_roundw
        case rel => exact ⟨k + 1, by omega, by go_num, by rw [HD2.out], by have := HB.out; (repeat' (first | (with_reducible exact Below.refl _ _) | (with_reducible refine Below.setCell ?_ (by first | omega | (simp; done) | (simp; omega)) _) | (with_reducible refine Below.alloc ?_ (by first | omega | (simp; done) | (simp; omega)) _) | (with_reducible refine Below.drew ?_) | (with_reducible refine below_drewN ?_ _) | (with_reducible refine Below.trans ?_ (Below.mono (by assumption) (by first | omega | (simp; done) | (simp; omega))))))⟩
        case measure => simp [Go.RowKit.intOf]; omega
    · obtain rfl : k = n := by omega
      have he := HE.out
      obtain ⟨ev, hev⟩ : ∃ t, t = evS W (msC G) k := ⟨_, rfl⟩
      obtain ⟨od, hod⟩ : ∃ t, t = odS W (msC G) k := ⟨_, rfl⟩
      rw [← hev] at he hbd ⊢
      rw [← hod] at he
      have e1 : IntKind.i64.wrap (z - ev) = od := by rw [he]; exact IntWalk.i64_in _ ⟨by omega, by omega⟩
      have HH := Lib.hid (And.intro hev hod)
      have HB := Lib.hid (hbw.trans (hB.mono s1))
      clear he hev hod hbd
      go_wp2
      go_ret3
      exact ⟨by rw [HH.out.1, HH.out.2]; rfl, HB.out⟩
end Go.Proofs.YtmdeooflgkjbbaaDoor

/- Crossing, Rows, Parity: by the reference of the fields. -/


namespace Go.Proofs.YtmdeooflgkjbbaaDoor
set_option linter.unusedSimpArgs false
set_option linter.unusedVariables false
open Go.RowKit Go.Shelf
attribute [local go_sem] Oper.semAt_some

section
variable (W H : Int) (ao : Option Addr) (n cap : Nat) (G : Nat → Nat → Int) (a at_ : Int) (w : World) (hG : CellsIn w ao n G)
include hG
set_option maxRecDepth 100000 in
set_option maxHeartbeats 16000000 in
theorem rCross_bad (hv : ¬ VG W H n G) : Calls Tryd.prog 28 #[.agg #[.int .i64 W, .int .i64 H, .slice (ao) n cap], .int .i64 a, .int .i64 at_] w fun e w' => e = .returned (.tuple #[.int .i64 0, .int .i64 0, .int .i64 1]) ∧ Below w.heap.size w w' := by
  have CS := Lib.hid (fun wx (hb : Below w.heap.size w wx) => raxial_bad W H ao n cap G a wx (hG.below hb) hv)
  clear hv hG
  go_enter Tryd.func28, Tryd.ntmps28
  go_wp2_with (go_at_call 80; (with_reducible refine (CS.out _ (by (repeat' (first | (with_reducible exact Below.refl _ _) | (with_reducible refine Below.setCell ?_ (by first | omega | (simp; done) | (simp; omega)) _) | (with_reducible refine Below.alloc ?_ (by first | omega | (simp; done) | (simp; omega)) _) | (with_reducible refine Below.drew ?_) | (with_reducible refine below_drewN ?_ _) | (with_reducible refine Below.trans ?_ (Below.mono (by assumption) (by first | omega | (simp; done) | (simp; omega)))))))).mono ?_); rintro e w1 ⟨rfl, hb⟩; obtain ⟨hc, hf, hz⟩ := bcall hb; (try simp at hc hf hz))
  refine bodyPost_ret (v := .tuple #[.int .i64 0, .int .i64 0, .int .i64 1]) (by simp [results, Tryd.results28, go_sem, ↓IntWalk.iteOmega, *]) rfl ⟨rfl, ?_⟩
  (repeat' (first | (with_reducible exact Below.refl _ _) | (with_reducible refine Below.setCell ?_ (by first | omega | (simp; done) | (simp; omega)) _) | (with_reducible refine Below.alloc ?_ (by first | omega | (simp; done) | (simp; omega)) _) | (with_reducible refine Below.drew ?_) | (with_reducible refine below_drewN ?_ _) | (with_reducible refine Below.trans ?_ (Below.mono (by assumption) (by first | omega | (simp; done) | (simp; omega))))))
set_option maxRecDepth 100000 in
set_option maxHeartbeats 16000000 in
theorem rCross_rng (hv : VG W H n G) (h : ¬ (0 ≤ a ∧ a ≤ 1)) : Calls Tryd.prog 28 #[.agg #[.int .i64 W, .int .i64 H, .slice (ao) n cap], .int .i64 a, .int .i64 at_] w fun e w' => e = .returned (.tuple #[.int .i64 0, .int .i64 0, .int .i64 7]) ∧ Below w.heap.size w w' := by
  have CS := Lib.hid (fun wx (hb : Below w.heap.size w wx) => raxial_rng W H ao n cap G a wx (hG.below hb) hv h)
  clear hv hG h
  go_enter Tryd.func28, Tryd.ntmps28
  go_wp2_with (go_at_call 80; (with_reducible refine (CS.out _ (by (repeat' (first | (with_reducible exact Below.refl _ _) | (with_reducible refine Below.setCell ?_ (by first | omega | (simp; done) | (simp; omega)) _) | (with_reducible refine Below.alloc ?_ (by first | omega | (simp; done) | (simp; omega)) _) | (with_reducible refine Below.drew ?_) | (with_reducible refine below_drewN ?_ _) | (with_reducible refine Below.trans ?_ (Below.mono (by assumption) (by first | omega | (simp; done) | (simp; omega)))))))).mono ?_); rintro e w1 ⟨rfl, hb⟩; obtain ⟨hc, hf, hz⟩ := bcall hb; (try simp at hc hf hz))
  refine bodyPost_ret (v := .tuple #[.int .i64 0, .int .i64 0, .int .i64 7]) (by simp [results, Tryd.results28, go_sem, ↓IntWalk.iteOmega, *]) rfl ⟨rfl, ?_⟩
  (repeat' (first | (with_reducible exact Below.refl _ _) | (with_reducible refine Below.setCell ?_ (by first | omega | (simp; done) | (simp; omega)) _) | (with_reducible refine Below.alloc ?_ (by first | omega | (simp; done) | (simp; omega)) _) | (with_reducible refine Below.drew ?_) | (with_reducible refine below_drewN ?_ _) | (with_reducible refine Below.trans ?_ (Below.mono (by assumption) (by first | omega | (simp; done) | (simp; omega))))))
set_option maxRecDepth 100000 in
set_option maxHeartbeats 16000000 in
theorem rRows_bad (hv : ¬ VG W H n G) : Calls Tryd.prog 30 #[.agg #[.int .i64 W, .int .i64 H, .slice (ao) n cap]] w fun e w' => e = .returned (.tuple #[.slice none 0 0, .int .i64 1]) ∧ Below w.heap.size w w' := by
  have CS := Lib.hid (fun wx (hb : Below w.heap.size w wx) => rValid_bad W H ao n cap G wx hv (hG.below hb))
  clear hv hG
  go_enter Tryd.func30, Tryd.ntmps30
  go_wp2_with (go_at_call 87; (with_reducible refine (CS.out _ (by (repeat' (first | (with_reducible exact Below.refl _ _) | (with_reducible refine Below.setCell ?_ (by first | omega | (simp; done) | (simp; omega)) _) | (with_reducible refine Below.alloc ?_ (by first | omega | (simp; done) | (simp; omega)) _) | (with_reducible refine Below.drew ?_) | (with_reducible refine below_drewN ?_ _) | (with_reducible refine Below.trans ?_ (Below.mono (by assumption) (by first | omega | (simp; done) | (simp; omega)))))))).mono ?_); rintro e w1 ⟨rfl, hb⟩; obtain ⟨hc, hf, hz⟩ := bcall hb; (try simp at hc hf hz))
  refine bodyPost_ret (v := .tuple #[.slice none 0 0, .int .i64 1]) (by simp [results, Tryd.results30, go_sem, ↓IntWalk.iteOmega, *]) rfl ⟨rfl, ?_⟩
  (repeat' (first | (with_reducible exact Below.refl _ _) | (with_reducible refine Below.setCell ?_ (by first | omega | (simp; done) | (simp; omega)) _) | (with_reducible refine Below.alloc ?_ (by first | omega | (simp; done) | (simp; omega)) _) | (with_reducible refine Below.drew ?_) | (with_reducible refine below_drewN ?_ _) | (with_reducible refine Below.trans ?_ (Below.mono (by assumption) (by first | omega | (simp; done) | (simp; omega))))))
set_option maxRecDepth 100000 in
set_option maxHeartbeats 16000000 in
theorem rParity_bad (hv : ¬ VG W H n G) : Calls Tryd.prog 32 #[.agg #[.int .i64 W, .int .i64 H, .slice (ao) n cap]] w fun e w' => e = .returned (.tuple #[.int .i64 0, .int .i64 0, .int .i64 1]) ∧ Below w.heap.size w w' := by
  have CS := Lib.hid (fun wx (hb : Below w.heap.size w wx) => rValid_bad W H ao n cap G wx hv (hG.below hb))
  clear hv hG
  go_enter Tryd.func32, Tryd.ntmps32
  go_wp2_with (go_at_call 87; (with_reducible refine (CS.out _ (by (repeat' (first | (with_reducible exact Below.refl _ _) | (with_reducible refine Below.setCell ?_ (by first | omega | (simp; done) | (simp; omega)) _) | (with_reducible refine Below.alloc ?_ (by first | omega | (simp; done) | (simp; omega)) _) | (with_reducible refine Below.drew ?_) | (with_reducible refine below_drewN ?_ _) | (with_reducible refine Below.trans ?_ (Below.mono (by assumption) (by first | omega | (simp; done) | (simp; omega)))))))).mono ?_); rintro e w1 ⟨rfl, hb⟩; obtain ⟨hc, hf, hz⟩ := bcall hb; (try simp at hc hf hz))
  refine bodyPost_ret (v := .tuple #[.int .i64 0, .int .i64 0, .int .i64 1]) (by simp [results, Tryd.results32, go_sem, ↓IntWalk.iteOmega, *]) rfl ⟨rfl, ?_⟩
  (repeat' (first | (with_reducible exact Below.refl _ _) | (with_reducible refine Below.setCell ?_ (by first | omega | (simp; done) | (simp; omega)) _) | (with_reducible refine Below.alloc ?_ (by first | omega | (simp; done) | (simp; omega)) _) | (with_reducible refine Below.drew ?_) | (with_reducible refine below_drewN ?_ _) | (with_reducible refine Below.trans ?_ (Below.mono (by assumption) (by first | omega | (simp; done) | (simp; omega))))))
end
/-- What has crossed a line, forth and back, of the first k cells. -/
def crF (a W H at_ : Nat) (f : Nat → Int) (k : Nat) : Int := sm k fun q => if (lnK a W q + 1) % lnN a W H = at_ then f q else 0
def crB (a W at_ : Nat) (f : Nat → Int) (k : Nat) : Int := sm k fun q => if lnK a W q = at_ then f q else 0
theorem lnK_lt {a W H n q : Nat} (s : Sides W H n) (hq : q < n) : lnK a W q < lnN a W H := by
  have hW := s.w0
  have hn := s.n0
  unfold lnK lnN
  split
  · exact Nat.mod_lt _ hW
  · exact (Nat.div_lt_iff_lt_mul hW).2 (by rw [Nat.mul_comm, ← hn]; exact hq)
theorem crF_all {a W H n at_ : Nat} (s : Sides W H n) (f : Nat → Int) (hat : at_ < lnN a W H) : crF a W H at_ f n = lnS a W H f (prv (lnN a W H) at_) := by
  rw [← lnS_all a W H f _ (prv_lt hat), ← s.n0]
  unfold crF
  refine sm_congr _ _ _ fun q hq => ?_
  have := nxt_iff hat (lnK_lt (a := a) s hq)
  by_cases h : (lnK a W q + 1) % lnN a W H = at_
  · rw [if_pos h, if_pos (this.1 h)]
  · rw [if_neg h, if_neg (fun e => h (this.2 e))]
theorem crB_all {a W H n at_ : Nat} (s : Sides W H n) (f : Nat → Int) (hat : at_ < lnN a W H) : crB a W at_ f n = lnS a W H f at_ := by
  rw [← lnS_all a W H f _ hat, ← s.n0]
  rfl
theorem cr_bd {f : Nat → Int} {P : Nat → Prop} [DecidablePred P] (k : Nat) (h : ∀ i, i < k → 0 ≤ f i ∧ f i ≤ 1000000000) : 0 ≤ sm k (fun q => if P q then f q else 0) ∧ sm k (fun q => if P q then f q else 0) ≤ 1000000000 * (k : Int) := by
  induction k with
  | zero => simp [sm]
  | succ k ih =>
    have h1 := ih (fun i hi => h i (by omega))
    have h2 := h k (by omega)
    simp only [sm]
    push_cast
    split <;> omega
theorem crF_succ0 (W H at_ : Nat) (f : Nat → Int) (k : Nat) : crF 0 W H at_ f (k + 1) = crF 0 W H at_ f k + if (k % W + 1) % W = at_ then f k else 0 := rfl
theorem crB_succ0 (W at_ : Nat) (f : Nat → Int) (k : Nat) : crB 0 W at_ f (k + 1) = crB 0 W at_ f k + if k % W = at_ then f k else 0 := rfl
theorem crF_succ1 (W H at_ : Nat) (f : Nat → Int) (k : Nat) : crF 1 W H at_ f (k + 1) = crF 1 W H at_ f k + if (k / W + 1) % H = at_ then f k else 0 := rfl
theorem crB_succ1 (W at_ : Nat) (f : Nat → Int) (k : Nat) : crB 1 W at_ f (k + 1) = crB 1 W at_ f k + if k / W = at_ then f k else 0 := rfl
section
variable (W H n cap b off : Nat) (G : Nat → Nat → Int) (w : World) (s : Sides W H n) (hO : OkG n G) (lb : b < w.heap.size) (hG : Grd w b off n G)
include s hO lb hG
set_option maxRecDepth 100000 in
set_option maxHeartbeats 16000000 in
theorem rCross_at0 (at_ : Int) (hat : ¬ (0 ≤ at_ ∧ at_ < (W : Int))) : Calls Tryd.prog 28 #[.agg #[.int .i64 W, .int .i64 H, .slice (some ⟨b, off, none⟩) n cap], .int .i64 0, .int .i64 at_] w fun e w' => e = .returned (.tuple #[.int .i64 0, .int .i64 0, .int .i64 7]) ∧ Below w.heap.size w w' := by
  have hC : CellsIn w (some ⟨b, off, none⟩) n G := .inr ⟨b, off, rfl, lb, hG⟩
  have AX := Lib.hid (fun wx (hb : Below w.heap.size w wx) => raxial_ok W H (some ⟨b, off, none⟩) n cap G 0 wx (hC.below hb) (vg_of s hO) ⟨by omega, by omega⟩)
  have hW0 := s.w0
  have hW1 := s.w1
  have hH0 := s.h0
  have hH1 := s.h1
  have hn1 := s.n1
  have es : IntKind.i64.wrap ((W : Int) - 1) = (W : Int) - 1 := IntWalk.i64_in _ ⟨by omega, by omega⟩
  have WI := Lib.hid (fun wx => r8within_no at_ 0 ((W : Int) - 1) wx (by omega))
  clear hC s hO hG hat
  go_enter Tryd.func28, Tryd.ntmps28
  go_wp2_with (first | (go_at_call 80; (with_reducible refine (AX.out _ (by (repeat' (first | (with_reducible exact Below.refl _ _) | (with_reducible refine Below.setCell ?_ (by first | omega | (simp; done) | (simp; omega)) _) | (with_reducible refine Below.alloc ?_ (by first | omega | (simp; done) | (simp; omega)) _) | (with_reducible refine Below.drew ?_) | (with_reducible refine below_drewN ?_ _) | (with_reducible refine Below.trans ?_ (Below.mono (by assumption) (by first | omega | (simp; done) | (simp; omega)))))))).mono ?_); rintro e w1 ⟨rfl, hb⟩; obtain ⟨hc, hf, hz⟩ := bcall hb; (try simp at hc hf hz)) | (go_at_call 84; (with_reducible refine (WI.out _).mono ?_); rintro e w1 ⟨rfl, hb⟩; obtain ⟨hc, hf, hz⟩ := bcall hb; (try simp at hc hf hz)))
  refine bodyPost_ret (v := .tuple #[.int .i64 0, .int .i64 0, .int .i64 7]) (by simp [results, Tryd.results28, go_sem, ↓IntWalk.iteOmega, *]) rfl ⟨rfl, ?_⟩
  (repeat' (first | (with_reducible exact Below.refl _ _) | (with_reducible refine Below.setCell ?_ (by first | omega | (simp; done) | (simp; omega)) _) | (with_reducible refine Below.alloc ?_ (by first | omega | (simp; done) | (simp; omega)) _) | (with_reducible refine Below.drew ?_) | (with_reducible refine below_drewN ?_ _) | (with_reducible refine Below.trans ?_ (Below.mono (by assumption) (by first | omega | (simp; done) | (simp; omega))))))
set_option maxRecDepth 100000 in
set_option maxHeartbeats 16000000 in
theorem rCross_ok0 (at_ : Nat) (hat : at_ < W) : Calls Tryd.prog 28 #[.agg #[.int .i64 W, .int .i64 H, .slice (some ⟨b, off, none⟩) n cap], .int .i64 0, .int .i64 ((at_ : Int))] w fun e w' => e = .returned (.tuple #[.int .i64 (crF 0 W H at_ (fun q => G q 0) n), .int .i64 (crB 0 W at_ (fun q => G q 2) n), .int .i64 0]) ∧ Below w.heap.size w w' := by
  have hC : CellsIn w (some ⟨b, off, none⟩) n G := .inr ⟨b, off, rfl, lb, hG⟩
  have AX := Lib.hid (fun wx (hb : Below w.heap.size w wx) => raxial_ok W H (some ⟨b, off, none⟩) n cap G 0 wx (hC.below hb) (vg_of s hO) ⟨by omega, by omega⟩)
  have hW0 := s.w0
  have hW1 := s.w1
  have hH0 := s.h0
  have hH1 := s.h1
  have hn1 := s.n1
  have es : IntKind.i64.wrap ((W : Int) - 1) = (W : Int) - 1 := IntWalk.i64_in _ ⟨by omega, by omega⟩
  have WI := Lib.hid (fun wx => r8within_yes (at_ : Int) 0 ((W : Int) - 1) wx (by omega) (by omega))
  have HG := Lib.hid hG
  have HP := Lib.hid (fun q (hq : q < n) => (show (0 ≤ G q 0 ∧ G q 0 ≤ 1000000000) ∧ 0 ≤ G q 2 ∧ G q 2 ≤ 1000000000 from by obtain ⟨a0, a1, a2, a3, a4⟩ := hO.1 q hq; omega))
  have HS := Lib.hid s
  clear hC hO hG
  have t0 := Three.new0 w 24 (.int .i64 W) (.int .i64 H) (.slice (some ⟨b, off, none⟩) n cap)
  go_enter Tryd.func28, Tryd.ntmps28
  go_wp2_with (first | (go_at_call 80; (with_reducible refine (AX.out _ (by (repeat' (first | (with_reducible exact Below.refl _ _) | (with_reducible refine Below.setCell ?_ (by first | omega | (simp; done) | (simp; omega)) _) | (with_reducible refine Below.alloc ?_ (by first | omega | (simp; done) | (simp; omega)) _) | (with_reducible refine Below.drew ?_) | (with_reducible refine below_drewN ?_ _) | (with_reducible refine Below.trans ?_ (Below.mono (by assumption) (by first | omega | (simp; done) | (simp; omega)))))))).mono ?_); rintro e w1 ⟨rfl, hb⟩; obtain ⟨hc, hf, hz⟩ := bcall hb; (try simp at hc hf hz)) | (go_at_call 84; (with_reducible refine (WI.out _).mono ?_); rintro e w1 ⟨rfl, hb⟩; obtain ⟨hc, hf, hz⟩ := bcall hb; (try simp at hc hf hz)))
  have hbw := Lib.hid (show Below w.heap.size w w1 from by (repeat' (first | (with_reducible exact Below.refl _ _) | (with_reducible refine Below.setCell ?_ (by first | omega | (simp; done) | (simp; omega)) _) | (with_reducible refine Below.alloc ?_ (by first | omega | (simp; done) | (simp; omega)) _) | (with_reducible refine Below.drew ?_) | (with_reducible refine below_drewN ?_ _) | (with_reducible refine Below.trans ?_ (Below.mono (by assumption) (by first | omega | (simp; done) | (simp; omega)))))))
  have u0 : Three w1 w.heap.size 24 (.int .i64 W) (.int .i64 H) (.slice (some ⟨b, off, none⟩) n cap) := t0.below ((Below.refl _ _).trans (show Below (w.alloc (.cells #[.int .i64 W, .int .i64 H, .slice (some ⟨b, off, none⟩) n cap] 24)).heap.size (w.alloc (.cells #[.int .i64 W, .int .i64 H, .slice (some ⟨b, off, none⟩) n cap] 24)) w1 from by (repeat' (first | (with_reducible exact Below.refl _ _) | (with_reducible refine Below.setCell ?_ (by first | omega | (simp; done) | (simp; omega)) _) | (with_reducible refine Below.alloc ?_ (by first | omega | (simp; done) | (simp; omega)) _) | (with_reducible refine Below.drew ?_) | (with_reducible refine below_drewN ?_ _) | (with_reducible refine Below.trans ?_ (Below.mono (by assumption) (by first | omega | (simp; done) | (simp; omega)))))))) t0.lt
  obtain ⟨wa, hwa⟩ : ∃ wa, wa = w1 := ⟨_, rfl⟩
  subst hwa
  clear hb hc hf hz t0 s
  have s1 := hbw.out.size
  have l0 := u0.lt
  go_loopw [13, 14, 15, 16] (fun f g i _ wr => ∃ k : Nat, k ≤ n ∧ i = .int .i64 (k : Int) ∧ f = .int .i64 (crF 0 W H at_ (fun q => G q 0) k) ∧ g = .int .i64 (crB 0 W at_ (fun q => G q 2) k) ∧ Below wa.heap.size wa wr) (fun _ _ i _ _ => n - (Go.RowKit.intOf i).toNat)
  case atStart => exact ⟨0, Nat.zero_le _, rfl, rfl, rfl, Below.refl _ _⟩
  case round =>
    obtain ⟨k, hk, rfl, rfl, rfl, hB⟩ := hrel
    have hbf : 0 ≤ crF 0 W H at_ (fun q => G q 0) k ∧ crF 0 W H at_ (fun q => G q 0) k ≤ 1000000000 * (k : Int) := cr_bd k (fun i hi => (HP.out i (by omega)).1)
    have hbg : 0 ≤ crB 0 W at_ (fun q => G q 2) k ∧ crB 0 W at_ (fun q => G q 2) k ≤ 1000000000 * (k : Int) := cr_bd k (fun i hi => (HP.out i (by omega)).2)
    have v0 := u0.below hB l0
    have g0 := v0.c0
    have g1 := v0.c1
    have g2 := v0.c2
    have p0 : (0 : Int) ≤ (k : Int) := by omega
    by_cases hlk : k < n
    · have hpk := HP.out k hlk
      obtain ⟨z0, z1, z2, z3⟩ := HG.out.below (hbw.out.trans (hB.mono s1)) lb k hlk
      have lbr : b < wr.heap.size := Nat.lt_of_lt_of_le lb (hbw.out.trans (hB.mono s1)).size
      have HF := Lib.hid (crF_succ0 W H at_ (fun q => G q 0) k)
      have HB' := Lib.hid (crB_succ0 W at_ (fun q => G q 2) k)
      have tm1 : (k : Int) % (W : Int) = ((k % W : Nat) : Int) := (Int.natCast_emod _ _).symm
      have tm2 : Int.tmod (k : Int) (W : Int) = ((k % W : Nat) : Int) := by rw [Int.tmod_eq_emod_of_nonneg (by omega)]; exact tm1
      have tk1 : (k : Int) / (W : Int) = ((k / W : Nat) : Int) := (Int.natCast_ediv _ _).symm
      have tk2 : Int.tdiv (k : Int) (W : Int) = ((k / W : Nat) : Int) := by rw [Int.tdiv_eq_ediv_of_nonneg (by omega)]; exact tk1
      have hx2 : k % W ≤ 5000 := by have := Nat.mod_le k W; omega
      have hy2 : k / W ≤ 5000 := by have := Nat.div_le_self k W; omega
      obtain ⟨x, hx⟩ : ∃ x, k % W = x := ⟨_, rfl⟩
      obtain ⟨y, hy⟩ : ∃ y, k / W = y := ⟨_, rfl⟩
      rw [hx] at tm1 tm2 hx2
      rw [hy] at tk1 tk2 hy2
      rw [hx] at HF HB'
      have wx1 : IntKind.i64.wrap (x : Int) = (x : Int) := IntWalk.i64_in _ ⟨by omega, by omega⟩
      have wy1 : IntKind.i64.wrap (y : Int) = (y : Int) := IntWalk.i64_in _ ⟨by omega, by omega⟩
      have c1 : IntKind.i64.wrap ((x : Int) + 1) = (x : Int) + 1 := IntWalk.i64_in _ ⟨by omega, by omega⟩
      have hr2 := Nat.mod_le (x + 1) W
      obtain ⟨r, hr⟩ : ∃ r, r = (x + 1) % W := ⟨_, rfl⟩
      have e2 : Int.tmod ((x : Int) + 1) (W : Int) = (r : Int) := by rw [Int.tmod_eq_emod_of_nonneg (by omega), hr]; push_cast; rfl
      have e4 : ((x : Int) + 1) % (W : Int) = (r : Int) := by rw [hr]; push_cast; rfl
      rw [← hr] at HF hr2
      have e3 : IntKind.i64.wrap (r : Int) = (r : Int) := IntWalk.i64_in _ ⟨by omega, by omega⟩
      obtain ⟨ff, hff⟩ : ∃ t, t = crF 0 W H at_ (fun q => G q 0) k := ⟨_, rfl⟩
      obtain ⟨bb, hbb⟩ : ∃ t, t = crB 0 W at_ (fun q => G q 2) k := ⟨_, rfl⟩
      obtain ⟨da, hda⟩ : ∃ d, d = G k 0 := ⟨_, rfl⟩
      obtain ⟨db, hdb⟩ : ∃ d, d = G k 2 := ⟨_, rfl⟩
      rw [← hff] at hbf HF ⊢
      rw [← hbb] at hbg HB' ⊢
      rw [← hda] at z0 hpk HF
      rw [← hdb] at z2 hpk HB'
      have e5 : IntKind.i64.wrap (ff + da) = ff + da := IntWalk.i64_in _ ⟨by omega, by omega⟩
      have e6 : IntKind.i64.wrap (bb + db) = bb + db := IntWalk.i64_in _ ⟨by omega, by omega⟩
      have p1 : (k : Int) < (n : Int) := by omega
      have n0 : ¬ (W : Int) = 0 := by omega
      have n1 : ¬ (H : Int) = 0 := by omega
      have n2 : ¬ W = 0 := by omega
      have n3 : ¬ H = 0 := by omega
      have HBB := Lib.hid hB
      have sB := hB.size
      clear hx hy hr hff hbb hda hdb hbf hbg hpk hB v0 hx2 hy2 hr2
      by_cases h1 : r = at_
      · by_cases h2 : x = at_
        ·
          have HF2 := Lib.hid (show crF 0 W H at_ (fun q => G q 0) (k + 1) = ff + da from by rw [HF.out, if_pos h1])
          have HB2 := Lib.hid (show crB 0 W at_ (fun q => G q 2) (k + 1) = bb + db from by rw [HB'.out, if_pos h2])
          have i1 : (r : Int) = (at_ : Int) := by omega
          have i2 : True := trivial
          subst h2
          go_wp2
          go_roundw
          case rel => exact ⟨k + 1, by omega, by go_num, by rw [HF2.out], by rw [HB2.out], HBB.out⟩
          case measure => simp [Go.RowKit.intOf]; omega
        ·
          have HF2 := Lib.hid (show crF 0 W H at_ (fun q => G q 0) (k + 1) = ff + da from by rw [HF.out, if_pos h1])
          have HB2 := Lib.hid (show crB 0 W at_ (fun q => G q 2) (k + 1) = bb from by rw [HB'.out, if_neg h2, Int.add_zero])
          have i1 : (r : Int) = (at_ : Int) := by omega
          have i2 : ¬ (x : Int) = (at_ : Int) := by omega
          skip
          go_wp2
          go_roundw
          case rel => exact ⟨k + 1, by omega, by go_num, by rw [HF2.out], by rw [HB2.out], HBB.out⟩
          case measure => simp [Go.RowKit.intOf]; omega
      · by_cases h2 : x = at_
        ·
          have HF2 := Lib.hid (show crF 0 W H at_ (fun q => G q 0) (k + 1) = ff from by rw [HF.out, if_neg h1, Int.add_zero])
          have HB2 := Lib.hid (show crB 0 W at_ (fun q => G q 2) (k + 1) = bb + db from by rw [HB'.out, if_pos h2])
          have i1 : ¬ (r : Int) = (at_ : Int) := by omega
          have i2 : True := trivial
          subst h2
          go_wp2
          go_roundw
          case rel => exact ⟨k + 1, by omega, by go_num, by rw [HF2.out], by rw [HB2.out], HBB.out⟩
          case measure => simp [Go.RowKit.intOf]; omega
        ·
          have HF2 := Lib.hid (show crF 0 W H at_ (fun q => G q 0) (k + 1) = ff from by rw [HF.out, if_neg h1, Int.add_zero])
          have HB2 := Lib.hid (show crB 0 W at_ (fun q => G q 2) (k + 1) = bb from by rw [HB'.out, if_neg h2, Int.add_zero])
          have i1 : ¬ (r : Int) = (at_ : Int) := by omega
          have i2 : ¬ (x : Int) = (at_ : Int) := by omega
          skip
          go_wp2
          go_roundw
          case rel => exact ⟨k + 1, by omega, by go_num, by rw [HF2.out], by rw [HB2.out], HBB.out⟩
          case measure => simp [Go.RowKit.intOf]; omega
    · obtain rfl : k = n := by omega
      have HBB := Lib.hid (hbw.out.trans (hB.mono s1))
      clear hbf hbg
      go_wp2
      go_ret3
      exact ⟨rfl, HBB.out⟩
set_option maxRecDepth 100000 in
set_option maxHeartbeats 16000000 in
theorem rCross_at1 (at_ : Int) (hat : ¬ (0 ≤ at_ ∧ at_ < (H : Int))) : Calls Tryd.prog 28 #[.agg #[.int .i64 W, .int .i64 H, .slice (some ⟨b, off, none⟩) n cap], .int .i64 1, .int .i64 at_] w fun e w' => e = .returned (.tuple #[.int .i64 0, .int .i64 0, .int .i64 7]) ∧ Below w.heap.size w w' := by
  have hC : CellsIn w (some ⟨b, off, none⟩) n G := .inr ⟨b, off, rfl, lb, hG⟩
  have AX := Lib.hid (fun wx (hb : Below w.heap.size w wx) => raxial_ok W H (some ⟨b, off, none⟩) n cap G 1 wx (hC.below hb) (vg_of s hO) ⟨by omega, by omega⟩)
  have hW0 := s.w0
  have hW1 := s.w1
  have hH0 := s.h0
  have hH1 := s.h1
  have hn1 := s.n1
  have es : IntKind.i64.wrap ((H : Int) - 1) = (H : Int) - 1 := IntWalk.i64_in _ ⟨by omega, by omega⟩
  have WI := Lib.hid (fun wx => r8within_no at_ 0 ((H : Int) - 1) wx (by omega))
  clear hC s hO hG hat
  go_enter Tryd.func28, Tryd.ntmps28
  go_wp2_with (first | (go_at_call 80; (with_reducible refine (AX.out _ (by (repeat' (first | (with_reducible exact Below.refl _ _) | (with_reducible refine Below.setCell ?_ (by first | omega | (simp; done) | (simp; omega)) _) | (with_reducible refine Below.alloc ?_ (by first | omega | (simp; done) | (simp; omega)) _) | (with_reducible refine Below.drew ?_) | (with_reducible refine below_drewN ?_ _) | (with_reducible refine Below.trans ?_ (Below.mono (by assumption) (by first | omega | (simp; done) | (simp; omega)))))))).mono ?_); rintro e w1 ⟨rfl, hb⟩; obtain ⟨hc, hf, hz⟩ := bcall hb; (try simp at hc hf hz)) | (go_at_call 84; (with_reducible refine (WI.out _).mono ?_); rintro e w1 ⟨rfl, hb⟩; obtain ⟨hc, hf, hz⟩ := bcall hb; (try simp at hc hf hz)))
  refine bodyPost_ret (v := .tuple #[.int .i64 0, .int .i64 0, .int .i64 7]) (by simp [results, Tryd.results28, go_sem, ↓IntWalk.iteOmega, *]) rfl ⟨rfl, ?_⟩
  (repeat' (first | (with_reducible exact Below.refl _ _) | (with_reducible refine Below.setCell ?_ (by first | omega | (simp; done) | (simp; omega)) _) | (with_reducible refine Below.alloc ?_ (by first | omega | (simp; done) | (simp; omega)) _) | (with_reducible refine Below.drew ?_) | (with_reducible refine below_drewN ?_ _) | (with_reducible refine Below.trans ?_ (Below.mono (by assumption) (by first | omega | (simp; done) | (simp; omega))))))
set_option maxRecDepth 100000 in
set_option maxHeartbeats 16000000 in
theorem rCross_ok1 (at_ : Nat) (hat : at_ < H) : Calls Tryd.prog 28 #[.agg #[.int .i64 W, .int .i64 H, .slice (some ⟨b, off, none⟩) n cap], .int .i64 1, .int .i64 ((at_ : Int))] w fun e w' => e = .returned (.tuple #[.int .i64 (crF 1 W H at_ (fun q => G q 1) n), .int .i64 (crB 1 W at_ (fun q => G q 3) n), .int .i64 0]) ∧ Below w.heap.size w w' := by
  have hC : CellsIn w (some ⟨b, off, none⟩) n G := .inr ⟨b, off, rfl, lb, hG⟩
  have AX := Lib.hid (fun wx (hb : Below w.heap.size w wx) => raxial_ok W H (some ⟨b, off, none⟩) n cap G 1 wx (hC.below hb) (vg_of s hO) ⟨by omega, by omega⟩)
  have hW0 := s.w0
  have hW1 := s.w1
  have hH0 := s.h0
  have hH1 := s.h1
  have hn1 := s.n1
  have es : IntKind.i64.wrap ((H : Int) - 1) = (H : Int) - 1 := IntWalk.i64_in _ ⟨by omega, by omega⟩
  have WI := Lib.hid (fun wx => r8within_yes (at_ : Int) 0 ((H : Int) - 1) wx (by omega) (by omega))
  have HG := Lib.hid hG
  have HP := Lib.hid (fun q (hq : q < n) => (show (0 ≤ G q 1 ∧ G q 1 ≤ 1000000000) ∧ 0 ≤ G q 3 ∧ G q 3 ≤ 1000000000 from by obtain ⟨a0, a1, a2, a3, a4⟩ := hO.1 q hq; omega))
  have HS := Lib.hid s
  clear hC hO hG
  have t0 := Three.new0 w 24 (.int .i64 W) (.int .i64 H) (.slice (some ⟨b, off, none⟩) n cap)
  go_enter Tryd.func28, Tryd.ntmps28
  go_wp2_with (first | (go_at_call 80; (with_reducible refine (AX.out _ (by (repeat' (first | (with_reducible exact Below.refl _ _) | (with_reducible refine Below.setCell ?_ (by first | omega | (simp; done) | (simp; omega)) _) | (with_reducible refine Below.alloc ?_ (by first | omega | (simp; done) | (simp; omega)) _) | (with_reducible refine Below.drew ?_) | (with_reducible refine below_drewN ?_ _) | (with_reducible refine Below.trans ?_ (Below.mono (by assumption) (by first | omega | (simp; done) | (simp; omega)))))))).mono ?_); rintro e w1 ⟨rfl, hb⟩; obtain ⟨hc, hf, hz⟩ := bcall hb; (try simp at hc hf hz)) | (go_at_call 84; (with_reducible refine (WI.out _).mono ?_); rintro e w1 ⟨rfl, hb⟩; obtain ⟨hc, hf, hz⟩ := bcall hb; (try simp at hc hf hz)))
  have hbw := Lib.hid (show Below w.heap.size w w1 from by (repeat' (first | (with_reducible exact Below.refl _ _) | (with_reducible refine Below.setCell ?_ (by first | omega | (simp; done) | (simp; omega)) _) | (with_reducible refine Below.alloc ?_ (by first | omega | (simp; done) | (simp; omega)) _) | (with_reducible refine Below.drew ?_) | (with_reducible refine below_drewN ?_ _) | (with_reducible refine Below.trans ?_ (Below.mono (by assumption) (by first | omega | (simp; done) | (simp; omega)))))))
  have u0 : Three w1 w.heap.size 24 (.int .i64 W) (.int .i64 H) (.slice (some ⟨b, off, none⟩) n cap) := t0.below ((Below.refl _ _).trans (show Below (w.alloc (.cells #[.int .i64 W, .int .i64 H, .slice (some ⟨b, off, none⟩) n cap] 24)).heap.size (w.alloc (.cells #[.int .i64 W, .int .i64 H, .slice (some ⟨b, off, none⟩) n cap] 24)) w1 from by (repeat' (first | (with_reducible exact Below.refl _ _) | (with_reducible refine Below.setCell ?_ (by first | omega | (simp; done) | (simp; omega)) _) | (with_reducible refine Below.alloc ?_ (by first | omega | (simp; done) | (simp; omega)) _) | (with_reducible refine Below.drew ?_) | (with_reducible refine below_drewN ?_ _) | (with_reducible refine Below.trans ?_ (Below.mono (by assumption) (by first | omega | (simp; done) | (simp; omega)))))))) t0.lt
  obtain ⟨wa, hwa⟩ : ∃ wa, wa = w1 := ⟨_, rfl⟩
  subst hwa
  clear hb hc hf hz t0 s
  have s1 := hbw.out.size
  have l0 := u0.lt
  go_loopw [13, 14, 15, 16] (fun f g i _ wr => ∃ k : Nat, k ≤ n ∧ i = .int .i64 (k : Int) ∧ f = .int .i64 (crF 1 W H at_ (fun q => G q 1) k) ∧ g = .int .i64 (crB 1 W at_ (fun q => G q 3) k) ∧ Below wa.heap.size wa wr) (fun _ _ i _ _ => n - (Go.RowKit.intOf i).toNat)
  case atStart => exact ⟨0, Nat.zero_le _, rfl, rfl, rfl, Below.refl _ _⟩
  case round =>
    obtain ⟨k, hk, rfl, rfl, rfl, hB⟩ := hrel
    have hbf : 0 ≤ crF 1 W H at_ (fun q => G q 1) k ∧ crF 1 W H at_ (fun q => G q 1) k ≤ 1000000000 * (k : Int) := cr_bd k (fun i hi => (HP.out i (by omega)).1)
    have hbg : 0 ≤ crB 1 W at_ (fun q => G q 3) k ∧ crB 1 W at_ (fun q => G q 3) k ≤ 1000000000 * (k : Int) := cr_bd k (fun i hi => (HP.out i (by omega)).2)
    have v0 := u0.below hB l0
    have g0 := v0.c0
    have g1 := v0.c1
    have g2 := v0.c2
    have p0 : (0 : Int) ≤ (k : Int) := by omega
    by_cases hlk : k < n
    · have hpk := HP.out k hlk
      obtain ⟨z0, z1, z2, z3⟩ := HG.out.below (hbw.out.trans (hB.mono s1)) lb k hlk
      have lbr : b < wr.heap.size := Nat.lt_of_lt_of_le lb (hbw.out.trans (hB.mono s1)).size
      have HF := Lib.hid (crF_succ1 W H at_ (fun q => G q 1) k)
      have HB' := Lib.hid (crB_succ1 W at_ (fun q => G q 3) k)
      have tm1 : (k : Int) % (W : Int) = ((k % W : Nat) : Int) := (Int.natCast_emod _ _).symm
      have tm2 : Int.tmod (k : Int) (W : Int) = ((k % W : Nat) : Int) := by rw [Int.tmod_eq_emod_of_nonneg (by omega)]; exact tm1
      have tk1 : (k : Int) / (W : Int) = ((k / W : Nat) : Int) := (Int.natCast_ediv _ _).symm
      have tk2 : Int.tdiv (k : Int) (W : Int) = ((k / W : Nat) : Int) := by rw [Int.tdiv_eq_ediv_of_nonneg (by omega)]; exact tk1
      have hx2 : k % W ≤ 5000 := by have := Nat.mod_le k W; omega
      have hy2 : k / W ≤ 5000 := by have := Nat.div_le_self k W; omega
      obtain ⟨x, hx⟩ : ∃ x, k % W = x := ⟨_, rfl⟩
      obtain ⟨y, hy⟩ : ∃ y, k / W = y := ⟨_, rfl⟩
      rw [hx] at tm1 tm2 hx2
      rw [hy] at tk1 tk2 hy2
      rw [hy] at HF HB'
      have wx1 : IntKind.i64.wrap (x : Int) = (x : Int) := IntWalk.i64_in _ ⟨by omega, by omega⟩
      have wy1 : IntKind.i64.wrap (y : Int) = (y : Int) := IntWalk.i64_in _ ⟨by omega, by omega⟩
      have c1 : IntKind.i64.wrap ((y : Int) + 1) = (y : Int) + 1 := IntWalk.i64_in _ ⟨by omega, by omega⟩
      have hr2 := Nat.mod_le (y + 1) H
      obtain ⟨r, hr⟩ : ∃ r, r = (y + 1) % H := ⟨_, rfl⟩
      have e2 : Int.tmod ((y : Int) + 1) (H : Int) = (r : Int) := by rw [Int.tmod_eq_emod_of_nonneg (by omega), hr]; push_cast; rfl
      have e4 : ((y : Int) + 1) % (H : Int) = (r : Int) := by rw [hr]; push_cast; rfl
      rw [← hr] at HF hr2
      have e3 : IntKind.i64.wrap (r : Int) = (r : Int) := IntWalk.i64_in _ ⟨by omega, by omega⟩
      obtain ⟨ff, hff⟩ : ∃ t, t = crF 1 W H at_ (fun q => G q 1) k := ⟨_, rfl⟩
      obtain ⟨bb, hbb⟩ : ∃ t, t = crB 1 W at_ (fun q => G q 3) k := ⟨_, rfl⟩
      obtain ⟨da, hda⟩ : ∃ d, d = G k 1 := ⟨_, rfl⟩
      obtain ⟨db, hdb⟩ : ∃ d, d = G k 3 := ⟨_, rfl⟩
      rw [← hff] at hbf HF ⊢
      rw [← hbb] at hbg HB' ⊢
      rw [← hda] at z1 hpk HF
      rw [← hdb] at z3 hpk HB'
      have e5 : IntKind.i64.wrap (ff + da) = ff + da := IntWalk.i64_in _ ⟨by omega, by omega⟩
      have e6 : IntKind.i64.wrap (bb + db) = bb + db := IntWalk.i64_in _ ⟨by omega, by omega⟩
      have p1 : (k : Int) < (n : Int) := by omega
      have n0 : ¬ (W : Int) = 0 := by omega
      have n1 : ¬ (H : Int) = 0 := by omega
      have n2 : ¬ W = 0 := by omega
      have n3 : ¬ H = 0 := by omega
      have HBB := Lib.hid hB
      have sB := hB.size
      clear hx hy hr hff hbb hda hdb hbf hbg hpk hB v0 hx2 hy2 hr2
      by_cases h1 : r = at_
      · by_cases h2 : y = at_
        ·
          have HF2 := Lib.hid (show crF 1 W H at_ (fun q => G q 1) (k + 1) = ff + da from by rw [HF.out, if_pos h1])
          have HB2 := Lib.hid (show crB 1 W at_ (fun q => G q 3) (k + 1) = bb + db from by rw [HB'.out, if_pos h2])
          have i1 : (r : Int) = (at_ : Int) := by omega
          have i2 : True := trivial
          subst h2
          go_wp2
          go_roundw
          case rel => exact ⟨k + 1, by omega, by go_num, by rw [HF2.out], by rw [HB2.out], HBB.out⟩
          case measure => simp [Go.RowKit.intOf]; omega
        ·
          have HF2 := Lib.hid (show crF 1 W H at_ (fun q => G q 1) (k + 1) = ff + da from by rw [HF.out, if_pos h1])
          have HB2 := Lib.hid (show crB 1 W at_ (fun q => G q 3) (k + 1) = bb from by rw [HB'.out, if_neg h2, Int.add_zero])
          have i1 : (r : Int) = (at_ : Int) := by omega
          have i2 : ¬ (y : Int) = (at_ : Int) := by omega
          skip
          go_wp2
          go_roundw
          case rel => exact ⟨k + 1, by omega, by go_num, by rw [HF2.out], by rw [HB2.out], HBB.out⟩
          case measure => simp [Go.RowKit.intOf]; omega
      · by_cases h2 : y = at_
        ·
          have HF2 := Lib.hid (show crF 1 W H at_ (fun q => G q 1) (k + 1) = ff from by rw [HF.out, if_neg h1, Int.add_zero])
          have HB2 := Lib.hid (show crB 1 W at_ (fun q => G q 3) (k + 1) = bb + db from by rw [HB'.out, if_pos h2])
          have i1 : ¬ (r : Int) = (at_ : Int) := by omega
          have i2 : True := trivial
          subst h2
          go_wp2
          go_roundw
          case rel => exact ⟨k + 1, by omega, by go_num, by rw [HF2.out], by rw [HB2.out], HBB.out⟩
          case measure => simp [Go.RowKit.intOf]; omega
        ·
          have HF2 := Lib.hid (show crF 1 W H at_ (fun q => G q 1) (k + 1) = ff from by rw [HF.out, if_neg h1, Int.add_zero])
          have HB2 := Lib.hid (show crB 1 W at_ (fun q => G q 3) (k + 1) = bb from by rw [HB'.out, if_neg h2, Int.add_zero])
          have i1 : ¬ (r : Int) = (at_ : Int) := by omega
          have i2 : ¬ (y : Int) = (at_ : Int) := by omega
          skip
          go_wp2
          go_roundw
          case rel => exact ⟨k + 1, by omega, by go_num, by rw [HF2.out], by rw [HB2.out], HBB.out⟩
          case measure => simp [Go.RowKit.intOf]; omega
    · obtain rfl : k = n := by omega
      have HBB := Lib.hid (hbw.out.trans (hB.mono s1))
      clear hbf hbg
      go_wp2
      go_ret3
      exact ⟨rfl, HBB.out⟩
set_option maxRecDepth 100000 in
set_option maxHeartbeats 16000000 in
theorem rPar_ok : Calls Tryd.prog 32 #[.agg #[.int .i64 W, .int .i64 H, .slice (some ⟨b, off, none⟩) n cap]] w fun e w' => e = .returned (.tuple #[.int .i64 (evS W (msC G) n), .int .i64 (odS W (msC G) n), .int .i64 0]) ∧ Below w.heap.size w w' := by
  have hC : CellsIn w (some ⟨b, off, none⟩) n G := .inr ⟨b, off, rfl, lb, hG⟩
  have VA := Lib.hid (fun wx (hb : Below w.heap.size w wx) => rValid_ok W H (some ⟨b, off, none⟩) n cap G wx (vg_of s hO) (hC.below hb))
  have HM := Lib.hid (fun q (hq : q < n) => (show 0 ≤ msC G q ∧ msC G q ≤ 1000000000 from by obtain ⟨a0, a1, a2, a3, a4⟩ := hO.1 q hq; exact ⟨by show 0 ≤ G q 0 + G q 1 + G q 2 + G q 3; omega, a4⟩))
  have HO := Lib.hid hO
  have HG := Lib.hid hG
  have hW0 := s.w0
  have hW1 := s.w1
  have hn1 := s.n1
  clear hC hO hG s
  have t0 := Three.new0 w 24 (.int .i64 W) (.int .i64 H) (.slice (some ⟨b, off, none⟩) n cap)
  go_enter Tryd.func32, Tryd.ntmps32
  go_wp2_with (go_at_call 87; (with_reducible refine (VA.out _ (by (repeat' (first | (with_reducible exact Below.refl _ _) | (with_reducible refine Below.setCell ?_ (by first | omega | (simp; done) | (simp; omega)) _) | (with_reducible refine Below.alloc ?_ (by first | omega | (simp; done) | (simp; omega)) _) | (with_reducible refine Below.drew ?_) | (with_reducible refine below_drewN ?_ _) | (with_reducible refine Below.trans ?_ (Below.mono (by assumption) (by first | omega | (simp; done) | (simp; omega)))))))).mono ?_); rintro e w1 ⟨rfl, hb⟩; obtain ⟨hc, hf, hz⟩ := bcall hb; (try simp at hc hf hz))
  have u0 : Three w1 w.heap.size 24 (.int .i64 W) (.int .i64 H) (.slice (some ⟨b, off, none⟩) n cap) := t0.below hb t0.lt
  have hbw : Below w.heap.size w w1 := by (repeat' (first | (with_reducible exact Below.refl _ _) | (with_reducible refine Below.setCell ?_ (by first | omega | (simp; done) | (simp; omega)) _) | (with_reducible refine Below.alloc ?_ (by first | omega | (simp; done) | (simp; omega)) _) | (with_reducible refine Below.drew ?_) | (with_reducible refine below_drewN ?_ _) | (with_reducible refine Below.trans ?_ (Below.mono (by assumption) (by first | omega | (simp; done) | (simp; omega))))))
  obtain ⟨wa, hwa⟩ : ∃ wa, wa = w1 := ⟨_, rfl⟩
  subst hwa
  clear hb hc hf hz t0
  have s1 := hbw.size
  have l0 := u0.lt
  go_loopw [5, 6, 7] (fun e o i wr => ∃ k : Nat, k ≤ n ∧ i = .int .i64 (k : Int) ∧ e = .int .i64 (evS W (msC G) k) ∧ o = .int .i64 (odS W (msC G) k) ∧ Below wa.heap.size wa wr) (fun _ _ i _ => n - (Go.RowKit.intOf i).toNat)
  case atStart => exact ⟨0, Nat.zero_le _, rfl, rfl, rfl, Below.refl _ _⟩
  case round =>
    obtain ⟨k, hk, rfl, rfl, rfl, hB⟩ := hrel
    have hbd := evS_bd (W := W) (f := msC G) k (fun i hi => HM.out i (by omega))
    have v0 := u0.below hB l0
    have g0 := v0.c0
    have g1 := v0.c1
    have g2 := v0.c2
    have p0 : (0 : Int) ≤ (k : Int) := by omega
    by_cases hlk : k < n
    · have hmk := HM.out k hlk
      obtain ⟨z0, z1, z2, z3⟩ := HG.out.below (hbw.trans (hB.mono s1)) lb k hlk
      have lr := v0.lt
      have lbr : b < wr.heap.size := Nat.lt_of_lt_of_le lb (hbw.trans (hB.mono s1)).size
      have MO := Lib.hid (fun wx => cellMass8 (G k 0) (G k 1) (G k 2) (G k 3) wx (HO.out.1 k hlk))
      have HD := Lib.hid (evS_succ W (msC G) k)
      have HD' := Lib.hid (odS_succ W (msC G) k)
      have he2 : evn W k = decide ((k % W + k / W) % 2 = 0) := rfl
      have tm1 : (k : Int) % (W : Int) = ((k % W : Nat) : Int) := (Int.natCast_emod _ _).symm
      have tm2 : Int.tmod (k : Int) (W : Int) = ((k % W : Nat) : Int) := by rw [Int.tmod_eq_emod_of_nonneg (by omega)]; exact tm1
      have tk1 : (k : Int) / (W : Int) = ((k / W : Nat) : Int) := (Int.natCast_ediv _ _).symm
      have tk2 : Int.tdiv (k : Int) (W : Int) = ((k / W : Nat) : Int) := by rw [Int.tdiv_eq_ediv_of_nonneg (by omega)]; exact tk1
      have hx2 : k % W ≤ 5000 := by have := Nat.mod_le k W; omega
      have hy2 : k / W ≤ 5000 := by have := Nat.div_le_self k W; omega
      obtain ⟨x, hx⟩ : ∃ x, k % W = x := ⟨_, rfl⟩
      obtain ⟨y, hy⟩ : ∃ y, k / W = y := ⟨_, rfl⟩
      rw [hx] at tm1 tm2 hx2 he2
      rw [hy] at tk1 tk2 hy2 he2
      have wx1 : IntKind.i64.wrap (x : Int) = (x : Int) := IntWalk.i64_in _ ⟨by omega, by omega⟩
      have wy1 : IntKind.i64.wrap (y : Int) = (y : Int) := IntWalk.i64_in _ ⟨by omega, by omega⟩
      have e1 : IntKind.i64.wrap ((x : Int) + (y : Int)) = (x : Int) + (y : Int) := IntWalk.i64_in _ ⟨by omega, by omega⟩
      obtain ⟨r, hr⟩ : ∃ r, r = (x + y) % 2 := ⟨_, rfl⟩
      have e2 : Int.tmod ((x : Int) + (y : Int)) 2 = (r : Int) := by rw [Int.tmod_eq_emod_of_nonneg (by omega), hr]; push_cast; rfl
      have e3 : IntKind.i64.wrap (r : Int) = (r : Int) := IntWalk.i64_in _ ⟨by omega, by omega⟩
      have e4 : ((x : Int) + (y : Int)) % 2 = (r : Int) := by rw [hr]; push_cast; rfl
      rw [← hr] at he2
      obtain ⟨m, hm⟩ : ∃ m, m = msC G k := ⟨_, rfl⟩
      have hm2 : m = G k 0 + G k 1 + G k 2 + G k 3 := hm
      rw [← hm2] at MO
      rw [← hm] at HD HD' hmk
      obtain ⟨ev, hev⟩ : ∃ t, t = evS W (msC G) k := ⟨_, rfl⟩
      obtain ⟨od, hod⟩ : ∃ t, t = odS W (msC G) k := ⟨_, rfl⟩
      rw [← hev, ← hod] at hbd ⊢
      rw [← hev] at HD
      rw [← hod] at HD'
      obtain ⟨d0, hd0⟩ : ∃ d, d = G k 0 := ⟨_, rfl⟩
      obtain ⟨d1, hd1⟩ : ∃ d, d = G k 1 := ⟨_, rfl⟩
      obtain ⟨d2, hd2⟩ : ∃ d, d = G k 2 := ⟨_, rfl⟩
      obtain ⟨d3, hd3⟩ : ∃ d, d = G k 3 := ⟨_, rfl⟩
      rw [← hd0, ← hd1, ← hd2, ← hd3] at MO
      rw [← hd0] at z0
      rw [← hd1] at z1
      rw [← hd2] at z2
      rw [← hd3] at z3
      have e5 : IntKind.i64.wrap (ev + m) = ev + m := IntWalk.i64_in _ ⟨by omega, by omega⟩
      have e7 : IntKind.i64.wrap (od + m) = od + m := IntWalk.i64_in _ ⟨by omega, by omega⟩
      have p1 : (k : Int) < (n : Int) := by omega
      have n0 : ¬ (W : Int) = 0 := by omega
      have n2 : ¬ W = 0 := by omega
      have HB := Lib.hid hB
      have sB := hB.size
      clear hx hy hm hm2 hev hod hd0 hd1 hd2 hd3 hbd hmk hB v0 hx2 hy2
      by_cases hr0 : r = 0
      · have HE2 := Lib.hid (show evS W (msC G) (k + 1) = ev + m from by rw [HD.out, he2, decide_eq_true hr0]; simp)
        have HO2 := Lib.hid (show odS W (msC G) (k + 1) = od from by rw [HD'.out, he2, decide_eq_true hr0]; simp)
        have e6 : (r : Int) = 0 := by omega
        clear he2 hr
        go_wp2
        go_quiet (fail)
        go_wp2_with (go_at_call 39; (with_reducible refine (MO.out _).mono ?_); rintro e w1 ⟨rfl, hb⟩; obtain ⟨hc, hf, hz⟩ := bcall hb; (try simp at hc hf hz))
        go_roundw
        case rel => exact ⟨k + 1, by omega, by go_num, by rw [HE2.out], by rw [HO2.out], by have := HB.out; (repeat' (first | (with_reducible exact Below.refl _ _) | (with_reducible refine Below.setCell ?_ (by first | omega | (simp; done) | (simp; omega)) _) | (with_reducible refine Below.alloc ?_ (by first | omega | (simp; done) | (simp; omega)) _) | (with_reducible refine Below.drew ?_) | (with_reducible refine below_drewN ?_ _) | (with_reducible refine Below.trans ?_ (Below.mono (by assumption) (by first | omega | (simp; done) | (simp; omega))))))⟩
        case measure => simp [Go.RowKit.intOf]; omega
      · have HE2 := Lib.hid (show evS W (msC G) (k + 1) = ev from by rw [HD.out, he2, decide_eq_false hr0]; simp)
        have HO2 := Lib.hid (show odS W (msC G) (k + 1) = od + m from by rw [HD'.out, he2, decide_eq_false hr0]; simp)
        have e6 : ¬ (r : Int) = 0 := by omega
        clear he2 hr
        go_wp2
        go_quiet (fail)
        go_wp2_with (go_at_call 39; (with_reducible refine (MO.out _).mono ?_); rintro e w1 ⟨rfl, hb⟩; obtain ⟨hc, hf, hz⟩ := bcall hb; (try simp at hc hf hz))
        go_roundw
        case rel => exact ⟨k + 1, by omega, by go_num, by rw [HE2.out], by rw [HO2.out], by have := HB.out; (repeat' (first | (with_reducible exact Below.refl _ _) | (with_reducible refine Below.setCell ?_ (by first | omega | (simp; done) | (simp; omega)) _) | (with_reducible refine Below.alloc ?_ (by first | omega | (simp; done) | (simp; omega)) _) | (with_reducible refine Below.drew ?_) | (with_reducible refine below_drewN ?_ _) | (with_reducible refine Below.trans ?_ (Below.mono (by assumption) (by first | omega | (simp; done) | (simp; omega))))))⟩
        case measure => simp [Go.RowKit.intOf]; omega
    · obtain rfl : k = n := by omega
      have HBB := Lib.hid (hbw.trans (hB.mono s1))
      clear hbd
      go_wp2
      go_ret3
      exact ⟨rfl, HBB.out⟩
set_option maxRecDepth 100000 in
set_option maxHeartbeats 16000000 in
theorem rRows_ok : Calls Tryd.prog 30 #[.agg #[.int .i64 W, .int .i64 H, .slice (some ⟨b, off, none⟩) n cap]] w fun e w' => ∃ v, e = .returned (.tuple #[v, .int .i64 0]) ∧ w'.ownsRow w.heap.size 3 1 v H (iV (fnL (lnS 1 W H (eaC G)) H)) ∧ Below w.heap.size w w' := by
  obtain ⟨i0, hif, hz0, hz1, hz2⟩ := info_parts info_intF
  have hC : CellsIn w (some ⟨b, off, none⟩) n G := .inr ⟨b, off, rfl, lb, hG⟩
  have VA := Lib.hid (fun wx (hb : Below w.heap.size w wx) => rValid_ok W H (some ⟨b, off, none⟩) n cap G wx (vg_of s hO) (hC.below hb))
  have hW0 := s.w0
  have hW1 := s.w1
  have hH1 := s.h1
  have CC := Lib.hid (fun wx (hb : Below w.heap.size w wx) (y : Nat) (hy : y < H) => (show Calls Tryd.prog 64 #[.agg #[.int .i64 W, .int .i64 H, .slice (some ⟨b, off, none⟩) n cap], .agg #[.int .i64 0, .int .i64 ((y : Int))], .agg #[.int .i64 ((W : Int) - 1), .int .i64 ((y : Int))]] wx fun e w' => ∃ v, e = .returned v ∧ RowC w' v G (recN W 0 (W - 1 + 1 - 0) y (y + 1 - y)) ∧ Below wx.heap.size wx w' from by
    have := rcells_bl W H n cap b off 0 y (W - 1) y G w s lb hG (by omega) (by omega) (Nat.le_refl _) hy wx hb
    rw [show ((W - 1 : Nat) : Int) = (W : Int) - 1 by omega] at this
    exact this))
  have CU := Lib.hid (fun wx v (y : Nat) (hy : y < H) (hv : RowC wx v G (recN W 0 (W - 1 + 1 - 0) y (y + 1 - y))) => (show Calls Tryd.prog 68 #[v] wx fun e w' => (∃ p q, e = .returned (.tuple #[.int .i64 p, .int .i64 (lnS 1 W H (eaC G) y), .int .i64 q])) ∧ Below wx.heap.size wx w' from by
    refine (rsums_bl W H n 0 y (W - 1) y G s hO (by omega) (by omega) (Nat.le_refl _) hy wx v hv).mono ?_
    rintro e w' ⟨rfl, hb⟩
    have el : blS (eaC G) W 0 y (W - 1) y = lnS 1 W H (eaC G) y := by
      unfold blS
      rw [show W - 1 + 1 - 0 = W by omega, show y + 1 - y = 1 by omega, recN_one, sumT_row]
      unfold lnS
      rw [if_neg (by omega)]
    rw [el]
    exact ⟨⟨_, _, rfl⟩, hb⟩))
  obtain ⟨S, hS⟩ : ∃ S, S = lnS 1 W H (eaC G) := ⟨_, rfl⟩
  rw [← hS] at CU ⊢
  have es : IntKind.i64.wrap ((W : Int) - 1) = (W : Int) - 1 := IntWalk.i64_in _ ⟨by omega, by omega⟩
  clear hC hO hG s hS
  have t0 := Three.new0 w 24 (.int .i64 W) (.int .i64 H) (.slice (some ⟨b, off, none⟩) n cap)
  go_enter Tryd.func30, Tryd.ntmps30
  go_wp2_with (go_at_call 87; (with_reducible refine (VA.out _ (by (repeat' (first | (with_reducible exact Below.refl _ _) | (with_reducible refine Below.setCell ?_ (by first | omega | (simp; done) | (simp; omega)) _) | (with_reducible refine Below.alloc ?_ (by first | omega | (simp; done) | (simp; omega)) _) | (with_reducible refine Below.drew ?_) | (with_reducible refine below_drewN ?_ _) | (with_reducible refine Below.trans ?_ (Below.mono (by assumption) (by first | omega | (simp; done) | (simp; omega)))))))).mono ?_); rintro e w1 ⟨rfl, hb⟩; obtain ⟨hc, hf, hz⟩ := bcall hb; (try simp at hc hf hz))
  have u0 : Three w1 w.heap.size 24 (.int .i64 W) (.int .i64 H) (.slice (some ⟨b, off, none⟩) n cap) := t0.below hb t0.lt
  have hbw : Below w.heap.size w w1 := by (repeat' (first | (with_reducible exact Below.refl _ _) | (with_reducible refine Below.setCell ?_ (by first | omega | (simp; done) | (simp; omega)) _) | (with_reducible refine Below.alloc ?_ (by first | omega | (simp; done) | (simp; omega)) _) | (with_reducible refine Below.drew ?_) | (with_reducible refine below_drewN ?_ _) | (with_reducible refine Below.trans ?_ (Below.mono (by assumption) (by first | omega | (simp; done) | (simp; omega))))))
  obtain ⟨wa, hwa⟩ : ∃ wa, wa = w1 := ⟨_, rfl⟩
  subst hwa
  clear hb hc hf hz t0
  have sw := hbw.size
  have l0 := u0.lt
  go_loopw [4, 5, 6, 7, 8] (fun o y _ _ _ wr => ∃ k : Nat, k ≤ H ∧ y = .int .i64 (k : Int) ∧ Hid (wr.ownsRow wa.heap.size 3 1 o (fnL S k).length (iV (fnL S k)) ∧ Below wa.heap.size wa wr)) (fun _ y _ _ _ _ => H - (Go.RowKit.intOf y).toNat)
  case atStart => exact ⟨0, Nat.zero_le _, rfl, Lib.hid ⟨World.ownsRow_nil _ _ _ _, Below.refl _ _⟩⟩
  case round =>
    obtain ⟨k, hk, rfl, HH⟩ := hrel
    have hBr := HH.out.2
    have v0 := u0.below hBr l0
    have g0 := v0.c0
    have g1 := v0.c1
    have g2 := v0.c2
    by_cases hlk : k < H
    · have p1 : (k : Int) < (H : Int) := by omega
      have HD := Lib.hid (show fnL S (k + 1) = fnL S k ++ [S k] from rfl)
      have hlen := fnL_len S k
      have CP := Lib.hid (fun wx (hb : Below w.heap.size w wx) => CC.out wx hb k hlk)
      have SP := Lib.hid (fun wx v hv => CU.out wx v k hlk hv)
      obtain ⟨z, hz⟩ : ∃ z, z = S k := ⟨_, rfl⟩
      rw [← hz] at SP HD
      obtain ⟨L, hL⟩ : ∃ L, L = fnL S k := ⟨_, rfl⟩
      rw [← hL] at HD hlen HH
      have HLN := Lib.hid (show L.length ≤ 5000 by omega)
      have hbr := hbw.trans (hBr.mono sw)
      have BR := Lib.hid hBr
      clear hz hL hlen hBr v0
      go_wp2_with fail
      (go_at_call 64; (refine (CP.out _ hbr).mono ?_); rintro e we ⟨v, rfl, hv, hbe⟩)
      have HV := Lib.hid hv
      have HBE := Lib.hid hbe
      clear hv hbe
      go_wp2_with fail
      (go_at_call 68; (refine (SP.out _ _ HV.out).mono ?_); rintro e wd ⟨⟨sa1, sa2, rfl⟩, hbd⟩)
      have hrd := HBE.out.trans (hbd.mono HBE.out.size)
      have szd := hrd.size
      have szr := BR.out.size
      have hln := HLN.out
      clear hbd g0 g1 g2
      go_wp2_with (at_builtin; refine wpList_append_own _ rfl _ _ 40 rfl wa.heap.size 3 i0 (.int .i64 0) 1 8 Tryd.underlying40 hif hz0 hz1 hz2 rfl (by omega) _ _ _ rfl (owns_below HH.out.1 (by (repeat' (first | (with_reducible exact Below.refl _ _) | (with_reducible refine Below.setCell ?_ (by first | omega | (simp; done) | (simp; omega)) _) | (with_reducible refine Below.alloc ?_ (by first | omega | (simp; done) | (simp; omega)) _) | (with_reducible refine Below.drew ?_) | (with_reducible refine below_drewN ?_ _) | (with_reducible refine Below.trans ?_ (Below.mono (by assumption) (by first | omega | (simp; done) | (simp; omega)))))))) _ 1 1 [.int .i64 z] rfl rfl (by intro j u hu; match j with | 0 => (simp at hu; subst hu; simp only [Addr.add, Nat.zero_add]; exact (World.cell?_alloc_at _ _ _ _ (by simp)).trans rfl) | _ + 1 => simp at hu) (by intro u hu; simp at hu; subst hu; rfl) (by unfold maxLen; omega) (by omega) (by simp; omega) ?_; intro v' w6 hown hgrow _)
      have HN := Lib.hid (ints_appF (w0 := wa) HH.out (by (repeat' (first | (with_reducible exact Below.refl _ _) | (with_reducible refine Below.setCell ?_ (by first | omega | (simp; done) | (simp; omega)) _) | (with_reducible refine Below.alloc ?_ (by first | omega | (simp; done) | (simp; omega)) _) | (with_reducible refine Below.drew ?_) | (with_reducible refine below_drewN ?_ _) | (with_reducible refine Below.trans ?_ (Below.mono (by assumption) (by first | omega | (simp; done) | (simp; omega))))))) hown hgrow)
      clear hown hgrow
      go_roundw
      case rel => exact ⟨k + 1, by omega, by go_num, Lib.hid (by rw [HD.out]; exact HN.out)⟩
      case measure => simp [Go.RowKit.intOf]; omega
    · obtain rfl : k = H := by omega
      have HR := ownsRow_base_a HH.out.1 sw
      rw [fnL_len] at HR
      have HR := Lib.hid HR
      have HBR := Lib.hid (hbw.trans (hBr.mono sw))
      clear v0
      go_wp2
      go_ret2
      exact ⟨_, rfl, HR.out, HBR.out⟩
end
end Go.Proofs.YtmdeooflgkjbbaaDoor
