/- The lines of a grid: by the program of the fields. -/
import Derived.Test.YtmdeooflgkjbbaaDoorKFColB
import Derived.Test.YtmdeooflgkjbbaaDoorKFTell
import Derived.Test.YtmdeooflgkjbbaaDoorKFJoin
import Derived.Test.YtmdeooflgkjbbaaDoorKOwnC
import Derived.Laws.AppendOwn
namespace Go.Proofs.YtmdeooflgkjbbaaDoor
set_option linter.unusedSimpArgs false
set_option linter.unusedVariables false
open Go.RowKit Go.Maps Go.Shelf Go.Sort

set_option maxRecDepth 100000 in
set_option maxHeartbeats 4000000 in
theorem flines_0 (W H n cap : Nat) (ao : Option Addr) (G : Nat → Nat → Int) (w : World) (hv : VG W H n G) (hG : CellsIn w ao n G) (hW : W ≤ 64) (hH : H ≤ 64) :
    Calls Tryd.prog 79 #[.agg #[.int .i64 W, .int .i64 H, .slice (ao) n cap], .int .i64 0] w fun e w' => ∃ v, e = .returned (.tuple #[v, .int .i64 0]) ∧ w'.ownsRow w.heap.size 86 7 v (recP W 1).length ((recP W 1).flatMap (bC W H 1 H ao n cap)) ∧ Below w.heap.size w w' := by
  have HVA := Lib.hid (fun wx (hb : Below w.heap.size w wx) => gValid_ok W H ao n cap G wx hv (hG.below hb))
  clear hv hG
  go_enter Tryd.func79, Tryd.ntmps79
  go_wp2_with (go_at_call 89; (with_reducible refine (HVA.out _ (by (repeat' (first | (with_reducible exact Below.refl _ _) | (with_reducible refine Below.setCell ?_ (by first | omega | (simp; done) | (simp; omega)) _) | (with_reducible refine Below.alloc ?_ (by first | omega | (simp; done) | (simp; omega)) _) | (with_reducible refine Below.drew ?_) | (with_reducible refine below_drewN ?_ _) | (with_reducible refine Below.trans ?_ (Below.mono (by assumption) (by first | omega | (simp; done) | (simp; omega)))))))).mono ?_); rintro e w1 ⟨rfl, hb⟩; obtain ⟨hc, hf, hz⟩ := bcall hb; (try simp at hc hf hz))
  have hbw := Lib.hid (show Below w.heap.size w w1 from by (repeat' (first | (with_reducible exact Below.refl _ _) | (with_reducible refine Below.setCell ?_ (by first | omega | (simp; done) | (simp; omega)) _) | (with_reducible refine Below.alloc ?_ (by first | omega | (simp; done) | (simp; omega)) _) | (with_reducible refine Below.drew ?_) | (with_reducible refine below_drewN ?_ _) | (with_reducible refine Below.trans ?_ (Below.mono (by assumption) (by first | omega | (simp; done) | (simp; omega)))))))
  have hs := hbw.out.size
  clear hc hf hz hb
  go_at_call 74
  refine (blocks_in (W : Int) (H : Int) (1 : Int) (H : Int) ao n cap _).mono ?_
  rintro e wD ⟨rfl, rfl⟩
  go_wp2_with fail
  obtain ⟨wz, hwz⟩ : ∃ wz, wz = ((w1.alloc (.cells #[.int .i64 W, .int .i64 H, .slice ao n cap] 24)).alloc (.cells #[.int .i64 1 ] 3)).alloc (.cells #[.int .i64 H ] 3) := ⟨_, rfl⟩
  have qg : ∀ k v, (#[.int .i64 W, .int .i64 H, .slice ao n cap] : Array Value)[k]? = some v → wz.cell? ⟨w1.heap.size, k, none⟩ = some v := fun k v h => by
    rw [hwz]
    exact (World.cell?_alloc_past _ _ _ (by show _ < _; simp; omega)).trans ((World.cell?_alloc_past _ _ _ (by show _ < _; simp)).trans ((World.cell?_alloc_at _ _ _ _ (by simp)).trans h))
  have qw : wz.cell? ⟨w1.heap.size + 1, 0, none⟩ = some (.int .i64 ((1 : Nat) : Int)) := by
    rw [hwz]
    exact (World.cell?_alloc_past _ _ _ (by show _ < _; simp)).trans ((World.cell?_alloc_at _ _ _ _ (by simp)).trans rfl)
  have qh : wz.cell? ⟨w1.heap.size + 1 + 1, 0, none⟩ = some (.int .i64 ((H : Nat) : Int)) := by
    rw [hwz]
    exact (World.cell?_alloc_at _ _ _ _ (by simp)).trans rfl
  have b3 : Below w.heap.size w wz := by rw [hwz]; exact ((hbw.out.alloc hs _).alloc (by simp; omega) _).alloc (by simp; omega) _
  have hs3 : wz.heap.size = w1.heap.size + 1 + 1 + 1 := by rw [hwz]; simp
  rw [← hwz]
  go_at_call 134
  refine (collectB_in w1.heap.size (w1.heap.size + 1 + 1) (w1.heap.size + 1) W H 1 H W 1 ao n cap wz (by omega) (by omega) (by omega) hW hH (by omega) (by omega) (qg 0 _ rfl) (qg 1 _ rfl) (qg 2 _ rfl) qw qh).mono ?_
  rintro e w2 ⟨v, rfl, hr, hb⟩
  have HR := Lib.hid (ownsRow_base_a hr (show w.heap.size ≤ _ by omega))
  have HB2 := Lib.hid (b3.trans (hb.mono b3.size))
  clear hr hb b3 qg qw qh hwz hs3
  go_wp2
  go_ret2
  exact ⟨v, rfl, HR.out, HB2.out⟩
set_option maxRecDepth 100000 in
set_option maxHeartbeats 4000000 in
theorem flines_1 (W H n cap : Nat) (ao : Option Addr) (G : Nat → Nat → Int) (w : World) (hv : VG W H n G) (hG : CellsIn w ao n G) (hW : W ≤ 64) (hH : H ≤ 64) :
    Calls Tryd.prog 79 #[.agg #[.int .i64 W, .int .i64 H, .slice (ao) n cap], .int .i64 1] w fun e w' => ∃ v, e = .returned (.tuple #[v, .int .i64 0]) ∧ w'.ownsRow w.heap.size 86 7 v (recP 1 H).length ((recP 1 H).flatMap (bC W H W 1 ao n cap)) ∧ Below w.heap.size w w' := by
  have HVA := Lib.hid (fun wx (hb : Below w.heap.size w wx) => gValid_ok W H ao n cap G wx hv (hG.below hb))
  clear hv hG
  go_enter Tryd.func79, Tryd.ntmps79
  go_wp2_with (go_at_call 89; (with_reducible refine (HVA.out _ (by (repeat' (first | (with_reducible exact Below.refl _ _) | (with_reducible refine Below.setCell ?_ (by first | omega | (simp; done) | (simp; omega)) _) | (with_reducible refine Below.alloc ?_ (by first | omega | (simp; done) | (simp; omega)) _) | (with_reducible refine Below.drew ?_) | (with_reducible refine below_drewN ?_ _) | (with_reducible refine Below.trans ?_ (Below.mono (by assumption) (by first | omega | (simp; done) | (simp; omega)))))))).mono ?_); rintro e w1 ⟨rfl, hb⟩; obtain ⟨hc, hf, hz⟩ := bcall hb; (try simp at hc hf hz))
  have hbw := Lib.hid (show Below w.heap.size w w1 from by (repeat' (first | (with_reducible exact Below.refl _ _) | (with_reducible refine Below.setCell ?_ (by first | omega | (simp; done) | (simp; omega)) _) | (with_reducible refine Below.alloc ?_ (by first | omega | (simp; done) | (simp; omega)) _) | (with_reducible refine Below.drew ?_) | (with_reducible refine below_drewN ?_ _) | (with_reducible refine Below.trans ?_ (Below.mono (by assumption) (by first | omega | (simp; done) | (simp; omega)))))))
  have hs := hbw.out.size
  clear hc hf hz hb
  go_at_call 74
  refine (blocks_in (W : Int) (H : Int) (W : Int) (1 : Int) ao n cap _).mono ?_
  rintro e wD ⟨rfl, rfl⟩
  go_wp2_with fail
  obtain ⟨wz, hwz⟩ : ∃ wz, wz = ((w1.alloc (.cells #[.int .i64 W, .int .i64 H, .slice ao n cap] 24)).alloc (.cells #[.int .i64 W ] 3)).alloc (.cells #[.int .i64 1 ] 3) := ⟨_, rfl⟩
  have qg : ∀ k v, (#[.int .i64 W, .int .i64 H, .slice ao n cap] : Array Value)[k]? = some v → wz.cell? ⟨w1.heap.size, k, none⟩ = some v := fun k v h => by
    rw [hwz]
    exact (World.cell?_alloc_past _ _ _ (by show _ < _; simp; omega)).trans ((World.cell?_alloc_past _ _ _ (by show _ < _; simp)).trans ((World.cell?_alloc_at _ _ _ _ (by simp)).trans h))
  have qw : wz.cell? ⟨w1.heap.size + 1, 0, none⟩ = some (.int .i64 ((W : Nat) : Int)) := by
    rw [hwz]
    exact (World.cell?_alloc_past _ _ _ (by show _ < _; simp)).trans ((World.cell?_alloc_at _ _ _ _ (by simp)).trans rfl)
  have qh : wz.cell? ⟨w1.heap.size + 1 + 1, 0, none⟩ = some (.int .i64 ((1 : Nat) : Int)) := by
    rw [hwz]
    exact (World.cell?_alloc_at _ _ _ _ (by simp)).trans rfl
  have b3 : Below w.heap.size w wz := by rw [hwz]; exact ((hbw.out.alloc hs _).alloc (by simp; omega) _).alloc (by simp; omega) _
  have hs3 : wz.heap.size = w1.heap.size + 1 + 1 + 1 := by rw [hwz]; simp
  rw [← hwz]
  go_at_call 134
  refine (collectB_in w1.heap.size (w1.heap.size + 1 + 1) (w1.heap.size + 1) W H W 1 1 H ao n cap wz (by omega) (by omega) (by omega) hW hH (by omega) (by omega) (qg 0 _ rfl) (qg 1 _ rfl) (qg 2 _ rfl) qw qh).mono ?_
  rintro e w2 ⟨v, rfl, hr, hb⟩
  have HR := Lib.hid (ownsRow_base_a hr (show w.heap.size ≤ _ by omega))
  have HB2 := Lib.hid (b3.trans (hb.mono b3.size))
  clear hr hb b3 qg qw qh hwz hs3
  go_wp2
  go_ret2
  exact ⟨v, rfl, HR.out, HB2.out⟩
end Go.Proofs.YtmdeooflgkjbbaaDoor

/- Rows of blocks in memory; the sums over them, Profile: by the program of the fields. -/





namespace Go.Proofs.YtmdeooflgkjbbaaDoor
set_option linter.unusedSimpArgs false
set_option linter.unusedVariables false
open Go.RowKit Go.Shelf

theorem info_intF : (Tryd.prog.info? 3).map (fun i => (i.zero, i.size, i.bytes)) = some (some (.int .i64 0), 1, 8) := by kernel_rfl
/-- Numbers as values. -/
def iV (L : List Int) : List Value := L.map fun z => .int .i64 z
/-- The first values of a function. -/
def fnL (f : Nat → Int) : Nat → List Int
  | 0 => []
  | k + 1 => fnL f k ++ [f k]
theorem fnL_len (f : Nat → Int) (k : Nat) : (fnL f k).length = k := by
  induction k with
  | zero => rfl
  | succ k ih => simp [fnL, ih]
theorem fnL_get (f : Nat → Int) {k i : Nat} (h : i < k) : (fnL f k)[i]? = some (f i) := by
  induction k with
  | zero => omega
  | succ k ih =>
    simp only [fnL]
    by_cases e : i < k
    · rw [List.getElem?_append_left (by rw [fnL_len]; exact e)]
      exact ih e
    · obtain rfl : i = k := by omega
      rw [List.getElem?_append_right (by rw [fnL_len]; exact Nat.le_refl _), fnL_len]
      simp
theorem iV_len (L : List Int) : (iV L).length = L.length := by simp [iV]
theorem iV_get {L : List Int} {i : Nat} {z : Int} (h : L[i]? = some z) : (iV L)[i]? = some (.int .i64 z) := by simp [iV, h]
theorem ints_appF {w0 wr X w6 : World} {v v' : Value} {L : List Int} {k : Int} (h : wr.ownsRow w0.heap.size 3 1 v L.length (iV L) ∧ Below w0.heap.size w0 wr) (hX : Below wr.heap.size wr X) (hown : w6.ownsRow w0.heap.size 3 1 v' (L.length + 1) (iV L ++ [.int .i64 k])) (hgrow : X.grownBy w6 v.ownBlock) :
    w6.ownsRow w0.heap.size 3 1 v' (L ++ [k]).length (iV (L ++ [k])) ∧ Below w0.heap.size w0 w6 := by
  refine ⟨?_, ?_⟩
  · simpa [iV] using hown
  · have b1 : Below w0.heap.size w0 X := h.2.trans (hX.mono h.2.size)
    refine b1.grown hgrow b1.size (fun j hj => ?_)
    rcases h.1.2 with ⟨rfl, _⟩ | ⟨g, cap, cur, rfl, hg, hh, _⟩
    · cases hj
    · cases hj
      exact hg

/-- Blocks in memory. -/
def BlksAt (w : World) (g n W H wi hi : Nat) (ao : Option Addr) (N cap : Nat) (p : Nat → Nat × Nat) : Prop := ∀ i, i < n → ∀ j u, (bC W H wi hi ao N cap (p i))[j]? = some u → w.cell? ⟨g, i * 7 + j, none⟩ = some u
theorem BlksAt.below {w w' : World} {g n W H wi hi : Nat} {ao : Option Addr} {N cap : Nat} {p : Nat → Nat × Nat} (h : BlksAt w g n W H wi hi ao N cap p) (hb : Below w.heap.size w w') (hg : g < w.heap.size) : BlksAt w' g n W H wi hi ao N cap p := fun i hi j u hu => (hb.cell (p := ⟨g, i * 7 + j, none⟩) hg).trans (h i hi j u hu)
theorem flat7 {α : Type} (f : α → List Value) (hf : ∀ a, (f a).length = 7) : ∀ (L : List α) (i j : Nat), j < 7 → (L.flatMap f)[i * 7 + j]? = (L[i]?).bind (fun a => (f a)[j]?) := by
  intro L
  induction L with
  | nil => intro i j _; simp
  | cons a L ih =>
    intro i j hj
    rw [List.flatMap_cons]
    match i with
    | 0 =>
      rw [List.getElem?_append_left (by rw [hf]; omega)]
      simp
    | i + 1 =>
      rw [List.getElem?_append_right (by rw [hf]; omega), hf, show (i + 1) * 7 + j - 7 = i * 7 + j by omega, ih i j hj]
      simp
theorem flat7_len {α : Type} (f : α → List Value) (hf : ∀ a, (f a).length = 7) (L : List α) : (L.flatMap f).length = L.length * 7 := by
  induction L with
  | nil => rfl
  | cons a L ih => rw [List.flatMap_cons, List.length_append, hf, ih, List.length_cons]; omega
theorem bC_len (W H wi hi : Nat) (ao : Option Addr) (N cap : Nat) (p : Nat × Nat) : (bC W H wi hi ao N cap p).length = 7 := rfl
theorem blks_of {w : World} {base : Nat} {v : Value} {L : List (Nat × Nat)} {n W H wi hi : Nat} {ao : Option Addr} {N cap : Nat} {p : Nat → Nat × Nat} (h : w.ownsRow base 86 7 v L.length (L.flatMap (bC W H wi hi ao N cap))) (hn : L.length = n) (h1 : 1 ≤ n) (hp : ∀ i, i < n → L[i]? = some (p i)) :
    ∃ g c, v = .slice (some ⟨g, 0, none⟩) n c ∧ g < w.heap.size ∧ BlksAt w g n W H wi hi ao N cap p := by
  have h' := h
  rcases h.2 with ⟨_, h0⟩ | ⟨g, c, cur, rfl, hg, hh, _⟩
  · omega
  · refine ⟨g, c, by rw [hn], (Array.getElem?_eq_some_iff.1 hh).1, fun i hik j u hu => ?_⟩
    have hj : j < 7 := by
      have := (List.getElem?_eq_some_iff.1 hu).1
      rwa [bC_len] at this
    rw [h'.cellAt (i * 7 + j) (by omega), flat7 _ (bC_len W H wi hi ao N cap) L i j hj, hp i hik]
    exact hu
theorem rowP_get (y : Nat) {j i : Nat} (h : i < j) : (rowP y j)[i]? = some (i, y) := by
  induction j with
  | zero => omega
  | succ j ih =>
    simp only [rowP]
    by_cases e : i < j
    · rw [List.getElem?_append_left (by rw [rowP_len]; exact e)]
      exact ih e
    · obtain rfl : i = j := by omega
      rw [List.getElem?_append_right (by rw [rowP_len]; exact Nat.le_refl _), rowP_len]
      simp
theorem recP_row {W i : Nat} (h : i < W) : (recP W 1)[i]? = some (i, 0) := by
  simp only [recP, List.nil_append]
  exact rowP_get 0 h
theorem recP_col {H i : Nat} (h : i < H) : (recP 1 H)[i]? = some (0, i) := by
  induction H with
  | zero => omega
  | succ k ih =>
    simp only [recP]
    by_cases e : i < k
    · rw [List.getElem?_append_left (by rw [recP_len]; omega)]
      exact ih e
    · obtain rfl : i = k := by omega
      rw [List.getElem?_append_right (by rw [recP_len]; omega), recP_len]
      simp [rowP]

/-- A line's corner and sides. -/
def wiL (a W : Nat) : Nat := if a = 0 then 1 else W
def hiL (a H : Nat) : Nat := if a = 0 then H else 1
def pL (a i : Nat) : Nat × Nat := if a = 0 then (i, 0) else (0, i)
theorem sumT_ln (a W H : Nat) (tv : Nat → Int) (i : Nat) : sumT tv (recN W (pL a i).1 (wiL a W) (pL a i).2 (hiL a H)) = lnS a W H tv i := by
  unfold pL wiL hiL lnS
  split
  · exact sumT_col tv W i H
  · rw [recN_one]
    exact sumT_row tv W i W
theorem lnN_one {a W H n : Nat} (s : Sides W H n) : 1 ≤ lnN a W H ∧ lnN a W H ≤ 64 := by
  have h1 := s.w0
  have h2 := s.h0
  have h3 := s.w1
  have h4 := s.h1
  unfold lnN
  split <;> omega
section
variable (a W H n cap b off : Nat) (G : Nat → Nat → Int) (w : World) (s : Sides W H n) (lb : b < w.heap.size) (hG : Grd w b off n G)
include s lb hG
theorem flines_any (ha : a < 2) (hO : OkG n G) : Calls Tryd.prog 79 #[.agg #[.int .i64 W, .int .i64 H, .slice (some ⟨b, off, none⟩) n cap], .int .i64 ((a : Int))] w fun e w' => ∃ g c, e = .returned (.tuple #[.slice (some ⟨g, 0, none⟩) (lnN a W H) c, .int .i64 0]) ∧ BlksAt w' g (lnN a W H) W H (wiL a W) (hiL a H) (some ⟨b, off, none⟩) n cap (pL a) ∧ g < w'.heap.size ∧ Below w.heap.size w w' := by
  have hC : CellsIn w (some ⟨b, off, none⟩) n G := .inr ⟨b, off, rfl, lb, hG⟩
  match a, ha with
  | 0, _ =>
    refine (flines_0 W H n cap (some ⟨b, off, none⟩) G w (vg_of s hO) hC s.w1 s.h1).mono ?_
    rintro e w' ⟨v, rfl, hr, hb⟩
    obtain ⟨g, c, rfl, hg, hB⟩ := blks_of (n := W) (p := fun i => (i, 0)) hr (by rw [recP_len]; omega) s.w0 (fun i hi => recP_row hi)
    exact ⟨g, c, rfl, hB, hg, hb⟩
  | 1, _ =>
    refine (flines_1 W H n cap (some ⟨b, off, none⟩) G w (vg_of s hO) hC s.w1 s.h1).mono ?_
    rintro e w' ⟨v, rfl, hr, hb⟩
    obtain ⟨g, c, rfl, hg, hB⟩ := blks_of (n := H) (p := fun i => (0, i)) hr (by rw [recP_len]; omega) s.h0 (fun i hi => recP_col hi)
    exact ⟨g, c, rfl, hB, hg, hb⟩
theorem fsum_line (fn : Nat) (cs : Array Value) (tv : Nat → Int) (i : Nat) (hi : i < lnN a W H) (wx : World) (hb : Below w.heap.size w wx) (hT : Tells wx fn cs n G tv) (hbd : ∀ q, q < n → -1000000000 ≤ tv q ∧ tv q ≤ 1000000000) :
    Calls Tryd.prog 66 #[.agg #[.int .i64 W, .int .i64 H, .slice (some ⟨b, off, none⟩) n cap, .int .i64 (((pL a i).1 : Int)), .int .i64 (((pL a i).2 : Int)), .int .i64 (((pL a i).1 : Int) + (wiL a W : Int) - 1), .int .i64 (((pL a i).2 : Int) + (hiL a H : Int) - 1)], .func (.func fn) #[] cs] wx fun e w' => e = .returned (.int .i64 (lnS a W H tv i)) ∧ Below wx.heap.size wx w' := by
  have hx : (pL a i).1 + wiL a W ≤ W := by
    unfold lnN at hi
    unfold pL wiL
    split
    · rename_i e; rw [if_pos e] at hi; show i + 1 ≤ W; omega
    · show 0 + W ≤ W; omega
  have hy : (pL a i).2 + hiL a H ≤ H := by
    unfold lnN at hi
    unfold pL hiL
    split
    · show 0 + H ≤ H; omega
    · rename_i e; rw [if_neg e] at hi; show i + 1 ≤ H; omega
  have := callsIn_wide.1 (fsum_in W H (pL a i).1 (wiL a W) (pL a i).2 (hiL a H) b off n cap G (((pL a i).1 : Int) + (wiL a W : Int) - 1) (((pL a i).2 : Int) + (hiL a H : Int) - 1) fn cs tv wx s.w1 s.h1 hx hy s.n0 s.n1 (by push_cast; omega) (by push_cast; omega) (Nat.lt_of_lt_of_le lb hb.size) (hG.below hb lb) hT hbd)
  rw [sumT_ln] at this
  exact this
end

set_option maxRecDepth 100000 in
set_option maxHeartbeats 8000000 in
theorem fsums_in (g n cap W H wi hi N gc : Nat) (ao : Option Addr) (p : Nat → Nat × Nat) (fn : Nat) (S : Nat → Int) (w : World) (hn : n ≤ 5000) (lg : g < w.heap.size) (hB : BlksAt w g n W H wi hi ao N gc p)
    (C : ∀ i, i < n → ∀ wx, Below w.heap.size w wx → Calls Tryd.prog 66 #[.agg #[.int .i64 W, .int .i64 H, .slice ao N gc, .int .i64 (((p i).1 : Int)), .int .i64 (((p i).2 : Int)), .int .i64 (((p i).1 : Int) + (wi : Int) - 1), .int .i64 (((p i).2 : Int) + (hi : Int) - 1)], .func (.func fn) #[] #[]] wx fun e w' => e = .returned (.int .i64 (S i)) ∧ Below wx.heap.size wx w') :
    Calls Tryd.prog 78 #[.slice (some ⟨g, 0, none⟩) n cap, .func (.func fn) #[] #[]] w fun e w' => ∃ v, e = .returned v ∧ w'.ownsRow w.heap.size 3 1 v n (iV (fnL S n)) ∧ Below w.heap.size w w' := by
  obtain ⟨i0, hif, hz0, hz1, hz2⟩ := info_parts info_intF
  have HB := Lib.hid hB
  have C := Lib.hid C
  clear hB
  go_enter Tryd.func78, Tryd.ntmps78
  go_wp2
  go_loopw [5, 10] (fun l i wr => ∃ k : Nat, k ≤ n ∧ i = .int .i64 k ∧ Hid (wr.ownsRow w.heap.size 3 1 l (fnL S k).length (iV (fnL S k)) ∧ Below w.heap.size w wr)) (fun _ i _ => n - (Go.RowKit.intOf i).toNat)
  case atStart => exact ⟨0, Nat.zero_le _, rfl, Lib.hid ⟨World.ownsRow_nil _ _ _ _, Below.refl _ _⟩⟩
  case round =>
    obtain ⟨k, hk, rfl, HH⟩ := hrel
    have hBw := HH.out.2
    have hsw := hBw.size
    by_cases hlk : k < n
    · have e0 := (hBw.cell (p := ⟨g, k * 7, none⟩) lg).trans (HB.out k hlk 0 _ rfl)
      have e1 := (hBw.cell (p := ⟨g, k * 7 + 1, none⟩) lg).trans (HB.out k hlk 1 _ rfl)
      have e2 := (hBw.cell (p := ⟨g, k * 7 + 2, none⟩) lg).trans (HB.out k hlk 2 _ rfl)
      have e3 := (hBw.cell (p := ⟨g, k * 7 + 3, none⟩) lg).trans (HB.out k hlk 3 _ rfl)
      have e4 := (hBw.cell (p := ⟨g, k * 7 + 4, none⟩) lg).trans (HB.out k hlk 4 _ rfl)
      have e5 := (hBw.cell (p := ⟨g, k * 7 + 5, none⟩) lg).trans (HB.out k hlk 5 _ rfl)
      have e6 := (hBw.cell (p := ⟨g, k * 7 + 6, none⟩) lg).trans (HB.out k hlk 6 _ rfl)
      have CK := Lib.hid (fun wx (hx : Below wr.heap.size wr wx) => C.out k hlk wx (hBw.trans (hx.mono hsw)))
      obtain ⟨x, hx⟩ : ∃ x : Int, x = ((p k).1 : Int) := ⟨_, rfl⟩
      obtain ⟨y, hy⟩ : ∃ y : Int, y = ((p k).2 : Int) := ⟨_, rfl⟩
      obtain ⟨bx, hbx⟩ : ∃ bx : Int, bx = ((p k).1 : Int) + (wi : Int) - 1 := ⟨_, rfl⟩
      obtain ⟨yb, hyb⟩ : ∃ yb : Int, yb = ((p k).2 : Int) + (hi : Int) - 1 := ⟨_, rfl⟩
      rw [← hbx, ← hyb, ← hx, ← hy] at CK
      rw [← hx] at e3
      rw [← hy] at e4
      rw [← hbx] at e5
      rw [← hyb] at e6
      have HD := Lib.hid (show fnL S (k + 1) = fnL S k ++ [S k] from rfl)
      have hlen := fnL_len S k
      obtain ⟨z, hz⟩ : ∃ z, z = S k := ⟨_, rfl⟩
      rw [← hz] at CK HD
      obtain ⟨L, hL⟩ : ∃ L, L = fnL S k := ⟨_, rfl⟩
      rw [← hL] at HD hlen HH
      have hLw := HH.out.2.size
      have p0 : (0 : Int) ≤ (k : Int) := by omega
      have p1 : (k : Int) < (n : Int) := by omega
      have lg2 : g < wr.heap.size := by omega
      clear hx hy hbx hyb hz hL hBw
      go_wp2_with (first | (go_at_call 66; (with_reducible refine (CK.out _ (by (repeat' (first | (with_reducible exact Below.refl _ _) | (with_reducible refine Below.setCell ?_ (by first | omega | (simp; done) | (simp; omega)) _) | (with_reducible refine Below.alloc ?_ (by first | omega | (simp; done) | (simp; omega)) _) | (with_reducible refine Below.drew ?_) | (with_reducible refine below_drewN ?_ _) | (with_reducible refine Below.trans ?_ (Below.mono (by assumption) (by first | omega | (simp; done) | (simp; omega)))))))).mono ?_); rintro e w1 ⟨rfl, hb⟩; obtain ⟨hc, hf, hz⟩ := bcall hb; (try simp at hc hf hz)) | (at_builtin; refine wpList_append_own _ rfl _ _ 40 rfl w.heap.size 3 i0 (.int .i64 0) 1 8 Tryd.underlying40 hif hz0 hz1 hz2 rfl (by omega) _ _ _ rfl (owns_below HH.out.1 (by (repeat' (first | (with_reducible exact Below.refl _ _) | (with_reducible refine Below.setCell ?_ (by first | omega | (simp; done) | (simp; omega)) _) | (with_reducible refine Below.alloc ?_ (by first | omega | (simp; done) | (simp; omega)) _) | (with_reducible refine Below.drew ?_) | (with_reducible refine below_drewN ?_ _) | (with_reducible refine Below.trans ?_ (Below.mono (by assumption) (by first | omega | (simp; done) | (simp; omega)))))))) _ 1 1 [.int .i64 z] rfl rfl (by intro j u hu; match j with | 0 => (simp at hu; subst hu; simp only [Addr.add, Nat.zero_add]; exact (World.cell?_alloc_at _ _ _ _ (by simp)).trans rfl) | _ + 1 => simp at hu) (by intro u hu; simp at hu; subst hu; rfl) (by unfold maxLen; omega) (by omega) (by simp; omega) ?_; intro v' w6 hown hgrow _))
      have HN := Lib.hid (ints_appF HH.out (by (repeat' (first | (with_reducible exact Below.refl _ _) | (with_reducible refine Below.setCell ?_ (by first | omega | (simp; done) | (simp; omega)) _) | (with_reducible refine Below.alloc ?_ (by first | omega | (simp; done) | (simp; omega)) _) | (with_reducible refine Below.drew ?_) | (with_reducible refine below_drewN ?_ _) | (with_reducible refine Below.trans ?_ (Below.mono (by assumption) (by first | omega | (simp; done) | (simp; omega))))))) hown hgrow)
      clear hown hgrow
      go_roundw
      case rel => exact ⟨k + 1, by omega, by go_num, Lib.hid (by rw [HD.out]; exact HN.out)⟩
      case measure => simp [Go.RowKit.intOf]; omega
    · obtain rfl : k = n := by omega
      have HR := Lib.hid HH.out
      rw [fnL_len] at HR
      go_wp2
      go_ret
      exact ⟨_, rfl, HR.out.1, HR.out.2⟩
end Go.Proofs.YtmdeooflgkjbbaaDoor
