/- What a step among walls keeps: the mathematics. -/
import Derived.Test.YtdbehbeaigfpcaaDoorKBodW
import Derived.Test.YtdbehbeaigfpcaaDoorKImpB
import Derived.Test.YtdbehbeaigfpcaaDoorKLawStepsW
import Derived.Test.YtdbehbeaigfpcaaDoorKRunU
import Derived.Test.YtdbehbeaigfpcaaDoorKDragB
import Derived.Deep.RegionHeld3
namespace Go.Proofs.YtdbehbeaigfpcaaDoor
set_option linter.unusedSimpArgs false
set_option linter.unusedVariables false
open Go.RowKit Go.Maps Go.Sort

theorem sn0 (d : Nat) (a b c e : Int) (hd : d < 4) : sn 0 d a b c e = if d = 0 then a else if d = 1 then b else if d = 2 then c else e := by
  match d, hd with
  | 0, _ => rfl
  | 1, _ => rfl
  | 2, _ => rfl
  | 3, _ => rfl
theorem dE_open {K : Nat → Int} {G : Nat → Nat → Int} {i : Nat} (h : K i = 0) : dE K G i = 0 ∧ dN K G i = 0 := by
  unfold dE dN
  rw [h]
  simp [sn0]
theorem sn_sumK {k : Nat} (hk : k < 4) (a b c e : Int) : sn k 0 a b c e + sn k 1 a b c e + sn k 2 a b c e + sn k 3 a b c e = a + b + c + e := by
  match k, hk with
  | 0, _ => rfl
  | 1, _ => show c + e + a + b = _; omega
  | 2, _ => show b + a + e + c = _; omega
  | 3, _ => show e + c + b + a = _; omega
theorem met_sums {n : Nat} {K : Nat → Int} {k y : Int} {G : Nat → Nat → Int} (hK : OkK n K) (m : Nat) (hm : m ≤ n) :
    wt (metG K k y G) m = wt G m ∧ imE (metG K k y G) m = imE G m + sm m (dE K G) ∧ imN (metG K k y G) m = imN G m + sm m (dN K G) := by
  induction m with
  | zero => simp [wt, imE, imN, sm]
  | succ m ih =>
    obtain ⟨h1, h2, h3⟩ := ih (by omega)
    by_cases h : K m = 0
    · obtain ⟨d1, d2⟩ := dE_open (G := G) h
      have w1 := wt_col k y G (m + 1)
      have w2 := wt_col k y G m
      have a1 := imE_col k y G (m + 1)
      have a2 := imE_col k y G m
      have b1 := imN_col k y G (m + 1)
      have b2 := imN_col k y G m
      simp only [wt, imE, imN, sm] at *
      rw [met_open h, met_open h, met_open h, met_open h, d1, d2]
      omega
    · have hs := sn_sumK (okK_lt hK (show m < n by omega)) (G m 0) (G m 1) (G m 2) (G m 3)
      simp only [wt, imE, imN, sm]
      rw [met_shut h, met_shut h, met_shut h, met_shut h]
      unfold dE dN at *
      omega
/-- The sum over the bodies of what each is given. -/
theorem sums_all {f : Nat → Int} {B : Nat → Int} (n : Nat) (hP : ∀ i, i < n → (B i = 0 ∧ f i = 0) ∨ (1 ≤ B i ∧ B i ≤ 9)) :
    (([1, 2, 3, 4, 5, 6, 7, 8, 9] : List Int).map fun b => sumL f (ownN B b n)).sum = sm n f := by
  induction n with
  | zero => simp [ownN, sumL, sm]
  | succ n ih =>
    have h := ih (fun i hi => hP i (by omega))
    simp only [List.map_cons, List.map_nil, List.sum_cons, List.sum_nil, sm] at h ⊢
    have key : ∀ b : Int, sumL f (ownN B b (n + 1)) = sumL f (ownN B b n) + if B n = b then f n else 0 := fun b => by
      simp only [ownN]
      split
      · exact sumL_snoc _ _ _
      · simp
    simp only [key]
    rcases hP n (by omega) with ⟨h0, hf⟩ | ⟨h1, h9⟩
    · rw [h0, hf]
      simp
      omega
    · rcases (show B n = 1 ∨ B n = 2 ∨ B n = 3 ∨ B n = 4 ∨ B n = 5 ∨ B n = 6 ∨ B n = 7 ∨ B n = 8 ∨ B n = 9 by omega) with e | e | e | e | e | e | e | e | e <;> rw [e] <;> simp <;> omega
theorem sum_filter {g : Int → Int} {p : Int → Bool} (l : List Int) (h : ∀ b ∈ l, p b = false → g b = 0) : ((l.filter p).map g).sum = (l.map g).sum := by
  induction l with
  | nil => rfl
  | cons a l ih =>
    have hi := ih (fun b hb => h b (List.mem_cons_of_mem _ hb))
    cases hp : p a
    · rw [List.filter_cons_of_neg (by simp [hp])]
      simp [hi, h a (by simp) hp]
    · rw [List.filter_cons_of_pos hp]
      simp [hi]
theorem sum_bodies {f : Nat → Int} {B : Nat → Int} (n : Nat) (hP : ∀ i, i < n → (B i = 0 ∧ f i = 0) ∨ (1 ≤ B i ∧ B i ≤ 9)) : ((bodL B n).map fun b => sumL f (ownN B b n)).sum = sm n f := by
  rw [← sums_all n hP]
  refine sum_filter _ fun b _ hb => ?_
  have hc : cntB B b n = 0 := by simpa using hb
  have hl : ownN B b n = [] := List.length_eq_zero_iff.1 (by rw [ownN_len]; exact hc)
  rw [hl]
  rfl
theorem sm_list (g : Int → Int) (l : List Int) (k : Nat) (hk : k ≤ l.length) : sm k (fun j => g (l.getD j 0)) = ((l.take k).map g).sum := by
  induction k with
  | zero => simp [sm]
  | succ k ih =>
    have e : l.take (k + 1) = l.take k ++ [l.getD k 0] := by
      rw [List.take_succ_eq_append_getElem (by omega), List.getD_eq_getElem?_getD, List.getElem?_eq_getElem (by omega)]
      rfl
    simp only [sm]
    rw [ih (by omega), e, List.map_append, List.sum_append]
    simp
/-- What the bodies are given, one after another, is what the step changes. -/
theorem bodies_sum {n : Nat} {K B : Nat → Int} {G : Nat → Nat → Int} (hP : ∀ i, i < n → OkP (K i) (B i)) :
    sm (bodL B n).length (fun j => sumL (dE K G) (ownN B ((bodL B n).getD j 0) n)) = sm n (dE K G) ∧ sm (bodL B n).length (fun j => sumL (dN K G) (ownN B ((bodL B n).getD j 0) n)) = sm n (dN K G) := by
  have h1 : ∀ i, i < n → (B i = 0 ∧ dE K G i = 0) ∨ (1 ≤ B i ∧ B i ≤ 9) := fun i hi => by
    rcases hP i hi with ⟨a, b⟩ | ⟨_, b⟩
    · exact .inl ⟨b, (dE_open a).1⟩
    · exact .inr b
  have h2 : ∀ i, i < n → (B i = 0 ∧ dN K G i = 0) ∨ (1 ≤ B i ∧ B i ≤ 9) := fun i hi => by
    rcases hP i hi with ⟨a, b⟩ | ⟨_, b⟩
    · exact .inl ⟨b, (dE_open a).2⟩
    · exact .inr b
  constructor
  · rw [sm_list (fun b => sumL (dE K G) (ownN B b n)) (bodL B n) _ (Nat.le_refl _), List.take_length]
    exact sum_bodies n h1
  · rw [sm_list (fun b => sumL (dN K G) (ownN B b n)) (bodL B n) _ (Nat.le_refl _), List.take_length]
    exact sum_bodies n h2
/-- No body: the step is the grid's own. -/
theorem bodies_none {n : Nat} {K B : Nat → Int} {k y : Int} {G : Nat → Nat → Int} (hP : ∀ i, i < n → OkP (K i) (B i)) (h : bodL B n = []) : EqG n (metG K k y G) (colG k y G) := fun i hi d _ => by
  refine met_open ?_ d
  rcases hP i hi with ⟨a, _⟩ | ⟨_, b1, b9⟩
  · exact a
  · exfalso
    have hm : B i ∈ bodL B n := (mem_bodL (fun j hj => by have := hP j hj; unfold OkP at this; omega) _).2 ⟨by omega, by
      have : ∀ m, i < m → 0 < cntB B (B i) m := fun m => by
        induction m with
        | zero => omega
        | succ m ih =>
          intro hm
          simp only [cntB]
          by_cases e : i = m
          · subst e; simp
          · have := ih (by omega); omega
      exact this n hi⟩
    rw [h] at hm
    simp at hm
theorem kept_sums {W H n len : Nat} {K : Nat → Int} {R : Nat → Int × Int} {t : Nat} {G : Nat → Nat → Int} (hn : n = W * H) (hK : OkK n K) :
    wt (fwdW W H K len R t G) n = wt G n ∧ imE (fwdW W H K len R t G) n = imE G n + sm n (dE K G) ∧ imN (fwdW W H K len R t G) n = imN G n + sm n (dN K G) := by
  unfold fwdW
  rw [wt_pull _ hn, imE_pull _ hn, imN_pull _ hn]
  exact met_sums hK n (Nat.le_refl _)
end Go.Proofs.YtdbehbeaigfpcaaDoor

/- The law WallKept: the walk. -/






namespace Go.Proofs.YtdbehbeaigfpcaaDoor
set_option linter.unusedSimpArgs false
set_option linter.unusedVariables false
open Go.RowKit Go.Maps Go.Sort

theorem small400_yes (W H : Int) (ao : Option Addr) (n cap : Nat) (ak : Option Addr) (nk ck : Nat) (ab : Option Addr) (nb cb : Nat) (w : World) (h : n ≤ 400 ∧ nk ≤ 400 ∧ nb ≤ 400) :
    Calls Tryd.prog 5 #[.agg #[.int .i64 W, .int .i64 H, .slice (ao) n cap, .slice (ak) nk ck, .slice (ab) nb cb], .int .i64 400] w fun e w' => e = .returned (.bool true) ∧ Below w.heap.size w w' := small3_yes W H ao n cap ak nk ck ab nb cb 400 w h.1 h.2.1 h.2.2
theorem small400_no (W H : Int) (ao : Option Addr) (n cap : Nat) (ak : Option Addr) (nk ck : Nat) (ab : Option Addr) (nb cb : Nat) (w : World) (h : ¬ (n ≤ 400 ∧ nk ≤ 400 ∧ nb ≤ 400)) :
    Calls Tryd.prog 5 #[.agg #[.int .i64 W, .int .i64 H, .slice (ao) n cap, .slice (ak) nk ck, .slice (ab) nb cb], .int .i64 400] w fun e w' => e = .returned (.bool false) ∧ Below w.heap.size w w' := small3_no W H ao n cap ak nk ck ab nb cb 400 w (by omega)
theorem PreW.cellsK {w : World} {ao : Option Addr} {n : Nat} {G : Nat → Nat → Int} {ak : Option Addr} {nk : Nat} {K : Nat → Int} {ab : Option Addr} {nb : Nat} {B : Nat → Int} {ro : Option Addr} {len : Nat} {R : Nat → Int × Int} (h : PreW w ao n G ak nk K ab nb B ro len R) : CellsIn w ao n G := h.2.1
/-- Numbers in memory. -/
def IntsL (w : World) (ao : Option Addr) (m : Nat) (L : Nat → Int) : Prop := m = 0 ∨ ∃ g, ao = some ⟨g, 0, none⟩ ∧ g < w.heap.size ∧ ∀ j, j < m → w.cell? ⟨g, j, none⟩ = some (.int .i64 (L j))
theorem owns_ints {w : World} {base : Nat} {v : Value} {L : List Int} (h : w.ownsRow base 3 1 v L.length (L.map encZ)) : ∃ ao cap, v = .slice ao L.length cap ∧ IntsL w ao L.length (fun j => L.getD j 0) := by
  rcases h.2 with ⟨rfl, hn⟩ | ⟨g, cap, cur, rfl, hg, hgg, hc, hm, hs, ht⟩
  · exact ⟨none, 0, by rw [hn], .inl hn⟩
  · refine ⟨_, cap, rfl, .inr ⟨g, rfl, (Array.getElem?_eq_some_iff.1 hgg).1, fun j hj => ?_⟩⟩
    simp only [World.cell?, hgg]
    have e : (cur.toList.take (L.length * 1))[j]? = (L.map encZ)[j]? := by rw [ht]
    rw [List.getElem?_take, if_pos (by omega)] at e
    rw [← Array.getElem?_toList, e]
    simp [List.getElem?_map, List.getElem?_eq_getElem hj, List.getD_eq_getElem?_getD, encZ]

section
variable (W H : Int) (ao : Option Addr) (n cap : Nat) (G : Nat → Nat → Int) (ak : Option Addr) (nk ck : Nat) (K : Nat → Int) (ab : Option Addr) (nb cb : Nat) (B : Nat → Int) (ro : Option Addr) (len rc : Nat) (R : Nat → Int × Int) (t : Int) (w : World)
end
end Go.Proofs.YtdbehbeaigfpcaaDoor
