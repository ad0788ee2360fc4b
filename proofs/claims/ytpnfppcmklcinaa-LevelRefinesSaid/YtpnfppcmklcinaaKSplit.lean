/- Split: a cell is divided into four, by the program and by the reference. -/
import Derived.Test.YtpnfppcmklcinaaKRef
import Derived.Test.YtpnfppcmklcinaaKLevM
import Derived.Deep.MidRow
import Derived.Laws.ResultCell
import Derived.LoopTactic
namespace Go.Proofs.Ytpnfppcmklcinaa
set_option linter.unusedSimpArgs false
set_option linter.unusedVariables false
open Go.RowKit

/-- The population k. -/
def pop (a b c d : Int) (k : Nat) : Int := match k with | 0 => a | 1 => b | 2 => c | _ => d
/-- What the cell j of the parts holds when m of the sixteen are done, part by part; direction by direction. -/
def pv (a b c d : Int) (m j : Nat) : Int := if j < m then spl (pop a b c d (j % 4)) (j / 4) else 0
def rv (a b c d : Int) (m j : Nat) : Int := if j % 4 * 4 + j / 4 < m then spl (pop a b c d (j % 4)) (j / 4) else 0
/-- The sixteen numbers of the parts. -/
def sp16 (a b c d : Int) : List Value := (List.range 16).map (fun j => .int .i64 (spl (pop a b c d (j % 4)) (j / 4)))
def zero16 : List Value := (List.range 16).map (fun _ => .int .i64 0)
theorem sp16_arr (a b c d : Int) : (Value.agg (sp16 a b c d).toArray) = .agg #[.int .i64 (spl a 0), .int .i64 (spl b 0), .int .i64 (spl c 0), .int .i64 (spl d 0), .int .i64 (spl a 1), .int .i64 (spl b 1), .int .i64 (spl c 1), .int .i64 (spl d 1), .int .i64 (spl a 2), .int .i64 (spl b 2), .int .i64 (spl c 2), .int .i64 (spl d 2), .int .i64 (spl a 3), .int .i64 (spl b 3), .int .i64 (spl c 3), .int .i64 (spl d 3)] := rfl
theorem zero16_arr : (Value.agg zero16.toArray) = .agg #[.int .i64 0, .int .i64 0, .int .i64 0, .int .i64 0, .int .i64 0, .int .i64 0, .int .i64 0, .int .i64 0, .int .i64 0, .int .i64 0, .int .i64 0, .int .i64 0, .int .i64 0, .int .i64 0, .int .i64 0, .int .i64 0] := rfl
theorem one_of_map {f : Nat → Int} : ((List.range 16).map (fun j => Value.int .i64 (f j))).toArray.all (·.oneCell') = true :=
  all_oneCell_toArray (fun v hv => by obtain ⟨j, _, rfl⟩ := List.mem_map.1 hv; rfl)

theorem Below.setCells {n : Nat} {b : Nat} (hb : n ≤ b) : ∀ (vs : List Value) (o : Nat) {w w1 : World}, Below n w w1 → Below n w (w1.setCells b o vs)
  | [], _, _, _, h => h
  | v :: r, o, _, _, h => by
    rw [World.setCells]
    exact Below.setCells hb r (o + 1) (h.setCell (p := ⟨b, o, none⟩) hb v)

/-- The results: many cells of a block, and a number. -/
theorem res_two {P : Program} {fn : Func} {p u : Tmp} {ty : TypeId} (h : fn.results = #[.cell p ty, .tmp u]) {tmps : Array Value} {w : World} {b : Nat} {cs : List Value} {d : TypeDesc} {x : Value}
    (hp : tmps.getD p undef = .pointer (some ⟨b, 0, none⟩)) (hx : tmps.getD u undef = x) (hc : w.rangeAt b 0 cs) (hu : P.underlying ty = some d) (hd : d.isRow = true) (hi : (P.info? ty).map (·.size) = some cs.length) :
    (results fn tmps).run P w = .ok (.tuple #[.agg cs.toArray, x]) w := by
  rw [results_cell_tmp h, hp, hx]
  simp only [asAddr, Sem.run_pure, Result.andThen_ok, run_loadVar_mid w b 0 ty cs d hc hu hd hi]

theorem info16 : (Try.prog.info? 27).map (·.size) = some 16 := by kernel_rfl

/-- The world when the parts' cells (block Q) hold f; the argument lies in the first new block, the result's block is still empty. -/
def PS (w : World) (Q : Nat) (a b c d : Int) (f : Nat → Int) (wr : World) : Prop :=
  Below w.heap.size w wr ∧ (w.heap.size + 2 ≤ Q ∧ Q < wr.heap.size) ∧ (wr.cell? ⟨w.heap.size, 0, none⟩ = some (.int .i64 a) ∧ wr.cell? ⟨w.heap.size, 1, none⟩ = some (.int .i64 b) ∧ wr.cell? ⟨w.heap.size, 2, none⟩ = some (.int .i64 c) ∧ wr.cell? ⟨w.heap.size, 3, none⟩ = some (.int .i64 d)) ∧
  (∀ j, j < 16 → wr.cell? ⟨Q, j, none⟩ = some (.int .i64 (f j))) ∧ (∀ j, j < 16 → wr.cell? ⟨w.heap.size + 1, j, none⟩ = some (.int .i64 0)) ∧
  (∀ j, wr.frozen? ⟨w.heap.size + 1, j, none⟩ = false) ∧ (∀ j, wr.frozen? ⟨Q, j, none⟩ = false)
theorem PS.drew {w : World} {Q : Nat} {a b c d : Int} {f : Nat → Int} {wr : World} (h : PS w Q a b c d f wr) : PS w Q a b c d f wr.drew := by
  obtain ⟨h1, h2, h3, h4, h5, h6, h7⟩ := h
  exact ⟨h1.drew, h2, h3, h4, h5, h6, h7⟩
theorem PS.congr {w : World} {Q : Nat} {a b c d : Int} {f g : Nat → Int} {wr : World} (h : PS w Q a b c d f wr) (e : ∀ j, j < 16 → f j = g j) : PS w Q a b c d g wr := by
  obtain ⟨h1, h2, h3, h4, h5, h6, h7⟩ := h
  exact ⟨h1, h2, h3, fun j hj => by rw [← e j hj]; exact h4 j hj, h5, h6, h7⟩
/-- One more is written. -/
theorem PS.set {w : World} {Q : Nat} {a b c d : Int} {f : Nat → Int} {wr : World} (h : PS w Q a b c d f wr) (j : Nat) (x : Int) :
    PS w Q a b c d (fun i => if j = i then x else f i) (wr.setCell ⟨Q, j, none⟩ (.int .i64 x)) := by
  obtain ⟨h1, ⟨h2, h2'⟩, ⟨c0, c1, c2, c3⟩, h4, h5, h6, h7⟩ := h
  have far : ∀ b o, b ≠ Q → (wr.setCell ⟨Q, j, none⟩ (.int .i64 x)).cell? ⟨b, o, none⟩ = wr.cell? ⟨b, o, none⟩ := fun b o hb => by
    rw [set_cell, if_neg (by omega)]
  refine ⟨h1.setCell (show w.heap.size ≤ Q by omega) _, ⟨h2, by simpa using h2'⟩, ⟨?_, ?_, ?_, ?_⟩, fun i hi => ?_, fun i hi => ?_, fun i => ?_, fun i => ?_⟩
  · rw [far _ _ (by omega)]; exact c0
  · rw [far _ _ (by omega)]; exact c1
  · rw [far _ _ (by omega)]; exact c2
  · rw [far _ _ (by omega)]; exact c3
  · rw [set_cell, if_pos rfl]
    by_cases e : j = i
    · rw [if_pos e, h4 i hi]; simp [e]
    · rw [if_neg e, h4 i hi]; simp [e]
  · rw [far _ _ (by omega)]; exact h5 i hi
  · rw [World.frozen?_setCell]; exact h6 i
  · rw [World.frozen?_setCell]; exact h7 i
theorem PS.range {w : World} {Q : Nat} {a b c d : Int} {f : Nat → Int} {wr : World} (h : PS w Q a b c d f wr) (e : ∀ j, j < 16 → f j = spl (pop a b c d (j % 4)) (j / 4)) : wr.rangeAt Q 0 (sp16 a b c d) := fun j v hv => by
  have hj : j < 16 := by
    have := (List.getElem?_eq_some_iff.1 hv).1
    simpa [sp16] using this
  rw [Nat.zero_add, h.2.2.2.1 j hj, e j hj]
  simp [sp16, List.getElem?_map, List.getElem?_range hj] at hv
  rw [hv]
theorem PS.zrange {w : World} {Q : Nat} {a b c d : Int} {wr : World} (h : PS w Q a b c d (fun _ => 0) wr) : wr.rangeAt Q 0 zero16 := fun j v hv => by
  have hj : j < 16 := by
    have := (List.getElem?_eq_some_iff.1 hv).1
    simpa [zero16] using this
  rw [Nat.zero_add, h.2.2.2.1 j hj]
  simp [zero16, List.getElem?_map, List.getElem?_range hj] at hv
  rw [hv]
theorem PS.there {w : World} {Q : Nat} {a b c d : Int} {f : Nat → Int} {wr : World} (h : PS w Q a b c d f wr) : wr.there (w.heap.size + 1) 0 16 := fun j hj => by
  rw [Nat.zero_add, h.2.2.2.2.1 j hj]
  exact ⟨rfl, h.2.2.2.2.2.1 j⟩
theorem zero16_at (j : Nat) (hj : j < 16) : zero16.toArray[j]? = some (.int .i64 0) := by
  simp [zero16, hj]
theorem ps_start {w w1 : World} (a b c d : Int) (hb : Below (((w.alloc (.cells #[.int .i64 a, .int .i64 b, .int .i64 c, .int .i64 d] 23)).alloc (.cells zero16.toArray 27)).alloc (.cells zero16.toArray 27)).heap.size (((w.alloc (.cells #[.int .i64 a, .int .i64 b, .int .i64 c, .int .i64 d] 23)).alloc (.cells zero16.toArray 27)).alloc (.cells zero16.toArray 27)) w1) :
    PS w (w.heap.size + 1 + 1) a b c d (fun _ => 0) w1 := by
  obtain ⟨hc, hf, hz⟩ := bcall hb
  simp only [World.size_alloc] at hc hf hz
  refine ⟨?_, ⟨by omega, by omega⟩, ⟨?_, ?_, ?_, ?_⟩, fun j hj => ?_, fun j hj => ?_, fun j => ?_, fun j => ?_⟩
  · (repeat' (first | (with_reducible exact Below.refl _ _) | (with_reducible refine Below.setCell ?_ (by first | omega | (simp; done) | (simp; omega)) _) | (with_reducible refine Below.alloc ?_ (by first | omega | (simp; done) | (simp; omega)) _) | (with_reducible refine Below.drew ?_) | (with_reducible refine below_drewN ?_ _) | (with_reducible refine Below.trans ?_ (Below.mono (by assumption) (by first | omega | (simp; done) | (simp; omega))))))
  · rw [hc, if_pos (by omega)]; simp [go_sem]
  · rw [hc, if_pos (by omega)]; simp [go_sem]
  · rw [hc, if_pos (by omega)]; simp [go_sem]
  · rw [hc, if_pos (by omega)]; simp [go_sem]
  · rw [hc, if_pos (by omega), alloc_cell, if_neg (by simp), if_pos (by simp)]; exact zero16_at j hj
  · rw [hc, if_pos (by omega), alloc_cell, if_pos (by simp), alloc_cell, if_neg (by simp), if_pos (by simp)]; exact zero16_at j hj
  · rw [hf, if_pos (by omega)]; simp [go_sem]
  · rw [hf, if_pos (by omega)]; simp [go_sem]
theorem there_start {w w1 : World} (a b c d : Int) (hb : Below ((w.alloc (.cells #[.int .i64 a, .int .i64 b, .int .i64 c, .int .i64 d] 23)).alloc (.cells zero16.toArray 27)).heap.size ((w.alloc (.cells #[.int .i64 a, .int .i64 b, .int .i64 c, .int .i64 d] 23)).alloc (.cells zero16.toArray 27)) w1) :
    w1.there (w.heap.size + 1) 0 16 := by
  obtain ⟨hc, hf, hz⟩ := bcall hb
  simp only [World.size_alloc] at hc hf hz
  intro j hj
  rw [Nat.zero_add]
  refine ⟨?_, ?_⟩
  · rw [hc, if_pos (by omega), alloc_cell, if_neg (by simp), if_pos (by simp), zero16_at j hj]; rfl
  · rw [hf, if_pos (by omega)]; simp [go_sem]
theorem ps_start2 {w w1 : World} (a b c d : Int) (hb : Below ((w.alloc (.cells #[.int .i64 a, .int .i64 b, .int .i64 c, .int .i64 d] 23)).alloc (.cells zero16.toArray 27)).heap.size ((w.alloc (.cells #[.int .i64 a, .int .i64 b, .int .i64 c, .int .i64 d] 23)).alloc (.cells zero16.toArray 27)) w1) :
    PS w w1.heap.size a b c d (fun _ => 0) (w1.alloc (.cells zero16.toArray 27)) := by
  obtain ⟨hc, hf, hz⟩ := bcall hb
  simp only [World.size_alloc] at hc hf hz
  refine ⟨?_, ⟨by omega, by simp⟩, ⟨?_, ?_, ?_, ?_⟩, fun j hj => ?_, fun j hj => ?_, fun j => ?_, fun j => ?_⟩
  · (repeat' (first | (with_reducible exact Below.refl _ _) | (with_reducible refine Below.setCell ?_ (by first | omega | (simp; done) | (simp; omega)) _) | (with_reducible refine Below.alloc ?_ (by first | omega | (simp; done) | (simp; omega)) _) | (with_reducible refine Below.drew ?_) | (with_reducible refine below_drewN ?_ _) | (with_reducible refine Below.trans ?_ (Below.mono (by assumption) (by first | omega | (simp; done) | (simp; omega))))))
  · rw [alloc_cell, if_pos (by omega), hc, if_pos (by omega)]; simp [go_sem]
  · rw [alloc_cell, if_pos (by omega), hc, if_pos (by omega)]; simp [go_sem]
  · rw [alloc_cell, if_pos (by omega), hc, if_pos (by omega)]; simp [go_sem]
  · rw [alloc_cell, if_pos (by omega), hc, if_pos (by omega)]; simp [go_sem]
  · rw [alloc_cell, if_neg (by omega), if_pos rfl]; exact zero16_at j hj
  · rw [alloc_cell, if_pos (by omega), hc, if_pos (by omega), alloc_cell, if_neg (by simp), if_pos (by simp)]; exact zero16_at j hj
  · rw [alloc_frozen, if_pos (by omega), hf, if_pos (by omega)]; simp [go_sem]
  · rw [alloc_frozen, if_neg (by omega), if_pos rfl]
theorem pv_step (a b c d : Int) (m : Nat) (x : Int) (hx : x = spl (pop a b c d (m % 4)) (m / 4)) (i : Nat) : (if m = i then x else pv a b c d m i) = pv a b c d (m + 1) i := by
  unfold pv
  by_cases e : m = i
  · subst e; simp [hx]
  · rw [if_neg e]
    by_cases h : i < m
    · rw [if_pos h, if_pos (by omega)]
    · rw [if_neg h, if_neg (by omega)]
theorem rv_step (a b c d : Int) (m j : Nat) (x : Int) (hj : j % 4 * 4 + j / 4 = m) (hj2 : j < 16) (hx : x = spl (pop a b c d (j % 4)) (j / 4)) (i : Nat) (hi : i < 16) : (if j = i then x else rv a b c d m i) = rv a b c d (m + 1) i := by
  unfold rv
  by_cases e : j = i
  · subst e
    rw [if_pos rfl, if_pos (by omega), hx]
  · rw [if_neg e]
    by_cases h : i % 4 * 4 + i / 4 < m
    · rw [if_pos h, if_pos (by omega)]
    · rw [if_neg h, if_neg (by omega)]
theorem PS.at0 {w : World} {Q : Nat} {a b c d : Int} {f : Nat → Int} {wr : World} (h : PS w Q a b c d f wr) {j : Nat} (hj : j < 16) {x : Int} (e : f j = x) : wr.cell? ⟨Q, j, none⟩ = some (.int .i64 x) := by
  rw [h.2.2.2.1 j hj, e]

attribute [local irreducible] wpStill
set_option maxRecDepth 100000 in
set_option maxHeartbeats 8000000 in
theorem split_ok (a b c d : Int) (w : World) (h : Ok4 a b c d) :
    Calls Try.prog 14 #[.agg #[.int .i64 a, .int .i64 b, .int .i64 c, .int .i64 d]] w fun e w' => e = .returned (.tuple #[.agg #[.int .i64 (spl a 0), .int .i64 (spl b 0), .int .i64 (spl c 0), .int .i64 (spl d 0), .int .i64 (spl a 1), .int .i64 (spl b 1), .int .i64 (spl c 1), .int .i64 (spl d 1), .int .i64 (spl a 2), .int .i64 (spl b 2), .int .i64 (spl c 2), .int .i64 (spl d 2), .int .i64 (spl a 3), .int .i64 (spl b 3), .int .i64 (spl c 3), .int .i64 (spl d 3)], .int .i64 0]) ∧ Below w.heap.size w w' := by
  have H := Lib.hid h
  obtain ⟨p0, p1, p2, p3, p4⟩ := h
  go_enter Try.func14, Try.ntmps14
  go_wp2_with (first | (go_at_call 72; (with_reducible refine (valid_ok a b c d _ H.out).mono ?_); rintro e w1 ⟨rfl, hb⟩; obtain ⟨hc, hf, hz⟩ := bcall hb; (try simp at hc hf hz)))
  have P := ps_start a b c d hb
  clear hc hf hz hb
  have P' := Lib.hid (P.congr (g := pv a b c d (4 * 0)) (fun j _ => by simp [pv]))
  clear P
  go_loopw [12, 5, 16, 6, 7] (fun i _ _ _ _ wr => ∃ k : Nat, k ≤ 4 ∧ i = .int .i64 k ∧ Hid (PS w (w.heap.size + 1 + 1) a b c d (pv a b c d (4 * k)) wr)) (fun i _ _ _ _ _ => 4 - (intOf i).toNat)
  case atStart => exact ⟨0, by omega, rfl, P'⟩
  case round =>
    clear P'
    obtain ⟨k, hk, rfl, P⟩ := hrel
    by_cases hlk : k < 4
    · obtain ⟨wo, hwo⟩ : ∃ wo, wo = wr := ⟨_, rfl⟩
      subst hwo
      obtain ⟨c0, c1, c2, c3⟩ := P.out.2.2.1
      have k0 : (0 : Int) ≤ (k : Int) := by omega
      have k4 : (k : Int) < 4 := by omega
      go_wp2
      clear c0 c1 c2 c3
      go_loopw [16, 6, 7] (fun j _ _ wr => ∃ t : Nat, t ≤ 4 ∧ j = .int .i64 t ∧ Hid (PS w (w.heap.size + 1 + 1) a b c d (pv a b c d (4 * k + t)) wr)) (fun j _ _ _ => 4 - (intOf j).toNat)
      case atStart => exact ⟨0, by omega, rfl, P⟩
      case round =>
        clear P
        obtain ⟨t, ht, rfl, P⟩ := hrel
        have ht' : t = 0 ∨ t = 1 ∨ t = 2 ∨ t = 3 ∨ t = 4 := by omega
        rcases ht' with rfl | rfl | rfl | rfl | rfl
        · have e : wr.cell? ⟨w.heap.size + 1 + 1, k * 4, none⟩ = some (.int .i64 0) := P.out.at0 (by omega) (by unfold pv; rw [if_neg (by omega)])
          have f := P.out.2.2.2.2.2.2 (k * 4)
          have hx0 : 0 ≤ a % 4 := by omega
          by_cases q : (k : Int) < a % 4
          · go_wp2
            (refine still_tail 8 (by kernel_rfl) (by kernel_rfl) ?_; simp only [List.take_succ_cons, List.take_zero, List.drop_succ_cons, List.drop_zero]; (iterate 8 still_step); refine wpStill_nil ?_)
            go_wp2
            go_roundw
            case rel => exact ⟨1, by omega, by go_num, Lib.hid ((((P.out.set (k * 4) (a / 4)).drew).set (k * 4) (a / 4 + 1)).congr (fun y _ => by rw [← Nat.add_assoc (4 * k) 0 1, ← pv_step a b c d (4 * k + 0) (a / 4 + 1) (by rw [show (4 * k + 0) % 4 = 0 by omega, show (4 * k + 0) / 4 = k by omega]; show a / 4 + 1 = (a + 3 - k) / 4; omega) y]; rw [show k * 4 = 4 * k + 0 by omega]; by_cases z : 4 * k = y <;> simp [z]))⟩
            case measure => simp [intOf]
          · go_wp2
            go_roundw
            case rel => exact ⟨1, by omega, by go_num, Lib.hid ((P.out.set (k * 4) (a / 4)).congr (fun y _ => by rw [← Nat.add_assoc (4 * k) 0 1, ← pv_step a b c d (4 * k + 0) (a / 4) (by rw [show (4 * k + 0) % 4 = 0 by omega, show (4 * k + 0) / 4 = k by omega]; show a / 4 = (a + 3 - k) / 4; omega) y]; rw [show k * 4 = 4 * k + 0 by omega]))⟩
            case measure => simp [intOf]
        · have e : wr.cell? ⟨w.heap.size + 1 + 1, k * 4 + 1, none⟩ = some (.int .i64 0) := P.out.at0 (by omega) (by unfold pv; rw [if_neg (by omega)])
          have f := P.out.2.2.2.2.2.2 (k * 4 + 1)
          have hx0 : 0 ≤ b % 4 := by omega
          by_cases q : (k : Int) < b % 4
          · go_wp2
            (refine still_tail 8 (by kernel_rfl) (by kernel_rfl) ?_; simp only [List.take_succ_cons, List.take_zero, List.drop_succ_cons, List.drop_zero]; (iterate 8 still_step); refine wpStill_nil ?_)
            go_wp2
            go_roundw
            case rel => exact ⟨2, by omega, by go_num, Lib.hid ((((P.out.set (k * 4 + 1) (b / 4)).drew).set (k * 4 + 1) (b / 4 + 1)).congr (fun y _ => by rw [← Nat.add_assoc (4 * k) 1 1, ← pv_step a b c d (4 * k + 1) (b / 4 + 1) (by rw [show (4 * k + 1) % 4 = 1 by omega, show (4 * k + 1) / 4 = k by omega]; show b / 4 + 1 = (b + 3 - k) / 4; omega) y]; rw [show k * 4 + 1 = 4 * k + 1 by omega]; by_cases z : 4 * k + 1 = y <;> simp [z]))⟩
            case measure => simp [intOf]
          · go_wp2
            go_roundw
            case rel => exact ⟨2, by omega, by go_num, Lib.hid ((P.out.set (k * 4 + 1) (b / 4)).congr (fun y _ => by rw [← Nat.add_assoc (4 * k) 1 1, ← pv_step a b c d (4 * k + 1) (b / 4) (by rw [show (4 * k + 1) % 4 = 1 by omega, show (4 * k + 1) / 4 = k by omega]; show b / 4 = (b + 3 - k) / 4; omega) y]; rw [show k * 4 + 1 = 4 * k + 1 by omega]))⟩
            case measure => simp [intOf]
        · have e : wr.cell? ⟨w.heap.size + 1 + 1, k * 4 + 2, none⟩ = some (.int .i64 0) := P.out.at0 (by omega) (by unfold pv; rw [if_neg (by omega)])
          have f := P.out.2.2.2.2.2.2 (k * 4 + 2)
          have hx0 : 0 ≤ c % 4 := by omega
          by_cases q : (k : Int) < c % 4
          · go_wp2
            (refine still_tail 8 (by kernel_rfl) (by kernel_rfl) ?_; simp only [List.take_succ_cons, List.take_zero, List.drop_succ_cons, List.drop_zero]; (iterate 8 still_step); refine wpStill_nil ?_)
            go_wp2
            go_roundw
            case rel => exact ⟨3, by omega, by go_num, Lib.hid ((((P.out.set (k * 4 + 2) (c / 4)).drew).set (k * 4 + 2) (c / 4 + 1)).congr (fun y _ => by rw [← Nat.add_assoc (4 * k) 2 1, ← pv_step a b c d (4 * k + 2) (c / 4 + 1) (by rw [show (4 * k + 2) % 4 = 2 by omega, show (4 * k + 2) / 4 = k by omega]; show c / 4 + 1 = (c + 3 - k) / 4; omega) y]; rw [show k * 4 + 2 = 4 * k + 2 by omega]; by_cases z : 4 * k + 2 = y <;> simp [z]))⟩
            case measure => simp [intOf]
          · go_wp2
            go_roundw
            case rel => exact ⟨3, by omega, by go_num, Lib.hid ((P.out.set (k * 4 + 2) (c / 4)).congr (fun y _ => by rw [← Nat.add_assoc (4 * k) 2 1, ← pv_step a b c d (4 * k + 2) (c / 4) (by rw [show (4 * k + 2) % 4 = 2 by omega, show (4 * k + 2) / 4 = k by omega]; show c / 4 = (c + 3 - k) / 4; omega) y]; rw [show k * 4 + 2 = 4 * k + 2 by omega]))⟩
            case measure => simp [intOf]
        · have e : wr.cell? ⟨w.heap.size + 1 + 1, k * 4 + 3, none⟩ = some (.int .i64 0) := P.out.at0 (by omega) (by unfold pv; rw [if_neg (by omega)])
          have f := P.out.2.2.2.2.2.2 (k * 4 + 3)
          have hx0 : 0 ≤ d % 4 := by omega
          by_cases q : (k : Int) < d % 4
          · go_wp2
            (refine still_tail 8 (by kernel_rfl) (by kernel_rfl) ?_; simp only [List.take_succ_cons, List.take_zero, List.drop_succ_cons, List.drop_zero]; (iterate 8 still_step); refine wpStill_nil ?_)
            go_wp2
            go_roundw
            case rel => exact ⟨4, by omega, by go_num, Lib.hid ((((P.out.set (k * 4 + 3) (d / 4)).drew).set (k * 4 + 3) (d / 4 + 1)).congr (fun y _ => by rw [← Nat.add_assoc (4 * k) 3 1, ← pv_step a b c d (4 * k + 3) (d / 4 + 1) (by rw [show (4 * k + 3) % 4 = 3 by omega, show (4 * k + 3) / 4 = k by omega]; show d / 4 + 1 = (d + 3 - k) / 4; omega) y]; rw [show k * 4 + 3 = 4 * k + 3 by omega]; by_cases z : 4 * k + 3 = y <;> simp [z]))⟩
            case measure => simp [intOf]
          · go_wp2
            go_roundw
            case rel => exact ⟨4, by omega, by go_num, Lib.hid ((P.out.set (k * 4 + 3) (d / 4)).congr (fun y _ => by rw [← Nat.add_assoc (4 * k) 3 1, ← pv_step a b c d (4 * k + 3) (d / 4) (by rw [show (4 * k + 3) % 4 = 3 by omega, show (4 * k + 3) / 4 = k by omega]; show d / 4 = (d + 3 - k) / 4; omega) y]; rw [show k * 4 + 3 = 4 * k + 3 by omega]))⟩
            case measure => simp [intOf]
        · go_wp2
          go_roundw
          case rel => exact ⟨k + 1, by omega, by go_num, Lib.hid (P.out.congr (fun j _ => by rw [Nat.mul_add]))⟩
          case measure => simp [intOf]; omega
    · obtain rfl : k = 4 := by omega
      have HR := Lib.hid (P.out.range (fun j hj => by unfold pv; rw [if_pos (by omega)]))
      have HT := Lib.hid P.out.there
      have HB := Lib.hid P.out.1
      clear P
      go_wp2_with (first | (refine wpList_load_mid rfl 27 _ rfl (w.heap.size + 1 + 1) 0 rfl (sp16 a b c d) _ HR.out Try.underlying27 rfl info16 ?_) | (refine wpList_store_mid rfl 27 _ _ rfl (w.heap.size + 1) 0 (sp16 a b c d).toArray rfl rfl HT.out info16 one_of_map ?_))
      refine bodyPost_ret (v := .tuple #[.agg (sp16 a b c d).toArray, .int .i64 0]) (res_two Try.results14 rfl rfl (World.rangeAt_setCells_same _ _ _ (sp16 a b c d) HT.out) Try.underlying27 rfl info16) rfl ⟨rfl, ?_⟩
      exact Below.setCells (by omega) _ _ HB.out
set_option maxRecDepth 100000 in
set_option maxHeartbeats 8000000 in
theorem split_bad (a b c d : Int) (w : World) (h : ¬ Ok4 a b c d) :
    Calls Try.prog 14 #[.agg #[.int .i64 a, .int .i64 b, .int .i64 c, .int .i64 d]] w fun e w' => e = .returned (.tuple #[.agg zero16.toArray, .int .i64 1]) ∧ Below w.heap.size w w' := by
  have H := Lib.hid h
  clear h
  go_enter Try.func14, Try.ntmps14
  go_wp2_with (first | ((go_at_call 72; (with_reducible refine (valid_bad a b c d _ H.out).mono ?_); rintro e w1 ⟨rfl, hb⟩; obtain ⟨hc, hf, hz⟩ := bcall hb; (try simp at hc hf hz)); have P := ps_start a b c d hb; have HR := Lib.hid P.zrange; have HT := Lib.hid P.there; have HB := Lib.hid P.1; clear P hc hf hz hb) | (refine wpList_load_mid rfl 27 _ rfl (w.heap.size + 1 + 1) 0 rfl zero16 _ HR.out Try.underlying27 rfl info16 ?_) | (refine wpList_store_mid rfl 27 _ _ rfl (w.heap.size + 1) 0 zero16.toArray rfl rfl HT.out info16 one_of_map ?_))
  refine bodyPost_ret (v := .tuple #[.agg zero16.toArray, .int .i64 1]) (res_two Try.results14 rfl rfl (World.rangeAt_setCells_same _ _ _ zero16 HT.out) Try.underlying27 rfl info16) rfl ⟨rfl, ?_⟩
  exact Below.setCells (by omega) _ _ HB.out

set_option maxRecDepth 100000 in
set_option maxHeartbeats 8000000 in
theorem refSplit_bad (a b c d : Int) (w : World) (h : ¬ Ok4 a b c d) :
    Calls Try.prog 15 #[.agg #[.int .i64 a, .int .i64 b, .int .i64 c, .int .i64 d]] w fun e w' => e = .returned (.tuple #[.agg zero16.toArray, .int .i64 1]) ∧ Below w.heap.size w w' := by
  have H := Lib.hid h
  clear h
  go_enter Try.func15, Try.ntmps15
  go_wp2_with (first | ((go_at_call 73; (with_reducible refine (refValid_bad a b c d _ H.out).mono ?_); rintro e w1 ⟨rfl, hb⟩; obtain ⟨hc, hf, hz⟩ := bcall hb; (try simp at hc hf hz)); have HT := Lib.hid (there_start a b c d hb); have HB := Lib.hid (show Below w.heap.size w w1 from by (repeat' (first | (with_reducible exact Below.refl _ _) | (with_reducible refine Below.setCell ?_ (by first | omega | (simp; done) | (simp; omega)) _) | (with_reducible refine Below.alloc ?_ (by first | omega | (simp; done) | (simp; omega)) _) | (with_reducible refine Below.drew ?_) | (with_reducible refine below_drewN ?_ _) | (with_reducible refine Below.trans ?_ (Below.mono (by assumption) (by first | omega | (simp; done) | (simp; omega))))))); clear hc hf hz hb) | (refine wpList_store_mid rfl 27 _ _ rfl (w.heap.size + 1) 0 zero16.toArray rfl rfl HT.out info16 one_of_map ?_))
  refine bodyPost_ret (v := .tuple #[.agg zero16.toArray, .int .i64 1]) (res_two Try.results15 rfl rfl (World.rangeAt_setCells_same _ _ _ zero16 HT.out) Try.underlying27 rfl info16) rfl ⟨rfl, ?_⟩
  exact Below.setCells (by omega) _ _ HB.out

set_option maxRecDepth 100000 in
set_option maxHeartbeats 8000000 in
theorem refSplit_ok (a b c d : Int) (w : World) (h : Ok4 a b c d) :
    Calls Try.prog 15 #[.agg #[.int .i64 a, .int .i64 b, .int .i64 c, .int .i64 d]] w fun e w' => e = .returned (.tuple #[.agg #[.int .i64 (spl a 0), .int .i64 (spl b 0), .int .i64 (spl c 0), .int .i64 (spl d 0), .int .i64 (spl a 1), .int .i64 (spl b 1), .int .i64 (spl c 1), .int .i64 (spl d 1), .int .i64 (spl a 2), .int .i64 (spl b 2), .int .i64 (spl c 2), .int .i64 (spl d 2), .int .i64 (spl a 3), .int .i64 (spl b 3), .int .i64 (spl c 3), .int .i64 (spl d 3)], .int .i64 0]) ∧ Below w.heap.size w w' := by
  have H := Lib.hid h
  obtain ⟨p0, p1, p2, p3, p4⟩ := h
  go_enter Try.func15, Try.ntmps15
  go_wp2_with (first | (go_at_call 73; (with_reducible refine (refValid_ok a b c d _ H.out).mono ?_); rintro e w1 ⟨rfl, hb⟩; obtain ⟨hc, hf, hz⟩ := bcall hb; (try simp at hc hf hz)))
  have P := ps_start2 a b c d hb
  clear hc hf hz hb
  obtain ⟨Q, hQ⟩ : ∃ Q, Q = w1.heap.size := ⟨_, rfl⟩
  rw [← hQ] at P
  rw [← hQ]
  have P' := Lib.hid (P.congr (g := rv a b c d (4 * 0)) (fun j _ => by simp [rv]))
  clear P
  obtain ⟨w2, hw2⟩ : ∃ w2, w2 = w1.alloc (.cells zero16.toArray 27) := ⟨_, rfl⟩
  rw [← hw2] at P'
  have hw3 : (w1.alloc (.cells #[.int .i64 0, .int .i64 0, .int .i64 0, .int .i64 0, .int .i64 0, .int .i64 0, .int .i64 0, .int .i64 0, .int .i64 0, .int .i64 0, .int .i64 0, .int .i64 0, .int .i64 0, .int .i64 0, .int .i64 0, .int .i64 0] 27)) = w2 := hw2.symm
  rw [hw3]
  clear hw2 hw3 hQ
  go_loopw [5, 6] (fun i _ wr => ∃ k : Nat, k ≤ 4 ∧ i = .int .i64 k ∧ Hid (PS w Q a b c d (rv a b c d (4 * k)) wr)) (fun i _ _ => 4 - (intOf i).toNat)
  case atStart => exact ⟨0, by omega, rfl, P'⟩
  case round =>
    clear P'
    obtain ⟨k, hk, rfl, P⟩ := hrel
    obtain ⟨wo, hwo⟩ : ∃ wo, wo = wr := ⟨_, rfl⟩
    subst hwo
    have hk' : k = 0 ∨ k = 1 ∨ k = 2 ∨ k = 3 ∨ k = 4 := by omega
    rcases hk' with rfl | rfl | rfl | rfl | rfl
    · simp only [show ((0 : Nat) : Int) = 0 from rfl] at *
      go_wp2
      go_loopw [6] (fun j wr => ∃ k : Nat, k ≤ 4 ∧ j = .int .i64 k ∧ Hid (PS w Q a b c d (rv a b c d (0 + k)) wr)) (fun j _ => 4 - (intOf j).toNat)
      case atStart => exact ⟨0, by omega, rfl, P⟩
      case round =>
        clear P
        obtain ⟨k, hk, rfl, P⟩ := hrel
        by_cases hlk : k < 4
        · obtain ⟨c0, c1, c2, c3⟩ := P.out.2.2.1
          obtain ⟨q1, q2⟩ := P.out.2.1
          have k0 : (0 : Int) ≤ (k : Int) := by omega
          have k4 : (k : Int) < 4 := by omega
          have e : wr.cell? ⟨Q, k * 4, none⟩ = some (.int .i64 0) := P.out.at0 (by omega) (by unfold rv; rw [if_neg (by omega)])
          have f := P.out.2.2.2.2.2.2 (k * 4)
          have tq : (a + 3 - (k : Int)).tdiv 4 = (a + 3 - (k : Int)) / 4 := Int.tdiv_eq_ediv_of_nonneg (by omega)
          go_wp2
          (refine still_tail 11 (by kernel_rfl) (by kernel_rfl) ?_; simp only [List.take_succ_cons, List.take_zero, List.drop_succ_cons, List.drop_zero]; (iterate 11 still_step); refine wpStill_nil ?_)
          go_wp2
          go_roundw
          case rel => exact ⟨k + 1, by omega, by go_num, Lib.hid ((P.out.set (k * 4) ((a + 3 - k) / 4)).drew.congr (fun y hy => by rw [← Nat.add_assoc, ← rv_step a b c d (0 + k) (k * 4) ((a + 3 - k) / 4) (by omega) (by omega) (by rw [show (k * 4) % 4 = 0 by omega, show (k * 4) / 4 = k by omega]; rfl) y hy]))⟩
          case measure => simp [intOf]; omega
        · obtain rfl : k = 4 := by omega
          go_wp2
          go_roundw
          case rel => exact ⟨1, by omega, by go_num, P⟩
          case measure => simp [intOf]
    · simp only [show ((1 : Nat) : Int) = 1 from rfl] at *
      go_wp2
      go_loopw [6] (fun j wr => ∃ k : Nat, k ≤ 4 ∧ j = .int .i64 k ∧ Hid (PS w Q a b c d (rv a b c d (4 + k)) wr)) (fun j _ => 4 - (intOf j).toNat)
      case atStart => exact ⟨0, by omega, rfl, P⟩
      case round =>
        clear P
        obtain ⟨k, hk, rfl, P⟩ := hrel
        by_cases hlk : k < 4
        · obtain ⟨c0, c1, c2, c3⟩ := P.out.2.2.1
          obtain ⟨q1, q2⟩ := P.out.2.1
          have k0 : (0 : Int) ≤ (k : Int) := by omega
          have k4 : (k : Int) < 4 := by omega
          have e : wr.cell? ⟨Q, k * 4 + 1, none⟩ = some (.int .i64 0) := P.out.at0 (by omega) (by unfold rv; rw [if_neg (by omega)])
          have f := P.out.2.2.2.2.2.2 (k * 4 + 1)
          have tq : (b + 3 - (k : Int)).tdiv 4 = (b + 3 - (k : Int)) / 4 := Int.tdiv_eq_ediv_of_nonneg (by omega)
          go_wp2
          (refine still_tail 11 (by kernel_rfl) (by kernel_rfl) ?_; simp only [List.take_succ_cons, List.take_zero, List.drop_succ_cons, List.drop_zero]; (iterate 11 still_step); refine wpStill_nil ?_)
          go_wp2
          go_roundw
          case rel => exact ⟨k + 1, by omega, by go_num, Lib.hid ((P.out.set (k * 4 + 1) ((b + 3 - k) / 4)).drew.congr (fun y hy => by rw [← Nat.add_assoc, ← rv_step a b c d (4 + k) (k * 4 + 1) ((b + 3 - k) / 4) (by omega) (by omega) (by rw [show (k * 4 + 1) % 4 = 1 by omega, show (k * 4 + 1) / 4 = k by omega]; rfl) y hy]))⟩
          case measure => simp [intOf]; omega
        · obtain rfl : k = 4 := by omega
          go_wp2
          go_roundw
          case rel => exact ⟨2, by omega, by go_num, P⟩
          case measure => simp [intOf]
    · simp only [show ((2 : Nat) : Int) = 2 from rfl] at *
      go_wp2
      go_loopw [6] (fun j wr => ∃ k : Nat, k ≤ 4 ∧ j = .int .i64 k ∧ Hid (PS w Q a b c d (rv a b c d (8 + k)) wr)) (fun j _ => 4 - (intOf j).toNat)
      case atStart => exact ⟨0, by omega, rfl, P⟩
      case round =>
        clear P
        obtain ⟨k, hk, rfl, P⟩ := hrel
        by_cases hlk : k < 4
        · obtain ⟨c0, c1, c2, c3⟩ := P.out.2.2.1
          obtain ⟨q1, q2⟩ := P.out.2.1
          have k0 : (0 : Int) ≤ (k : Int) := by omega
          have k4 : (k : Int) < 4 := by omega
          have e : wr.cell? ⟨Q, k * 4 + 2, none⟩ = some (.int .i64 0) := P.out.at0 (by omega) (by unfold rv; rw [if_neg (by omega)])
          have f := P.out.2.2.2.2.2.2 (k * 4 + 2)
          have tq : (c + 3 - (k : Int)).tdiv 4 = (c + 3 - (k : Int)) / 4 := Int.tdiv_eq_ediv_of_nonneg (by omega)
          go_wp2
          (refine still_tail 11 (by kernel_rfl) (by kernel_rfl) ?_; simp only [List.take_succ_cons, List.take_zero, List.drop_succ_cons, List.drop_zero]; (iterate 11 still_step); refine wpStill_nil ?_)
          go_wp2
          go_roundw
          case rel => exact ⟨k + 1, by omega, by go_num, Lib.hid ((P.out.set (k * 4 + 2) ((c + 3 - k) / 4)).drew.congr (fun y hy => by rw [← Nat.add_assoc, ← rv_step a b c d (8 + k) (k * 4 + 2) ((c + 3 - k) / 4) (by omega) (by omega) (by rw [show (k * 4 + 2) % 4 = 2 by omega, show (k * 4 + 2) / 4 = k by omega]; rfl) y hy]))⟩
          case measure => simp [intOf]; omega
        · obtain rfl : k = 4 := by omega
          go_wp2
          go_roundw
          case rel => exact ⟨3, by omega, by go_num, P⟩
          case measure => simp [intOf]
    · simp only [show ((3 : Nat) : Int) = 3 from rfl] at *
      go_wp2
      go_loopw [6] (fun j wr => ∃ k : Nat, k ≤ 4 ∧ j = .int .i64 k ∧ Hid (PS w Q a b c d (rv a b c d (12 + k)) wr)) (fun j _ => 4 - (intOf j).toNat)
      case atStart => exact ⟨0, by omega, rfl, P⟩
      case round =>
        clear P
        obtain ⟨k, hk, rfl, P⟩ := hrel
        by_cases hlk : k < 4
        · obtain ⟨c0, c1, c2, c3⟩ := P.out.2.2.1
          obtain ⟨q1, q2⟩ := P.out.2.1
          have k0 : (0 : Int) ≤ (k : Int) := by omega
          have k4 : (k : Int) < 4 := by omega
          have e : wr.cell? ⟨Q, k * 4 + 3, none⟩ = some (.int .i64 0) := P.out.at0 (by omega) (by unfold rv; rw [if_neg (by omega)])
          have f := P.out.2.2.2.2.2.2 (k * 4 + 3)
          have tq : (d + 3 - (k : Int)).tdiv 4 = (d + 3 - (k : Int)) / 4 := Int.tdiv_eq_ediv_of_nonneg (by omega)
          go_wp2
          (refine still_tail 11 (by kernel_rfl) (by kernel_rfl) ?_; simp only [List.take_succ_cons, List.take_zero, List.drop_succ_cons, List.drop_zero]; (iterate 11 still_step); refine wpStill_nil ?_)
          go_wp2
          go_roundw
          case rel => exact ⟨k + 1, by omega, by go_num, Lib.hid ((P.out.set (k * 4 + 3) ((d + 3 - k) / 4)).drew.congr (fun y hy => by rw [← Nat.add_assoc, ← rv_step a b c d (12 + k) (k * 4 + 3) ((d + 3 - k) / 4) (by omega) (by omega) (by rw [show (k * 4 + 3) % 4 = 3 by omega, show (k * 4 + 3) / 4 = k by omega]; rfl) y hy]))⟩
          case measure => simp [intOf]; omega
        · obtain rfl : k = 4 := by omega
          go_wp2
          go_roundw
          case rel => exact ⟨4, by omega, by go_num, P⟩
          case measure => simp [intOf]
    · have q2 := P.out.2.1.1
      have HR := Lib.hid (P.out.range (fun j hj => by unfold rv; rw [if_pos (by omega)]))
      have HT := Lib.hid P.out.there
      have HB := Lib.hid P.out.1
      clear P
      go_wp2_with (first | (refine wpList_load_mid rfl 27 _ rfl Q 0 rfl (sp16 a b c d) _ HR.out Try.underlying27 rfl info16 ?_) | (refine wpList_store_mid rfl 27 _ _ rfl (w.heap.size + 1) 0 (sp16 a b c d).toArray rfl rfl HT.out info16 one_of_map ?_))
      refine bodyPost_ret (v := .tuple #[.agg (sp16 a b c d).toArray, .int .i64 0]) (res_two Try.results15 rfl rfl (World.rangeAt_setCells_same _ _ _ (sp16 a b c d) HT.out) Try.underlying27 rfl info16) rfl ⟨rfl, ?_⟩
      exact Below.setCells (by omega) _ _ HB.out
end Go.Proofs.Ytpnfppcmklcinaa
