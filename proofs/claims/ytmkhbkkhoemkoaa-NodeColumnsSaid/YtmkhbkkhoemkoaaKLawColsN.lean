/- The law NodeColumns: the walk. -/
import Derived.Test.YtmkhbkkhoemkoaaKRefCols
import Derived.Test.YtmkhbkkhoemkoaaKChart
import Derived.Test.YtmkhbkkhoemkoaaKSameN
import Derived.Test.YtmkhbkkhoemkoaaKAwakeN
namespace Go.Proofs.Ytmkhbkkhoemkoaa
set_option linter.unusedSimpArgs false
set_option linter.unusedVariables false
open Go.ChangeShapes Go.WideShapes Go.ChangeAt Go.RowKit Go.Joins Go.Deep

theorem numsIn_nil (w : World) (K : Nat → Int) : NumsIn w none 0 K := Or.inl rfl
theorem numsIn_of {w : World} {g n : Nat} {K : Nat → Int} (h : NumsAt w g 0 n K) (hg : g < w.heap.size) : NumsIn w (some ⟨g, 0, none⟩) n K := Or.inr ⟨g, 0, rfl, hg, h⟩

set_option maxRecDepth 100000 in
set_option maxHeartbeats 4000000 in
theorem validMap_in (W H n cap : Nat) (ao : Option Addr) (G : Nat → Nat → Int) (b off oc : Nat) (K : Nat → Int) (o : Nat → Nat) (w : World) (s : Sides W H n) (hG : OkG n G) (hC : CellsIn w ao n G) (hb : b < w.heap.size) (hK : NumsAt w b off n K) (ho : ∀ i, i < n → K i = (o i : Int) ∧ o i < 8) :
    Calls Try.prog 10 #[.agg #[.int .i64 W, .int .i64 H, .slice (ao) n cap], .slice (some ⟨b, off, none⟩) n oc] w fun e w' => e = .returned (.bool true) ∧ Below w.heap.size w w' := by
  have CH := Lib.hid (fun w' (hb' : Below w.heap.size w w') => chartOf_ok W H n cap ao G b off oc K o w' s hG (hC.below hb') (Nat.lt_of_lt_of_le hb hb'.size) (hK.below hb' hb) ho)
  clear s hG hC hb hK ho
  go_enter Try.func10, Try.ntmps10
  go_wp2_with (go_at_call 23; (with_reducible refine (CH.out _ (by (repeat' (first | (with_reducible exact Below.refl _ _) | (with_reducible refine Below.setCell ?_ (by first | omega | (simp; done) | (simp; omega)) _) | (with_reducible refine Below.alloc ?_ (by first | omega | (simp; done) | (simp; omega)) _) | (with_reducible refine Below.drew ?_) | (with_reducible refine below_drewN ?_ _) | (with_reducible refine Below.trans ?_ (Below.mono (by assumption) (by first | omega | (simp; done) | (simp; omega)))))))).mono ?_); rintro e w1 ⟨C, q, f, cf, t, ct, rfl, hh, hC, hb1⟩; obtain ⟨hc, hf, hz⟩ := bcall hb1; (try simp at hc hf hz))
  go_ret
  refine ⟨by simp, ?_⟩
  (repeat' (first | (with_reducible exact Below.refl _ _) | (with_reducible refine Below.setCell ?_ (by first | omega | (simp; done) | (simp; omega)) _) | (with_reducible refine Below.alloc ?_ (by first | omega | (simp; done) | (simp; omega)) _) | (with_reducible refine Below.drew ?_) | (with_reducible refine below_drewN ?_ _) | (with_reducible refine Below.trans ?_ (Below.mono (by assumption) (by first | omega | (simp; done) | (simp; omega))))))

set_option maxRecDepth 100000 in
set_option maxHeartbeats 4000000 in
theorem nodeColumns_big (W H : Int) (ao : Option Addr) (n cap : Nat) (zo : Option Addr) (m zc : Nat) (w : World) (hn : n ≤ cap) (hc : cap ≤ maxLen) (h : 1200 < n) :
    Calls Try.prog 3 #[.agg #[.int .i64 W, .int .i64 H, .slice (ao) n cap], .slice zo m zc] w fun e w' => e = .returned (.bool true) ∧ Below w.heap.size w w' := by
  have h1 : n ≤ 9223372036854775807 := Nat.le_trans hn (Nat.le_trans hc (by unfold maxLen; omega))
  go_enter Try.func3, Try.ntmps3
  go_wp2_with (go_at_call 6; (with_reducible refine (awakeN_any _).mono ?_); rintro e w1 ⟨rfl, hb⟩; obtain ⟨hc, hf, hz⟩ := bcall hb; (try simp at hc hf hz))
  go_ret
  refine ⟨rfl, ?_⟩
  (repeat' (first | (with_reducible exact Below.refl _ _) | (with_reducible refine Below.setCell ?_ (by first | omega | (simp; done) | (simp; omega)) _) | (with_reducible refine Below.alloc ?_ (by first | omega | (simp; done) | (simp; omega)) _) | (with_reducible refine Below.drew ?_) | (with_reducible refine below_drewN ?_ _) | (with_reducible refine Below.trans ?_ (Below.mono (by assumption) (by first | omega | (simp; done) | (simp; omega))))))
set_option maxRecDepth 100000 in
set_option maxHeartbeats 4000000 in
theorem nodeColumns_long (W H : Int) (ao : Option Addr) (n cap : Nat) (zo : Option Addr) (m zc : Nat) (w : World) (hn : n ≤ 1200) (hm : m ≤ zc) (hc : zc ≤ maxLen) (h : 40 < m) :
    Calls Try.prog 3 #[.agg #[.int .i64 W, .int .i64 H, .slice (ao) n cap], .slice zo m zc] w fun e w' => e = .returned (.bool true) ∧ Below w.heap.size w w' := by
  have h1 : m ≤ 9223372036854775807 := Nat.le_trans hm (Nat.le_trans hc (by unfold maxLen; omega))
  go_enter Try.func3, Try.ntmps3
  go_wp2_with (go_at_call 6; (with_reducible refine (awakeN_any _).mono ?_); rintro e w1 ⟨rfl, hb⟩; obtain ⟨hc, hf, hz⟩ := bcall hb; (try simp at hc hf hz))
  go_ret
  refine ⟨rfl, ?_⟩
  (repeat' (first | (with_reducible exact Below.refl _ _) | (with_reducible refine Below.setCell ?_ (by first | omega | (simp; done) | (simp; omega)) _) | (with_reducible refine Below.alloc ?_ (by first | omega | (simp; done) | (simp; omega)) _) | (with_reducible refine Below.drew ?_) | (with_reducible refine below_drewN ?_ _) | (with_reducible refine Below.trans ?_ (Below.mono (by assumption) (by first | omega | (simp; done) | (simp; omega))))))

set_option maxRecDepth 100000 in
set_option maxHeartbeats 4000000 in
/-- Both refuse. -/
theorem nodeColumns_ref (W H : Int) (ao : Option Addr) (n cap : Nat) (zo : Option Addr) (m zc : Nat) (x : Int) (w : World) (hn : n ≤ 1200) (hm : m ≤ 40) (hx : x = 1 ∨ x = 7)
    (P : ∀ w', Below w.heap.size w w' → Calls Try.prog 7 #[.agg #[.int .i64 W, .int .i64 H, .slice (ao) n cap], .slice zo m zc] w' fun e w'' => e = .returned (.tuple #[.slice none 0 0, .int .i64 x]) ∧ Below w'.heap.size w' w'')
    (Q : ∀ w', Below w.heap.size w w' → Calls Try.prog 8 #[.agg #[.int .i64 W, .int .i64 H, .slice (ao) n cap], .slice zo m zc] w' fun e w'' => e = .returned (.tuple #[.slice none 0 0, .int .i64 x]) ∧ Below w'.heap.size w' w'') :
    Calls Try.prog 3 #[.agg #[.int .i64 W, .int .i64 H, .slice (ao) n cap], .slice zo m zc] w fun e w' => e = .returned (.bool true) ∧ Below w.heap.size w w' := by
  have HP := Lib.hid P; clear P
  have HQ := Lib.hid Q; clear Q
  have hx0 : ¬ x = 0 := by omega
  have hx1 : (x != 0) = true := by simp [hx0]
  clear hx
  go_enter Try.func3, Try.ntmps3
  go_wp2_with fail
  (go_at_call 7; (with_reducible refine (HP.out _ (by (repeat' (first | (with_reducible exact Below.refl _ _) | (with_reducible refine Below.setCell ?_ (by first | omega | (simp; done) | (simp; omega)) _) | (with_reducible refine Below.alloc ?_ (by first | omega | (simp; done) | (simp; omega)) _) | (with_reducible refine Below.drew ?_) | (with_reducible refine below_drewN ?_ _) | (with_reducible refine Below.trans ?_ (Below.mono (by assumption) (by first | omega | (simp; done) | (simp; omega)))))))).mono ?_); rintro e wa ⟨rfl, hba⟩; obtain ⟨hca, hfa, hza⟩ := bcall hba; (try simp at hca hfa hza))
  go_wp2_with fail
  (go_at_call 8; (with_reducible refine (HQ.out _ (by (repeat' (first | (with_reducible exact Below.refl _ _) | (with_reducible refine Below.setCell ?_ (by first | omega | (simp; done) | (simp; omega)) _) | (with_reducible refine Below.alloc ?_ (by first | omega | (simp; done) | (simp; omega)) _) | (with_reducible refine Below.drew ?_) | (with_reducible refine below_drewN ?_ _) | (with_reducible refine Below.trans ?_ (Below.mono (by assumption) (by first | omega | (simp; done) | (simp; omega)))))))).mono ?_); rintro e wb ⟨rfl, hbb⟩; obtain ⟨hcb, hfb, hzb⟩ := bcall hbb; (try simp at hcb hfb hzb))
  go_wp2_with fail
  ((go_at_call 9; (with_reducible refine (sameNums_yes none none 0 0 0 (fun _ => 0) _ (by omega) (numsIn_nil _ _) (numsIn_nil _ _)).mono ?_); rintro e w1 ⟨rfl, hb⟩; obtain ⟨hc, hf, hz⟩ := bcall hb; (try simp at hc hf hz)))
  go_wp2_with (go_at_call 6; (with_reducible refine (awakeN_any _).mono ?_); rintro e w1 ⟨rfl, hb⟩; obtain ⟨hc, hf, hz⟩ := bcall hb; (try simp at hc hf hz))
  go_ret
  refine ⟨by simp, ?_⟩
  (repeat' (first | (with_reducible exact Below.refl _ _) | (with_reducible refine Below.setCell ?_ (by first | omega | (simp; done) | (simp; omega)) _) | (with_reducible refine Below.alloc ?_ (by first | omega | (simp; done) | (simp; omega)) _) | (with_reducible refine Below.drew ?_) | (with_reducible refine below_drewN ?_ _) | (with_reducible refine Below.trans ?_ (Below.mono (by assumption) (by first | omega | (simp; done) | (simp; omega))))))

set_option maxRecDepth 100000 in
set_option maxHeartbeats 4000000 in
/-- Both give the owners. -/
theorem nodeColumns_give (W H n cap : Nat) (ao : Option Addr) (G : Nat → Nat → Int) (zo : Option Addr) (m zc : Nat) (o : Nat → Nat) (w : World) (hn : n ≤ 1200) (hm : m ≤ 40)
    (P : ∀ w', Below w.heap.size w w' → Calls Try.prog 7 #[.agg #[.int .i64 W, .int .i64 H, .slice (ao) n cap], .slice zo m zc] w' (Colsd n (fun i => (o i : Nat)) w'))
    (Q : ∀ w', Below w.heap.size w w' → Calls Try.prog 8 #[.agg #[.int .i64 W, .int .i64 H, .slice (ao) n cap], .slice zo m zc] w' (RCols n (fun i => (o i : Nat)) w'))
    (V : ∀ w' g c, Below w.heap.size w w' → g < w'.heap.size → NumsAt w' g 0 n (fun i => (o i : Nat)) → Calls Try.prog 10 #[.agg #[.int .i64 W, .int .i64 H, .slice (ao) n cap], .slice (some ⟨g, 0, none⟩) n c] w' fun e w'' => e = .returned (.bool true) ∧ Below w'.heap.size w' w'') :
    Calls Try.prog 3 #[.agg #[.int .i64 W, .int .i64 H, .slice (ao) n cap], .slice zo m zc] w fun e w' => e = .returned (.bool true) ∧ Below w.heap.size w w' := by
  have HP := Lib.hid P; clear P
  have HQ := Lib.hid Q; clear Q
  have HV := Lib.hid V; clear V
  go_enter Try.func3, Try.ntmps3
  go_wp2_with fail
  (go_at_call 7; (with_reducible refine (HP.out _ (by (repeat' (first | (with_reducible exact Below.refl _ _) | (with_reducible refine Below.setCell ?_ (by first | omega | (simp; done) | (simp; omega)) _) | (with_reducible refine Below.alloc ?_ (by first | omega | (simp; done) | (simp; omega)) _) | (with_reducible refine Below.drew ?_) | (with_reducible refine below_drewN ?_ _) | (with_reducible refine Below.trans ?_ (Below.mono (by assumption) (by first | omega | (simp; done) | (simp; omega)))))))).mono ?_); rintro e wa ⟨g, c, rfl, Ha, la, hba⟩; obtain ⟨hca, hfa, hza⟩ := bcall hba; (try simp at hca hfa hza))
  go_wp2_with fail
  (go_at_call 8; (with_reducible refine (HQ.out _ (by (repeat' (first | (with_reducible exact Below.refl _ _) | (with_reducible refine Below.setCell ?_ (by first | omega | (simp; done) | (simp; omega)) _) | (with_reducible refine Below.alloc ?_ (by first | omega | (simp; done) | (simp; omega)) _) | (with_reducible refine Below.drew ?_) | (with_reducible refine below_drewN ?_ _) | (with_reducible refine Below.trans ?_ (Below.mono (by assumption) (by first | omega | (simp; done) | (simp; omega)))))))).mono ?_); rintro e wb ⟨ro, rc, rfl, Hb, hbb⟩; obtain ⟨hcb, hfb, hzb⟩ := bcall hbb; (try simp at hcb hfb hzb))
  go_wp2_with fail
  ((go_at_call 9; (with_reducible refine (sameNums_yes (some ⟨g, 0, none⟩) ro n c rc (fun i => (o i : Nat)) _ (by omega) ((numsIn_of Ha.out.1 Ha.out.2).below (by (repeat' (first | (with_reducible exact Below.refl _ _) | (with_reducible refine Below.setCell ?_ (by first | omega | (simp; done) | (simp; omega)) _) | (with_reducible refine Below.alloc ?_ (by first | omega | (simp; done) | (simp; omega)) _) | (with_reducible refine Below.drew ?_) | (with_reducible refine below_drewN ?_ _) | (with_reducible refine Below.trans ?_ (Below.mono (by assumption) (by first | omega | (simp; done) | (simp; omega)))))))) (Hb.out.below (by (repeat' (first | (with_reducible exact Below.refl _ _) | (with_reducible refine Below.setCell ?_ (by first | omega | (simp; done) | (simp; omega)) _) | (with_reducible refine Below.alloc ?_ (by first | omega | (simp; done) | (simp; omega)) _) | (with_reducible refine Below.drew ?_) | (with_reducible refine below_drewN ?_ _) | (with_reducible refine Below.trans ?_ (Below.mono (by assumption) (by first | omega | (simp; done) | (simp; omega))))))))).mono ?_); rintro e w1 ⟨rfl, hb⟩; obtain ⟨hc, hf, hz⟩ := bcall hb; (try simp at hc hf hz)))
  go_wp2_with fail
  ((go_at_call 10; (with_reducible refine (HV.out _ g c (by (repeat' (first | (with_reducible exact Below.refl _ _) | (with_reducible refine Below.setCell ?_ (by first | omega | (simp; done) | (simp; omega)) _) | (with_reducible refine Below.alloc ?_ (by first | omega | (simp; done) | (simp; omega)) _) | (with_reducible refine Below.drew ?_) | (with_reducible refine below_drewN ?_ _) | (with_reducible refine Below.trans ?_ (Below.mono (by assumption) (by first | omega | (simp; done) | (simp; omega))))))) (by have := Ha.out.2; omega) (Ha.out.1.below (m := wa.heap.size) (by (repeat' (first | (with_reducible exact Below.refl _ _) | (with_reducible refine Below.setCell ?_ (by first | omega | (simp; done) | (simp; omega)) _) | (with_reducible refine Below.alloc ?_ (by first | omega | (simp; done) | (simp; omega)) _) | (with_reducible refine Below.drew ?_) | (with_reducible refine below_drewN ?_ _) | (with_reducible refine Below.trans ?_ (Below.mono (by assumption) (by first | omega | (simp; done) | (simp; omega))))))) Ha.out.2)).mono ?_); rintro e w1 ⟨rfl, hb⟩; obtain ⟨hc, hf, hz⟩ := bcall hb; (try simp at hc hf hz)))
  go_wp2_with (go_at_call 6; (with_reducible refine (awakeN_any _).mono ?_); rintro e w1 ⟨rfl, hb⟩; obtain ⟨hc, hf, hz⟩ := bcall hb; (try simp at hc hf hz))
  go_ret
  refine ⟨by simp, ?_⟩
  (repeat' (first | (with_reducible exact Below.refl _ _) | (with_reducible refine Below.setCell ?_ (by first | omega | (simp; done) | (simp; omega)) _) | (with_reducible refine Below.alloc ?_ (by first | omega | (simp; done) | (simp; omega)) _) | (with_reducible refine Below.drew ?_) | (with_reducible refine below_drewN ?_ _) | (with_reducible refine Below.trans ?_ (Below.mono (by assumption) (by first | omega | (simp; done) | (simp; omega))))))

section
variable {HH : Type} {enc : TypeId × Value → HH} {w : World}
set_option maxRecDepth 100000 in
theorem open_ints {r : Reach} {base : Nat} {v : Value} {d : DataW HH} {p : List MemPlace} (hv : Value.okWide Try.prog w r base 25 v) (h : DataW.Trod enc Try.prog w 0 (fun _ => true) true 25 v d p) :
    ∃ (ao : Option Addr) (n cap : Nat) (K : Nat → Int), v = .slice ao n cap ∧ n ≤ cap ∧ cap ≤ maxLen ∧ NumsIn w ao n K ∧ ∀ i, i < n → Wf (K i) := by
  obtain ⟨ao, len, cap, rfl⟩ := okWide_slice Try.underlying25 hv
  obtain ⟨fuel, hf⟩ := h
  exact open_nums hf
end

/-- The law. -/
theorem nodeColumns_row (W H : Int) (ao : Option Addr) (n cap : Nat) (G : Nat → Nat → Int) (zo : Option Addr) (m zc : Nat) (Z : Nat → Int) (w : World) (_ : Wf W) (_ : Wf H) (hn : n ≤ cap) (hc : cap ≤ maxLen) (hC : CellsIn w ao n G) (hm : m ≤ zc) (hmc : zc ≤ maxLen) (hZ : NumsIn w zo m Z) :
    Calls Try.prog 3 #[.agg #[.int .i64 W, .int .i64 H, .slice (ao) n cap], .slice zo m zc] w fun e w' => e = .returned (.bool true) ∧ Below w.heap.size w w' := by
  by_cases h1 : 1200 < n
  · exact nodeColumns_big W H ao n cap zo m zc w hn hc h1
  by_cases h2 : 40 < m
  · exact nodeColumns_long W H ao n cap zo m zc w (by omega) hm hmc h2
  by_cases hv : VG W H n G
  · obtain ⟨W', H', rfl, rfl, s, hG⟩ := Sides.vg hv
    by_cases h7 : 7 < m
    · exact nodeColumns_ref _ _ ao n cap zo m zc 7 w (by omega) (by omega) (.inr rfl) (fun w' hb => columns_many _ _ n cap ao G zo m zc w' hv (hC.below hb) h7 (by omega)) (fun w' hb => rcolumns_many _ _ n cap ao G zo m zc w' hv (hC.below hb) h7 (by omega))
    · by_cases hk : OkCuts Z W' m
      · refine nodeColumns_give W' H' n cap ao G zo m zc (fun i => colN Z ((i : Int) % (W' : Int)) m) w (by omega) (by omega) (fun w' hb => (columns_in W' H' n cap ao G zo m zc Z w' s hG (hC.below hb) (by omega) (hZ.below hb)).mono fun e w'' h => ?_) (fun w' hb => (rcolumns_in W' H' n cap ao G zo m zc Z w' s hG (hC.below hb) (by omega) (hZ.below hb)).mono fun e w'' h => ?_) (fun w' g c hb hg hK => validMap_in W' H' n cap ao G g 0 c _ (fun i => colN Z ((i : Int) % (W' : Int)) m) w' s hG (hC.below hb) hg hK (fun i hi => ⟨rfl, by have := colN_le Z ((i : Int) % (W' : Int)) m; show colN Z ((i : Int) % (W' : Int)) m < 8; omega⟩))
        · rcases h with h | h
          · exact h.2
          · exact absurd hk h.1
        · rcases h with h | h
          · exact h.2
          · exact absurd hk h.1
      · refine nodeColumns_ref _ _ ao n cap zo m zc 7 w (by omega) (by omega) (.inr rfl) (fun w' hb => (columns_in W' H' n cap ao G zo m zc Z w' s hG (hC.below hb) (by omega) (hZ.below hb)).mono fun e w'' h => ?_) (fun w' hb => (rcolumns_in W' H' n cap ao G zo m zc Z w' s hG (hC.below hb) (by omega) (hZ.below hb)).mono fun e w'' h => ?_)
        · rcases h with h | h
          · exact absurd h.1 hk
          · exact h.2
        · rcases h with h | h
          · exact absurd h.1 hk
          · exact h.2
  · exact nodeColumns_ref _ _ ao n cap zo m zc 1 w (by omega) (by omega) (.inl rfl) (fun w' hb => columns_bad _ _ n cap ao G zo m zc w' hv (hC.below hb)) (fun w' hb => rcolumns_bad _ _ n cap ao G zo m zc w' hv (hC.below hb))
end Go.Proofs.Ytmkhbkkhoemkoaa
