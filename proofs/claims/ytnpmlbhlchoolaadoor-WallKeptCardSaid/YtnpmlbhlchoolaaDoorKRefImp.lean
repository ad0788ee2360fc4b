/- A body's cells and what a wall gives them: by the reference. -/
import Derived.Test.YtnpmlbhlchoolaaDoorKImpW
import Derived.Test.YtnpmlbhlchoolaaDoorKRefMet
import Derived.Test.YtnpmlbhlchoolaaDoorKOwnC
import Derived.Deep.AppendLies
import Derived.Deep.RegionLaw
import Derived.Laws.AppendOwn
namespace Go.Proofs.YtnpmlbhlchoolaaDoor
set_option linter.unusedSimpArgs false
set_option linter.unusedVariables false
open Go.RowKit

theorem info_intW : (Tryd.prog.info? 3).map (fun i => (i.zero, i.size, i.bytes)) = some (some (.int .i64 0), 1, 8) := by kernel_rfl
/-- A slice of one's own numbers (walls). -/
def OwnN (w : World) (base : Nat) (v : Value) (L : List Nat) : Prop := w.ownsRow base 3 1 v L.length (L.map fun (j : Nat) => .int .i64 ((j : Int)))
theorem OwnN.nil (w : World) (base : Nat) : OwnN w base (.slice none 0 0) [] := World.ownsRow_nil w base 3 1
theorem ownN_app {w0 wr X w6 : World} {v v' : Value} {L : List Nat} {k : Nat} (h : OwnN wr w0.heap.size v L ∧ Below w0.heap.size w0 wr) (hX : Below wr.heap.size wr X) (hown : w6.ownsRow w0.heap.size 3 1 v' (L.length + 1) ((L.map fun (j : Nat) => .int .i64 ((j : Int))) ++ [.int .i64 k])) (hgrow : X.grownBy w6 v.ownBlock) :
    OwnN w6 w0.heap.size v' (L ++ [k]) ∧ Below w0.heap.size w0 w6 := by
  refine ⟨?_, ?_⟩
  · unfold OwnN
    simpa using hown
  · have b1 : Below w0.heap.size w0 X := h.2.trans (hX.mono h.2.size)
    refine b1.grown hgrow b1.size (fun j hj => ?_)
    rcases h.1.2 with ⟨rfl, _⟩ | ⟨g, cap, cur, rfl, hg, hh, _⟩
    · cases hj
    · cases hj
      exact hg
/-- Numbers in memory, as naturals. -/
def NatsIn (w : World) (ao : Option Addr) (m : Nat) (L : Nat → Nat) : Prop := m = 0 ∨ ∃ g, ao = some ⟨g, 0, none⟩ ∧ g < w.heap.size ∧ ∀ j, j < m → w.cell? ⟨g, j, none⟩ = some (.int .i64 (((L j : Nat) : Int)))
theorem NatsIn.below {w w' : World} {ao : Option Addr} {m : Nat} {L : Nat → Nat} (h : NatsIn w ao m L) (hb : Below w.heap.size w w') : NatsIn w' ao m L := by
  rcases h with h | ⟨g, e, hg, hc⟩
  · exact .inl h
  · exact .inr ⟨g, e, Nat.lt_of_lt_of_le hg hb.size, fun j hj => (hb.cell (p := ⟨g, j, none⟩) hg).trans (hc j hj)⟩
theorem ownN_nats {w : World} {base : Nat} {v : Value} {L : List Nat} (h : OwnN w base v L) : ∃ ao cap, v = .slice ao L.length cap ∧ NatsIn w ao L.length (fun j => L.getD j 0) := by
  rcases h.2 with ⟨rfl, hn⟩ | ⟨g, cap, cur, rfl, hg, hgg, hc, hm, hs, ht⟩
  · exact ⟨none, 0, by rw [hn], .inl hn⟩
  · refine ⟨_, cap, rfl, .inr ⟨g, rfl, (Array.getElem?_eq_some_iff.1 hgg).1, fun j hj => ?_⟩⟩
    simp only [World.cell?, hgg]
    have e : (cur.toList.take (L.length * 1))[j]? = (L.map fun (j : Nat) => .int .i64 ((j : Int)))[j]? := by rw [ht]
    rw [List.getElem?_take, if_pos (by omega)] at e
    rw [← Array.getElem?_toList, e]
    simp [List.getElem?_map, List.getElem?_eq_getElem hj, List.getD_eq_getElem?_getD]

set_option maxRecDepth 100000 in
set_option maxHeartbeats 8000000 in
theorem rown_in (ak : Option Addr) (nk ck bb ob n cb : Nat) (B : Nat → Int) (body : Int) (w : World) (hn : n ≤ 1024) (hlt : bb < w.heap.size) (hB : NumsAt w bb ob n B) :
    Calls Tryd.prog 59 #[.agg #[.slice (ak) nk ck, .slice (some ⟨bb, ob, none⟩) n cb], .int .i64 body] w fun e w' => ∃ ao co, e = .returned (.slice ao (ownN B body n).length co) ∧ NatsIn w' ao (ownN B body n).length (fun j => (ownN B body n).getD j 0) ∧ Below w.heap.size w w' := by
  obtain ⟨i0, hi, hz0, hz1, hz2⟩ := info_parts info_intW
  have HB := Lib.hid hB
  clear hB
  go_enter Tryd.func59, Tryd.ntmps59
  go_wp2
  obtain ⟨w1, hw1⟩ : ∃ w1, w1 = w.alloc (.cells #[.slice ak nk ck, .slice (some ⟨bb, ob, none⟩) n cb] 27) := ⟨_, rfl⟩
  have H0 := Lib.hid (show Below w.heap.size w w1 from by rw [hw1]; (repeat' (first | (with_reducible exact Below.refl _ _) | (with_reducible refine Below.setCell ?_ (by first | omega | (simp; done) | (simp; omega)) _) | (with_reducible refine Below.alloc ?_ (by first | omega | (simp; done) | (simp; omega)) _) | (with_reducible refine Below.drew ?_) | (with_reducible refine below_drewN ?_ _) | (with_reducible refine Below.trans ?_ (Below.mono (by assumption) (by first | omega | (simp; done) | (simp; omega)))))))
  have h3 := Lib.hid (show w1.cell? ⟨w.heap.size, 1, none⟩ = some (.slice (some ⟨bb, ob, none⟩) n cb) from by rw [hw1]; simp [go_sem])
  have l3 : w.heap.size < w1.heap.size := by rw [hw1]; simp
  rw [← hw1]
  clear hw1
  go_loopw [5, 6] (fun l i wr => ∃ k : Nat, k ≤ n ∧ i = .int .i64 k ∧ Hid (OwnN wr w1.heap.size l (ownN B body k) ∧ Below w1.heap.size w1 wr)) (fun _ i _ => n - (intOf i).toNat)
  case atStart => exact ⟨0, Nat.zero_le _, rfl, Lib.hid ⟨OwnN.nil _ _, Below.refl _ _⟩⟩
  case round =>
    obtain ⟨k, hk, rfl, HH⟩ := hrel
    have hBw := H0.out.trans (HH.out.2.mono H0.out.size)
    have k2 := (HH.out.2.cell (p := ⟨w.heap.size, 1, none⟩) l3).trans h3.out
    have l4 : w.heap.size < wr.heap.size := Nat.lt_of_lt_of_le l3 HH.out.2.size
    by_cases hlk : k < n
    · have e0 := (HB.out.below hBw hlt) k hlk
      have lbb := Nat.lt_of_lt_of_le hlt hBw.size
      have hsz := hBw.size
      have HW := Lib.hid hBw
      have p0 : (0 : Int) ≤ (k : Int) := by omega
      have p1 : (k : Int) < (n : Int) := by omega
      clear hBw
      by_cases hs : B k = body
      · have hq : (B k == body) = true := by simp [hs]
        have HD := Lib.hid (show ownN B body (k + 1) = ownN B body k ++ [k] from by simp only [ownN]; rw [if_pos hs])
        have hlen : (ownN B body k).length ≤ k := by rw [ownN_len]; exact cntB_le _ _ _
        clear hs
        have hW5 := HH.out.2.size
        go_wp2_with (at_builtin; refine wpList_append_own _ rfl _ _ 25 rfl w1.heap.size 3 i0 (.int .i64 0) 1 8 Tryd.underlying25 hi hz0 hz1 hz2 rfl (by omega) _ _ _ rfl (owns_below HH.out.1 (by (repeat' (first | (with_reducible exact Below.refl _ _) | (with_reducible refine Below.setCell ?_ (by first | omega | (simp; done) | (simp; omega)) _) | (with_reducible refine Below.alloc ?_ (by first | omega | (simp; done) | (simp; omega)) _) | (with_reducible refine Below.drew ?_) | (with_reducible refine below_drewN ?_ _) | (with_reducible refine Below.trans ?_ (Below.mono (by assumption) (by first | omega | (simp; done) | (simp; omega)))))))) _ 1 1 [.int .i64 k] rfl rfl (by intro j u hu; match j with | 0 => (simp at hu; subst hu; simp only [Addr.add, Nat.zero_add]; exact (World.cell?_alloc_at _ _ _ _ (by simp)).trans rfl) | _ + 1 => simp at hu) (by intro u hu; simp at hu; subst hu; rfl) (by unfold maxLen; omega) (by omega) (by simp; omega) ?_; intro v' w6 hown hgrow _)
        have HN := Lib.hid (ownN_app HH.out (by (repeat' (first | (with_reducible exact Below.refl _ _) | (with_reducible refine Below.setCell ?_ (by first | omega | (simp; done) | (simp; omega)) _) | (with_reducible refine Below.alloc ?_ (by first | omega | (simp; done) | (simp; omega)) _) | (with_reducible refine Below.drew ?_) | (with_reducible refine below_drewN ?_ _) | (with_reducible refine Below.trans ?_ (Below.mono (by assumption) (by first | omega | (simp; done) | (simp; omega))))))) hown hgrow)
        clear hown hgrow
        go_roundw
        case rel => exact ⟨k + 1, by omega, by go_num, Lib.hid (by rw [HD.out]; exact HN.out)⟩
        case measure => simp [intOf]; omega
      · have hq : (B k == body) = false := by simp [hs]
        have HD := Lib.hid (show ownN B body (k + 1) = ownN B body k from by simp only [ownN]; rw [if_neg hs])
        clear hs
        go_wp2
        go_roundw
        case rel => exact ⟨k + 1, by omega, by go_num, Lib.hid (by rw [HD.out]; exact HH.out)⟩
        case measure => simp [intOf]; omega
    · obtain rfl : n = k := by omega
      have HW := Lib.hid hBw
      clear hBw
      obtain ⟨ao, co, rfl, HNI⟩ := ownN_nats HH.out.1
      have HNI := Lib.hid HNI
      go_wp2
      go_ret
      exact ⟨ao, co, rfl, HNI.out, HW.out⟩

set_option maxRecDepth 100000 in
set_option maxHeartbeats 2000000 in
theorem rimp_in (b off n cap : Nat) (G : Nat → Nat → Int) (w : World) (hn : n ≤ 1000000) (hok : ∀ i, i < n → Ok4 (G i 0) (G i 1) (G i 2) (G i 3)) (hlt : b < w.heap.size) (hG : Grd w b off n G) :
    Calls Tryd.prog 98 #[.slice (some ⟨b, off, none⟩) n cap] w fun e w' => e = .returned (.tuple #[.int .i64 (imE G n), .int .i64 (imN G n)]) ∧ Below w.heap.size w w' := by
  have HO := Lib.hid hok; clear hok
  have HG := Lib.hid hG; clear hG
  go_enter Tryd.func98, Tryd.ntmps98
  go_wp2
  go_loopw [4, 5, 6] (fun x y i wr => ∃ k : Nat, k ≤ n ∧ i = .int .i64 k ∧ x = .int .i64 (imE G k) ∧ y = .int .i64 (imN G k) ∧ Below w.heap.size w wr) (fun _ _ i _ => n - (intOf i).toNat)
  case atStart => exact ⟨0, Nat.zero_le _, rfl, rfl, rfl, Below.refl _ _⟩
  case round =>
    obtain ⟨k, hk, rfl, rfl, rfl, hB⟩ := hrel
    by_cases hlk : k < n
    · obtain ⟨c0, c1, c2, c3⟩ := HG.out.get hB hlt hlk
      obtain ⟨x0, x1, x2, x3, x4⟩ := HO.out k hlk
      obtain ⟨w10, w11, w12, w13⟩ := im_bd HO.out k hk
      have p0 : (0 : Int) ≤ (k : Int) := by omega
      have p1 : (k : Int) < (n : Int) := by omega
      have s1 : IntKind.i64.wrap (imE G k + G k 0) = imE G k + G k 0 := IntWalk.i64_in _ ⟨by omega, by omega⟩
      have s2 : IntKind.i64.wrap (imE G k + G k 0 - G k 2) = imE G k + G k 0 - G k 2 := IntWalk.i64_in _ ⟨by omega, by omega⟩
      have s3 : IntKind.i64.wrap (imN G k + G k 1) = imN G k + G k 1 := IntWalk.i64_in _ ⟨by omega, by omega⟩
      have s4 : IntKind.i64.wrap (imN G k + G k 1 - G k 3) = imN G k + G k 1 - G k 3 := IntWalk.i64_in _ ⟨by omega, by omega⟩
      go_wp2
      go_quiet (fail)
      go_wp2
      go_quiet (fail)
      clear s1 s2 s3 s4
      go_wp2
      go_roundw
      case rel => exact ⟨k + 1, by omega, by go_num, congrArg (Value.int IntKind.i64) (show imE G k + G k 0 - G k 2 = imE G k + (G k 0 - G k 2) by omega), congrArg (Value.int IntKind.i64) (show imN G k + G k 1 - G k 3 = imN G k + (G k 1 - G k 3) by omega), below_drewN hB _⟩
      case measure => simp [intOf]; omega
    · obtain rfl : n = k := by omega
      go_wp2
      go_ret2
      exact ⟨rfl, hB⟩


/-- Two lists of cells of one's own, apart. -/
structure TL (w : World) (base : Nat) (K1 K2 : Nat → Nat → Int) (k1 k2 : Nat) (v1 v2 : Value) : Prop where
  one : w.ownsRow base 63 4 v1 k1 (cellsL K1 k1)
  two : w.ownsRow base 63 4 v2 k2 (cellsL K2 k2)
  sep : ∀ j, v1.ownBlock = some j → v2.ownBlock = some j → False
theorem owns_lt {w : World} {base : Nat} {e : TypeId} {size n : Nat} {v : Value} {xs : List Value} (h : w.ownsRow base e size v n xs) : ∀ j, v.ownBlock = some j → base ≤ j ∧ j < w.heap.size := by
  intro j hj
  rcases h.2 with ⟨rfl, _⟩ | ⟨g, cap, cur, rfl, hg, hh, _⟩
  · cases hj
  · cases hj
    exact ⟨hg, (Array.getElem?_eq_some_iff.1 hh).1⟩
theorem TL.nil (w : World) (base : Nat) (K1 K2 : Nat → Nat → Int) : TL w base K1 K2 0 0 (.slice none 0 0) (.slice none 0 0) := ⟨World.ownsRow_nil w base _ 4, World.ownsRow_nil w base _ 4, fun j h => by cases h⟩
theorem TL.below {w w' : World} {base : Nat} {K1 K2 : Nat → Nat → Int} {k1 k2 : Nat} {v1 v2 : Value} (h : TL w base K1 K2 k1 k2 v1 v2) (hb : Below w.heap.size w w') : TL w' base K1 K2 k1 k2 v1 v2 := ⟨owns_below h.one hb, owns_below h.two hb, h.sep⟩
theorem TL.app1 {X w6 : World} {base g cap : Nat} {K1 K2 : Nat → Nat → Int} {k1 k2 : Nat} {v1 v2 : Value} (h : TL X base K1 K2 k1 k2 v1 v2)
    (hown : w6.ownsRow base 63 4 (.slice (some ⟨g, 0, none⟩) (k1 + 1) cap) (k1 + 1) (cellsL K1 k1 ++ [.int .i64 (K1 k1 0), .int .i64 (K1 k1 1), .int .i64 (K1 k1 2), .int .i64 (K1 k1 3)])) (hgrow : X.grownBy w6 v1.ownBlock) (hat : v1.ownBlock = some g ∨ g = X.heap.size) : TL w6 base K1 K2 (k1 + 1) k2 (.slice (some ⟨g, 0, none⟩) (k1 + 1) cap) v2 := by
  refine ⟨by rw [cellsL_succ]; exact hown, h.two.kept hgrow ?_, ?_⟩
  · cases e : v2.ownBlock with
    | none => exact .inl rfl
    | some j => exact .inr fun e1 => h.sep j e1.symm e
  · intro j e1 e2
    have e1 : g = j := by simpa [Value.ownBlock] using e1
    subst e1
    rcases hat with hat | hat
    · exact h.sep g hat e2
    · have := (owns_lt h.two g e2).2
      omega
theorem TL.app2 {X w6 : World} {base g cap : Nat} {K1 K2 : Nat → Nat → Int} {k1 k2 : Nat} {v1 v2 : Value} (h : TL X base K1 K2 k1 k2 v1 v2)
    (hown : w6.ownsRow base 63 4 (.slice (some ⟨g, 0, none⟩) (k2 + 1) cap) (k2 + 1) (cellsL K2 k2 ++ [.int .i64 (K2 k2 0), .int .i64 (K2 k2 1), .int .i64 (K2 k2 2), .int .i64 (K2 k2 3)])) (hgrow : X.grownBy w6 v2.ownBlock) (hat : v2.ownBlock = some g ∨ g = X.heap.size) : TL w6 base K1 K2 k1 (k2 + 1) v1 (.slice (some ⟨g, 0, none⟩) (k2 + 1) cap) := by
  refine ⟨h.one.kept hgrow ?_, by rw [cellsL_succ]; exact hown, ?_⟩
  · cases e : v1.ownBlock with
    | none => exact .inl rfl
    | some j => exact .inr fun e1 => h.sep j e e1.symm
  · intro j e1 e2
    have e2 : g = j := by simpa [Value.ownBlock] using e2
    subst e2
    rcases hat with hat | hat
    · exact h.sep g e1 hat
    · have := (owns_lt h.one g e1).2
      omega

/-- The impulse as what the cells have afterwards less what they had. -/
theorem sumL_im (K : Nat → Int) (G : Nat → Nat → Int) (L : List Nat) :
    imE (fun j d => sn (K (L.getD j 0)).toNat d (G (L.getD j 0) 0) (G (L.getD j 0) 1) (G (L.getD j 0) 2) (G (L.getD j 0) 3)) L.length - imE (fun j d => G (L.getD j 0) d) L.length = sumL (dE K G) L ∧
    imN (fun j d => sn (K (L.getD j 0)).toNat d (G (L.getD j 0) 0) (G (L.getD j 0) 1) (G (L.getD j 0) 2) (G (L.getD j 0) 3)) L.length - imN (fun j d => G (L.getD j 0) d) L.length = sumL (dN K G) L := by
  suffices H : ∀ k, k ≤ L.length → imE (fun j d => sn (K (L.getD j 0)).toNat d (G (L.getD j 0) 0) (G (L.getD j 0) 1) (G (L.getD j 0) 2) (G (L.getD j 0) 3)) k - imE (fun j d => G (L.getD j 0) d) k = sumL (dE K G) (L.take k) ∧
      imN (fun j d => sn (K (L.getD j 0)).toNat d (G (L.getD j 0) 0) (G (L.getD j 0) 1) (G (L.getD j 0) 2) (G (L.getD j 0) 3)) k - imN (fun j d => G (L.getD j 0) d) k = sumL (dN K G) (L.take k) by
    have h := H L.length (Nat.le_refl _)
    rwa [List.take_length] at h
  intro k hk
  induction k with
  | zero => simp [imE, imN, sumL]
  | succ k ih =>
    have h := ih (by omega)
    have e : L.take (k + 1) = L.take k ++ [L.getD k 0] := by
      rw [List.take_succ_eq_append_getElem (by omega), List.getD_eq_getElem?_getD, List.getElem?_eq_getElem (by omega)]
      rfl
    rw [e, sumL_snoc, sumL_snoc]
    simp only [imE, imN, dE, dN]
    omega
end Go.Proofs.YtnpmlbhlchoolaaDoor
