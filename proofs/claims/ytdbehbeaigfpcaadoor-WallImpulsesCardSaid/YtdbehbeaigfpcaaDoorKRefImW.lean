/- A body's cells and what a wall gives them: by the reference. -/
import Derived.Test.YtdbehbeaigfpcaaDoorKImpW
import Derived.Test.YtdbehbeaigfpcaaDoorKRefMet
import Derived.Test.YtdbehbeaigfpcaaDoorKOwnC
import Derived.Deep.AppendLies
import Derived.Deep.RegionLaw
import Derived.Laws.AppendOwn
namespace Go.Proofs.YtdbehbeaigfpcaaDoor
set_option linter.unusedSimpArgs false
set_option linter.unusedVariables false
open Go.RowKit

theorem info_intW : (Tryd.prog.info? 3).map (fun i => (i.zero, i.size, i.bytes)) = some (some (.int .i64 0), 1, 8) := by kernel_rfl
/-- A slice of one's own numbers (walls). -/
def OwnN (w : World) (base : Nat) (v : Value) (L : List Nat) : Prop := w.ownsRow base 3 1 v L.length (L.map fun (j : Nat) => .int .i64 ((j : Int)))
theorem OwnN.nil (w : World) (base : Nat) : OwnN w base (.slice none 0 0) [] := World.ownsRow_nil w base 3 1
theorem ownN_app {w0 wr X w6 : World} {v v' : Value} {L : List Nat} {k : Nat} (h : OwnN wr w0.heap.size v L ∧ Below w0.heap.size w0 wr) (hX : Below wr.heap.size wr X) (hown : w6.ownsRow w0.heap.size 3 1 v' (L.length + 1) ((L.map fun (j : Nat) => .int .i64 ((j : Int))) ++ [.int .i64 k])) (hgrow : X.grownBy w6 v.ownBlock) :
    OwnN w6 w0.heap.size v' (L ++ [k]) ∧ Below w0.heap.size w0 w6 := by
  refine ⟨?_, ?_⟩
  · unfold OwnN
    simpa using hown
  · have b1 : Below w0.heap.size w0 X := h.2.trans (hX.mono h.2.size)
    refine b1.grown hgrow b1.size (fun j hj => ?_)
    rcases h.1.2 with ⟨rfl, _⟩ | ⟨g, cap, cur, rfl, hg, hh, _⟩
    · cases hj
    · cases hj
      exact hg
/-- Numbers in memory, as naturals. -/
def NatsIn (w : World) (ao : Option Addr) (m : Nat) (L : Nat → Nat) : Prop := m = 0 ∨ ∃ g, ao = some ⟨g, 0, none⟩ ∧ g < w.heap.size ∧ ∀ j, j < m → w.cell? ⟨g, j, none⟩ = some (.int .i64 (((L j : Nat) : Int)))
theorem NatsIn.below {w w' : World} {ao : Option Addr} {m : Nat} {L : Nat → Nat} (h : NatsIn w ao m L) (hb : Below w.heap.size w w') : NatsIn w' ao m L := by
  rcases h with h | ⟨g, e, hg, hc⟩
  · exact .inl h
  · exact .inr ⟨g, e, Nat.lt_of_lt_of_le hg hb.size, fun j hj => (hb.cell (p := ⟨g, j, none⟩) hg).trans (hc j hj)⟩
theorem ownN_nats {w : World} {base : Nat} {v : Value} {L : List Nat} (h : OwnN w base v L) : ∃ ao cap, v = .slice ao L.length cap ∧ NatsIn w ao L.length (fun j => L.getD j 0) := by
  rcases h.2 with ⟨rfl, hn⟩ | ⟨g, cap, cur, rfl, hg, hgg, hc, hm, hs, ht⟩
  · exact ⟨none, 0, by rw [hn], .inl hn⟩
  · refine ⟨_, cap, rfl, .inr ⟨g, rfl, (Array.getElem?_eq_some_iff.1 hgg).1, fun j hj => ?_⟩⟩
    simp only [World.cell?, hgg]
    have e : (cur.toList.take (L.length * 1))[j]? = (L.map fun (j : Nat) => .int .i64 ((j : Int)))[j]? := by rw [ht]
    rw [List.getElem?_take, if_pos (by omega)] at e
    rw [← Array.getElem?_toList, e]
    simp [List.getElem?_map, List.getElem?_eq_getElem hj, List.getD_eq_getElem?_getD]

set_option maxRecDepth 100000 in
set_option maxHeartbeats 8000000 in
theorem rown_in (ak : Option Addr) (nk ck bb ob n cb : Nat) (B : Nat → Int) (body : Int) (w : World) (hn : n ≤ 1024) (hlt : bb < w.heap.size) (hB : NumsAt w bb ob n B) :
    Calls Tryd.prog 25 #[.agg #[.slice (ak) nk ck, .slice (some ⟨bb, ob, none⟩) n cb], .int .i64 body] w fun e w' => ∃ ao co, e = .returned (.slice ao (ownN B body n).length co) ∧ NatsIn w' ao (ownN B body n).length (fun j => (ownN B body n).getD j 0) ∧ Below w.heap.size w w' := by
  obtain ⟨i0, hi, hz0, hz1, hz2⟩ := info_parts info_intW
  have HB := Lib.hid hB
  clear hB
  go_enter Tryd.func25, Tryd.ntmps25
  go_wp2
  obtain ⟨w1, hw1⟩ : ∃ w1, w1 = w.alloc (.cells #[.slice ak nk ck, .slice (some ⟨bb, ob, none⟩) n cb] 27) := ⟨_, rfl⟩
  have H0 := Lib.hid (show Below w.heap.size w w1 from by rw [hw1]; (repeat' (first | (with_reducible exact Below.refl _ _) | (with_reducible refine Below.setCell ?_ (by first | omega | (simp; done) | (simp; omega)) _) | (with_reducible refine Below.alloc ?_ (by first | omega | (simp; done) | (simp; omega)) _) | (with_reducible refine Below.drew ?_) | (with_reducible refine below_drewN ?_ _) | (with_reducible refine Below.trans ?_ (Below.mono (by assumption) (by first | omega | (simp; done) | (simp; omega)))))))
  have h3 := Lib.hid (show w1.cell? ⟨w.heap.size, 1, none⟩ = some (.slice (some ⟨bb, ob, none⟩) n cb) from by rw [hw1]; simp [go_sem])
  have l3 : w.heap.size < w1.heap.size := by rw [hw1]; simp
  rw [← hw1]
  clear hw1
  go_loopw [5, 6] (fun l i wr => ∃ k : Nat, k ≤ n ∧ i = .int .i64 k ∧ Hid (OwnN wr w1.heap.size l (ownN B body k) ∧ Below w1.heap.size w1 wr)) (fun _ i _ => n - (intOf i).toNat)
  case atStart => exact ⟨0, Nat.zero_le _, rfl, Lib.hid ⟨OwnN.nil _ _, Below.refl _ _⟩⟩
  case round =>
    obtain ⟨k, hk, rfl, HH⟩ := hrel
    have hBw := H0.out.trans (HH.out.2.mono H0.out.size)
    have k2 := (HH.out.2.cell (p := ⟨w.heap.size, 1, none⟩) l3).trans h3.out
    have l4 : w.heap.size < wr.heap.size := Nat.lt_of_lt_of_le l3 HH.out.2.size
    by_cases hlk : k < n
    · have e0 := (HB.out.below hBw hlt) k hlk
      have lbb := Nat.lt_of_lt_of_le hlt hBw.size
      have hsz := hBw.size
      have HW := Lib.hid hBw
      have p0 : (0 : Int) ≤ (k : Int) := by omega
      have p1 : (k : Int) < (n : Int) := by omega
      clear hBw
      by_cases hs : B k = body
      · have hq : (B k == body) = true := by simp [hs]
        have HD := Lib.hid (show ownN B body (k + 1) = ownN B body k ++ [k] from by simp only [ownN]; rw [if_pos hs])
        have hlen : (ownN B body k).length ≤ k := by rw [ownN_len]; exact cntB_le _ _ _
        clear hs
        have hW5 := HH.out.2.size
        go_wp2_with (at_builtin; refine wpList_append_own _ rfl _ _ 25 rfl w1.heap.size 3 i0 (.int .i64 0) 1 8 Tryd.underlying25 hi hz0 hz1 hz2 rfl (by omega) _ _ _ rfl (owns_below HH.out.1 (by (repeat' (first | (with_reducible exact Below.refl _ _) | (with_reducible refine Below.setCell ?_ (by first | omega | (simp; done) | (simp; omega)) _) | (with_reducible refine Below.alloc ?_ (by first | omega | (simp; done) | (simp; omega)) _) | (with_reducible refine Below.drew ?_) | (with_reducible refine below_drewN ?_ _) | (with_reducible refine Below.trans ?_ (Below.mono (by assumption) (by first | omega | (simp; done) | (simp; omega)))))))) _ 1 1 [.int .i64 k] rfl rfl (by intro j u hu; match j with | 0 => (simp at hu; subst hu; simp only [Addr.add, Nat.zero_add]; exact (World.cell?_alloc_at _ _ _ _ (by simp)).trans rfl) | _ + 1 => simp at hu) (by intro u hu; simp at hu; subst hu; rfl) (by unfold maxLen; omega) (by omega) (by simp; omega) ?_; intro v' w6 hown hgrow _)
        have HN := Lib.hid (ownN_app HH.out (by (repeat' (first | (with_reducible exact Below.refl _ _) | (with_reducible refine Below.setCell ?_ (by first | omega | (simp; done) | (simp; omega)) _) | (with_reducible refine Below.alloc ?_ (by first | omega | (simp; done) | (simp; omega)) _) | (with_reducible refine Below.drew ?_) | (with_reducible refine below_drewN ?_ _) | (with_reducible refine Below.trans ?_ (Below.mono (by assumption) (by first | omega | (simp; done) | (simp; omega))))))) hown hgrow)
        clear hown hgrow
        go_roundw
        case rel => exact ⟨k + 1, by omega, by go_num, Lib.hid (by rw [HD.out]; exact HN.out)⟩
        case measure => simp [intOf]; omega
      · have hq : (B k == body) = false := by simp [hs]
        have HD := Lib.hid (show ownN B body (k + 1) = ownN B body k from by simp only [ownN]; rw [if_neg hs])
        clear hs
        go_wp2
        go_roundw
        case rel => exact ⟨k + 1, by omega, by go_num, Lib.hid (by rw [HD.out]; exact HH.out)⟩
        case measure => simp [intOf]; omega
    · obtain rfl : n = k := by omega
      have HW := Lib.hid hBw
      clear hBw
      obtain ⟨ao, co, rfl, HNI⟩ := ownN_nats HH.out.1
      have HNI := Lib.hid HNI
      go_wp2
      go_ret
      exact ⟨ao, co, rfl, HNI.out, HW.out⟩

set_option maxRecDepth 100000 in
set_option maxHeartbeats 2000000 in
theorem rimp_in (b off n cap : Nat) (G : Nat → Nat → Int) (w : World) (hn : n ≤ 1000000) (hok : ∀ i, i < n → Ok4 (G i 0) (G i 1) (G i 2) (G i 3)) (hlt : b < w.heap.size) (hG : Grd w b off n G) :
    Calls Tryd.prog 46 #[.slice (some ⟨b, off, none⟩) n cap] w fun e w' => e = .returned (.tuple #[.int .i64 (imE G n), .int .i64 (imN G n)]) ∧ Below w.heap.size w w' := by
  have HO := Lib.hid hok; clear hok
  have HG := Lib.hid hG; clear hG
  go_enter Tryd.func46, Tryd.ntmps46
  go_wp2
  go_loopw [4, 5, 6] (fun x y i wr => ∃ k : Nat, k ≤ n ∧ i = .int .i64 k ∧ x = .int .i64 (imE G k) ∧ y = .int .i64 (imN G k) ∧ Below w.heap.size w wr) (fun _ _ i _ => n - (intOf i).toNat)
  case atStart => exact ⟨0, Nat.zero_le _, rfl, rfl, rfl, Below.refl _ _⟩
  case round =>
    obtain ⟨k, hk, rfl, rfl, rfl, hB⟩ := hrel
    by_cases hlk : k < n
    · obtain ⟨c0, c1, c2, c3⟩ := HG.out.get hB hlt hlk
      obtain ⟨x0, x1, x2, x3, x4⟩ := HO.out k hlk
      obtain ⟨w10, w11, w12, w13⟩ := im_bd HO.out k hk
      have p0 : (0 : Int) ≤ (k : Int) := by omega
      have p1 : (k : Int) < (n : Int) := by omega
      have s1 : IntKind.i64.wrap (imE G k + G k 0) = imE G k + G k 0 := IntWalk.i64_in _ ⟨by omega, by omega⟩
      have s2 : IntKind.i64.wrap (imE G k + G k 0 - G k 2) = imE G k + G k 0 - G k 2 := IntWalk.i64_in _ ⟨by omega, by omega⟩
      have s3 : IntKind.i64.wrap (imN G k + G k 1) = imN G k + G k 1 := IntWalk.i64_in _ ⟨by omega, by omega⟩
      have s4 : IntKind.i64.wrap (imN G k + G k 1 - G k 3) = imN G k + G k 1 - G k 3 := IntWalk.i64_in _ ⟨by omega, by omega⟩
      go_wp2
      go_quiet (fail)
      go_wp2
      go_quiet (fail)
      clear s1 s2 s3 s4
      go_wp2
      go_roundw
      case rel => exact ⟨k + 1, by omega, by go_num, congrArg (Value.int IntKind.i64) (show imE G k + G k 0 - G k 2 = imE G k + (G k 0 - G k 2) by omega), congrArg (Value.int IntKind.i64) (show imN G k + G k 1 - G k 3 = imN G k + (G k 1 - G k 3) by omega), below_drewN hB _⟩
      case measure => simp [intOf]; omega
    · obtain rfl : n = k := by omega
      go_wp2
      go_ret2
      exact ⟨rfl, hB⟩


/-- Two lists of cells of one's own, apart. -/
structure TL (w : World) (base : Nat) (K1 K2 : Nat → Nat → Int) (k1 k2 : Nat) (v1 v2 : Value) : Prop where
  one : w.ownsRow base 50 4 v1 k1 (cellsL K1 k1)
  two : w.ownsRow base 50 4 v2 k2 (cellsL K2 k2)
  sep : ∀ j, v1.ownBlock = some j → v2.ownBlock = some j → False
theorem owns_lt {w : World} {base : Nat} {e : TypeId} {size n : Nat} {v : Value} {xs : List Value} (h : w.ownsRow base e size v n xs) : ∀ j, v.ownBlock = some j → base ≤ j ∧ j < w.heap.size := by
  intro j hj
  rcases h.2 with ⟨rfl, _⟩ | ⟨g, cap, cur, rfl, hg, hh, _⟩
  · cases hj
  · cases hj
    exact ⟨hg, (Array.getElem?_eq_some_iff.1 hh).1⟩
theorem TL.nil (w : World) (base : Nat) (K1 K2 : Nat → Nat → Int) : TL w base K1 K2 0 0 (.slice none 0 0) (.slice none 0 0) := ⟨World.ownsRow_nil w base _ 4, World.ownsRow_nil w base _ 4, fun j h => by cases h⟩
theorem TL.below {w w' : World} {base : Nat} {K1 K2 : Nat → Nat → Int} {k1 k2 : Nat} {v1 v2 : Value} (h : TL w base K1 K2 k1 k2 v1 v2) (hb : Below w.heap.size w w') : TL w' base K1 K2 k1 k2 v1 v2 := ⟨owns_below h.one hb, owns_below h.two hb, h.sep⟩
theorem TL.app1 {X w6 : World} {base g cap : Nat} {K1 K2 : Nat → Nat → Int} {k1 k2 : Nat} {v1 v2 : Value} (h : TL X base K1 K2 k1 k2 v1 v2)
    (hown : w6.ownsRow base 50 4 (.slice (some ⟨g, 0, none⟩) (k1 + 1) cap) (k1 + 1) (cellsL K1 k1 ++ [.int .i64 (K1 k1 0), .int .i64 (K1 k1 1), .int .i64 (K1 k1 2), .int .i64 (K1 k1 3)])) (hgrow : X.grownBy w6 v1.ownBlock) (hat : v1.ownBlock = some g ∨ g = X.heap.size) : TL w6 base K1 K2 (k1 + 1) k2 (.slice (some ⟨g, 0, none⟩) (k1 + 1) cap) v2 := by
  refine ⟨by rw [cellsL_succ]; exact hown, h.two.kept hgrow ?_, ?_⟩
  · cases e : v2.ownBlock with
    | none => exact .inl rfl
    | some j => exact .inr fun e1 => h.sep j e1.symm e
  · intro j e1 e2
    have e1 : g = j := by simpa [Value.ownBlock] using e1
    subst e1
    rcases hat with hat | hat
    · exact h.sep g hat e2
    · have := (owns_lt h.two g e2).2
      omega
theorem TL.app2 {X w6 : World} {base g cap : Nat} {K1 K2 : Nat → Nat → Int} {k1 k2 : Nat} {v1 v2 : Value} (h : TL X base K1 K2 k1 k2 v1 v2)
    (hown : w6.ownsRow base 50 4 (.slice (some ⟨g, 0, none⟩) (k2 + 1) cap) (k2 + 1) (cellsL K2 k2 ++ [.int .i64 (K2 k2 0), .int .i64 (K2 k2 1), .int .i64 (K2 k2 2), .int .i64 (K2 k2 3)])) (hgrow : X.grownBy w6 v2.ownBlock) (hat : v2.ownBlock = some g ∨ g = X.heap.size) : TL w6 base K1 K2 k1 (k2 + 1) v1 (.slice (some ⟨g, 0, none⟩) (k2 + 1) cap) := by
  refine ⟨h.one.kept hgrow ?_, by rw [cellsL_succ]; exact hown, ?_⟩
  · cases e : v1.ownBlock with
    | none => exact .inl rfl
    | some j => exact .inr fun e1 => h.sep j e e1.symm
  · intro j e1 e2
    have e2 : g = j := by simpa [Value.ownBlock] using e2
    subst e2
    rcases hat with hat | hat
    · exact h.sep g e1 hat
    · have := (owns_lt h.one g e1).2
      omega

/-- The impulse as what the cells have afterwards less what they had. -/
theorem sumL_im (K : Nat → Int) (G : Nat → Nat → Int) (L : List Nat) :
    imE (fun j d => sn (K (L.getD j 0)).toNat d (G (L.getD j 0) 0) (G (L.getD j 0) 1) (G (L.getD j 0) 2) (G (L.getD j 0) 3)) L.length - imE (fun j d => G (L.getD j 0) d) L.length = sumL (dE K G) L ∧
    imN (fun j d => sn (K (L.getD j 0)).toNat d (G (L.getD j 0) 0) (G (L.getD j 0) 1) (G (L.getD j 0) 2) (G (L.getD j 0) 3)) L.length - imN (fun j d => G (L.getD j 0) d) L.length = sumL (dN K G) L := by
  suffices H : ∀ k, k ≤ L.length → imE (fun j d => sn (K (L.getD j 0)).toNat d (G (L.getD j 0) 0) (G (L.getD j 0) 1) (G (L.getD j 0) 2) (G (L.getD j 0) 3)) k - imE (fun j d => G (L.getD j 0) d) k = sumL (dE K G) (L.take k) ∧
      imN (fun j d => sn (K (L.getD j 0)).toNat d (G (L.getD j 0) 0) (G (L.getD j 0) 1) (G (L.getD j 0) 2) (G (L.getD j 0) 3)) k - imN (fun j d => G (L.getD j 0) d) k = sumL (dN K G) (L.take k) by
    have h := H L.length (Nat.le_refl _)
    rwa [List.take_length] at h
  intro k hk
  induction k with
  | zero => simp [imE, imN, sumL]
  | succ k ih =>
    have h := ih (by omega)
    have e : L.take (k + 1) = L.take k ++ [L.getD k 0] := by
      rw [List.take_succ_eq_append_getElem (by omega), List.getD_eq_getElem?_getD, List.getElem?_eq_getElem (by omega)]
      rfl
    rw [e, sumL_snoc, sumL_snoc]
    simp only [imE, imN, dE, dN]
    omega
end Go.Proofs.YtdbehbeaigfpcaaDoor

/- A body's impulse: by the reference. -/

namespace Go.Proofs.YtdbehbeaigfpcaaDoor
set_option linter.unusedSimpArgs false
set_option linter.unusedVariables false
open Go.RowKit

theorem blocks322 {w wo : World} {t1 t2 t4 : TypeId} {a b c d e h i : Value} (hb : Below (((w.alloc (.cells #[a, b, c] t1)).alloc (.cells #[d, e] t2)).alloc (.cells #[h, i] t4)).heap.size (((w.alloc (.cells #[a, b, c] t1)).alloc (.cells #[d, e] t2)).alloc (.cells #[h, i] t4)) wo) : Three wo w.heap.size t1 a b c ∧ Two wo (w.heap.size + 1) t2 d e ∧ Two wo (w.heap.size + 2) t4 h i := by
  have x1 : Below (w.heap.size + 1) (w.alloc (.cells #[a, b, c] t1)) wo := by
    have y : Below (w.heap.size + 1) (w.alloc (.cells #[a, b, c] t1)) (((w.alloc (.cells #[a, b, c] t1)).alloc (.cells #[d, e] t2)).alloc (.cells #[h, i] t4)) := ((Below.refl _ _).alloc (by simp) _).alloc (by simp) _
    exact y.trans (hb.mono (by simp))
  have x2 : Below (w.heap.size + 2) ((w.alloc (.cells #[a, b, c] t1)).alloc (.cells #[d, e] t2)) wo := by
    have y : Below (w.heap.size + 2) ((w.alloc (.cells #[a, b, c] t1)).alloc (.cells #[d, e] t2)) (((w.alloc (.cells #[a, b, c] t1)).alloc (.cells #[d, e] t2)).alloc (.cells #[h, i] t4)) := (Below.refl _ _).alloc (by simp) _
    exact y.trans (hb.mono (by simp))
  exact ⟨(Three.newAt rfl).below x1 (by omega), (Two.newAt (by simp)).below x2 (by omega), (Two.newAt (by simp)).below hb (by simp)⟩

/-- What stands while the lists grow. -/
structure RI (w0 : World) (K1 K2 : Nat → Nat → Int) (k : Nat) (v1 v2 : Value) (wr : World) : Prop where
  lists : TL wr w0.heap.size K1 K2 k k v1 v2
  below : Below w0.heap.size w0 wr

set_option maxRecDepth 100000 in
set_option maxHeartbeats 8000000 in
theorem rimp_walk (W H : Int) (n cap b off bk ok ck bb ob cb : Nat) (K B : Nat → Int) (body : Int) (G : Nat → Nat → Int) (w : World) (m : Nat) (LL : Nat → Nat) (hm : 1 ≤ m) (hm1 : m ≤ 1024) (hn : n ≤ 1024) (hLL : ∀ j, j < m → LL j < n) (hG : OkG n G) (hlt : b < w.heap.size) (hC : Grd w b off n G) (hK : OkK n K) (lbk : bk < w.heap.size) (hN : NumsAt w bk ok n K)
    (OW : ∀ wx, Below w.heap.size w wx → Calls Tryd.prog 25 #[.agg #[.slice (some ⟨bk, ok, none⟩) n ck, .slice (some ⟨bb, ob, none⟩) n cb], .int .i64 body] wx fun e w' => ∃ ao co, e = .returned (.slice ao m co) ∧ NatsIn w' ao m LL ∧ Below wx.heap.size wx w')
    (K1 K2 : Nat → Nat → Int) (e1 : ∀ j d, K1 j d = G (LL j) d) (e2 : ∀ j d, K2 j d = sn (K (LL j)).toNat d (G (LL j) 0) (G (LL j) 1) (G (LL j) 2) (G (LL j) 3)) :
    Calls Tryd.prog 26 #[.agg #[.int .i64 W, .int .i64 H, .slice (some ⟨b, off, none⟩) n cap], .agg #[.slice (some ⟨bk, ok, none⟩) n ck, .slice (some ⟨bb, ob, none⟩) n cb], .int .i64 body] w fun e w' => e = .returned (.agg #[.int .i64 (imE K2 m - imE K1 m), .int .i64 (imN K2 m - imN K1 m)]) ∧ Below w.heap.size w w' := by
  obtain ⟨i0, hi, hz0, hz1, hz2⟩ := info_parts info_cell
  have OW := Lib.hid OW
  have HL := Lib.hid hLL
  have HG := Lib.hid hG
  have HC := Lib.hid hC
  have HK := Lib.hid hK
  have HN := Lib.hid hN
  have E1 := Lib.hid e1
  have E2 := Lib.hid e2
  clear hLL hG hC hK hN e1 e2
  go_enter Tryd.func26, Tryd.ntmps26
  go_wp2_with (go_at_call 25; (with_reducible refine (OW.out _ (by (repeat' (first | (with_reducible exact Below.refl _ _) | (with_reducible refine Below.setCell ?_ (by first | omega | (simp; done) | (simp; omega)) _) | (with_reducible refine Below.alloc ?_ (by first | omega | (simp; done) | (simp; omega)) _) | (with_reducible refine Below.drew ?_) | (with_reducible refine below_drewN ?_ _) | (with_reducible refine Below.trans ?_ (Below.mono (by assumption) (by first | omega | (simp; done) | (simp; omega)))))))).mono ?_); rintro e w1 ⟨ao, co, rfl, hNI, hb⟩; have HNI := Lib.hid hNI; clear hNI; have HB1 := Lib.hid hb; obtain ⟨hc, hf, hz⟩ := bcall hb; (try simp at hc hf hz))
  have hB : Below w.heap.size w w1 := by (repeat' (first | (with_reducible exact Below.refl _ _) | (with_reducible refine Below.setCell ?_ (by first | omega | (simp; done) | (simp; omega)) _) | (with_reducible refine Below.alloc ?_ (by first | omega | (simp; done) | (simp; omega)) _) | (with_reducible refine Below.drew ?_) | (with_reducible refine below_drewN ?_ _) | (with_reducible refine Below.trans ?_ (Below.mono (by assumption) (by first | omega | (simp; done) | (simp; omega))))))
  obtain ⟨tg, tw, tp⟩ := blocks322 (by simpa using HB1.out)
  have TG := Lib.hid tg
  have TW := Lib.hid tw
  have TP := Lib.hid tp
  have H0 := Lib.hid hB
  have l0 : w.heap.size + 3 ≤ w1.heap.size := by have := tp.lt; omega
  clear hc hf hz hb hB HB1 tg tw tp OW
  go_loopw [7, 8, 10] (fun x y i wr => ∃ (k c1 c2 : Nat) (a1 a2 : Option Addr), k ≤ m ∧ i = .int .i64 k ∧ x = .slice a1 k c1 ∧ y = .slice a2 k c2 ∧ Hid (RI w1 K1 K2 k x y wr)) (fun _ _ i _ => m - (intOf i).toNat)
  case atStart => exact ⟨0, 0, 0, none, none, Nat.zero_le _, rfl, rfl, rfl, Lib.hid ⟨TL.nil _ _ _ _, Below.refl _ _⟩⟩
  case round =>
    obtain ⟨k, c1, c2, a1, a2, hk, rfl, rfl, rfl, HH⟩ := hrel
    have hBr := HH.out.below
    have hW := H0.out.trans (hBr.mono (by omega))
    have hsr := hBr.size
    have z2 := (TG.out.below hBr (by omega)).c2
    have y0 := (TW.out.below hBr (by omega)).c0
    by_cases hlk : k < m
    · have hx := HL.out k hlk
      obtain ⟨x, hxe⟩ : ∃ x, x = LL k := ⟨_, rfl⟩
      rcases HNI.out with h0 | ⟨g, rfl, hg, hgc⟩
      · omega
      have g0 := (hBr.cell (p := ⟨g, k, none⟩) hg).trans (hgc k hlk)
      have q1 := E1.out k
      have q2 := E2.out k
      rw [← hxe] at hx g0
      simp only [← hxe] at q1 q2
      have hgx := Lib.hid (show w1.cell? ⟨g, k, none⟩ = some (.int .i64 ((x : Int))) from by rw [hxe]; exact hgc k hlk)
      clear hgc hxe
      obtain ⟨s0, s1, s2, s3⟩ := HC.out.get hW hlt hx
      have kk := (HN.out.below hW lbk) x hx
      have lbk2 : bk < wr.heap.size := Nat.lt_of_lt_of_le lbk hW.size
      have lg : g < wr.heap.size := Nat.lt_of_lt_of_le hg hBr.size
      obtain ⟨q, hq⟩ := Int.eq_ofNat_of_zero_le (HK.out x hx).1
      have hq3 : q < 4 := by have := (HK.out x hx).2; omega
      rw [hq] at kk
      rw [hq] at q2
      simp only [Int.ofNat_eq_natCast, Int.toNat_natCast] at q2 kk
      have HQ := Lib.hid (show K x = (q : Int) from hq)
      have SN := Lib.hid (fun wx => rsent_any q (G x 0) (G x 1) (G x 2) (G x 3) wx hq3)
      rw [← q2 0, ← q2 1, ← q2 2, ← q2 3, ← q1 0, ← q1 1, ← q1 2, ← q1 3] at SN
      rw [← q1 0] at s0
      rw [← q1 1] at s1
      rw [← q1 2] at s2
      rw [← q1 3] at s3
      have p0 : (0 : Int) ≤ (k : Int) := by omega
      have p1 : (k : Int) < (m : Int) := by omega
      have p2 : (0 : Int) ≤ (x : Int) := by omega
      have p3 : (x : Int) < (n : Int) := by omega
      have lb := Nat.lt_of_lt_of_le hlt hW.size
      have HBr := Lib.hid hBr
      have HW := Lib.hid hW
      clear q1 q2 hq hBr hW
      go_wp2
      go_region_held3 (fun w' => w'.cell? ⟨w.heap.size, 2, none⟩ = some (.slice (some ⟨b, off, none⟩) n cap) ∧ w'.cell? ⟨g, k, none⟩ = some (.int .i64 ((x : Int))) ∧ w'.cell? ⟨b, off + x * 4, none⟩ = some (.int .i64 (K1 k 0)) ∧ w'.cell? ⟨b, off + x * 4 + 1, none⟩ = some (.int .i64 (K1 k 1)) ∧ w'.cell? ⟨b, off + x * 4 + 2, none⟩ = some (.int .i64 (K1 k 2)) ∧ w'.cell? ⟨b, off + x * 4 + 3, none⟩ = some (.int .i64 (K1 k 3))) (first | (go_split_ands; (try dsimp only); refine ⟨?_, ?_, ?_, ?_, ?_, ?_⟩ <;> (first | (with_reducible assumption) | (with_reducible exact keep_cell (by assumption) (by first | omega | (simp; done) | (simp; omega)) (by assumption)) | (with_reducible exact (World.cell?_alloc_past _ _ _ (by show _ < _; omega)).trans (by assumption)) | (with_reducible exact (World.cell?_alloc_past _ _ _ (by show _ < _; omega)).trans ((World.cell?_alloc_past _ _ _ (by show _ < _; omega)).symm.trans (by assumption))) | (simp [go_sem]; with_reducible assumption))) | (simp [go_sem, ↓IntWalk.iteOmega, *]; done)) (fail)
      all_goals (rename_i hX; clear hX)
      obtain ⟨X, eX⟩ : ∃ X, X = (wr.alloc (.cells #[.int .i64 (K1 k 0), .int .i64 (K1 k 1), .int .i64 (K1 k 2), .int .i64 (K1 k 3)] 50)).drew := ⟨_, rfl⟩
      have XB := Lib.hid (show Below wr.heap.size wr X from by rw [eX]; (repeat' (first | (with_reducible exact Below.refl _ _) | (with_reducible refine Below.setCell ?_ (by first | omega | (simp; done) | (simp; omega)) _) | (with_reducible refine Below.alloc ?_ (by first | omega | (simp; done) | (simp; omega)) _) | (with_reducible refine Below.drew ?_) | (with_reducible refine below_drewN ?_ _) | (with_reducible refine Below.trans ?_ (Below.mono (by assumption) (by first | omega | (simp; done) | (simp; omega)))))))
      have x0 : X.cell? ⟨wr.heap.size, 0, none⟩ = some (.int .i64 (K1 k 0)) := by rw [eX]; simp [go_sem, ↓IntWalk.iteOmega]
      have x1 : X.cell? ⟨wr.heap.size, 1, none⟩ = some (.int .i64 (K1 k 1)) := by rw [eX]; simp [go_sem, ↓IntWalk.iteOmega]
      have x2 : X.cell? ⟨wr.heap.size, 2, none⟩ = some (.int .i64 (K1 k 2)) := by rw [eX]; simp [go_sem, ↓IntWalk.iteOmega]
      have x3 : X.cell? ⟨wr.heap.size, 3, none⟩ = some (.int .i64 (K1 k 3)) := by rw [eX]; simp [go_sem, ↓IntWalk.iteOmega]
      have lX : wr.heap.size < X.heap.size := by rw [eX]; simp
      rw [← eX]
      have XC := Lib.hid (show Below wr.heap.size wr (X.alloc (.cells #[.int .i64 (K1 k 0), .int .i64 (K1 k 1), .int .i64 (K1 k 2), .int .i64 (K1 k 3)] 50)) from XB.out.alloc XB.out.size _)
      clear eX g0 kk s0 s1 s2 s3 z2 y0
      go_wp2_with (at_builtin; refine wpList_append_lies _ rfl _ _ 22 rfl w1.heap.size 50 i0 (.agg #[.int .i64 0, .int .i64 0, .int .i64 0, .int .i64 0]) 4 32 Tryd.underlying22 hi hz0 hz1 hz2 rfl (by omega) _ k (cellsL K1 k) rfl (owns_below HH.out.lists.one XC.out) _ 1 1 [.int .i64 (K1 k 0), .int .i64 (K1 k 1), .int .i64 (K1 k 2), .int .i64 (K1 k 3)] rfl rfl (four_new _ _ _ _ _ _) (four_one _ _ _ _) (by omega) (by unfold maxLen; omega) (by omega) (by simp; omega) _ rfl ?_; intro g1 d1 w6 hown hgrow hat hlt6)
      have hL := TL.app1 (HH.out.lists.below XC.out) hown hgrow hat
      have hne := owns_lt HH.out.lists.one
      have b6 : Below w1.heap.size w1 w6 := by
        have b0 : Below w1.heap.size w1 (X.alloc (.cells #[.int .i64 (K1 k 0), .int .i64 (K1 k 1), .int .i64 (K1 k 2), .int .i64 (K1 k 3)] 50)) := HBr.out.trans (XC.out.mono HBr.out.size)
        exact b0.grown hgrow b0.size (fun j hj => (hne j hj).1)
      have hnw : some wr.heap.size ≠ (Value.slice a1 k c1).ownBlock := fun e => by have := (hne _ e.symm).2; omega
      have yb : Below X.heap.size X (X.alloc (.cells #[.int .i64 (K1 k 0), .int .i64 (K1 k 1), .int .i64 (K1 k 2), .int .i64 (K1 k 3)] 50)) := (Below.refl _ _).alloc (Nat.le_refl _) _
      have y0 := hgrow.cell ((yb.cell (p := ⟨wr.heap.size, 0, none⟩) lX).trans x0) hnw
      have y1 := hgrow.cell ((yb.cell (p := ⟨wr.heap.size, 1, none⟩) lX).trans x1) hnw
      have y2 := hgrow.cell ((yb.cell (p := ⟨wr.heap.size, 2, none⟩) lX).trans x2) hnw
      have y3 := hgrow.cell ((yb.cell (p := ⟨wr.heap.size, 3, none⟩) lX).trans x3) hnw
      have z0 := (TW.out.below b6 (by omega)).c0
      have g0 := (b6.cell (p := ⟨g, k, none⟩) hg).trans hgx.out
      have kk := (HN.out.below (H0.out.trans (b6.mono (by omega))) lbk) x hx
      rw [HQ.out] at kk
      have lbk6 : bk < w6.heap.size := by have := b6.size; omega
      have lw6 : wr.heap.size < w6.heap.size := Nat.lt_of_lt_of_le lX (Nat.le_trans yb.size hgrow.size)
      have s6 := b6.size
      have H6 := Lib.hid hL
      have B6 := Lib.hid b6
      clear hL hne b6 hnw hown hgrow hat x0 x1 x2 x3
      go_wp2
      go_region_law (first | (go_simp; go_at_call 45; (with_reducible refine (SN.out _).mono ?_); rintro e w7 ⟨rfl, hb7⟩; have C7 : Below w6.heap.size w6 (w7.alloc (.cells #[.int .i64 (K2 k 0), .int .i64 (K2 k 1), .int .i64 (K2 k 2), .int .i64 (K2 k 3)] 50)) := (by first | exact Below.alloc hb7 hb7.size _ | exact Below.alloc ((Below.refl _ w6).drew.trans hb7) hb7.size _); have S7 := C7.size; have B7 := hb7.size) | (refine step_append_lies _ (by rfl) _ _ _ (by rfl) w1.heap.size 50 i0 (.agg #[.int .i64 0, .int .i64 0, .int .i64 0, .int .i64 0]) 4 32 Tryd.underlying22 hi hz0 hz1 hz2 rfl (by omega) (.slice a2 k c2) k (cellsL K2 k) (by rfl) (owns_below H6.out.two C7) _ 1 1 [.int .i64 (K2 k 0), .int .i64 (K2 k 1), .int .i64 (K2 k 2), .int .i64 (K2 k 3)] (by rfl) (by rfl) (World.news_of_block (cs := #[.int .i64 (K2 k 0), .int .i64 (K2 k 1), .int .i64 (K2 k 2), .int .i64 (K2 k 3)]) (t := 50) (fr := (0, 0)) (heap_alloc_new _ _)) (four_one _ _ _ _) (by omega) (by unfold maxLen; omega) (by omega) (by simp at *; omega) (w7.heap.size + 1) (by simp) ?_; intro g2 d2 w8 hown8 hgrow8 hat8 hlt8))
      all_goals
        have hL8 := TL.app2 (H6.out.below C7) hown8 hgrow8 (by simpa using hat8)
        have hne8 := owns_lt H6.out.two
        have b8 : Below w1.heap.size w1 w8 := by
          have b0 := B6.out.trans (C7.mono s6)
          exact b0.grown hgrow8 b0.size (fun j hj => (hne8 j hj).1)
        have HN8 := Lib.hid (show RI w1 K1 K2 (k + 1) _ _ w8 from ⟨hL8, b8⟩)
        clear hL8 hne8 b8 hown8 hgrow8 hat8 C7 S7 B7 hb7
        go_wp2
        go_roundw
        case rel => exact ⟨k + 1, d1, d2, some ⟨g1, 0, none⟩, some ⟨g2, 0, none⟩, by omega, by go_num, rfl, rfl, HN8⟩
        case measure => simp [intOf]; omega
    · obtain rfl : m = k := by omega
      obtain ⟨g1, d1, ea, hr1, hl1, _, _⟩ := row_of_owned HH.out.lists.one hm
      obtain ⟨g2, d2, eb, hr2, hl2, _, _⟩ := row_of_owned HH.out.lists.two hm
      cases ea
      cases eb
      have ok1 : ∀ i, i < m → Ok4 (K1 i 0) (K1 i 1) (K1 i 2) (K1 i 3) := fun i hi => by
        rw [E1.out, E1.out, E1.out, E1.out]
        exact HG.out.1 _ (HL.out i hi)
      have ok2 : ∀ i, i < m → Ok4 (K2 i 0) (K2 i 1) (K2 i 2) (K2 i 3) := fun i hi => by
        rw [E2.out, E2.out, E2.out, E2.out]
        exact sn_ok (okK_lt HK.out (HL.out i hi)) (HG.out.1 _ (HL.out i hi))
      have I1 := Lib.hid (fun wx (hb : Below wr.heap.size wr wx) => rimp_in g1 0 m c1 K1 wx (by omega) ok1 (Nat.lt_of_lt_of_le hr1.1 hb.size) (hr1.grd.below hb hr1.1))
      have I2 := Lib.hid (fun wx (hb : Below wr.heap.size wr wx) => rimp_in g2 0 m c2 K2 wx (by omega) ok2 (Nat.lt_of_lt_of_le hr2.1 hb.size) (hr2.grd.below hb hr2.1))
      obtain ⟨u0, u1, u2, u3⟩ := im_bd ok1 m (Nat.le_refl _)
      obtain ⟨v0, v1, v2, v3⟩ := im_bd ok2 m (Nat.le_refl _)
      have t1 : IntKind.i64.wrap (imE K2 m - imE K1 m) = imE K2 m - imE K1 m := IntWalk.i64_in _ ⟨by omega, by omega⟩
      have t2 : IntKind.i64.wrap (imN K2 m - imN K1 m) = imN K2 m - imN K1 m := IntWalk.i64_in _ ⟨by omega, by omega⟩
      have T2 := TP.out.below hBr (by omega)
      have f0 := T2.f0 0
      have f1 := T2.f0 1
      have q0 := T2.c0
      have q1 := T2.c1
      have lt := T2.lt
      have HW := Lib.hid hW
      clear hr1 hr2 ok1 ok2 u0 u1 u2 u3 v0 v1 v2 v3 hW
      go_wp2_with (first | (go_at_call 46; (with_reducible refine (I2.out _ (by (repeat' (first | (with_reducible exact Below.refl _ _) | (with_reducible refine Below.setCell ?_ (by first | omega | (simp; done) | (simp; omega)) _) | (with_reducible refine Below.alloc ?_ (by first | omega | (simp; done) | (simp; omega)) _) | (with_reducible refine Below.drew ?_) | (with_reducible refine below_drewN ?_ _) | (with_reducible refine Below.trans ?_ (Below.mono (by assumption) (by first | omega | (simp; done) | (simp; omega)))))))).mono ?_); rintro e w1 ⟨rfl, hb⟩; obtain ⟨hc, hf, hz⟩ := bcall hb; (try simp at hc hf hz)) | (go_at_call 46; (with_reducible refine (I1.out _ (by (repeat' (first | (with_reducible exact Below.refl _ _) | (with_reducible refine Below.setCell ?_ (by first | omega | (simp; done) | (simp; omega)) _) | (with_reducible refine Below.alloc ?_ (by first | omega | (simp; done) | (simp; omega)) _) | (with_reducible refine Below.drew ?_) | (with_reducible refine below_drewN ?_ _) | (with_reducible refine Below.trans ?_ (Below.mono (by assumption) (by first | omega | (simp; done) | (simp; omega)))))))).mono ?_); rintro e w1 ⟨rfl, hb⟩; obtain ⟨hc, hf, hz⟩ := bcall hb; (try simp at hc hf hz)))
      refine bodyPost_ret (v := .agg #[.int .i64 (imE K2 m - imE K1 m), .int .i64 (imN K2 m - imN K1 m)]) (by simp [results, Tryd.results26, go_sem, ↓IntWalk.iteOmega, *]) rfl ⟨rfl, ?_⟩
      have hW := HW.out
      (repeat' (first | (with_reducible exact Below.refl _ _) | (with_reducible refine Below.setCell ?_ (by first | omega | (simp; done) | (simp; omega)) _) | (with_reducible refine Below.alloc ?_ (by first | omega | (simp; done) | (simp; omega)) _) | (with_reducible refine Below.drew ?_) | (with_reducible refine below_drewN ?_ _) | (with_reducible refine Below.trans ?_ (Below.mono (by assumption) (by first | omega | (simp; done) | (simp; omega))))))
end Go.Proofs.YtdbehbeaigfpcaaDoor
