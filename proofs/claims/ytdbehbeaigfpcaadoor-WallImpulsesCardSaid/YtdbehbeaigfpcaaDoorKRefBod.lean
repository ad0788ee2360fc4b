/- Which bodies stand in a wall: by the reference. -/
import Derived.Test.YtdbehbeaigfpcaaDoorKRefImW
import Derived.Test.YtdbehbeaigfpcaaDoorKBodW
namespace Go.Proofs.YtdbehbeaigfpcaaDoor
set_option linter.unusedSimpArgs false
set_option linter.unusedVariables false
open Go.RowKit Go.Sort

/-- The bodies among the first k. -/
def bodP (B : Nat → Int) (n k : Nat) : List Int := ((List.range k).map fun (j : Nat) => (j : Int) + 1).filter fun b => decide (0 < cntB B b n)
theorem bodP_nine (B : Nat → Int) (n : Nat) : bodP B n 9 = bodL B n := rfl
theorem bodP_yes {B : Nat → Int} {n k : Nat} (h : 0 < cntB B ((k : Int) + 1) n) : bodP B n (k + 1) = bodP B n k ++ [(k : Int) + 1] := by
  simp [bodP, List.range_succ, h]
theorem bodP_no {B : Nat → Int} {n k : Nat} (h : cntB B ((k : Int) + 1) n = 0) : bodP B n (k + 1) = bodP B n k := by
  simp [bodP, List.range_succ, h]
theorem bodP_len (B : Nat → Int) (n k : Nat) : (bodP B n k).length ≤ k := by
  refine Nat.le_trans (List.length_filter_le _ _) ?_
  simp
theorem ints_app {w0 wr X w6 : World} {v v' : Value} {L : List Int} {k : Int} (h : wr.ownsRow w0.heap.size 3 1 v L.length (L.map encZ) ∧ Below w0.heap.size w0 wr) (hX : Below wr.heap.size wr X) (hown : w6.ownsRow w0.heap.size 3 1 v' (L.length + 1) (L.map encZ ++ [.int .i64 k])) (hgrow : X.grownBy w6 v.ownBlock) :
    w6.ownsRow w0.heap.size 3 1 v' (L ++ [k]).length ((L ++ [k]).map encZ) ∧ Below w0.heap.size w0 w6 := by
  refine ⟨?_, ?_⟩
  · simpa [encZ] using hown
  · have b1 : Below w0.heap.size w0 X := h.2.trans (hX.mono h.2.size)
    refine b1.grown hgrow b1.size (fun j hj => ?_)
    rcases h.1.2 with ⟨rfl, _⟩ | ⟨g, cap, cur, rfl, hg, hh, _⟩
    · cases hj
    · cases hj
      exact hg

set_option maxRecDepth 100000 in
set_option maxHeartbeats 8000000 in
theorem rbodies_in (W H : Int) (ao : Option Addr) (n cap : Nat) (ak : Option Addr) (nk ck bb ob cb : Nat) (B : Nat → Int) (w : World) (hn : n ≤ 1024) (lbb : bb < w.heap.size) (hB : NumsAt w bb ob n B)
    (V : ∀ wx, Below w.heap.size w wx → Calls Tryd.prog 23 #[.agg #[.int .i64 W, .int .i64 H, .slice (ao) n cap], .agg #[.slice (ak) nk ck, .slice (some ⟨bb, ob, none⟩) n cb]] wx fun e w' => e = .returned (.bool true) ∧ Below wx.heap.size wx w') :
    Calls Tryd.prog 10 #[.agg #[.int .i64 W, .int .i64 H, .slice (ao) n cap], .agg #[.slice (ak) nk ck, .slice (some ⟨bb, ob, none⟩) n cb]] w fun e w' => ∃ v, e = .returned (.tuple #[v, .int .i64 0]) ∧ w'.ownsRow w.heap.size 3 1 v (bodL B n).length ((bodL B n).map encZ) ∧ Below w.heap.size w w' := by
  obtain ⟨i0, hi, hz0, hz1, hz2⟩ := info_parts info_intW
  have V := Lib.hid V
  have OW := Lib.hid (fun b wx (hx : Below w.heap.size w wx) => rown_in ak nk ck bb ob n cb B b wx hn (Nat.lt_of_lt_of_le lbb hx.size) (hB.below hx lbb))
  clear hB
  go_enter Tryd.func10, Tryd.ntmps10
  go_wp2_with (go_at_call 23; (with_reducible refine (V.out _ (by (repeat' (first | (with_reducible exact Below.refl _ _) | (with_reducible refine Below.setCell ?_ (by first | omega | (simp; done) | (simp; omega)) _) | (with_reducible refine Below.alloc ?_ (by first | omega | (simp; done) | (simp; omega)) _) | (with_reducible refine Below.drew ?_) | (with_reducible refine below_drewN ?_ _) | (with_reducible refine Below.trans ?_ (Below.mono (by assumption) (by first | omega | (simp; done) | (simp; omega)))))))).mono ?_); rintro e w1 ⟨rfl, hb⟩; obtain ⟨hc, hf, hz⟩ := bcall hb; (try simp at hc hf hz))
  have HXB := Lib.hid (show w1.heap[w.heap.size + 1]? = some (.cells #[.slice ak nk ck, .slice (some ⟨bb, ob, none⟩) n cb] 27 (0, 0)) from (hb.block _ (by simp)).trans (by
    have := World.alloc_heap_new (w.alloc (.cells #[.int .i64 W, .int .i64 H, .slice ao n cap] 24)) (.cells #[.slice ak nk ck, .slice (some ⟨bb, ob, none⟩) n cb] 27)
    simpa using this))
  have H0 := Lib.hid (show Below w.heap.size w w1 from by (repeat' (first | (with_reducible exact Below.refl _ _) | (with_reducible refine Below.setCell ?_ (by first | omega | (simp; done) | (simp; omega)) _) | (with_reducible refine Below.alloc ?_ (by first | omega | (simp; done) | (simp; omega)) _) | (with_reducible refine Below.drew ?_) | (with_reducible refine below_drewN ?_ _) | (with_reducible refine Below.trans ?_ (Below.mono (by assumption) (by first | omega | (simp; done) | (simp; omega)))))))
  have l3 : w.heap.size + 1 < w1.heap.size := by omega
  clear hc hf hz hb V
  go_loopw [6, 7] (fun l i wr => ∃ k : Nat, k ≤ 9 ∧ i = .int .i64 ((k : Int) + 1) ∧ Hid (wr.ownsRow w1.heap.size 3 1 l (bodP B n k).length ((bodP B n k).map encZ) ∧ Below w1.heap.size w1 wr)) (fun _ i _ => (10 - intOf i).toNat)
  case atStart => exact ⟨0, Nat.zero_le _, rfl, Lib.hid ⟨World.ownsRow_nil _ _ _ _, Below.refl _ _⟩⟩
  case round =>
    obtain ⟨k, hk, rfl, HH⟩ := hrel
    have hBw := H0.out.trans (HH.out.2.mono H0.out.size)
    have bx := (HH.out.2.block _ l3).trans HXB.out
    have x0 : wr.cell? ⟨w.heap.size + 1, 0, none⟩ = some (.slice ak nk ck) := by simp [World.cell?, bx]
    have x1 : wr.cell? ⟨w.heap.size + 1, 1, none⟩ = some (.slice (some ⟨bb, ob, none⟩) n cb) := by simp [World.cell?, bx]
    have l4 : w.heap.size + 1 < wr.heap.size := Nat.lt_of_lt_of_le l3 HH.out.2.size
    have HW := Lib.hid hBw
    have OWk := Lib.hid (fun wx (hx : Below wr.heap.size wr wx) => OW.out ((k : Int) + 1) wx (hBw.trans (hx.mono hBw.size)))
    have hle : (ownN B ((k : Int) + 1) n).length ≤ n := by rw [ownN_len]; exact cntB_le _ _ _
    have hpl := bodP_len B n k
    clear hBw bx
    by_cases hlk : k < 9
    · by_cases hs : 0 < cntB B ((k : Int) + 1) n
      · have HD := Lib.hid (bodP_yes hs)
        have hs2 : 0 < (ownN B ((k : Int) + 1) n).length := by rw [ownN_len]; exact hs
        obtain ⟨q, hq⟩ : ∃ q, q = (ownN B ((k : Int) + 1) n).length := ⟨_, rfl⟩
        rw [← hq] at hs2 hle OWk
        clear hs hq
        have hs3 : (0 : Int) < (q : Int) := by omega
        have hs4 : decide ((0 : Int) < (q : Int)) = true := by simp; omega
        have hW5 := HH.out.2.size
        go_wp2_with (first | (go_at_call 25; (with_reducible refine (OWk.out _ (by (repeat' (first | (with_reducible exact Below.refl _ _) | (with_reducible refine Below.setCell ?_ (by first | omega | (simp; done) | (simp; omega)) _) | (with_reducible refine Below.alloc ?_ (by first | omega | (simp; done) | (simp; omega)) _) | (with_reducible refine Below.drew ?_) | (with_reducible refine below_drewN ?_ _) | (with_reducible refine Below.trans ?_ (Below.mono (by assumption) (by first | omega | (simp; done) | (simp; omega)))))))).mono ?_); rintro e wo ⟨ao3, co3, rfl, hNI, hb3⟩; clear hNI; obtain ⟨hc3, hf3, hz3⟩ := bcall hb3; (try simp at hc3 hf3 hz3)) | (at_builtin; refine wpList_append_own _ rfl _ _ 25 rfl w1.heap.size 3 i0 (.int .i64 0) 1 8 Tryd.underlying25 hi hz0 hz1 hz2 rfl (by omega) _ _ _ rfl (owns_below HH.out.1 (by (repeat' (first | (with_reducible exact Below.refl _ _) | (with_reducible refine Below.setCell ?_ (by first | omega | (simp; done) | (simp; omega)) _) | (with_reducible refine Below.alloc ?_ (by first | omega | (simp; done) | (simp; omega)) _) | (with_reducible refine Below.drew ?_) | (with_reducible refine below_drewN ?_ _) | (with_reducible refine Below.trans ?_ (Below.mono (by assumption) (by first | omega | (simp; done) | (simp; omega)))))))) _ 1 1 [.int .i64 ((k : Int) + 1)] rfl rfl (by intro j u hu; match j with | 0 => (simp at hu; subst hu; simp only [Addr.add, Nat.zero_add]; exact (World.cell?_alloc_at _ _ _ _ (by simp)).trans rfl) | _ + 1 => simp at hu) (by intro u hu; simp at hu; subst hu; rfl) (by unfold maxLen; omega) (by omega) (by simp; omega) ?_; intro v' w6 hown hgrow _))
        have HN := Lib.hid (ints_app HH.out (by (repeat' (first | (with_reducible exact Below.refl _ _) | (with_reducible refine Below.setCell ?_ (by first | omega | (simp; done) | (simp; omega)) _) | (with_reducible refine Below.alloc ?_ (by first | omega | (simp; done) | (simp; omega)) _) | (with_reducible refine Below.drew ?_) | (with_reducible refine below_drewN ?_ _) | (with_reducible refine Below.trans ?_ (Below.mono (by assumption) (by first | omega | (simp; done) | (simp; omega))))))) hown hgrow)
        clear hown hgrow hc3 hf3 hz3 hb3 hs4
        go_roundw
        case rel => exact ⟨k + 1, by omega, by go_num, Lib.hid (by rw [HD.out]; exact HN.out)⟩
        case measure => simp [intOf]; omega
      · have h0 : cntB B ((k : Int) + 1) n = 0 := by omega
        have HD := Lib.hid (bodP_no h0)
        have hs2 : (ownN B ((k : Int) + 1) n).length = 0 := by rw [ownN_len]; exact h0
        rw [hs2] at OWk
        clear hs hs2 h0 hle
        go_wp2_with (go_at_call 25; (with_reducible refine (OWk.out _ (by (repeat' (first | (with_reducible exact Below.refl _ _) | (with_reducible refine Below.setCell ?_ (by first | omega | (simp; done) | (simp; omega)) _) | (with_reducible refine Below.alloc ?_ (by first | omega | (simp; done) | (simp; omega)) _) | (with_reducible refine Below.drew ?_) | (with_reducible refine below_drewN ?_ _) | (with_reducible refine Below.trans ?_ (Below.mono (by assumption) (by first | omega | (simp; done) | (simp; omega)))))))).mono ?_); rintro e wo ⟨ao3, co3, rfl, hNI, hb3⟩; clear hNI; obtain ⟨hc3, hf3, hz3⟩ := bcall hb3; (try simp at hc3 hf3 hz3))
        go_roundw
        case rel => exact ⟨k + 1, by omega, by go_num, Lib.hid (by rw [HD.out]; exact ⟨owns_below HH.out.1 hb3, HH.out.2.trans (hb3.mono HH.out.2.size)⟩)⟩
        case measure => simp [intOf]; omega
    · obtain rfl : k = 9 := by omega
      clear OWk hle x0 x1
      have HR := Lib.hid HH.out.1
      rw [bodP_nine] at HR
      go_wp2
      go_ret2
      exact ⟨_, rfl, ownsRow_base_a HR.out H0.out.size, HW.out⟩
end Go.Proofs.YtdbehbeaigfpcaaDoor
