/- Which bodies stand in a wall: by the program. -/
import Derived.Test.YtnpmlbhlchoolaaDoorKCntW
import Derived.Test.YtnpmlbhlchoolaaDoorKShelfW
import Derived.Test.YtnpmlbhlchoolaaDoorKWChk
namespace Go.Proofs.YtnpmlbhlchoolaaDoor
set_option linter.unusedSimpArgs false
set_option linter.unusedVariables false
open Go.RowKit Go.Maps Go.Sort Go.Shelf

/-- The bodies that have a cell, from 1 upward. -/
def bodL (B : Nat → Int) (n : Nat) : List Int := ([1, 2, 3, 4, 5, 6, 7, 8, 9] : List Int).filter fun b => decide (0 < cntB B b n)
theorem bodL_nodup (B : Nat → Int) (n : Nat) : (bodL B n).Nodup := List.Pairwise.filter _ (by decide)
theorem bodL_sorted (B : Nat → Int) (n : Nat) : (bodL B n).Pairwise (fun a b => leI a b = true) := List.Pairwise.filter _ (by decide)
theorem cntB_pos {B : Nat → Int} {b : Int} {n : Nat} (h : 0 < cntB B b n) : ∃ i, i < n ∧ B i = b := by
  induction n with
  | zero => simp [cntB] at h
  | succ n ih =>
    by_cases hb : B n = b
    · exact ⟨n, by omega, hb⟩
    · simp only [cntB, if_neg hb] at h
      obtain ⟨i, hi, e⟩ := ih (by omega)
      exact ⟨i, by omega, e⟩
theorem mem_bodL {B : Nat → Int} {n : Nat} (hP : ∀ i, i < n → 0 ≤ B i ∧ B i ≤ 9) (x : Int) : x ∈ bodL B n ↔ x ≠ 0 ∧ 0 < cntB B x n := by
  unfold bodL
  rw [List.mem_filter, decide_eq_true_eq]
  constructor
  · rintro ⟨h, hc⟩
    refine ⟨?_, hc⟩
    simp at h
    omega
  · rintro ⟨h0, hc⟩
    refine ⟨?_, hc⟩
    obtain ⟨i, hi, e⟩ := cntB_pos hc
    have := hP i hi
    simp
    omega
theorem bodL_len (B : Nat → Int) (n : Nat) : (bodL B n).length ≤ 9 := List.length_filter_le _ _
theorem bodL_sort {B : Nat → Int} {n : Nat} {D : DataW Unit} {w : World} {m k : Nat} {R : Value → Option (DataW Unit × List MemPlace)} (hP : ∀ i, i < n → 0 ≤ B i ∧ B i ≤ 9) (hD : CntD D n B) (hown : w.ownsMap Tryd.prog 3 R m k D) {ss : List Int} (h : ss.Perm (intKeys D)) : ss.length = (bodL B n).length ∧ ss.mergeSort (fun x y => decide (x ≤ y)) = bodL B n := by
  have hc : CollectedI D (fun _ => false) (bodL B n) := ⟨bodL_nodup B n, fun x => by rw [mem_bodL hP, hD.2.2 x]; simp⟩
  have hp := h.trans (hc.perm hown lawI Tryd.underlying3 (fun _ => rfl)).symm
  refine ⟨hp.length_eq, ?_⟩
  have e := mergeSort_of_perm_i hp
  exact e.trans (List.mergeSort_of_pairwise (bodL_sorted B n))

/-- slices.Sort's two contracts. -/
theorem sortsA (m : Nat) : AnyZI.SortsIn Tryd.prog sortedA_ren Fence.wide m :=
  ⟨fun blk off cap ss W hH hblk hsz => callsIn_wide.2 (AnyM.slices_Sort_int sortA blk off cap ss W hH hblk hsz),
   fun p cap W => callsIn_wide.2 (AnyM.slices_Sort_int_none sortA p cap W)⟩

set_option maxHeartbeats 2000000 in
theorem wbodies_in (W H : Int) (ao : Option Addr) (n cap : Nat) (ak : Option Addr) (nk ck bb ob cb : Nat) (B : Nat → Int) (w : World) (hn : n ≤ 1024) (lbb : bb < w.heap.size) (hB : NumsAt w bb ob n B) (hP : ∀ i, i < n → 0 ≤ B i ∧ B i ≤ 9)
    (V : ∀ wx, Below w.heap.size w wx → Calls Tryd.prog 49 #[.agg #[.int .i64 W, .int .i64 H, .slice (ao) n cap], .agg #[.slice (ak) nk ck, .slice (some ⟨bb, ob, none⟩) n cb]] wx fun e w' => e = .returned (.bool true) ∧ Below wx.heap.size wx w') :
    Calls Tryd.prog 22 #[.agg #[.int .i64 W, .int .i64 H, .slice (ao) n cap], .agg #[.slice (ak) nk ck, .slice (some ⟨bb, ob, none⟩) n cb]] w fun e w' => ∃ v, e = .returned (.tuple #[v, .int .i64 0]) ∧ w'.ownsRow w.heap.size 3 1 v (bodL B n).length ((bodL B n).map encZ) ∧ Below w.heap.size w w' := by
  have V := Lib.hid V
  have CC := Lib.hid (fun wx (hx : Below w.heap.size w wx) => wcounts_in ak nk ck bb ob n cb B wx hn (Nat.lt_of_lt_of_le lbb hx.size) (hB.below hx lbb) hP)
  have HP := Lib.hid hP
  clear hB hP
  go_enter Tryd.func22, Tryd.ntmps22
  go_wp2_with (first | (go_at_call 49; (with_reducible refine (V.out _ (by (repeat' (first | (with_reducible exact Below.refl _ _) | (with_reducible refine Below.setCell ?_ (by first | omega | (simp; done) | (simp; omega)) _) | (with_reducible refine Below.alloc ?_ (by first | omega | (simp; done) | (simp; omega)) _) | (with_reducible refine Below.drew ?_) | (with_reducible refine below_drewN ?_ _) | (with_reducible refine Below.trans ?_ (Below.mono (by assumption) (by first | omega | (simp; done) | (simp; omega)))))))).mono ?_); rintro e w1 ⟨rfl, hb⟩; obtain ⟨hc, hf, hz⟩ := bcall hb; (try simp at hc hf hz)) | (go_at_call 52; (with_reducible refine (CC.out _ (by (repeat' (first | (with_reducible exact Below.refl _ _) | (with_reducible refine Below.setCell ?_ (by first | omega | (simp; done) | (simp; omega)) _) | (with_reducible refine Below.alloc ?_ (by first | omega | (simp; done) | (simp; omega)) _) | (with_reducible refine Below.drew ?_) | (with_reducible refine below_drewN ?_ _) | (with_reducible refine Below.trans ?_ (Below.mono (by assumption) (by first | omega | (simp; done) | (simp; omega)))))))).mono ?_); rintro e wc ⟨m, D, rfl, hO, lo, hb⟩; have HO := Lib.hid hO.out; clear hO; obtain ⟨hc, hf, hz⟩ := bcall hb; (try simp at hc hf hz)))
  have cK : CallsIn Fence.wide 5 Tryd.prog 51 #[.map (some m)] wc fun e w' => e = .returned (.func (.func 89) #[] #[.pointer (some ⟨wc.heap.size, 0, none⟩)]) ∧ w' = wc.alloc (.cells #[.map (some m)] 85) := AnyZI.keys_in keysA Fence.wide 5 trivial rfl (some m) wc
  have hown := HO.out.1
  have hsz : Maps.size D ≤ 1024 := by
    have hp : (bodL B n).length ≤ 9 := bodL_len B n
    have hc : CollectedI D (fun _ => false) (bodL B n) := ⟨bodL_nodup B n, fun x => by rw [mem_bodL HP.out, HO.out.2.2.2 x]; simp⟩
    have e := (hc.perm hown lawI Tryd.underlying3 (fun _ => rfl)).length_eq
    have e2 : (intKeys D).length = Maps.size D := by
      obtain ⟨es, rfl, _⟩ := hown.keysOf
      simp [intKeys, Maps.size]
    omega
  have hlt := hown.lt
  have hseq : SeqGives Fence.wide 2 Tryd.prog 89 #[.pointer (some ⟨wc.heap.size, 0, none⟩)] encZ (fun ss => ss.Perm (intKeys D)) (Maps.size D) (wc.alloc (.cells #[.map (some m)] 85)) :=
    AnyZI.keys_gives (ρ := keysA_ren) { keysA with } Fence.wide _ trivial rfl (by omega) wc.heap.size m n D _ (by simp) (by simp) (by
      obtain ⟨es, clock, hb, Ft, hs, hD⟩ := hown
      exact ⟨es, clock, (Below.heap_alloc _ _ m hlt).trans hb, Ft, hs, hD⟩)
  have cS := AnyZI.sorted_in sortedA Fence.wide 5 trivial trivial trivial trivial rfl (by omega) (sortsA _) (enters_of Tryd.func88 (by kernel_rfl) rfl) 89 #[.pointer (some ⟨wc.heap.size, 0, none⟩)] trivial (enters_of Tryd.func89 (by kernel_rfl) rfl) _ _ (by unfold maxLen; omega) (by omega) _ hseq
  change CallsIn _ _ Tryd.prog 50 _ _ _ at cS
  have CK := Lib.hid (callsIn_wide.1 cK)
  have CS := Lib.hid (callsIn_wide.1 cS)
  clear cK cS hown hsz hlt hseq
  go_at_call 51
  refine CK.out.mono ?_
  rintro e w2 ⟨rfl, rfl⟩
  go_wp2_with fail
  go_at_call 50
  refine CS.out.mono ?_
  rintro e w3 ⟨v, ss, rfl, hS, hrow, hnil, hb3⟩
  obtain ⟨el, es⟩ := bodL_sort HP.out HO.out.2 HO.out.1 hS
  rw [el, es] at hrow
  have HR := Lib.hid hrow
  clear hnil hS el es hrow
  go_wp2
  go_ret2
  refine ⟨v, rfl, ownsRow_base_a HR.out (by simp; omega), ?_⟩
  (repeat' (first | (with_reducible exact Below.refl _ _) | (with_reducible refine Below.setCell ?_ (by first | omega | (simp; done) | (simp; omega)) _) | (with_reducible refine Below.alloc ?_ (by first | omega | (simp; done) | (simp; omega)) _) | (with_reducible refine Below.drew ?_) | (with_reducible refine below_drewN ?_ _) | (with_reducible refine Below.trans ?_ (Below.mono (by assumption) (by first | omega | (simp; done) | (simp; omega))))))
end Go.Proofs.YtnpmlbhlchoolaaDoor
