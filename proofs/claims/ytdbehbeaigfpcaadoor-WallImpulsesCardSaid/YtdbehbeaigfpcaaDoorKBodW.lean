/- The shelf's contracts for slices.Sorted(maps.Keys(map[int]int)): laid by program, in plain words. -/
import Derived.Shelf.SlIterI.Nil
import Derived.Shelf.SortM.Plain
import Derived.Shelf.SortM.SortNone
import Derived.Test.YtdbehbeaigfpcaaDoorKBase
import Derived.Test.YtdbehbeaigfpcaaDoorKSeqW
import Derived.Test.YtdbehbeaigfpcaaDoorKWChk
namespace Go.Proofs.YtdbehbeaigfpcaaDoor
set_option linter.unusedSimpArgs false
set_option linter.unusedVariables false
open Go.Shelf
def keysA_ren : Go.Shelf.Ren := ⟨fun | 7 => 29 | 10 => 49 | n => n, fun | 23 => 66 | 26 => 3 | 3 => 3 | 28 => 64 | 0 => 0 | 27 => 63 | 33 => 59 | 4 => 4 | n => n, fun | n => n⟩
theorem keysA : Go.Proofs.SlLaysZI.n7 Tryd.prog keysA_ren := {
  mixed := by kernel_rfl
  f7 := ⟨Tryd.f29.name, by decide, Tryd.func29.trans (congrArg some (by kernel_rfl))⟩
  f10 := ⟨Tryd.f49.name, by decide, Tryd.func49.trans (congrArg some (by kernel_rfl))⟩
  t0 := Tryd.underlying0
  a0 := Tryd.isAgg0
  z0 := Tryd.sizeOf0
  v0 := Tryd.zeroValue0
  t4 := Tryd.underlying4
  a4 := Tryd.isAgg4
  z4 := Tryd.sizeOf4
  v4 := Tryd.zeroValue4
  t23 := Tryd.underlying66
  a23 := Tryd.isAgg66
  z23 := Tryd.sizeOf66
  v23 := Tryd.zeroValue66
  t26 := Tryd.underlying3
  a26 := Tryd.isAgg3
  z26 := Tryd.sizeOf3
  v26 := Tryd.zeroValue3
  t27 := Tryd.underlying63
  a27 := Tryd.isAgg63
  z27 := Tryd.sizeOf63
  v27 := Tryd.zeroValue63
  t28 := Tryd.underlying64
  a28 := Tryd.isAgg64
  z28 := Tryd.sizeOf64
  v28 := Tryd.zeroValue64
  t33 := Tryd.underlying59
  a33 := Tryd.isAgg59
  z33 := Tryd.sizeOf59
  v33 := Tryd.zeroValue59 }
def sortedA_ren : Go.Shelf.Ren := ⟨fun | 6 => 28 | 8 => 31 | 9 => 48 | 11 => 50 | 13 => 66 | 12 => 65 | 23 => 91 | 24 => 92 | 14 => 82 | 15 => 83 | 16 => 84 | 17 => 85 | 18 => 86 | 19 => 87 | 20 => 88 | 21 => 89 | 22 => 90 | 25 => 101 | 26 => 102 | 27 => 103 | 28 => 104 | 29 => 105 | 30 => 106 | 31 => 109 | n => n, fun | 26 => 3 | 28 => 64 | 24 => 25 | 0 => 0 | 3 => 3 | 37 => 103 | 48 => 129 | 50 => 131 | 4 => 4 | 40 => 123 | 39 => 122 | 45 => 96 | 5 => 5 | 9 => 9 | 51 => 136 | 55 => 140 | 57 => 143 | 58 => 80 | 33 => 59 | n => n, fun | n => n⟩
theorem sortedA : Go.Proofs.SlLaysZI.n6 Tryd.prog sortedA_ren := {
  mixed := by kernel_rfl
  f6 := ⟨Tryd.f28.name, by decide, Tryd.func28.trans (congrArg some (by kernel_rfl))⟩
  f8 := ⟨Tryd.f31.name, by decide, Tryd.func31.trans (congrArg some (by kernel_rfl))⟩
  f11 := ⟨Tryd.f50.name, by decide, Tryd.func50.trans (congrArg some (by kernel_rfl))⟩
  t0 := Tryd.underlying0
  a0 := Tryd.isAgg0
  z0 := Tryd.sizeOf0
  v0 := Tryd.zeroValue0
  t24 := Tryd.underlying25
  a24 := Tryd.isAgg25
  z24 := Tryd.sizeOf25
  v24 := Tryd.zeroValue25
  t26 := Tryd.underlying3
  a26 := Tryd.isAgg3
  z26 := Tryd.sizeOf3
  v26 := Tryd.zeroValue3
  t28 := Tryd.underlying64
  a28 := Tryd.isAgg64
  z28 := Tryd.sizeOf64
  v28 := Tryd.zeroValue64
  i26 := by kernel_rfl }
def sortA_ren : Go.Shelf.Ren := ⟨fun | 5 => 48 | 8 => 66 | 7 => 65 | 19 => 91 | 20 => 92 | 10 => 82 | 11 => 83 | 12 => 84 | 13 => 85 | 14 => 86 | 15 => 87 | 16 => 88 | 17 => 89 | 18 => 90 | 30 => 101 | 31 => 102 | 32 => 103 | 33 => 104 | 34 => 105 | 35 => 106 | 40 => 109 | n => n, fun | 23 => 25 | 25 => 3 | 3 => 3 | 32 => 103 | 22 => 25 | 0 => 0 | 44 => 129 | 46 => 131 | 4 => 4 | 36 => 123 | 35 => 122 | 41 => 96 | 5 => 5 | 9 => 9 | 53 => 136 | 57 => 140 | 63 => 143 | 64 => 80 | n => n, fun | n => n⟩
theorem sortA : Go.Proofs.SlLaysM.n5 Tryd.prog sortA_ren := {
  mixed := by kernel_rfl
  f5 := ⟨Tryd.f48.name, by decide, Tryd.func48.trans (congrArg some (by kernel_rfl))⟩
  f7 := ⟨Tryd.f65.name, by decide, Tryd.func65.trans (congrArg some (by kernel_rfl))⟩
  f8 := Tryd.func66.trans (congrArg some (by kernel_rfl))
  f10 := ⟨Tryd.f82.name, by decide, Tryd.func82.trans (congrArg some (by kernel_rfl))⟩
  f11 := ⟨Tryd.f83.name, by decide, Tryd.func83.trans (congrArg some (by kernel_rfl))⟩
  f12 := ⟨Tryd.f84.name, by decide, Tryd.func84.trans (congrArg some (by kernel_rfl))⟩
  f13 := ⟨Tryd.f85.name, by decide, Tryd.func85.trans (congrArg some (by kernel_rfl))⟩
  f14 := ⟨Tryd.f86.name, by decide, Tryd.func86.trans (congrArg some (by kernel_rfl))⟩
  f15 := ⟨Tryd.f87.name, by decide, Tryd.func87.trans (congrArg some (by kernel_rfl))⟩
  f16 := ⟨Tryd.f88.name, by decide, Tryd.func88.trans (congrArg some (by kernel_rfl))⟩
  f17 := ⟨Tryd.f89.name, by decide, Tryd.func89.trans (congrArg some (by kernel_rfl))⟩
  f18 := ⟨Tryd.f90.name, by decide, Tryd.func90.trans (congrArg some (by kernel_rfl))⟩
  f19 := Tryd.func91.trans (congrArg some (by kernel_rfl))
  f20 := Tryd.func92.trans (congrArg some (by kernel_rfl))
  f30 := ⟨Tryd.f101.name, by decide, Tryd.func101.trans (congrArg some (by kernel_rfl))⟩
  f31 := Tryd.func102.trans (congrArg some (by kernel_rfl))
  f32 := Tryd.func103.trans (congrArg some (by kernel_rfl))
  f33 := ⟨Tryd.f104.name, by decide, Tryd.func104.trans (congrArg some (by kernel_rfl))⟩
  f34 := ⟨Tryd.f105.name, by decide, Tryd.func105.trans (congrArg some (by kernel_rfl))⟩
  f35 := ⟨Tryd.f106.name, by decide, Tryd.func106.trans (congrArg some (by kernel_rfl))⟩
  f40 := ⟨Tryd.f109.name, by decide, Tryd.func109.trans (congrArg some (by kernel_rfl))⟩
  t0 := Tryd.underlying0
  a0 := Tryd.isAgg0
  z0 := Tryd.sizeOf0
  v0 := Tryd.zeroValue0
  t3 := Tryd.underlying3
  a3 := Tryd.isAgg3
  z3 := Tryd.sizeOf3
  v3 := Tryd.zeroValue3
  t4 := Tryd.underlying4
  a4 := Tryd.isAgg4
  z4 := Tryd.sizeOf4
  v4 := Tryd.zeroValue4
  t5 := Tryd.underlying5
  a5 := Tryd.isAgg5
  z5 := Tryd.sizeOf5
  v5 := Tryd.zeroValue5
  t9 := Tryd.underlying9
  a9 := Tryd.isAgg9
  z9 := Tryd.sizeOf9
  v9 := Tryd.zeroValue9
  t22 := Tryd.underlying25
  a22 := Tryd.isAgg25
  z22 := Tryd.sizeOf25
  v22 := Tryd.zeroValue25
  t23 := Tryd.underlying25
  a23 := Tryd.isAgg25
  z23 := Tryd.sizeOf25
  v23 := Tryd.zeroValue25
  t25 := Tryd.underlying3
  a25 := Tryd.isAgg3
  z25 := Tryd.sizeOf3
  v25 := Tryd.zeroValue3
  t32 := Tryd.underlying103
  a32 := Tryd.isAgg103
  z32 := Tryd.sizeOf103
  v32 := Tryd.zeroValue103
  t35 := Tryd.underlying122
  a35 := Tryd.isAgg122
  z35 := Tryd.sizeOf122
  v35 := Tryd.zeroValue122
  t36 := Tryd.underlying123
  a36 := Tryd.isAgg123
  z36 := Tryd.sizeOf123
  v36 := Tryd.zeroValue123
  t41 := Tryd.underlying96
  a41 := Tryd.isAgg96
  z41 := Tryd.sizeOf96
  v41 := Tryd.zeroValue96
  t44 := Tryd.underlying129
  a44 := Tryd.isAgg129
  z44 := Tryd.sizeOf129
  v44 := Tryd.zeroValue129
  t46 := Tryd.underlying131
  a46 := Tryd.isAgg131
  z46 := Tryd.sizeOf131
  v46 := Tryd.zeroValue131
  t53 := Tryd.underlying136
  a53 := Tryd.isAgg136
  z53 := Tryd.sizeOf136
  v53 := Tryd.zeroValue136
  t57 := Tryd.underlying140
  a57 := Tryd.isAgg140
  z57 := Tryd.sizeOf140
  v57 := Tryd.zeroValue140
  t63 := Tryd.underlying143
  a63 := Tryd.isAgg143
  z63 := Tryd.sizeOf143
  v63 := Tryd.zeroValue143
  t64 := Tryd.underlying80
  a64 := Tryd.isAgg80
  z64 := Tryd.sizeOf80
  v64 := Tryd.zeroValue80 }
end Go.Proofs.YtdbehbeaigfpcaaDoor

/- Which bodies stand in a wall: by the program. -/



namespace Go.Proofs.YtdbehbeaigfpcaaDoor
set_option linter.unusedSimpArgs false
set_option linter.unusedVariables false
open Go.RowKit Go.Maps Go.Sort Go.Shelf

/-- The bodies that have a cell, from 1 upward. -/
def bodL (B : Nat → Int) (n : Nat) : List Int := ([1, 2, 3, 4, 5, 6, 7, 8, 9] : List Int).filter fun b => decide (0 < cntB B b n)
theorem bodL_nodup (B : Nat → Int) (n : Nat) : (bodL B n).Nodup := List.Pairwise.filter _ (by decide)
theorem bodL_sorted (B : Nat → Int) (n : Nat) : (bodL B n).Pairwise (fun a b => leI a b = true) := List.Pairwise.filter _ (by decide)
theorem cntB_pos {B : Nat → Int} {b : Int} {n : Nat} (h : 0 < cntB B b n) : ∃ i, i < n ∧ B i = b := by
  induction n with
  | zero => simp [cntB] at h
  | succ n ih =>
    by_cases hb : B n = b
    · exact ⟨n, by omega, hb⟩
    · simp only [cntB, if_neg hb] at h
      obtain ⟨i, hi, e⟩ := ih (by omega)
      exact ⟨i, by omega, e⟩
theorem mem_bodL {B : Nat → Int} {n : Nat} (hP : ∀ i, i < n → 0 ≤ B i ∧ B i ≤ 9) (x : Int) : x ∈ bodL B n ↔ x ≠ 0 ∧ 0 < cntB B x n := by
  unfold bodL
  rw [List.mem_filter, decide_eq_true_eq]
  constructor
  · rintro ⟨h, hc⟩
    refine ⟨?_, hc⟩
    simp at h
    omega
  · rintro ⟨h0, hc⟩
    refine ⟨?_, hc⟩
    obtain ⟨i, hi, e⟩ := cntB_pos hc
    have := hP i hi
    simp
    omega
theorem bodL_len (B : Nat → Int) (n : Nat) : (bodL B n).length ≤ 9 := List.length_filter_le _ _
theorem bodL_sort {B : Nat → Int} {n : Nat} {D : DataW Unit} {w : World} {m k : Nat} {R : Value → Option (DataW Unit × List MemPlace)} (hP : ∀ i, i < n → 0 ≤ B i ∧ B i ≤ 9) (hD : CntD D n B) (hown : w.ownsMap Tryd.prog 3 R m k D) {ss : List Int} (h : ss.Perm (intKeys D)) : ss.length = (bodL B n).length ∧ ss.mergeSort (fun x y => decide (x ≤ y)) = bodL B n := by
  have hc : CollectedI D (fun _ => false) (bodL B n) := ⟨bodL_nodup B n, fun x => by rw [mem_bodL hP, hD.2.2 x]; simp⟩
  have hp := h.trans (hc.perm hown lawI Tryd.underlying3 (fun _ => rfl)).symm
  refine ⟨hp.length_eq, ?_⟩
  have e := mergeSort_of_perm_i hp
  exact e.trans (List.mergeSort_of_pairwise (bodL_sorted B n))

/-- slices.Sort's two contracts. -/
theorem sortsA (m : Nat) : AnyZI.SortsIn Tryd.prog sortedA_ren Fence.wide m :=
  ⟨fun blk off cap ss W hH hblk hsz => callsIn_wide.2 (AnyM.slices_Sort_int sortA blk off cap ss W hH hblk hsz),
   fun p cap W => callsIn_wide.2 (AnyM.slices_Sort_int_none sortA p cap W)⟩

set_option maxHeartbeats 2000000 in
theorem wbodies_in (W H : Int) (ao : Option Addr) (n cap : Nat) (ak : Option Addr) (nk ck bb ob cb : Nat) (B : Nat → Int) (w : World) (hn : n ≤ 1024) (lbb : bb < w.heap.size) (hB : NumsAt w bb ob n B) (hP : ∀ i, i < n → 0 ≤ B i ∧ B i ≤ 9)
    (V : ∀ wx, Below w.heap.size w wx → Calls Tryd.prog 27 #[.agg #[.int .i64 W, .int .i64 H, .slice (ao) n cap], .agg #[.slice (ak) nk ck, .slice (some ⟨bb, ob, none⟩) n cb]] wx fun e w' => e = .returned (.bool true) ∧ Below wx.heap.size wx w') :
    Calls Tryd.prog 9 #[.agg #[.int .i64 W, .int .i64 H, .slice (ao) n cap], .agg #[.slice (ak) nk ck, .slice (some ⟨bb, ob, none⟩) n cb]] w fun e w' => ∃ v, e = .returned (.tuple #[v, .int .i64 0]) ∧ w'.ownsRow w.heap.size 3 1 v (bodL B n).length ((bodL B n).map encZ) ∧ Below w.heap.size w w' := by
  have V := Lib.hid V
  have CC := Lib.hid (fun wx (hx : Below w.heap.size w wx) => wcounts_in ak nk ck bb ob n cb B wx hn (Nat.lt_of_lt_of_le lbb hx.size) (hB.below hx lbb) hP)
  have HP := Lib.hid hP
  clear hB hP
  go_enter Tryd.func9, Tryd.ntmps9
  go_wp2_with (first | (go_at_call 27; (with_reducible refine (V.out _ (by (repeat' (first | (with_reducible exact Below.refl _ _) | (with_reducible refine Below.setCell ?_ (by first | omega | (simp; done) | (simp; omega)) _) | (with_reducible refine Below.alloc ?_ (by first | omega | (simp; done) | (simp; omega)) _) | (with_reducible refine Below.drew ?_) | (with_reducible refine below_drewN ?_ _) | (with_reducible refine Below.trans ?_ (Below.mono (by assumption) (by first | omega | (simp; done) | (simp; omega)))))))).mono ?_); rintro e w1 ⟨rfl, hb⟩; obtain ⟨hc, hf, hz⟩ := bcall hb; (try simp at hc hf hz)) | (go_at_call 30; (with_reducible refine (CC.out _ (by (repeat' (first | (with_reducible exact Below.refl _ _) | (with_reducible refine Below.setCell ?_ (by first | omega | (simp; done) | (simp; omega)) _) | (with_reducible refine Below.alloc ?_ (by first | omega | (simp; done) | (simp; omega)) _) | (with_reducible refine Below.drew ?_) | (with_reducible refine below_drewN ?_ _) | (with_reducible refine Below.trans ?_ (Below.mono (by assumption) (by first | omega | (simp; done) | (simp; omega)))))))).mono ?_); rintro e wc ⟨m, D, rfl, hO, lo, hb⟩; have HO := Lib.hid hO.out; clear hO; obtain ⟨hc, hf, hz⟩ := bcall hb; (try simp at hc hf hz)))
  have cK : CallsIn Fence.wide 5 Tryd.prog 29 #[.map (some m)] wc fun e w' => e = .returned (.func (.func 49) #[] #[.pointer (some ⟨wc.heap.size, 0, none⟩)]) ∧ w' = wc.alloc (.cells #[.map (some m)] 66) := AnyZI.keys_in keysA Fence.wide 5 trivial rfl (some m) wc
  have hown := HO.out.1
  have hsz : Maps.size D ≤ 1024 := by
    have hp : (bodL B n).length ≤ 9 := bodL_len B n
    have hc : CollectedI D (fun _ => false) (bodL B n) := ⟨bodL_nodup B n, fun x => by rw [mem_bodL HP.out, HO.out.2.2.2 x]; simp⟩
    have e := (hc.perm hown lawI Tryd.underlying3 (fun _ => rfl)).length_eq
    have e2 : (intKeys D).length = Maps.size D := by
      obtain ⟨es, rfl, _⟩ := hown.keysOf
      simp [intKeys, Maps.size]
    omega
  have hlt := hown.lt
  have hseq : SeqGives Fence.wide 2 Tryd.prog 49 #[.pointer (some ⟨wc.heap.size, 0, none⟩)] encZ (fun ss => ss.Perm (intKeys D)) (Maps.size D) (wc.alloc (.cells #[.map (some m)] 66)) :=
    AnyZI.keys_gives (ρ := keysA_ren) { keysA with } Fence.wide _ trivial rfl (by omega) wc.heap.size m n D _ (by simp) (by simp) (by
      obtain ⟨es, clock, hb, Ft, hs, hD⟩ := hown
      exact ⟨es, clock, (Below.heap_alloc _ _ m hlt).trans hb, Ft, hs, hD⟩)
  have cS := AnyZI.sorted_in sortedA Fence.wide 5 trivial trivial trivial trivial rfl (by omega) (sortsA _) (enters_of Tryd.func48 (by kernel_rfl) rfl) 49 #[.pointer (some ⟨wc.heap.size, 0, none⟩)] trivial (enters_of Tryd.func49 (by kernel_rfl) rfl) _ _ (by unfold maxLen; omega) (by omega) _ hseq
  change CallsIn _ _ Tryd.prog 28 _ _ _ at cS
  have CK := Lib.hid (callsIn_wide.1 cK)
  have CS := Lib.hid (callsIn_wide.1 cS)
  clear cK cS hown hsz hlt hseq
  go_at_call 29
  refine CK.out.mono ?_
  rintro e w2 ⟨rfl, rfl⟩
  go_wp2_with fail
  go_at_call 28
  refine CS.out.mono ?_
  rintro e w3 ⟨v, ss, rfl, hS, hrow, hnil, hb3⟩
  obtain ⟨el, es⟩ := bodL_sort HP.out HO.out.2 HO.out.1 hS
  rw [el, es] at hrow
  have HR := Lib.hid hrow
  clear hnil hS el es hrow
  go_wp2
  go_ret2
  refine ⟨v, rfl, ownsRow_base_a HR.out (by simp; omega), ?_⟩
  (repeat' (first | (with_reducible exact Below.refl _ _) | (with_reducible refine Below.setCell ?_ (by first | omega | (simp; done) | (simp; omega)) _) | (with_reducible refine Below.alloc ?_ (by first | omega | (simp; done) | (simp; omega)) _) | (with_reducible refine Below.drew ?_) | (with_reducible refine below_drewN ?_ _) | (with_reducible refine Below.trans ?_ (Below.mono (by assumption) (by first | omega | (simp; done) | (simp; omega))))))
end Go.Proofs.YtdbehbeaigfpcaaDoor
