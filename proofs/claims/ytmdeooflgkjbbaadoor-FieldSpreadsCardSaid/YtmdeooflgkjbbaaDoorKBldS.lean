/- strings.Builder: WriteByte, with what it keeps: by the program. -/
import Derived.Test.YtmdeooflgkjbbaaDoorKBase
import Derived.Test.YtmdeooflgkjbbaaDoorKRules
import Derived.Shelf.Strings.Builder1
import Derived.Shelf.Strings.BuilderF
import Derived.Shelf.Strings.BuilderK
namespace Go.Proofs.YtmdeooflgkjbbaaDoor
set_option linter.unusedSimpArgs false
set_option linter.unusedVariables false
open Go.RowKit Go.Shelf

theorem info_u8 : (Tryd.prog.info? 5).map (fun i => (i.zero, i.size, i.bytes)) = some (some (.int .u8 0), 1, 1) := by kernel_rfl
theorem size_bld : (Tryd.prog.info? 122).map (·.size) = some 2 := by kernel_rfl
set_option maxHeartbeats 1000000 in
set_option maxRecDepth 100000 in
theorem bcheck_fresh (b : Nat) (w : World) (h0 : w.cell? ⟨b, 0, none⟩ = some (.pointer none)) (hsh : w.shape? b = some (122, 2)) (hfz : w.frozen? ⟨b, 0, none⟩ = false) :
    Calls Tryd.prog 148 #[.pointer (some ⟨b, 0, none⟩)] w fun e w' => e = .returned (.tuple #[]) ∧ w' = w.setCell ⟨b, 0, none⟩ (.pointer (some ⟨b, 0, none⟩)) := by
  obtain ⟨j, hj, hjs⟩ := Option.map_eq_some_iff.1 size_bld
  go_enter Tryd.func148, Tryd.ntmps148
  go_wp2
  rw [Lib.run_to_unsafe w ⟨b, 0, none⟩ Tryd.underlying119 Tryd.underlying203 hj (by rw [hjs]; decide) hsh (Nat.zero_lt_succ 1)]
  simp only [Result.andThen]
  rw [Oper.upon_value]
  go_wp2
  rw [run_callFunc_extern Tryd.func178 (by kernel_rfl) (by kernel_rfl) (by kernel_rfl) (e := Extern.AbiNoEscape.same) (by kernel_rfl)]
  rw [Lib.run_noEscape]
  simp only [Result.andThen]
  rw [Oper.upon_value]
  go_wp2
  rw [Lib.run_from_unsafe w ⟨b, 0, none⟩ Tryd.underlying203 Tryd.underlying119 hj hsh (by kernel_rfl)]
  simp only [Result.andThen]
  rw [Oper.upon_value]
  go_wp2
  go_end0
  exact ⟨rfl, rfl⟩
set_option maxHeartbeats 1000000 in
set_option maxRecDepth 100000 in
theorem bcheck_used (b : Nat) (w : World) (h0 : w.cell? ⟨b, 0, none⟩ = some (.pointer (some ⟨b, 0, none⟩))) :
    Calls Tryd.prog 148 #[.pointer (some ⟨b, 0, none⟩)] w fun e w' => e = .returned (.tuple #[]) ∧ w' = w := by
  obtain ⟨j, hj, hjs⟩ := Option.map_eq_some_iff.1 size_bld
  go_enter Tryd.func148, Tryd.ntmps148
  go_wp2
  rw [Lib.run_neq_ptr_same w _ Tryd.underlying119 hj]
  go_wp2
  go_end0
  exact ⟨rfl, rfl⟩
theorem rowF_form {w : World} {base : Nat} {e : TypeId} {size : Nat} {v : Value} {n : Nat} {xs : List Value} (h : w.ownsRow base e size v n xs) : ∃ ao c, v = .slice ao n c := by
  rcases h.2 with ⟨rfl, rfl⟩ | ⟨g, cap, cur, rfl, _⟩
  · exact ⟨_, _, rfl⟩
  · exact ⟨_, _, rfl⟩
/-- A builder, fresh or used. -/
def IsB (b : Nat) (bs : List Value) (w : World) : Prop := Lib.IsBuilder 122 5 b b bs w
theorem bcheck_in (b : Nat) (bs : List Value) (w : World) (h : IsB b bs w) :
    Calls Tryd.prog 148 #[.pointer (some ⟨b, 0, none⟩)] w fun e w' => e = .returned (.tuple #[]) ∧ Lib.BuilderAt 122 5 b b (.pointer (some ⟨b, 0, none⟩)) bs w' ∧ Below b w w' ∧ Lib.OthersKept 5 (some b) w w' ∧ w'.heap.size = w.heap.size := by
  rcases h with h | h
  · refine (bcheck_fresh b w h.cell0 h.shape h.frozen0).mono ?_
    rintro e w' ⟨rfl, rfl⟩
    exact ⟨rfl, h.used _, (Below.refl b w).setCell (p := ⟨b, 0, none⟩) (Nat.le_refl _) _, (Lib.OthersKept.refl _ _ w).setCell ⟨b, 0, none⟩ rfl _, by simp⟩
  · refine (bcheck_used b w h.cell0).mono ?_
    rintro e w' ⟨rfl, rfl⟩
    exact ⟨rfl, h, Below.refl b _, Lib.OthersKept.refl _ _ _, rfl⟩
set_option maxHeartbeats 4000000 in
set_option maxRecDepth 100000 in
theorem wbyte_in (b : Nat) (bs : List Value) (c : Int) (w : World) (h : IsB b bs w) (hlen : bs.length ≤ 100000) :
    Calls Tryd.prog 96 #[.pointer (some ⟨b, 0, none⟩), .int .u8 c] w fun e w' => e = .returned .nilIface ∧ IsB b (bs ++ [.int .u8 c]) w' ∧ Below b w w' ∧ Lib.OthersKept 5 (some b) w w' ∧ w.heap.size ≤ w'.heap.size := by
  obtain ⟨i0, hif, hz0, hz1, hz2⟩ := info_parts info_u8
  go_enter Tryd.func96, Tryd.ntmps96
  go_wp2_with fail
  go_at_call 148
  refine (bcheck_in b bs _ h).mono ?_
  rintro e w1 ⟨rfl, h1, hb1, hk1, hs1⟩
  have hlt := h1.lt
  have hs2 : w.heap.size ≤ w1.heap.size := hb1.size
  clear hs1
  obtain ⟨hB, v, hbk, hown, hne⟩ := h1
  have c0 : w1.cell? ⟨b, 0, none⟩ = some (.pointer (some ⟨b, 0, none⟩)) := by rw [Lib.cell_of_heap hbk]; rfl
  have c1 : w1.cell? ⟨b, 1, none⟩ = some v := by rw [Lib.cell_of_heap hbk]; rfl
  have f1 : w1.frozen? ⟨b, 1, none⟩ = false := by simp [World.frozen?, hbk]
  obtain ⟨va, vc, rfl⟩ : ∃ va vc, v = .slice va bs.length vc := by
    rcases hown.2 with ⟨rfl, hn⟩ | ⟨g, cap, cur, rfl, _⟩
    · exact ⟨none, 0, by rw [hn]⟩
    · exact ⟨_, _, rfl⟩
  have hvo : ∀ g, (Value.slice va bs.length vc).ownBlock = some g → g ≠ b ∧ ∃ c fz, w1.heap[g]? = some (.cells c 5 fz) := fun g hg => by
    refine ⟨fun e => hne (by rw [hg, e]), ?_⟩
    rcases hown.2 with ⟨e, _⟩ | ⟨g', cap, cur, e, _, hh, _⟩
    · rw [e] at hg; cases hg
    · rw [e] at hg
      cases hg
      exact ⟨_, _, hh⟩
  have HVO := Lib.hid hvo
  have HOW := Lib.hid hown
  have HBK := Lib.hid hbk
  clear hvo hown hbk hne
  go_wp2_with (at_builtin; refine wpList_append_own _ rfl _ _ 120 rfl b 5 i0 (.int .u8 0) 1 1 Tryd.underlying120 hif hz0 hz1 hz2 rfl (by decide) _ _ _ rfl (HOW.out.alloc _) ⟨w1.heap.size, 0, none⟩ 1 1 [.int .u8 c] rfl rfl (by intro j u hu; match j with | 0 => (simp at hu; subst hu; simp only [Addr.add, Nat.zero_add]; exact (World.cell?_alloc_at _ _ _ _ (by simp)).trans rfl) | _ + 1 => simp at hu) (by intro u hu; simp at hu; subst hu; rfl) (by unfold maxLen; omega) (by omega) (by simp; omega) ?_; intro v' w2 hown' hgrow hnil; obtain ⟨va', vc', rfl⟩ := rowF_form hown'; have hb2 := Lib.hid ((hgrow.block b (by simp; omega) (fun e => (HVO.out b e.symm).1 rfl)).trans ((Below.heap_alloc _ _ _ hlt).trans HBK.out)); have c2 : w2.cell? ⟨b, 1, none⟩ = some (.slice va bs.length vc) := (by rw [Lib.cell_of_heap hb2.out]; rfl); have f2 : w2.frozen? ⟨b, 1, none⟩ = false := (by simp [World.frozen?, hb2.out]); have HOW2 := Lib.hid hown'; have HGR := Lib.hid hgrow; clear hown' hgrow hnil)
  refine bodyPost_ret (v := .nilIface) (by simp [results, Tryd.results96, go_sem]) rfl ?_
  have hs3 : w1.heap.size + 1 ≤ w2.heap.size := by have := HGR.out.size; simpa using this
  have hB1 := hb1.size
  refine ⟨rfl, .inr ?_, ?_, ?_, ?_⟩
  · exact Lib.BuilderAt.put (Nat.le_refl _) hb2.out (bs' := bs ++ [.int .u8 c]) (by simpa using HOW2.out) (by decide)
  · exact ((hb1.alloc (by omega) _).grown HGR.out (by simp; omega) (fun k hk => (HOW.out.lt k hk).1)).setCell (p := ⟨b, 1, none⟩) (Nat.le_refl _) _
  · refine ((hk1.alloc _).grown HGR.out (fun g hg => ?_)).setCell ⟨b, 1, none⟩ rfl _
    obtain ⟨c', fz, hh⟩ := (HVO.out g hg).2
    exact ⟨c', fz, (Below.heap_alloc _ _ _ (Array.getElem?_eq_some_iff.1 hh).1).trans hh⟩
  · simp [World.setCell]; omega
end Go.Proofs.YtmdeooflgkjbbaaDoor

/- strings.Builder: String, by the shelf's contract: laid at this program. -/

namespace Go.Proofs.YtmdeooflgkjbbaaDoor
set_option linter.unusedSimpArgs false
set_option linter.unusedVariables false
open Go.RowKit Go.Shelf

def strA_ren : Go.Shelf.Ren := ⟨fun | 169 => 98 | n => n, fun | 70 => 119 | 9 => 9 | 0 => 0 | 72 => 122 | 37 => 120 | 127 => 183 | 3 => 3 | 5 => 5 | n => n, fun | n => n⟩
theorem strA : Go.Proofs.Lays.n169 Tryd.prog strA_ren := {
  mixed := by kernel_rfl
  f169 := Tryd.func98.trans (congrArg some (by kernel_rfl))
  t0 := Tryd.underlying0
  a0 := Tryd.isAgg0
  z0 := Tryd.sizeOf0
  v0 := Tryd.zeroValue0
  t3 := Tryd.underlying3
  a3 := Tryd.isAgg3
  z3 := Tryd.sizeOf3
  v3 := Tryd.zeroValue3
  t9 := Tryd.underlying9
  a9 := Tryd.isAgg9
  z9 := Tryd.sizeOf9
  v9 := Tryd.zeroValue9
  t37 := Tryd.underlying120
  a37 := Tryd.isAgg120
  z37 := Tryd.sizeOf120
  v37 := Tryd.zeroValue120
  t70 := Tryd.underlying119
  a70 := Tryd.isAgg119
  z70 := Tryd.sizeOf119
  v70 := Tryd.zeroValue119
  t72 := Tryd.underlying122
  a72 := Tryd.isAgg122
  z72 := Tryd.sizeOf122
  v72 := Tryd.zeroValue122
  t127 := Tryd.underlying183
  a127 := Tryd.isAgg183
  z127 := Tryd.sizeOf183
  v127 := Tryd.zeroValue183 }
theorem strA_extra : Builder.Extra Tryd.prog strA_ren := {
  sizeBuilder := by kernel_rfl
  liesBuilder := by kernel_rfl
  t5 := Tryd.underlying5
  a5 := Tryd.isAgg5
  z5 := Tryd.sizeOf5
  v5 := Tryd.zeroValue5
  infoByte := by kernel_rfl
  cellsByte := by kernel_rfl
  sizeByte := by kernel_rfl
  neB5 := by decide }
theorem bstring_in (b : Nat) (l : List UInt8) (w : World) (h : IsB b (Lib.byteCells l) w) (hb : b ≤ w.heap.size) :
    Calls Tryd.prog 98 #[.pointer (some ⟨b, 0, none⟩)] w fun e w' => e = .returned (.string ⟨l.toArray⟩) ∧ Below b w w' ∧ Lib.OthersKept 5 (some b) w w' :=
  (Any.Builder_String_any_k strA strA_extra b b l w (Lib.IsBuilderF.of h) hb).mono fun e w' ⟨h1, _, h2, h3⟩ => ⟨h1, h2, h3⟩
end Go.Proofs.YtmdeooflgkjbbaaDoor
