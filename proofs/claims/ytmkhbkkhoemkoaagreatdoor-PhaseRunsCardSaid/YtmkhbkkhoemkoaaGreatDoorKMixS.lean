/- Mixes, by the reference: copies, parts, sums. -/
import Derived.Test.YtmkhbkkhoemkoaaGreatDoorKMixQ
import Derived.Test.YtmkhbkkhoemkoaaGreatDoorKMixF
import Derived.Test.YtmkhbkkhoemkoaaGreatDoorKLawExch
import Derived.Deep.RegionHeld3
namespace Go.Proofs.YtmkhbkkhoemkoaaGreatDoor
set_option linter.unusedSimpArgs false
set_option linter.unusedVariables false
open Go.RowKit

section
variable (W H : Int) (ao : Option Addr) (n c : Nat) (A : Nat → Nat → Int) (bo : Option Addr) (m d : Nat) (B : Nat → Nat → Int) (w : World)
theorem rmValid_ok (hv : VM W H n A m B) (hA : CellsIn w ao n A) (hB : CellsIn w bo m B) : Calls Tryz.prog 44 #[.agg #[.int .i64 W, .int .i64 H, .slice (ao) n c, .slice (bo) m d]] w fun e w' => e = .returned (.bool true) ∧ Below w.heap.size w w' :=
  (rmValid_any W H ao n c A bo m d B w hA hB).mono fun e w' ⟨t, he, hs, hb⟩ => ⟨by rw [he, hs.out.2 hv], hb⟩
theorem rmValid_bad (hv : ¬ VM W H n A m B) (hA : CellsIn w ao n A) (hB : CellsIn w bo m B) : Calls Tryz.prog 44 #[.agg #[.int .i64 W, .int .i64 H, .slice (ao) n c, .slice (bo) m d]] w fun e w' => e = .returned (.bool false) ∧ Below w.heap.size w w' :=
  (rmValid_any W H ao n c A bo m d B w hA hB).mono fun e w' ⟨t, he, hs, hb⟩ => ⟨by
    cases t with
    | true => exact absurd (hs.out.1 rfl) hv
    | false => exact he, hb⟩

set_option maxHeartbeats 4000000 in
theorem rcopied_any (ha : VG W H n A) (hb' : VG W H n B) (hA : CellsIn w ao n A) (hB : CellsIn w bo n B) : Calls Tryz.prog 25 #[.agg #[.int .i64 W, .int .i64 H, .slice (ao) n c, .slice (bo) n d]] w (OwnM W H n A B w) := by
  have h1 : 1 ≤ n ∧ n ≤ 100000 := by have := ha.1.bd; have := ha.2.1; omega
  obtain ⟨a, oa, rfl, LA, hA⟩ := vg_cells ha hA
  obtain ⟨b, ob, rfl, LB, hB⟩ := vg_cells hb' hB
  have DA := Lib.hid (fun w' (hb : Below w.heap.size w w') => rCopy_any W H a oa n c A w' h1.1 h1.2 (Nat.lt_of_lt_of_le LA hb.size) (hA.below hb LA))
  have DB := Lib.hid (fun w' (hb : Below w.heap.size w w') => rCopy_any W H b ob n d B w' h1.1 h1.2 (Nat.lt_of_lt_of_le LB hb.size) (hB.below hb LB))
  clear ha hb' hA hB
  go_enter Tryz.func25, Tryz.ntmps25
  go_wp2
  go_region_held3 (fun w' => w'.cell? ⟨w.heap.size, 0, none⟩ = some (.int .i64 W) ∧ w'.cell? ⟨w.heap.size, 1, none⟩ = some (.int .i64 H) ∧ w'.cell? ⟨w.heap.size, 2, none⟩ = some (.slice (some ⟨a, oa, none⟩) n c) ∧ w'.cell? ⟨w.heap.size, 3, none⟩ = some (.slice (some ⟨b, ob, none⟩) n d)) (first | (go_split_ands; (try dsimp only); refine ⟨?_, ?_, ?_, ?_⟩ <;> (first | (with_reducible assumption) | (with_reducible exact keep_cell (by assumption) (by first | omega | (simp; done) | (simp; omega)) (by assumption)) | (with_reducible exact (World.cell?_alloc_past _ _ _ (by show _ < _; omega)).trans (by assumption)) | (with_reducible exact (World.cell?_alloc_past _ _ _ (by show _ < _; omega)).trans ((World.cell?_alloc_past _ _ _ (by show _ < _; omega)).symm.trans (by assumption))) | (simp [go_sem]; with_reducible assumption))) | (simp [go_sem, ↓IntWalk.iteOmega, *]; done)) (first | (go_at_call 49; (with_reducible refine (phaseA_any W H _ n c _ n d _).mono ?_); rintro e w1 ⟨rfl, hb⟩; obtain ⟨hc, hf, hz⟩ := bcall hb; (try simp at hc hf hz)) | (go_at_call 50; (with_reducible refine (phaseB_any W H _ n c _ n d _).mono ?_); rintro e w1 ⟨rfl, hb⟩; obtain ⟨hc, hf, hz⟩ := bcall hb; (try simp at hc hf hz)) | (go_at_call 48; (with_reducible refine (DA.out _ (by (repeat' (first | (with_reducible exact Below.refl _ _) | (with_reducible refine Below.setCell ?_ (by first | omega | (simp; done) | (simp; omega)) _) | (with_reducible refine Below.alloc ?_ (by first | omega | (simp; done) | (simp; omega)) _) | (with_reducible refine Below.drew ?_) | (with_reducible refine below_drewN ?_ _) | (with_reducible refine Below.trans ?_ (Below.mono (by assumption) (by first | omega | (simp; done) | (simp; omega)))))))).mono ?_); rintro e wp ⟨p, cp, rfl, hp, lop, hb⟩; have Cp := Lib.hid hp; clear hp; obtain ⟨hc, hf, hz⟩ := bcall hb; (try simp at hc hf hz lop)) | (go_at_call 48; (with_reducible refine (DB.out _ (by (repeat' (first | (with_reducible exact Below.refl _ _) | (with_reducible refine Below.setCell ?_ (by first | omega | (simp; done) | (simp; omega)) _) | (with_reducible refine Below.alloc ?_ (by first | omega | (simp; done) | (simp; omega)) _) | (with_reducible refine Below.drew ?_) | (with_reducible refine below_drewN ?_ _) | (with_reducible refine Below.trans ?_ (Below.mono (by assumption) (by first | omega | (simp; done) | (simp; omega)))))))).mono ?_); rintro e wq ⟨q, cq, rfl, hq, loq, hb⟩; have Cq := Lib.hid hq; clear hq; obtain ⟨hc, hf, hz⟩ := bcall hb; (try simp at hc hf hz loq)) | (go_at_call 47; (with_reducible refine (mix_any W H _ n _ _ n _ _).mono ?_); rintro e w1 ⟨rfl, hb⟩; obtain ⟨hc, hf, hz⟩ := bcall hb; (try simp at hc hf hz)))
  all_goals
    go_wp2
    refine bodyPost_ret (v := .agg #[.int .i64 W, .int .i64 H, .slice (some ⟨p, 0, none⟩) n cp, .slice (some ⟨q, 0, none⟩) n cq]) (by simp [results, Tryz.results25, go_sem, ↓IntWalk.iteOmega, *]) rfl ?_
    exact ownM_pass ⟨Cp.out.below (show Below wp.heap.size wp _ from by (repeat' (first | (with_reducible exact Below.refl _ _) | (with_reducible refine Below.setCell ?_ (by first | omega | (simp; done) | (simp; omega)) _) | (with_reducible refine Below.alloc ?_ (by first | omega | (simp; done) | (simp; omega)) _) | (with_reducible refine Below.drew ?_) | (with_reducible refine below_drewN ?_ _) | (with_reducible refine Below.trans ?_ (Below.mono (by assumption) (by first | omega | (simp; done) | (simp; omega))))))) Cp.out.1, Cq.out.below (show Below wq.heap.size wq _ from by (repeat' (first | (with_reducible exact Below.refl _ _) | (with_reducible refine Below.setCell ?_ (by first | omega | (simp; done) | (simp; omega)) _) | (with_reducible refine Below.alloc ?_ (by first | omega | (simp; done) | (simp; omega)) _) | (with_reducible refine Below.drew ?_) | (with_reducible refine below_drewN ?_ _) | (with_reducible refine Below.trans ?_ (Below.mono (by assumption) (by first | omega | (simp; done) | (simp; omega))))))) Cq.out.1, by have := Cp.out.1; omega⟩ (by (repeat' (first | (with_reducible exact Below.refl _ _) | (with_reducible refine Below.setCell ?_ (by first | omega | (simp; done) | (simp; omega)) _) | (with_reducible refine Below.alloc ?_ (by first | omega | (simp; done) | (simp; omega)) _) | (with_reducible refine Below.drew ?_) | (with_reducible refine below_drewN ?_ _) | (with_reducible refine Below.trans ?_ (Below.mono (by assumption) (by first | omega | (simp; done) | (simp; omega))))))) (by omega) (by omega) (by omega)

theorem madeM_ex {a b ca cb : Nat} {w1 X : World} (hA : Row w1 a n A) (hB : Row w1 b n B) (ne : a ≠ b) (hb : Below w.heap.size w w1) (la : w.heap.size ≤ a) (lb : w.heap.size ≤ b) (x : Ex (fun k => w.heap.size ≤ k ∧ k < a ∧ k < b) w1 X) :
    MadeM W H n A B w (.returned (.tuple #[.agg #[.int .i64 W, .int .i64 H, .slice (some ⟨a, 0, none⟩) n ca, .slice (some ⟨b, 0, none⟩) n cb], .int .i64 0])) X :=
  ⟨a, b, ca, cb, rfl, Lib.hid ⟨hA.ex x (by omega), hB.ex x (by omega), ne⟩, la, lb, hb.trans (x.below hb.size (fun k hk => hk.1))⟩
end
end Go.Proofs.YtmkhbkkhoemkoaaGreatDoor
