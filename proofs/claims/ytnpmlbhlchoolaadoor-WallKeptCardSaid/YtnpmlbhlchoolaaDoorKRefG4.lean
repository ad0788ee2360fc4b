/- Sides, weights and validity of a grid, blank grids and copies: by the reference. -/
import Derived.Test.YtnpmlbhlchoolaaDoorKCopy
import Derived.Test.YtnpmlbhlchoolaaDoorKRunU
import Derived.Test.YtnpmlbhlchoolaaDoorKRules
import Derived.LoopTactic
import Derived.Test.YtnpmlbhlchoolaaDoorKRef
import Derived.Deep.CutRange
namespace Go.Proofs.YtnpmlbhlchoolaaDoor
set_option linter.unusedSimpArgs false
set_option linter.unusedVariables false
open Go.RowKit

theorem within2_yes (n lo hi : Int) (w : World) (h1 : lo ≤ n) (h2 : n ≤ hi) :
    Calls Tryd.prog 104 #[.int .i64 n, .int .i64 lo, .int .i64 hi] w fun e w' => e = .returned (.bool true) ∧ w = w' := by
  go_enter Tryd.func104, Tryd.ntmps104
  go_wp2
  go_ret
  exact ⟨rfl, rfl⟩
theorem within2_no (n lo hi : Int) (w : World) (h : n < lo ∨ hi < n) :
    Calls Tryd.prog 104 #[.int .i64 n, .int .i64 lo, .int .i64 hi] w fun e w' => e = .returned (.bool false) ∧ w = w' := by
  by_cases h1 : lo ≤ n
  · have h2 : ¬ n ≤ hi := by omega
    clear h
    go_enter Tryd.func104, Tryd.ntmps104
    go_wp2
    go_ret
    exact ⟨rfl, rfl⟩
  · clear h
    go_enter Tryd.func104, Tryd.ntmps104
    go_wp2
    go_ret
    exact ⟨rfl, rfl⟩

set_option maxHeartbeats 1000000 in
theorem sides_yes (W H : Int) (n : Nat) (w : World) (h : Sd W H) (hn : (n : Int) = W * H) : Calls Tryd.prog 121 #[.int .i64 W, .int .i64 H, .int .i64 n] w fun e w' => e = .returned (.bool true) ∧ w = w' := by
  obtain ⟨b1, b2⟩ := h.bd
  obtain ⟨h1, h2, h3, h4, _⟩ := h
  have e : ((n : Int) == W * H) = true := by rw [hn]; simp
  clear hn
  go_enter Tryd.func121, Tryd.ntmps121
  go_wp2_with (go_at_call 104; (with_reducible refine (within2_yes _ _ _ _ (by omega) (by omega)).mono ?_); rintro e w1 ⟨rfl, rfl⟩)
  go_ret
  exact ⟨by simp [*], rfl⟩
set_option maxHeartbeats 2000000 in
theorem sides_no (W H : Int) (n : Nat) (w : World) (h : ((W < 1 ∨ 64 < W) ∨ (H < 1 ∨ 64 < H)) ∨ (((1 ≤ W ∧ W ≤ 64) ∧ (1 ≤ H ∧ H ≤ 64)) ∧ 1024 < W * H) ∨ (Sd W H ∧ (n : Int) ≠ W * H)) :
    Calls Tryd.prog 121 #[.int .i64 W, .int .i64 H, .int .i64 n] w fun e w' => e = .returned (.bool false) ∧ w = w' := by
  rcases h with h | ⟨⟨⟨h1, h2⟩, h3, h4⟩, h5⟩ | ⟨hs, hn⟩
  · by_cases hW : W < 1 ∨ 64 < W
    · clear h
      go_enter Tryd.func121, Tryd.ntmps121
      go_wp2_with (go_at_call 104; (with_reducible refine (within2_no _ _ _ _ hW).mono ?_); rintro e w1 ⟨rfl, rfl⟩)
      go_ret
      exact ⟨rfl, rfl⟩
    · have hH : H < 1 ∨ 64 < H := by omega
      have h1 : 1 ≤ W := by omega
      have h2 : W ≤ 64 := by omega
      clear h hW
      go_enter Tryd.func121, Tryd.ntmps121
      go_wp2_with (first | (go_at_call 104; (with_reducible refine (within2_yes _ _ _ _ h1 h2).mono ?_); rintro e w1 ⟨rfl, rfl⟩) | (go_at_call 104; (with_reducible refine (within2_no _ _ _ _ hH).mono ?_); rintro e w1 ⟨rfl, rfl⟩))
      go_ret
      exact ⟨rfl, rfl⟩
  · obtain ⟨b1, b2⟩ := side_bd h1 h2 h3 h4
    have h6 : ¬ W * H ≤ 1024 := by omega
    go_enter Tryd.func121, Tryd.ntmps121
    go_wp2_with (go_at_call 104; (with_reducible refine (within2_yes _ _ _ _ (by omega) (by omega)).mono ?_); rintro e w1 ⟨rfl, rfl⟩)
    go_ret
    exact ⟨by simp, rfl⟩
  · obtain ⟨b1, b2⟩ := hs.bd
    obtain ⟨h1, h2, h3, h4, _⟩ := hs
    have e : ((n : Int) == W * H) = false := beq_eq_false_iff_ne.2 hn
    clear hn
    go_enter Tryd.func121, Tryd.ntmps121
    go_wp2_with (go_at_call 104; (with_reducible refine (within2_yes _ _ _ _ (by omega) (by omega)).mono ?_); rintro e w1 ⟨rfl, rfl⟩)
    go_ret
    exact ⟨by simp [*], rfl⟩

set_option maxRecDepth 100000 in
set_option maxHeartbeats 2000000 in
theorem weight_any1 (b off n cap : Nat) (G : Nat → Nat → Int) (w : World) (hn : n ≤ 1000000) (hok : ∀ i, i < n → Ok4 (G i 0) (G i 1) (G i 2) (G i 3)) (hlt : b < w.heap.size) (hG : Grd w b off n G) :
    Calls Tryd.prog 123 #[.slice (some ⟨b, off, none⟩) n cap] w fun e w' => e = .returned (.int .i64 (wt G n)) ∧ Below w.heap.size w w' := by
  have HO := Lib.hid hok; clear hok
  have HG := Lib.hid hG; clear hG
  go_enter Tryd.func123, Tryd.ntmps123
  go_wp2
  go_loopw [3, 4] (fun t i wr => ∃ k : Nat, k ≤ n ∧ i = .int .i64 k ∧ t = .int .i64 (wt G k) ∧ Below w.heap.size w wr) (fun _ i _ => n - (intOf i).toNat)
  case atStart => exact ⟨0, Nat.zero_le _, rfl, rfl, Below.refl _ _⟩
  case round =>
    obtain ⟨k, hk, rfl, rfl, hB⟩ := hrel
    by_cases hlk : k < n
    · obtain ⟨c0, c1, c2, c3⟩ := HG.out.get hB hlt hlk
      obtain ⟨x0, x1, x2, x3, x4⟩ := HO.out k hlk
      obtain ⟨w10, w11⟩ := wt_bd HO.out k hk
      have p0 : (0 : Int) ≤ (k : Int) := by omega
      have p1 : (k : Int) < (n : Int) := by omega
      have s1 : IntKind.i64.wrap (wt G k + G k 0) = wt G k + G k 0 := IntWalk.i64_in _ ⟨by omega, by omega⟩
      have s2 : IntKind.i64.wrap (wt G k + G k 0 + G k 1) = wt G k + G k 0 + G k 1 := IntWalk.i64_in _ ⟨by omega, by omega⟩
      have s3 : IntKind.i64.wrap (wt G k + G k 0 + G k 1 + G k 2) = wt G k + G k 0 + G k 1 + G k 2 := IntWalk.i64_in _ ⟨by omega, by omega⟩
      have s4 : IntKind.i64.wrap (wt G k + G k 0 + G k 1 + G k 2 + G k 3) = wt G k + G k 0 + G k 1 + G k 2 + G k 3 := IntWalk.i64_in _ ⟨by omega, by omega⟩
      go_wp2
      go_quiet (fail)
      clear s1 s2 s3 s4
      go_wp2
      go_roundw
      case rel => exact ⟨k + 1, by omega, by go_num, congrArg (Value.int IntKind.i64) (show wt G k + G k 0 + G k 1 + G k 2 + G k 3 = wt G k + (G k 0 + G k 1 + G k 2 + G k 3) by omega), below_drewN hB _⟩
      case measure => simp [intOf]; omega
    · obtain rfl : n = k := by omega
      go_wp2
      go_ret
      exact ⟨rfl, hB⟩

theorem getI {w wr : World} {b off n : Nat} {G : Nat → Nat → Int} (h : Grd w b off n G) (hb : Below w.heap.size w wr) (hlt : b < w.heap.size) : CellsIn wr (some ⟨b, off, none⟩) n G := .inr ⟨b, off, rfl, Nat.lt_of_lt_of_le hlt hb.size, h.below hb hlt⟩

set_option maxHeartbeats 4000000 in
theorem rValid_in (W H : Int) (b off n cap : Nat) (G : Nat → Nat → Int) (w : World) (hs : Sd W H) (hn : (n : Int) = W * H) (hlt : b < w.heap.size) (hG : Grd w b off n G) :
    Calls Tryd.prog 95 #[.agg #[.int .i64 W, .int .i64 H, .slice (some ⟨b, off, none⟩) n cap]] w fun e w' => ∃ bb : Bool, e = .returned (.bool bb) ∧ Hid (bb = true ↔ OkG n G) ∧ Below w.heap.size w w' := by
  have hn2 : (n : Int) ≤ 1024 := by have := hs.bd; omega
  have HS := Lib.hid hs; clear hs
  have HN := Lib.hid hn; clear hn
  have HG := Lib.hid hG; clear hG
  go_enter Tryd.func95, Tryd.ntmps95
  go_wp2_with (go_at_call 121; (with_reducible refine (sides_yes W H n _ HS.out HN.out).mono ?_); rintro e w1 ⟨rfl, rfl⟩)
  go_loopw [3] (fun i wr => ∃ k : Nat, k ≤ n ∧ i = .int .i64 k ∧ Hid (Three wr w.heap.size 24 (.int .i64 W) (.int .i64 H) (.slice (some ⟨b, off, none⟩) n cap)) ∧ Below w.heap.size w wr ∧ Hid (∀ j, j < k → Ok4 (G j 0) (G j 1) (G j 2) (G j 3))) (fun i _ => n - (intOf i).toNat)
  case atStart => exact ⟨0, Nat.zero_le _, rfl, Lib.hid (World.alloc_heap_new w _), by (repeat' (first | (with_reducible exact Below.refl _ _) | (with_reducible refine Below.setCell ?_ (by first | omega | (simp; done) | (simp; omega)) _) | (with_reducible refine Below.alloc ?_ (by first | omega | (simp; done) | (simp; omega)) _) | (with_reducible refine Below.drew ?_) | (with_reducible refine below_drewN ?_ _) | (with_reducible refine Below.trans ?_ (Below.mono (by assumption) (by first | omega | (simp; done) | (simp; omega)))))), Lib.hid (by omega)⟩
  case round =>
    obtain ⟨k, hk, rfl, HT, hB, HO⟩ := hrel
    have k2 := HT.out.c2
    have hlT := HT.out.lt
    by_cases hlk : k < n
    · obtain ⟨c0, c1, c2, c3⟩ := HG.out.get hB hlt hlk
      have hs := hB.size
      by_cases hx : Ok4 (G k 0) (G k 1) (G k 2) (G k 3)
      · have HK := Lib.hid hx; clear hx
        go_wp2_with (go_at_call 122; (with_reducible refine (refValid_ok _ _ _ _ _ HK.out).mono ?_); rintro e w1 ⟨rfl, hb⟩; obtain ⟨hc, hf, hz⟩ := bcall hb; (try simp at hc hf hz))
        go_roundw
        case rel => exact ⟨k + 1, by omega, by go_num, Lib.hid (HT.out.below hb hlT), by (repeat' (first | (with_reducible exact Below.refl _ _) | (with_reducible refine Below.setCell ?_ (by first | omega | (simp; done) | (simp; omega)) _) | (with_reducible refine Below.alloc ?_ (by first | omega | (simp; done) | (simp; omega)) _) | (with_reducible refine Below.drew ?_) | (with_reducible refine below_drewN ?_ _) | (with_reducible refine Below.trans ?_ (Below.mono (by assumption) (by first | omega | (simp; done) | (simp; omega)))))), Lib.hid (fun j hj => by
          by_cases e : j = k
          · subst e; exact HK.out
          · exact HO.out j (by omega))⟩
        case measure => simp [intOf]; omega
      · have HK := Lib.hid hx; clear hx
        go_wp2_with (go_at_call 122; (with_reducible refine (refValid_bad _ _ _ _ _ HK.out).mono ?_); rintro e w1 ⟨rfl, hb⟩; obtain ⟨hc, hf, hz⟩ := bcall hb; (try simp at hc hf hz))
        go_ret
        exact ⟨false, rfl, Lib.hid ⟨(fun h => by cases h), fun h => absurd (h.1 k hlk) HK.out⟩, by (repeat' (first | (with_reducible exact Below.refl _ _) | (with_reducible refine Below.setCell ?_ (by first | omega | (simp; done) | (simp; omega)) _) | (with_reducible refine Below.alloc ?_ (by first | omega | (simp; done) | (simp; omega)) _) | (with_reducible refine Below.drew ?_) | (with_reducible refine below_drewN ?_ _) | (with_reducible refine Below.trans ?_ (Below.mono (by assumption) (by first | omega | (simp; done) | (simp; omega))))))⟩
    · obtain rfl : n = k := by omega
      by_cases hw : wt G n ≤ 1000000000
      · have HW := Lib.hid hw
        go_wp2_with (go_at_call 123; (with_reducible refine (weight_any1 b off n cap G _ (by omega) HO.out (by have := hB.size; omega) (HG.out.below hB hlt)).mono ?_); rintro e w1 ⟨rfl, hb⟩; obtain ⟨hc, hf, hz⟩ := bcall hb; (try simp at hc hf hz))
        go_ret
        exact ⟨true, by simp [hw], Lib.hid ⟨fun _ => ⟨HO.out, HW.out⟩, fun _ => rfl⟩, by (repeat' (first | (with_reducible exact Below.refl _ _) | (with_reducible refine Below.setCell ?_ (by first | omega | (simp; done) | (simp; omega)) _) | (with_reducible refine Below.alloc ?_ (by first | omega | (simp; done) | (simp; omega)) _) | (with_reducible refine Below.drew ?_) | (with_reducible refine below_drewN ?_ _) | (with_reducible refine Below.trans ?_ (Below.mono (by assumption) (by first | omega | (simp; done) | (simp; omega))))))⟩
      · have HW := Lib.hid hw
        go_wp2_with (go_at_call 123; (with_reducible refine (weight_any1 b off n cap G _ (by omega) HO.out (by have := hB.size; omega) (HG.out.below hB hlt)).mono ?_); rintro e w1 ⟨rfl, hb⟩; obtain ⟨hc, hf, hz⟩ := bcall hb; (try simp at hc hf hz))
        go_ret
        exact ⟨false, by simp [hw], Lib.hid ⟨(fun h => by cases h), fun h => by have := h.2; have := HW.out; omega⟩, by (repeat' (first | (with_reducible exact Below.refl _ _) | (with_reducible refine Below.setCell ?_ (by first | omega | (simp; done) | (simp; omega)) _) | (with_reducible refine Below.alloc ?_ (by first | omega | (simp; done) | (simp; omega)) _) | (with_reducible refine Below.drew ?_) | (with_reducible refine below_drewN ?_ _) | (with_reducible refine Below.trans ?_ (Below.mono (by assumption) (by first | omega | (simp; done) | (simp; omega))))))⟩

set_option maxHeartbeats 1000000 in
theorem rValid_sides (W H : Int) (ao : Option Addr) (n cap : Nat) (w : World) (h : ((W < 1 ∨ 64 < W) ∨ (H < 1 ∨ 64 < H)) ∨ (((1 ≤ W ∧ W ≤ 64) ∧ (1 ≤ H ∧ H ≤ 64)) ∧ 1024 < W * H) ∨ (Sd W H ∧ (n : Int) ≠ W * H)) :
    Calls Tryd.prog 95 #[.agg #[.int .i64 W, .int .i64 H, .slice (ao) n cap]] w fun e w' => e = .returned (.bool false) ∧ Below w.heap.size w w' := by
  have HS := Lib.hid h; clear h
  go_enter Tryd.func95, Tryd.ntmps95
  go_wp2_with (go_at_call 121; (with_reducible refine (sides_no W H n _ HS.out).mono ?_); rintro e w1 ⟨rfl, rfl⟩)
  go_ret
  refine ⟨rfl, ?_⟩
  (repeat' (first | (with_reducible exact Below.refl _ _) | (with_reducible refine Below.setCell ?_ (by first | omega | (simp; done) | (simp; omega)) _) | (with_reducible refine Below.alloc ?_ (by first | omega | (simp; done) | (simp; omega)) _) | (with_reducible refine Below.drew ?_) | (with_reducible refine below_drewN ?_ _) | (with_reducible refine Below.trans ?_ (Below.mono (by assumption) (by first | omega | (simp; done) | (simp; omega))))))

theorem rValid_ok (W H : Int) (ao : Option Addr) (n cap : Nat) (G : Nat → Nat → Int) (w : World) (hv : VG W H n G) (h : CellsIn w ao n G) :
    Calls Tryd.prog 95 #[.agg #[.int .i64 W, .int .i64 H, .slice (ao) n cap]] w fun e w' => e = .returned (.bool true) ∧ Below w.heap.size w w' := by
  obtain ⟨hs, hn, ho⟩ := hv
  rcases h with h | ⟨b, off, rfl, hlt, hG⟩
  · have := hs.bd
    omega
  · exact (rValid_in W H b off n cap G w hs hn hlt hG).mono fun e w' ⟨bb, he, hb, hB⟩ => ⟨by rw [he, hb.out.2 ho], hB⟩
theorem rValid_bad (W H : Int) (ao : Option Addr) (n cap : Nat) (G : Nat → Nat → Int) (w : World) (hv : ¬ VG W H n G) (h : CellsIn w ao n G) :
    Calls Tryd.prog 95 #[.agg #[.int .i64 W, .int .i64 H, .slice (ao) n cap]] w fun e w' => e = .returned (.bool false) ∧ Below w.heap.size w w' := by
  rcases not_vg hv with h1 | h1 | h1 | ⟨hs, hn, hb⟩
  · exact rValid_sides W H ao n cap w (.inl h1)
  · exact rValid_sides W H ao n cap w (.inr (.inl h1))
  · exact rValid_sides W H ao n cap w (.inr (.inr h1))
  · rcases h with h | ⟨b, off, rfl, hlt, hG⟩
    · have := hs.bd
      omega
    · refine (rValid_in W H b off n cap G w hs hn hlt hG).mono fun e w' ⟨bb, he, hb', hB⟩ => ⟨?_, hB⟩
      cases bb with
      | true => exact absurd (hb'.out.1 rfl) hb
      | false => exact he
end Go.Proofs.YtnpmlbhlchoolaaDoor

/- Whether rules are valid, and the rule of a step: by the reference. -/


namespace Go.Proofs.YtnpmlbhlchoolaaDoor
set_option linter.unusedSimpArgs false
set_option linter.unusedVariables false
open Go.RowKit

theorem RulesAt.get {w wr : World} {b off n : Nat} {R : Nat → Int × Int} (h : RulesAt w b off n R) (hb : Below w.heap.size w wr) (hlt : b < w.heap.size) {k : Nat} (hk : k < n) :
    wr.cell? ⟨b, off + k * 2, none⟩ = some (.int .i64 ((R k).1)) ∧ wr.cell? ⟨b, off + k * 2 + 1, none⟩ = some (.int .i64 ((R k).2)) :=
  ⟨(hb.cell (p := ⟨b, off + k * 2, none⟩) hlt).trans (h k hk).1, (hb.cell (p := ⟨b, off + k * 2 + 1, none⟩) hlt).trans (h k hk).2⟩

set_option maxHeartbeats 1000000 in
theorem refValidRules_nil (ao : Option Addr) (cap : Nat) (w : World) :
    Calls Tryd.prog 72 #[.slice ao 0 cap] w fun e w' => e = .returned (.bool false) ∧ Below w.heap.size w w' := by
  go_enter Tryd.func72, Tryd.ntmps72
  go_wp2
  refine wp_loop_rounds 1 ?_
  rw [rounds_succ]
  go_wp2_with (go_at_call 103; (with_reducible refine (within_no _ _ _ _ (by omega)).mono ?_); rintro e w1 ⟨rfl, rfl⟩)
  go_ret
  exact ⟨rfl, Below.refl _ _⟩

set_option maxHeartbeats 2000000 in
theorem refValidRules_ok (b off len cap : Nat) (R : Nat → Int × Int) (w : World) (hk : OkRs len R) (hlt : b < w.heap.size) (hR : RulesAt w b off len R) :
    Calls Tryd.prog 72 #[.slice (some ⟨b, off, none⟩) len cap] w fun e w' => e = .returned (.bool true) ∧ Below w.heap.size w w' := by
  obtain ⟨h1, h8, hok⟩ := hk
  have HO := Lib.hid hok; clear hok
  have HR := Lib.hid hR; clear hR
  go_enter Tryd.func72, Tryd.ntmps72
  go_wp2
  go_loopw [3] (fun i wr => ∃ k : Nat, k ≤ len ∧ i = .int .i64 k ∧ Below w.heap.size w wr) (fun i _ => len - (intOf i).toNat)
  case atStart => exact ⟨0, Nat.zero_le _, rfl, Below.refl _ _⟩
  case round =>
    obtain ⟨k, hk, rfl, hB⟩ := hrel
    by_cases hlk : k < len
    · obtain ⟨c0, c1⟩ := HR.out.get hB hlt hlk
      have HK := Lib.hid (HO.out k hlk)
      have hs := hB.size
      go_wp2_with (go_at_call 102; (with_reducible refine (refValidRule_ok _ _ _ HK.out).mono ?_); rintro e w1 ⟨rfl, hb⟩; obtain ⟨hc, hf, hz⟩ := bcall hb; (try simp at hc hf hz))
      go_roundw
      case rel => exact ⟨k + 1, by omega, by go_num, hB.trans (hb.mono hs)⟩
      case measure => simp [intOf]; omega
    · obtain rfl : k = len := by omega
      go_wp2_with (go_at_call 103; (with_reducible refine (within_yes _ _ _ _ (by omega) (by omega)).mono ?_); rintro e w1 ⟨rfl, rfl⟩)
      go_ret
      exact ⟨rfl, hB⟩

set_option maxHeartbeats 2000000 in
theorem refValidRules_bad1 (b off len cap : Nat) (R : Nat → Int × Int) (w : World) (hm : len ≤ 1000000000000) (hk : ¬ OkRs len R) (hlt : b < w.heap.size) (hR : RulesAt w b off len R) :
    Calls Tryd.prog 72 #[.slice (some ⟨b, off, none⟩) len cap] w fun e w' => e = .returned (.bool false) ∧ Below w.heap.size w w' := by
  have HO := Lib.hid hk; clear hk
  have HR := Lib.hid hR; clear hR
  go_enter Tryd.func72, Tryd.ntmps72
  go_wp2
  go_loopw [3] (fun i wr => ∃ k : Nat, k ≤ len ∧ i = .int .i64 k ∧ Below w.heap.size w wr ∧ Hid (∀ i, i < k → OkR (R i).1 (R i).2)) (fun i _ => len - (intOf i).toNat)
  case atStart => exact ⟨0, Nat.zero_le _, rfl, Below.refl _ _, Lib.hid (by omega)⟩
  case round =>
    obtain ⟨k, hk, rfl, hB, HA⟩ := hrel
    by_cases hlk : k < len
    · obtain ⟨c0, c1⟩ := HR.out.get hB hlt hlk
      have hs := hB.size
      by_cases hx : OkR (R k).1 (R k).2
      · have HK := Lib.hid hx; clear hx
        go_wp2_with (go_at_call 102; (with_reducible refine (refValidRule_ok _ _ _ HK.out).mono ?_); rintro e w1 ⟨rfl, hb⟩; obtain ⟨hc, hf, hz⟩ := bcall hb; (try simp at hc hf hz))
        go_roundw
        case rel => exact ⟨k + 1, by omega, by go_num, hB.trans (hb.mono hs), Lib.hid (fun i hi => by
          by_cases e : i = k
          · subst e; exact HK.out
          · exact HA.out i (by omega))⟩
        case measure => simp [intOf]; omega
      · have HK := Lib.hid hx; clear hx
        go_wp2_with (go_at_call 102; (with_reducible refine (refValidRule_bad _ _ _ HK.out).mono ?_); rintro e w1 ⟨rfl, hb⟩; obtain ⟨hc, hf, hz⟩ := bcall hb; (try simp at hc hf hz))
        go_ret
        exact ⟨rfl, hB.trans (hb.mono hs)⟩
    · obtain rfl : len = k := by omega
      have hbad : len < 1 ∨ 8 < len := by
        by_cases h : 1 ≤ len ∧ len ≤ 8
        · exact absurd ⟨h.1, h.2, HA.out⟩ HO.out
        · omega
      clear HO HA
      go_wp2_with (go_at_call 103; (with_reducible refine (within_no _ _ _ _ (by omega)).mono ?_); rintro e w1 ⟨rfl, rfl⟩)
      go_ret
      exact ⟨rfl, hB⟩

theorem refValidRules_bad (ao : Option Addr) (len cap : Nat) (R : Nat → Int × Int) (w : World) (hm : len ≤ 1000000000000) (h : RulesIn w ao len R) (hk : ¬ OkRs len R) :
    Calls Tryd.prog 72 #[.slice ao len cap] w fun e w' => e = .returned (.bool false) ∧ Below w.heap.size w w' := by
  rcases h with h | ⟨b, off, rfl, hlt, hR⟩
  · subst h
    exact refValidRules_nil ao cap w
  · exact refValidRules_bad1 b off len cap R w hm hk hlt hR

set_option maxHeartbeats 1000000 in
theorem refRule_ok (b off len cap step : Nat) (R : Nat → Int × Int) (w : World) (h1 : 1 ≤ len) (h2 : len ≤ 1000000) (hs : step ≤ 4000000) (hlt : b < w.heap.size) (hR : RulesAt w b off len R) :
    Calls Tryd.prog 37 #[.slice (some ⟨b, off, none⟩) len cap, .int .i64 step] w fun e w' => e = .returned (.agg #[.int .i64 ((R (step % len)).1), .int .i64 ((R (step % len)).2)]) ∧ Below w.heap.size w w' := by
  obtain ⟨q, hq⟩ : ∃ q, q = step % len := ⟨_, rfl⟩
  have hql : q < len := by rw [hq]; exact Nat.mod_lt _ h1
  obtain ⟨c0, c1⟩ := hR q hql
  have e2 : (step : Int) % (len : Int) = (q : Int) := by rw [hq, Int.natCast_emod]
  rw [← hq]
  clear hq hR
  go_enter Tryd.func37, Tryd.ntmps37
  go_wp2
  refine bodyPost_ret (v := .agg #[.int .i64 ((R q).1), .int .i64 ((R q).2)]) (by simp [results, Tryd.results37, go_sem, ↓IntWalk.iteOmega, *]) rfl ⟨rfl, ?_⟩
  (repeat' (first | (with_reducible exact Below.refl _ _) | (with_reducible refine Below.setCell ?_ (by first | omega | (simp; done) | (simp; omega)) _) | (with_reducible refine Below.alloc ?_ (by first | omega | (simp; done) | (simp; omega)) _) | (with_reducible refine Below.drew ?_) | (with_reducible refine below_drewN ?_ _) | (with_reducible refine Below.trans ?_ (Below.mono (by assumption) (by first | omega | (simp; done) | (simp; omega))))))

theorem refValidRulesI_ok (ao : Option Addr) (len cap : Nat) (R : Nat → Int × Int) (w : World) (h : RulesIn w ao len R) (hk : OkRs len R) :
    Calls Tryd.prog 72 #[.slice ao len cap] w fun e w' => e = .returned (.bool true) ∧ Below w.heap.size w w' := by
  rcases h with h | ⟨b, off, rfl, hlt, hR⟩
  · have := hk.1
    omega
  · exact refValidRules_ok b off len cap R w hk hlt hR
theorem refRuleI_ok (ao : Option Addr) (len cap step : Nat) (R : Nat → Int × Int) (w : World) (h : RulesIn w ao len R) (hk : OkRs len R) (hs : step ≤ 4000000) :
    Calls Tryd.prog 37 #[.slice ao len cap, .int .i64 step] w fun e w' => e = .returned (.agg #[.int .i64 ((R (step % len)).1), .int .i64 ((R (step % len)).2)]) ∧ Below w.heap.size w w' := by
  have h1 := hk.1
  have h2 := hk.2.1
  rcases h with h | ⟨b, off, rfl, hlt, hR⟩
  · omega
  · exact refRule_ok b off len cap step R w h1 (by omega) hs hlt hR

end Go.Proofs.YtnpmlbhlchoolaaDoor

/- The reference's grids: blank ones, copies, where particles come from. -/



namespace Go.Proofs.YtnpmlbhlchoolaaDoor
set_option linter.unusedSimpArgs false
set_option linter.unusedVariables false
open Go.RowKit

theorem refOpp0 (w : World) : Calls Tryd.prog 126 #[.int .i64 0] w fun e w' => e = .returned (.int .i64 2) ∧ w = w' := by
  go_enter Tryd.func126, Tryd.ntmps126
  go_wp2
  go_ret
  exact ⟨rfl, rfl⟩
theorem refOpp1 (w : World) : Calls Tryd.prog 126 #[.int .i64 1] w fun e w' => e = .returned (.int .i64 3) ∧ w = w' := by
  go_enter Tryd.func126, Tryd.ntmps126
  go_wp2
  go_ret
  exact ⟨rfl, rfl⟩
theorem refOpp2 (w : World) : Calls Tryd.prog 126 #[.int .i64 2] w fun e w' => e = .returned (.int .i64 0) ∧ w = w' := by
  go_enter Tryd.func126, Tryd.ntmps126
  go_wp2
  go_ret
  exact ⟨rfl, rfl⟩
theorem refOpp3 (w : World) : Calls Tryd.prog 126 #[.int .i64 3] w fun e w' => e = .returned (.int .i64 1) ∧ w = w' := by
  go_enter Tryd.func126, Tryd.ntmps126
  go_wp2
  go_ret
  exact ⟨rfl, rfl⟩
theorem nb_opp (W H k : Nat) : nb W H (-1) k 2 = nb W H 1 k 0 ∧ nb W H (-1) k 3 = nb W H 1 k 1 ∧ nb W H (-1) k 0 = nb W H 1 k 2 ∧ nb W H (-1) k 1 = nb W H 1 k 3 := by
  unfold nb
  refine ⟨?_, ?_, ?_, ?_⟩ <;> simp [dx, dy]

set_option maxHeartbeats 4000000 in
theorem from0 (W H n k : Nat) (w : World) (s : Sides W H n) (hk : k < n) :
    Calls Tryd.prog 127 #[.int .i64 W, .int .i64 H, .int .i64 k, .int .i64 0] w fun e w' => e = .returned (.int .i64 (nb W H (-1) k 0)) ∧ ∃ j, w' = w.drewN j := by
  obtain ⟨x0, x1, y0, y1⟩ := coords W k (by have := s.n1; omega)
  have p := (nb_plc W H (-1) k s.w0 (s.n0 ▸ hk)).1
  rw [Int.natCast_emod, Int.natCast_ediv] at p
  obtain ⟨h1, h2, h3, h4, h5, h6⟩ := s
  obtain ⟨X, hX⟩ : ∃ X, (k : Int) % (W : Int) = X := ⟨_, rfl⟩
  obtain ⟨Y, hY⟩ : ∃ Y, (k : Int) / (W : Int) = Y := ⟨_, rfl⟩
  rw [hX] at x0 x1 p
  rw [hY] at y0 y1 p
  obtain ⟨b0, b1, b2, b3⟩ := plc_bd (W := W) (H := H) (x := X + -1) (y := Y) (by omega) (by omega) (by omega) (by omega)
  rw [← p]
  have e : (X + (W : Int) - 1) % (W : Int) = (X + -1) % (W : Int) := by rw [show X + (W : Int) - 1 = X + -1 + W by omega]; first | rw [Int.add_emod_right] | rw [Int.add_emod_self]
  have e2 : (X + (W : Int) - 1) % (W : Int) + Y % (H : Int) * (W : Int) = plc W H (X + -1) (Y) := by
    unfold plc
    rw [e, Int.mul_comm]
  have s1 : IntKind.i64.wrap (Y % (H : Int) * (W : Int)) = Y % (H : Int) * (W : Int) := IntWalk.i64_in _ (by first | (rw [Int.mul_comm]; exact ⟨by omega, by omega⟩) | (rw [e, Int.mul_comm]; exact ⟨by omega, by omega⟩))
  have s2 : IntKind.i64.wrap ((X + (W : Int) - 1) % (W : Int) + Y % (H : Int) * (W : Int)) = plc W H (X + -1) (Y) := by
    rw [e2]
    exact IntWalk.i64_in _ ⟨by omega, by omega⟩
  clear b0 b1 b2 b3 e e2 p
  go_enter Tryd.func127, Tryd.ntmps127
  go_wp2
  go_quiet (fail)
  go_wp2
  go_quiet (fail)
  go_wp2
  go_ret
  exact ⟨rfl, _, World.drewN_drewN ..⟩

set_option maxHeartbeats 4000000 in
theorem from1 (W H n k : Nat) (w : World) (s : Sides W H n) (hk : k < n) :
    Calls Tryd.prog 127 #[.int .i64 W, .int .i64 H, .int .i64 k, .int .i64 1] w fun e w' => e = .returned (.int .i64 (nb W H (-1) k 1)) ∧ ∃ j, w' = w.drewN j := by
  obtain ⟨x0, x1, y0, y1⟩ := coords W k (by have := s.n1; omega)
  have p := (nb_plc W H (-1) k s.w0 (s.n0 ▸ hk)).2.1
  rw [Int.natCast_emod, Int.natCast_ediv] at p
  obtain ⟨h1, h2, h3, h4, h5, h6⟩ := s
  obtain ⟨X, hX⟩ : ∃ X, (k : Int) % (W : Int) = X := ⟨_, rfl⟩
  obtain ⟨Y, hY⟩ : ∃ Y, (k : Int) / (W : Int) = Y := ⟨_, rfl⟩
  rw [hX] at x0 x1 p
  rw [hY] at y0 y1 p
  obtain ⟨b0, b1, b2, b3⟩ := plc_bd (W := W) (H := H) (x := X) (y := Y + -1) (by omega) (by omega) (by omega) (by omega)
  rw [← p]
  have e : (Y + (H : Int) - 1) % (H : Int) = (Y + -1) % (H : Int) := by rw [show Y + (H : Int) - 1 = Y + -1 + H by omega]; first | rw [Int.add_emod_right] | rw [Int.add_emod_self]
  have e2 : X % (W : Int) + (Y + (H : Int) - 1) % (H : Int) * (W : Int) = plc W H (X) (Y + -1) := by
    unfold plc
    rw [e, Int.mul_comm]
  have s1 : IntKind.i64.wrap ((Y + (H : Int) - 1) % (H : Int) * (W : Int)) = (Y + (H : Int) - 1) % (H : Int) * (W : Int) := IntWalk.i64_in _ (by first | (rw [Int.mul_comm]; exact ⟨by omega, by omega⟩) | (rw [e, Int.mul_comm]; exact ⟨by omega, by omega⟩))
  have s2 : IntKind.i64.wrap (X % (W : Int) + (Y + (H : Int) - 1) % (H : Int) * (W : Int)) = plc W H (X) (Y + -1) := by
    rw [e2]
    exact IntWalk.i64_in _ ⟨by omega, by omega⟩
  clear b0 b1 b2 b3 e e2 p
  go_enter Tryd.func127, Tryd.ntmps127
  go_wp2
  go_quiet (fail)
  go_wp2
  go_quiet (fail)
  go_wp2
  go_ret
  exact ⟨rfl, _, World.drewN_drewN ..⟩

set_option maxHeartbeats 4000000 in
theorem from2 (W H n k : Nat) (w : World) (s : Sides W H n) (hk : k < n) :
    Calls Tryd.prog 127 #[.int .i64 W, .int .i64 H, .int .i64 k, .int .i64 2] w fun e w' => e = .returned (.int .i64 (nb W H (-1) k 2)) ∧ ∃ j, w' = w.drewN j := by
  obtain ⟨x0, x1, y0, y1⟩ := coords W k (by have := s.n1; omega)
  have p := (nb_plc W H (-1) k s.w0 (s.n0 ▸ hk)).2.2.1
  rw [Int.natCast_emod, Int.natCast_ediv] at p
  obtain ⟨h1, h2, h3, h4, h5, h6⟩ := s
  obtain ⟨X, hX⟩ : ∃ X, (k : Int) % (W : Int) = X := ⟨_, rfl⟩
  obtain ⟨Y, hY⟩ : ∃ Y, (k : Int) / (W : Int) = Y := ⟨_, rfl⟩
  rw [hX] at x0 x1 p
  rw [hY] at y0 y1 p
  obtain ⟨b0, b1, b2, b3⟩ := plc_bd (W := W) (H := H) (x := X - -1) (y := Y) (by omega) (by omega) (by omega) (by omega)
  rw [← p]
  have e : (X + 1) % (W : Int) = (X - -1) % (W : Int) := by rw [show X - -1 = X + 1 by omega]
  have e2 : (X + 1) % (W : Int) + Y % (H : Int) * (W : Int) = plc W H (X - -1) (Y) := by
    unfold plc
    rw [e, Int.mul_comm]
  have s1 : IntKind.i64.wrap (Y % (H : Int) * (W : Int)) = Y % (H : Int) * (W : Int) := IntWalk.i64_in _ (by first | (rw [Int.mul_comm]; exact ⟨by omega, by omega⟩) | (rw [e, Int.mul_comm]; exact ⟨by omega, by omega⟩))
  have s2 : IntKind.i64.wrap ((X + 1) % (W : Int) + Y % (H : Int) * (W : Int)) = plc W H (X - -1) (Y) := by
    rw [e2]
    exact IntWalk.i64_in _ ⟨by omega, by omega⟩
  clear b0 b1 b2 b3 e e2 p
  go_enter Tryd.func127, Tryd.ntmps127
  go_wp2
  go_quiet (fail)
  go_wp2
  go_quiet (fail)
  go_wp2
  go_ret
  exact ⟨rfl, _, World.drewN_drewN ..⟩

set_option maxHeartbeats 4000000 in
theorem from3 (W H n k : Nat) (w : World) (s : Sides W H n) (hk : k < n) :
    Calls Tryd.prog 127 #[.int .i64 W, .int .i64 H, .int .i64 k, .int .i64 3] w fun e w' => e = .returned (.int .i64 (nb W H (-1) k 3)) ∧ ∃ j, w' = w.drewN j := by
  obtain ⟨x0, x1, y0, y1⟩ := coords W k (by have := s.n1; omega)
  have p := (nb_plc W H (-1) k s.w0 (s.n0 ▸ hk)).2.2.2
  rw [Int.natCast_emod, Int.natCast_ediv] at p
  obtain ⟨h1, h2, h3, h4, h5, h6⟩ := s
  obtain ⟨X, hX⟩ : ∃ X, (k : Int) % (W : Int) = X := ⟨_, rfl⟩
  obtain ⟨Y, hY⟩ : ∃ Y, (k : Int) / (W : Int) = Y := ⟨_, rfl⟩
  rw [hX] at x0 x1 p
  rw [hY] at y0 y1 p
  obtain ⟨b0, b1, b2, b3⟩ := plc_bd (W := W) (H := H) (x := X) (y := Y - -1) (by omega) (by omega) (by omega) (by omega)
  rw [← p]
  have e : (Y + 1) % (H : Int) = (Y - -1) % (H : Int) := by rw [show Y - -1 = Y + 1 by omega]
  have e2 : X % (W : Int) + (Y + 1) % (H : Int) * (W : Int) = plc W H (X) (Y - -1) := by
    unfold plc
    rw [e, Int.mul_comm]
  have s1 : IntKind.i64.wrap ((Y + 1) % (H : Int) * (W : Int)) = (Y + 1) % (H : Int) * (W : Int) := IntWalk.i64_in _ (by first | (rw [Int.mul_comm]; exact ⟨by omega, by omega⟩) | (rw [e, Int.mul_comm]; exact ⟨by omega, by omega⟩))
  have s2 : IntKind.i64.wrap (X % (W : Int) + (Y + 1) % (H : Int) * (W : Int)) = plc W H (X) (Y - -1) := by
    rw [e2]
    exact IntWalk.i64_in _ ⟨by omega, by omega⟩
  clear b0 b1 b2 b3 e e2 p
  go_enter Tryd.func127, Tryd.ntmps127
  go_wp2
  go_quiet (fail)
  go_wp2
  go_quiet (fail)
  go_wp2
  go_ret
  exact ⟨rfl, _, World.drewN_drewN ..⟩

/-- A grid that was given. -/
def Gave (W H : Int) (n : Nat) (K : Nat → Nat → Int) (w : World) (e : Ending) (w' : World) : Prop :=
  ∃ b c, e = .returned (.agg #[.int .i64 W, .int .i64 H, .slice (some ⟨b, 0, none⟩) n c]) ∧ Row w' b n K ∧ w.heap.size + 1 ≤ b ∧ Below w.heap.size w w'
theorem three_ex {w5 : World} {r : Nat} {v0 v1 v2 : Value} : Ex (fun k => k = r) w5 (((w5.setCell ⟨r, 0, none⟩ v0).setCell ⟨r, 1, none⟩ v1).setCell ⟨r, 2, none⟩ v2) := by
  refine Ex.setCell (Ex.setCell (Ex.setCell (Ex.refl _ w5) ?_ _) ?_ _) ?_ _ <;> rfl
theorem gave_pass {W H : Int} {n b c r : Nat} {K : Nat → Nat → Int} {w w5 : World} {v0 v1 v2 : Value} (hr : Row w5 b n K) (hb : Below w.heap.size w w5) (h1 : w.heap.size ≤ r) (h2 : r < b) :
    Gave W H n K w (.returned (.agg #[.int .i64 W, .int .i64 H, .slice (some ⟨b, 0, none⟩) n c])) (((w5.setCell ⟨r, 0, none⟩ v0).setCell ⟨r, 1, none⟩ v1).setCell ⟨r, 2, none⟩ v2) :=
  ⟨b, c, rfl, hr.ex three_ex (by omega), by omega, hb.trans (three_ex.below hb.size (fun k hk => by omega))⟩
theorem Three.set {w : World} {B : Nat} {t : TypeId} {x y z v0 v1 v2 : Value} (h : Three w B t x y z) : Three (((w.setCell ⟨B, 0, none⟩ v0).setCell ⟨B, 1, none⟩ v1).setCell ⟨B, 2, none⟩ v2) B t v0 v1 v2 := by
  unfold Three at *
  simp only [World.setCell, Array.getElem?_modify, ↓reduceIte, h, Option.map_some]
  rfl
theorem Three.new0 (w : World) (t : TypeId) (x y z : Value) : Three (w.alloc (.cells #[x, y, z] t)) w.heap.size t x y z := World.alloc_heap_new w _

set_option maxHeartbeats 1000000 in
theorem blank_any (W H n : Nat) (w : World) (s : Sides W H n) : Calls Tryd.prog 125 #[.int .i64 W, .int .i64 H] w (Gave W H n (fun _ _ => 0) w) := by
  have hp : (W : Int) * (H : Int) = (n : Int) := by rw [s.n0, Int.natCast_mul]
  have hmk := fun wx => run_zeros n (by have := s.n1; omega) wx
  obtain ⟨h1, h2, h3, h4, h5, h6⟩ := s
  clear h5
  go_enter Tryd.func125, Tryd.ntmps125
  go_wp2
  refine bodyPost_ret (v := .agg #[.int .i64 W, .int .i64 H, .slice (some ⟨w.heap.size + 1, 0, none⟩) n n]) (by simp [results, Tryd.results125, go_sem, ↓IntWalk.iteOmega, *]) rfl ?_
  refine ⟨w.heap.size + 1, n, rfl, ?_, by omega, by (repeat' (first | (with_reducible exact Below.refl _ _) | (with_reducible refine Below.setCell ?_ (by first | omega | (simp; done) | (simp; omega)) _) | (with_reducible refine Below.alloc ?_ (by first | omega | (simp; done) | (simp; omega)) _) | (with_reducible refine Below.drew ?_) | (with_reducible refine below_drewN ?_ _) | (with_reducible refine Below.trans ?_ (Below.mono (by assumption) (by first | omega | (simp; done) | (simp; omega))))))⟩
  have := row_zeros (w.alloc (.cells #[.int .i64 W, .int .i64 H, .slice (some ⟨w.heap.size + 1, 0, none⟩) n n] 24)) n
  rwa [World.size_alloc] at this

theorem copy_end {W H : Int} {n g c : Nat} {K : Nat → Nat → Int} {w w5 : World} {v v0 v1 v2 : Value} (hr : Row w5 g n K) (hb : Below w.heap.size w w5) (h1 : w.heap.size + 3 ≤ g) :
    Gave W H n K w (.returned (.agg #[.int .i64 W, .int .i64 H, .slice (some ⟨g, 0, none⟩) n c])) ((((w5.setCell ⟨w.heap.size, 2, none⟩ v).setCell ⟨w.heap.size + 1, 0, none⟩ v0).setCell ⟨w.heap.size + 1, 1, none⟩ v1).setCell ⟨w.heap.size + 1, 2, none⟩ v2) := by
  have x : Ex (fun k => k = w.heap.size) w5 (w5.setCell ⟨w.heap.size, 2, none⟩ v) := by
    refine Ex.setCell (Ex.refl _ w5) ?_ _
    rfl
  exact gave_pass (hr.ex x (by omega)) (hb.trans (x.below hb.size (fun k hk => by omega))) (by omega) (by omega)

set_option maxRecDepth 100000 in
set_option maxHeartbeats 2000000 in
theorem rCopy_any (W H : Int) (b off n cap : Nat) (G : Nat → Nat → Int) (w : World) (h1 : 1 ≤ n) (h2 : n ≤ 100000) (hlt : b < w.heap.size) (hG : Grd w b off n G) :
    Calls Tryd.prog 43 #[.agg #[.int .i64 W, .int .i64 H, .slice (some ⟨b, off, none⟩) n cap]] w (Gave W H n G w) := by
  obtain ⟨i0, hi, hz0, hz1, hz2⟩ := info_parts info_cell
  have HH := Lib.hid (fun w' (hb : Below w.heap.size w w') => cellsL_at (hG.below hb hlt))
  clear hG
  go_enter Tryd.func43, Tryd.ntmps43
  go_wp2_with (at_builtin; refine wpList_append_grows _ rfl _ _ 22 rfl 63 i0 (.agg #[.int .i64 0, .int .i64 0, .int .i64 0, .int .i64 0]) 4 32 Tryd.underlying22 hi hz0 hz1 hz2 rfl (by omega) _ 0 0 [] rfl (by simp) rfl (by simp) ⟨b, off, none⟩ n cap (cellsL G n) rfl (cellsL_length G n) (HH.out _ (by (repeat' (first | (with_reducible exact Below.refl _ _) | (with_reducible refine Below.setCell ?_ (by first | omega | (simp; done) | (simp; omega)) _) | (with_reducible refine Below.alloc ?_ (by first | omega | (simp; done) | (simp; omega)) _) | (with_reducible refine Below.drew ?_) | (with_reducible refine below_drewN ?_ _) | (with_reducible refine Below.trans ?_ (Below.mono (by assumption) (by first | omega | (simp; done) | (simp; omega)))))))) (cellsL_one G n) (by omega) (by unfold maxLen; omega) (by omega) ?_; intro v' w1 hown hgrow; rw [Nat.zero_add, List.nil_append] at hown; obtain ⟨g, c, rfl, hr, hg, hcc, hm⟩ := row_of_owned hown h1; have hb := (Below.refl _ _).grown hgrow (Nat.le_refl _) (by simp); obtain ⟨hc, hf, hz⟩ := bcall hb; (try simp at hc hf hz))
  have HR := Lib.hid hr
  have HB := Lib.hid (show Below w.heap.size w w1 from by (repeat' (first | (with_reducible exact Below.refl _ _) | (with_reducible refine Below.setCell ?_ (by first | omega | (simp; done) | (simp; omega)) _) | (with_reducible refine Below.alloc ?_ (by first | omega | (simp; done) | (simp; omega)) _) | (with_reducible refine Below.drew ?_) | (with_reducible refine below_drewN ?_ _) | (with_reducible refine Below.trans ?_ (Below.mono (by assumption) (by first | omega | (simp; done) | (simp; omega)))))))
  clear hr
  have hg3 : w.heap.size + 3 ≤ g := by simp at hg; omega
  clear hown hgrow hg hb HH
  refine bodyPost_ret (v := .agg #[.int .i64 W, .int .i64 H, .slice (some ⟨g, 0, none⟩) n c]) (by simp [results, Tryd.results43, go_sem, ↓IntWalk.iteOmega, *]) rfl ?_
  exact copy_end HR.out HB.out hg3
end Go.Proofs.YtnpmlbhlchoolaaDoor

/- All particles moved one place: by the reference. -/

namespace Go.Proofs.YtnpmlbhlchoolaaDoor
set_option linter.unusedSimpArgs false
set_option linter.unusedVariables false
open Go.RowKit

theorem Three.new2 (w : World) (t : TypeId) (x y z : Value) (o : Obj) : Three ((w.alloc (.cells #[x, y, z] t)).alloc o) w.heap.size t x y z :=
  (Three.new0 w t x y z).below ((Below.refl _ (w.alloc (.cells #[x, y, z] t))).alloc (Nat.le_refl _) o) (by simp)
theorem Three.new3 (w : World) (t : TypeId) (x y z : Value) (o o2 : Obj) : Three (((w.alloc (.cells #[x, y, z] t)).alloc o).alloc o2) w.heap.size t x y z :=
  (Three.new2 w t x y z o).below ((Below.refl _ _).alloc (Nat.le_refl _) o2) (by simp; omega)
theorem half_step4 {n k : Nat} {D G K : Nat → Nat → Int} {v0 v1 v2 v3 : Int} (h : Half n k D G K) (hk : k < n) (e0 : v0 = D k 0) (e1 : v1 = D k 1) (e2 : v2 = D k 2) (e3 : v3 = D k 3) : Half n (k + 1) D G (upd (upd (upd (upd K k 0 v0) k 1 v1) k 2 v2) k 3 v3) := by
  subst e0 e1 e2 e3
  exact half_step h hk
theorem chain4 {w : World} {b n : Nat} {K : Nat → Nat → Int} {q : Nat} (h : Row w b n K) (l : q < n) (v0 v1 v2 v3 : Int) {k0 k1 k2 k3 : Nat} :
    Ex (fun k => k = b) w ((((((((w.drewN k0).setCell ⟨b, q * 4, none⟩ (.int .i64 v0)).drewN k1).setCell ⟨b, q * 4 + 1, none⟩ (.int .i64 v1)).drewN k2).setCell ⟨b, q * 4 + 2, none⟩ (.int .i64 v2)).drewN k3).setCell ⟨b, q * 4 + 3, none⟩ (.int .i64 v3)) ∧
    Row ((((((((w.drewN k0).setCell ⟨b, q * 4, none⟩ (.int .i64 v0)).drewN k1).setCell ⟨b, q * 4 + 1, none⟩ (.int .i64 v1)).drewN k2).setCell ⟨b, q * 4 + 2, none⟩ (.int .i64 v2)).drewN k3).setCell ⟨b, q * 4 + 3, none⟩ (.int .i64 v3)) b n (upd (upd (upd (upd K q 0 v0) q 1 v1) q 2 v2) q 3 v3) := by
  refine ⟨?_, ?_⟩
  · refine Ex.setCell (Ex.drewN (Ex.setCell (Ex.drewN (Ex.setCell (Ex.drewN (Ex.setCell (Ex.drewN (Ex.refl _ w) k0) ?_ _) k1) ?_ _) k2) ?_ _) k3) ?_ _ <;> rfl
  · exact (((((((h.drewN k0).set l (show 0 < 4 by omega) v0 (o := q * 4) rfl).drewN k1).set l (show 1 < 4 by omega) v1 rfl).drewN k2).set l (show 2 < 4 by omega) v2 rfl).drewN k3).set l (show 3 < 4 by omega) v3 rfl

set_option maxRecDepth 100000 in
set_option maxHeartbeats 4000000 in
theorem pulledF (W H n b off cap : Nat) (G : Nat → Nat → Int) (w : World) (s : Sides W H n) (hlt : b < w.heap.size) (hG : Grd w b off n G) :
    Calls Tryd.prog 105 #[.agg #[.int .i64 W, .int .i64 H, .slice (some ⟨b, off, none⟩) n cap], .bool false] w (Gave W H n (pull W H 1 G) w) := by
  have S := Lib.hid s
  have hn1 := s.n1
  have hw0 := s.w0
  clear s
  have HG := Lib.hid hG; clear hG
  go_enter Tryd.func105, Tryd.ntmps105
  go_wp2_with (go_at_call 125; (with_reducible refine (blank_any W H n _ S.out).mono ?_); rintro e wo ⟨o, co, rfl, ho, loo, hb⟩; have Co := Lib.hid ho; clear ho; obtain ⟨hc, hf, hz⟩ := bcall hb; (try simp at hc hf hz loo))
  have hbw : Below w.heap.size w wo := by (repeat' (first | (with_reducible exact Below.refl _ _) | (with_reducible refine Below.setCell ?_ (by first | omega | (simp; done) | (simp; omega)) _) | (with_reducible refine Below.alloc ?_ (by first | omega | (simp; done) | (simp; omega)) _) | (with_reducible refine Below.drew ?_) | (with_reducible refine below_drewN ?_ _) | (with_reducible refine Below.trans ?_ (Below.mono (by assumption) (by first | omega | (simp; done) | (simp; omega))))))
  have tg := (Three.new2 w 24 (.int .i64 W) (.int .i64 H) (.slice (some ⟨b, off, none⟩) n cap) _).below hb (by simp; omega)
  have tr := (Three.new1 w _ 24 (.int .i64 0) (.int .i64 0) (.slice none 0 0)).below hb (by simp)
  have tp := Three.new0 wo 24 (.int .i64 W) (.int .i64 H) (.slice (some ⟨o, 0, none⟩) n co)
  have x0 : Below wo.heap.size wo (wo.alloc (.cells #[.int .i64 W, .int .i64 H, .slice (some ⟨o, 0, none⟩) n co] 24)) := (Below.refl _ wo).alloc (Nat.le_refl _) _
  obtain ⟨P, hP⟩ : ∃ P, P = wo.heap.size := ⟨_, rfl⟩
  obtain ⟨w0, hw0'⟩ : ∃ w0, w0 = wo.alloc (.cells #[.int .i64 W, .int .i64 H, .slice (some ⟨o, 0, none⟩) n co] 24) := ⟨_, rfl⟩
  have hoP : o < P := by rw [hP]; exact Co.out.1
  have hsP : w.heap.size + 1 < P := by omega
  rw [← hP] at tp ⊢
  rw [← hw0'] at tp x0 ⊢
  have TG := Lib.hid (tg.below x0 tg.lt)
  have TR := Lib.hid (tr.below x0 tr.lt)
  have TP := Lib.hid tp
  have HB := Lib.hid (hbw.trans (x0.mono (by omega)))
  have HG := Lib.hid (HG.out.below HB.out hlt)
  have HR := Lib.hid (Co.out.below x0 Co.out.1)
  have hlb : b < w0.heap.size := Nat.lt_of_lt_of_le hlt HB.out.size
  have hbo : ¬ b = o := by omega
  have n1 : w.heap.size ≠ o := by omega
  have n2 : w.heap.size + 1 ≠ o := by omega
  have n3 : P ≠ o := by omega
  clear hc hf hz hb hbw tg tr tp x0 Co hw0' hP hsP
  go_loopw [6, 7, 8] (fun i d f wr => ∃ (k : Nat) (K : Nat → Nat → Int), k ≤ n ∧ i = .int .i64 k ∧ Hid (Ex (fun k => k = o) w0 wr ∧ Row wr o n K ∧ Half n k (pull W H 1 G) (fun _ _ => 0) K)) (fun i _ _ _ => n - (intOf i).toNat)
  case atStart => exact ⟨0, _, Nat.zero_le _, rfl, Lib.hid ⟨Ex.refl _ _, HR.out, half_zero _ _ _⟩⟩
  case round =>
    obtain ⟨k, K, hk, rfl, HH⟩ := hrel
    have tg1 := TG.out.ex HH.out.1 n1
    have tp1 := TP.out.ex HH.out.1 n3
    have hlg := tg1.lt
    have hlP := tp1.lt
    have p2 := tp1.c2
    by_cases hlk : k < n
    · have g0 := tg1.c0
      have g1 := tg1.c1
      have g2 := tg1.c2
      have hlo := HH.out.2.1.1
      obtain ⟨a0, a1, a2, a3⟩ := HH.out.2.1.at4 hlk
      obtain ⟨f0, f1, f2, f3⟩ := HH.out.2.1.free4 hlk
      obtain ⟨q0, hq0⟩ : ∃ q, q = nb W H (-1) k 0 := ⟨_, rfl⟩
      obtain ⟨q1, hq1⟩ : ∃ q, q = nb W H (-1) k 1 := ⟨_, rfl⟩
      obtain ⟨q2, hq2⟩ : ∃ q, q = nb W H (-1) k 2 := ⟨_, rfl⟩
      obtain ⟨q3, hq3⟩ : ∃ q, q = nb W H (-1) k 3 := ⟨_, rfl⟩
      have l0 : q0 < n := by rw [hq0]; exact nb_lt S.out.n0 hlk 0
      have l1 : q1 < n := by rw [hq1]; exact nb_lt S.out.n0 hlk 1
      have l2 : q2 < n := by rw [hq2]; exact nb_lt S.out.n0 hlk 2
      have l3 : q3 < n := by rw [hq3]; exact nb_lt S.out.n0 hlk 3
      have t0 := (HH.out.1.cell hlb hbo).trans (HG.out q0 l0).1
      have t1 := (HH.out.1.cell hlb hbo).trans (HG.out q1 l1).2.1
      have t2 := (HH.out.1.cell hlb hbo).trans (HG.out q2 l2).2.2.1
      have t3 := (HH.out.1.cell hlb hbo).trans (HG.out q3 l3).2.2.2
      have r0 := Lib.hid (fun w' => hq0 ▸ from0 W H n k w' S.out hlk)
      have r1 := Lib.hid (fun w' => hq1 ▸ from1 W H n k w' S.out hlk)
      have r2 := Lib.hid (fun w' => hq2 ▸ from2 W H n k w' S.out hlk)
      have r3 := Lib.hid (fun w' => hq3 ▸ from3 W H n k w' S.out hlk)
      have HQ0 := Lib.hid (show G q0 0 = pull W H 1 G k 0 from by rw [hq0]; rfl)
      have HQ1 := Lib.hid (show G q1 1 = pull W H 1 G k 1 from by rw [hq1]; rfl)
      have HQ2 := Lib.hid (show G q2 2 = pull W H 1 G k 2 from by rw [hq2]; rfl)
      have HQ3 := Lib.hid (show G q3 3 = pull W H 1 G k 3 from by rw [hq3]; rfl)
      clear hq0 hq1 hq2 hq3 tg1 tp1
      go_wp2
      refine wp_loop_rounds 5 ?_
      rw [rounds_succ]
      go_wp2
      go_region_held3 (fun w' => w'.cell? ⟨P, 2, none⟩ = some (.slice (some ⟨o, 0, none⟩) n co) ∧ w'.cell? ⟨w.heap.size, 2, none⟩ = some (.slice (some ⟨b, off, none⟩) n cap) ∧ w'.cell? ⟨w.heap.size, 0, none⟩ = some (.int .i64 W) ∧ w'.cell? ⟨w.heap.size, 1, none⟩ = some (.int .i64 H) ∧ w'.cell? ⟨b, off + q0 * 4, none⟩ = some (.int .i64 (G q0 0))) (first | (go_split_ands; (try dsimp only); refine ⟨?_, ?_, ?_, ?_, ?_⟩ <;> (first | (with_reducible assumption) | (with_reducible exact keep_cell (by assumption) (by first | omega | (simp; done) | (simp; omega)) (by assumption)) | (with_reducible exact (World.cell?_alloc_past _ _ _ (by show _ < _; omega)).trans (by assumption)) | (with_reducible exact (World.cell?_alloc_past _ _ _ (by show _ < _; omega)).trans ((World.cell?_alloc_past _ _ _ (by show _ < _; omega)).symm.trans (by assumption))) | (simp [go_sem]; with_reducible assumption))) | (simp [go_sem, ↓IntWalk.iteOmega, *]; done)) ((go_at_call 127; refine (r0.out _).mono ?_; rintro e w1 ⟨rfl, nn0, rfl⟩))
      clear r0
      go_wp2
      rw [rounds_succ]
      go_wp2
      go_region_held3 (fun w' => w'.cell? ⟨P, 2, none⟩ = some (.slice (some ⟨o, 0, none⟩) n co) ∧ w'.cell? ⟨w.heap.size, 2, none⟩ = some (.slice (some ⟨b, off, none⟩) n cap) ∧ w'.cell? ⟨w.heap.size, 0, none⟩ = some (.int .i64 W) ∧ w'.cell? ⟨w.heap.size, 1, none⟩ = some (.int .i64 H) ∧ w'.cell? ⟨b, off + q1 * 4 + 1, none⟩ = some (.int .i64 (G q1 1))) (first | (go_split_ands; (try dsimp only); refine ⟨?_, ?_, ?_, ?_, ?_⟩ <;> (first | (with_reducible assumption) | (with_reducible exact keep_cell (by assumption) (by first | omega | (simp; done) | (simp; omega)) (by assumption)) | (with_reducible exact (World.cell?_alloc_past _ _ _ (by show _ < _; omega)).trans (by assumption)) | (with_reducible exact (World.cell?_alloc_past _ _ _ (by show _ < _; omega)).trans ((World.cell?_alloc_past _ _ _ (by show _ < _; omega)).symm.trans (by assumption))) | (simp [go_sem]; with_reducible assumption))) | (simp [go_sem, ↓IntWalk.iteOmega, *]; done)) ((go_at_call 127; refine (r1.out _).mono ?_; rintro e w1 ⟨rfl, nn1, rfl⟩))
      clear r1
      go_wp2
      rw [rounds_succ]
      go_wp2
      go_region_held3 (fun w' => w'.cell? ⟨P, 2, none⟩ = some (.slice (some ⟨o, 0, none⟩) n co) ∧ w'.cell? ⟨w.heap.size, 2, none⟩ = some (.slice (some ⟨b, off, none⟩) n cap) ∧ w'.cell? ⟨w.heap.size, 0, none⟩ = some (.int .i64 W) ∧ w'.cell? ⟨w.heap.size, 1, none⟩ = some (.int .i64 H) ∧ w'.cell? ⟨b, off + q2 * 4 + 2, none⟩ = some (.int .i64 (G q2 2))) (first | (go_split_ands; (try dsimp only); refine ⟨?_, ?_, ?_, ?_, ?_⟩ <;> (first | (with_reducible assumption) | (with_reducible exact keep_cell (by assumption) (by first | omega | (simp; done) | (simp; omega)) (by assumption)) | (with_reducible exact (World.cell?_alloc_past _ _ _ (by show _ < _; omega)).trans (by assumption)) | (with_reducible exact (World.cell?_alloc_past _ _ _ (by show _ < _; omega)).trans ((World.cell?_alloc_past _ _ _ (by show _ < _; omega)).symm.trans (by assumption))) | (simp [go_sem]; with_reducible assumption))) | (simp [go_sem, ↓IntWalk.iteOmega, *]; done)) ((go_at_call 127; refine (r2.out _).mono ?_; rintro e w1 ⟨rfl, nn2, rfl⟩))
      clear r2
      go_wp2
      rw [rounds_succ]
      go_wp2
      go_region_held3 (fun w' => w'.cell? ⟨P, 2, none⟩ = some (.slice (some ⟨o, 0, none⟩) n co) ∧ w'.cell? ⟨w.heap.size, 2, none⟩ = some (.slice (some ⟨b, off, none⟩) n cap) ∧ w'.cell? ⟨w.heap.size, 0, none⟩ = some (.int .i64 W) ∧ w'.cell? ⟨w.heap.size, 1, none⟩ = some (.int .i64 H) ∧ w'.cell? ⟨b, off + q3 * 4 + 3, none⟩ = some (.int .i64 (G q3 3))) (first | (go_split_ands; (try dsimp only); refine ⟨?_, ?_, ?_, ?_, ?_⟩ <;> (first | (with_reducible assumption) | (with_reducible exact keep_cell (by assumption) (by first | omega | (simp; done) | (simp; omega)) (by assumption)) | (with_reducible exact (World.cell?_alloc_past _ _ _ (by show _ < _; omega)).trans (by assumption)) | (with_reducible exact (World.cell?_alloc_past _ _ _ (by show _ < _; omega)).trans ((World.cell?_alloc_past _ _ _ (by show _ < _; omega)).symm.trans (by assumption))) | (simp [go_sem]; with_reducible assumption))) | (simp [go_sem, ↓IntWalk.iteOmega, *]; done)) ((go_at_call 127; refine (r3.out _).mono ?_; rintro e w1 ⟨rfl, nn3, rfl⟩))
      clear r3
      go_wp2
      rw [rounds_succ]
      go_wp2
      go_roundw
      case rel =>
        obtain ⟨hx, hr, hh⟩ := HH.out
        obtain ⟨c1, c2⟩ := chain4 hr hlk (G q0 0) (G q1 1) (G q2 2) (G q3 3)
        exact ⟨k + 1, _, by omega, by go_num, Lib.hid ⟨hx.trans c1, c2, half_step4 hh hlk HQ0.out HQ1.out HQ2.out HQ3.out⟩⟩
      case measure => simp [intOf]; omega
    · obtain rfl : n = k := by omega
      have tr1 := TR.out.ex HH.out.1 n2
      have p0 := tp1.c0
      have p1 := tp1.c1
      have g0 := tr1.free 0
      have g1 := tr1.free 1
      have g2 := tr1.free 2
      have q0 := tr1.c0
      have q1 := tr1.c1
      have q2 := tr1.c2
      clear tg1 tp1 tr1
      go_wp2
      refine bodyPost_ret (v := .agg #[.int .i64 W, .int .i64 H, .slice (some ⟨o, 0, none⟩) n co]) (by simp [results, Tryd.results105, go_sem, ↓IntWalk.iteOmega, *]) rfl ?_
      obtain ⟨hx, hr, hh⟩ := HH.out
      exact gave_pass (hr.eqG (half_all hh)) (HB.out.trans (hx.below HB.out.size (fun k hk => by omega))) (by omega) (by omega)

set_option maxRecDepth 100000 in
set_option maxHeartbeats 4000000 in
theorem pulledT (W H n b off cap : Nat) (G : Nat → Nat → Int) (w : World) (s : Sides W H n) (hlt : b < w.heap.size) (hG : Grd w b off n G) :
    Calls Tryd.prog 105 #[.agg #[.int .i64 W, .int .i64 H, .slice (some ⟨b, off, none⟩) n cap], .bool true] w (Gave W H n (pull W H (-1) G) w) := by
  have S := Lib.hid s
  have hn1 := s.n1
  have hw0 := s.w0
  clear s
  have HG := Lib.hid hG; clear hG
  go_enter Tryd.func105, Tryd.ntmps105
  go_wp2_with (go_at_call 125; (with_reducible refine (blank_any W H n _ S.out).mono ?_); rintro e wo ⟨o, co, rfl, ho, loo, hb⟩; have Co := Lib.hid ho; clear ho; obtain ⟨hc, hf, hz⟩ := bcall hb; (try simp at hc hf hz loo))
  have hbw : Below w.heap.size w wo := by (repeat' (first | (with_reducible exact Below.refl _ _) | (with_reducible refine Below.setCell ?_ (by first | omega | (simp; done) | (simp; omega)) _) | (with_reducible refine Below.alloc ?_ (by first | omega | (simp; done) | (simp; omega)) _) | (with_reducible refine Below.drew ?_) | (with_reducible refine below_drewN ?_ _) | (with_reducible refine Below.trans ?_ (Below.mono (by assumption) (by first | omega | (simp; done) | (simp; omega))))))
  have tg := (Three.new2 w 24 (.int .i64 W) (.int .i64 H) (.slice (some ⟨b, off, none⟩) n cap) _).below hb (by simp; omega)
  have tr := (Three.new1 w _ 24 (.int .i64 0) (.int .i64 0) (.slice none 0 0)).below hb (by simp)
  have tp := Three.new0 wo 24 (.int .i64 W) (.int .i64 H) (.slice (some ⟨o, 0, none⟩) n co)
  have x0 : Below wo.heap.size wo (wo.alloc (.cells #[.int .i64 W, .int .i64 H, .slice (some ⟨o, 0, none⟩) n co] 24)) := (Below.refl _ wo).alloc (Nat.le_refl _) _
  obtain ⟨P, hP⟩ : ∃ P, P = wo.heap.size := ⟨_, rfl⟩
  obtain ⟨w0, hw0'⟩ : ∃ w0, w0 = wo.alloc (.cells #[.int .i64 W, .int .i64 H, .slice (some ⟨o, 0, none⟩) n co] 24) := ⟨_, rfl⟩
  have hoP : o < P := by rw [hP]; exact Co.out.1
  have hsP : w.heap.size + 1 < P := by omega
  rw [← hP] at tp ⊢
  rw [← hw0'] at tp x0 ⊢
  have TG := Lib.hid (tg.below x0 tg.lt)
  have TR := Lib.hid (tr.below x0 tr.lt)
  have TP := Lib.hid tp
  have HB := Lib.hid (hbw.trans (x0.mono (by omega)))
  have HG := Lib.hid (HG.out.below HB.out hlt)
  have HR := Lib.hid (Co.out.below x0 Co.out.1)
  have hlb : b < w0.heap.size := Nat.lt_of_lt_of_le hlt HB.out.size
  have hbo : ¬ b = o := by omega
  have n1 : w.heap.size ≠ o := by omega
  have n2 : w.heap.size + 1 ≠ o := by omega
  have n3 : P ≠ o := by omega
  clear hc hf hz hb hbw tg tr tp x0 Co hw0' hP hsP
  go_loopw [6, 7, 8] (fun i d f wr => ∃ (k : Nat) (K : Nat → Nat → Int), k ≤ n ∧ i = .int .i64 k ∧ Hid (Ex (fun k => k = o) w0 wr ∧ Row wr o n K ∧ Half n k (pull W H (-1) G) (fun _ _ => 0) K)) (fun i _ _ _ => n - (intOf i).toNat)
  case atStart => exact ⟨0, _, Nat.zero_le _, rfl, Lib.hid ⟨Ex.refl _ _, HR.out, half_zero _ _ _⟩⟩
  case round =>
    obtain ⟨k, K, hk, rfl, HH⟩ := hrel
    have tg1 := TG.out.ex HH.out.1 n1
    have tp1 := TP.out.ex HH.out.1 n3
    have hlg := tg1.lt
    have hlP := tp1.lt
    have p2 := tp1.c2
    by_cases hlk : k < n
    · have g0 := tg1.c0
      have g1 := tg1.c1
      have g2 := tg1.c2
      have hlo := HH.out.2.1.1
      obtain ⟨a0, a1, a2, a3⟩ := HH.out.2.1.at4 hlk
      obtain ⟨f0, f1, f2, f3⟩ := HH.out.2.1.free4 hlk
      obtain ⟨q0, hq0⟩ : ∃ q, q = nb W H (-1) k 2 := ⟨_, rfl⟩
      obtain ⟨q1, hq1⟩ : ∃ q, q = nb W H (-1) k 3 := ⟨_, rfl⟩
      obtain ⟨q2, hq2⟩ : ∃ q, q = nb W H (-1) k 0 := ⟨_, rfl⟩
      obtain ⟨q3, hq3⟩ : ∃ q, q = nb W H (-1) k 1 := ⟨_, rfl⟩
      have l0 : q0 < n := by rw [hq0]; exact nb_lt S.out.n0 hlk 2
      have l1 : q1 < n := by rw [hq1]; exact nb_lt S.out.n0 hlk 3
      have l2 : q2 < n := by rw [hq2]; exact nb_lt S.out.n0 hlk 0
      have l3 : q3 < n := by rw [hq3]; exact nb_lt S.out.n0 hlk 1
      have t0 := (HH.out.1.cell hlb hbo).trans (HG.out q0 l0).1
      have t1 := (HH.out.1.cell hlb hbo).trans (HG.out q1 l1).2.1
      have t2 := (HH.out.1.cell hlb hbo).trans (HG.out q2 l2).2.2.1
      have t3 := (HH.out.1.cell hlb hbo).trans (HG.out q3 l3).2.2.2
      have r0 := Lib.hid (fun w' => hq0 ▸ from2 W H n k w' S.out hlk)
      have r1 := Lib.hid (fun w' => hq1 ▸ from3 W H n k w' S.out hlk)
      have r2 := Lib.hid (fun w' => hq2 ▸ from0 W H n k w' S.out hlk)
      have r3 := Lib.hid (fun w' => hq3 ▸ from1 W H n k w' S.out hlk)
      have HQ0 := Lib.hid (show G q0 0 = pull W H (-1) G k 0 from by rw [hq0, (nb_opp W H k).1]; rfl)
      have HQ1 := Lib.hid (show G q1 1 = pull W H (-1) G k 1 from by rw [hq1, (nb_opp W H k).2.1]; rfl)
      have HQ2 := Lib.hid (show G q2 2 = pull W H (-1) G k 2 from by rw [hq2, (nb_opp W H k).2.2.1]; rfl)
      have HQ3 := Lib.hid (show G q3 3 = pull W H (-1) G k 3 from by rw [hq3, (nb_opp W H k).2.2.2]; rfl)
      clear hq0 hq1 hq2 hq3 tg1 tp1
      go_wp2
      refine wp_loop_rounds 5 ?_
      rw [rounds_succ]
      go_wp2_with (go_at_call 126; (with_reducible refine (refOpp0 _).mono ?_); rintro e w1 ⟨rfl, rfl⟩)
      go_region_held3 (fun w' => w'.cell? ⟨P, 2, none⟩ = some (.slice (some ⟨o, 0, none⟩) n co) ∧ w'.cell? ⟨w.heap.size, 2, none⟩ = some (.slice (some ⟨b, off, none⟩) n cap) ∧ w'.cell? ⟨w.heap.size, 0, none⟩ = some (.int .i64 W) ∧ w'.cell? ⟨w.heap.size, 1, none⟩ = some (.int .i64 H) ∧ w'.cell? ⟨b, off + q0 * 4, none⟩ = some (.int .i64 (G q0 0))) (first | (go_split_ands; (try dsimp only); refine ⟨?_, ?_, ?_, ?_, ?_⟩ <;> (first | (with_reducible assumption) | (with_reducible exact keep_cell (by assumption) (by first | omega | (simp; done) | (simp; omega)) (by assumption)) | (with_reducible exact (World.cell?_alloc_past _ _ _ (by show _ < _; omega)).trans (by assumption)) | (with_reducible exact (World.cell?_alloc_past _ _ _ (by show _ < _; omega)).trans ((World.cell?_alloc_past _ _ _ (by show _ < _; omega)).symm.trans (by assumption))) | (simp [go_sem]; with_reducible assumption))) | (simp [go_sem, ↓IntWalk.iteOmega, *]; done)) ((go_at_call 127; refine (r0.out _).mono ?_; rintro e w1 ⟨rfl, nn0, rfl⟩))
      clear r0
      go_wp2
      rw [rounds_succ]
      go_wp2_with (go_at_call 126; (with_reducible refine (refOpp1 _).mono ?_); rintro e w1 ⟨rfl, rfl⟩)
      go_region_held3 (fun w' => w'.cell? ⟨P, 2, none⟩ = some (.slice (some ⟨o, 0, none⟩) n co) ∧ w'.cell? ⟨w.heap.size, 2, none⟩ = some (.slice (some ⟨b, off, none⟩) n cap) ∧ w'.cell? ⟨w.heap.size, 0, none⟩ = some (.int .i64 W) ∧ w'.cell? ⟨w.heap.size, 1, none⟩ = some (.int .i64 H) ∧ w'.cell? ⟨b, off + q1 * 4 + 1, none⟩ = some (.int .i64 (G q1 1))) (first | (go_split_ands; (try dsimp only); refine ⟨?_, ?_, ?_, ?_, ?_⟩ <;> (first | (with_reducible assumption) | (with_reducible exact keep_cell (by assumption) (by first | omega | (simp; done) | (simp; omega)) (by assumption)) | (with_reducible exact (World.cell?_alloc_past _ _ _ (by show _ < _; omega)).trans (by assumption)) | (with_reducible exact (World.cell?_alloc_past _ _ _ (by show _ < _; omega)).trans ((World.cell?_alloc_past _ _ _ (by show _ < _; omega)).symm.trans (by assumption))) | (simp [go_sem]; with_reducible assumption))) | (simp [go_sem, ↓IntWalk.iteOmega, *]; done)) ((go_at_call 127; refine (r1.out _).mono ?_; rintro e w1 ⟨rfl, nn1, rfl⟩))
      clear r1
      go_wp2
      rw [rounds_succ]
      go_wp2_with (go_at_call 126; (with_reducible refine (refOpp2 _).mono ?_); rintro e w1 ⟨rfl, rfl⟩)
      go_region_held3 (fun w' => w'.cell? ⟨P, 2, none⟩ = some (.slice (some ⟨o, 0, none⟩) n co) ∧ w'.cell? ⟨w.heap.size, 2, none⟩ = some (.slice (some ⟨b, off, none⟩) n cap) ∧ w'.cell? ⟨w.heap.size, 0, none⟩ = some (.int .i64 W) ∧ w'.cell? ⟨w.heap.size, 1, none⟩ = some (.int .i64 H) ∧ w'.cell? ⟨b, off + q2 * 4 + 2, none⟩ = some (.int .i64 (G q2 2))) (first | (go_split_ands; (try dsimp only); refine ⟨?_, ?_, ?_, ?_, ?_⟩ <;> (first | (with_reducible assumption) | (with_reducible exact keep_cell (by assumption) (by first | omega | (simp; done) | (simp; omega)) (by assumption)) | (with_reducible exact (World.cell?_alloc_past _ _ _ (by show _ < _; omega)).trans (by assumption)) | (with_reducible exact (World.cell?_alloc_past _ _ _ (by show _ < _; omega)).trans ((World.cell?_alloc_past _ _ _ (by show _ < _; omega)).symm.trans (by assumption))) | (simp [go_sem]; with_reducible assumption))) | (simp [go_sem, ↓IntWalk.iteOmega, *]; done)) ((go_at_call 127; refine (r2.out _).mono ?_; rintro e w1 ⟨rfl, nn2, rfl⟩))
      clear r2
      go_wp2
      rw [rounds_succ]
      go_wp2_with (go_at_call 126; (with_reducible refine (refOpp3 _).mono ?_); rintro e w1 ⟨rfl, rfl⟩)
      go_region_held3 (fun w' => w'.cell? ⟨P, 2, none⟩ = some (.slice (some ⟨o, 0, none⟩) n co) ∧ w'.cell? ⟨w.heap.size, 2, none⟩ = some (.slice (some ⟨b, off, none⟩) n cap) ∧ w'.cell? ⟨w.heap.size, 0, none⟩ = some (.int .i64 W) ∧ w'.cell? ⟨w.heap.size, 1, none⟩ = some (.int .i64 H) ∧ w'.cell? ⟨b, off + q3 * 4 + 3, none⟩ = some (.int .i64 (G q3 3))) (first | (go_split_ands; (try dsimp only); refine ⟨?_, ?_, ?_, ?_, ?_⟩ <;> (first | (with_reducible assumption) | (with_reducible exact keep_cell (by assumption) (by first | omega | (simp; done) | (simp; omega)) (by assumption)) | (with_reducible exact (World.cell?_alloc_past _ _ _ (by show _ < _; omega)).trans (by assumption)) | (with_reducible exact (World.cell?_alloc_past _ _ _ (by show _ < _; omega)).trans ((World.cell?_alloc_past _ _ _ (by show _ < _; omega)).symm.trans (by assumption))) | (simp [go_sem]; with_reducible assumption))) | (simp [go_sem, ↓IntWalk.iteOmega, *]; done)) ((go_at_call 127; refine (r3.out _).mono ?_; rintro e w1 ⟨rfl, nn3, rfl⟩))
      clear r3
      go_wp2
      rw [rounds_succ]
      go_wp2
      go_roundw
      case rel =>
        obtain ⟨hx, hr, hh⟩ := HH.out
        obtain ⟨c1, c2⟩ := chain4 hr hlk (G q0 0) (G q1 1) (G q2 2) (G q3 3)
        exact ⟨k + 1, _, by omega, by go_num, Lib.hid ⟨hx.trans c1, c2, half_step4 hh hlk HQ0.out HQ1.out HQ2.out HQ3.out⟩⟩
      case measure => simp [intOf]; omega
    · obtain rfl : n = k := by omega
      have tr1 := TR.out.ex HH.out.1 n2
      have p0 := tp1.c0
      have p1 := tp1.c1
      have g0 := tr1.free 0
      have g1 := tr1.free 1
      have g2 := tr1.free 2
      have q0 := tr1.c0
      have q1 := tr1.c1
      have q2 := tr1.c2
      clear tg1 tp1 tr1
      go_wp2
      refine bodyPost_ret (v := .agg #[.int .i64 W, .int .i64 H, .slice (some ⟨o, 0, none⟩) n co]) (by simp [results, Tryd.results105, go_sem, ↓IntWalk.iteOmega, *]) rfl ?_
      obtain ⟨hx, hr, hh⟩ := HH.out
      exact gave_pass (hr.eqG (half_all hh)) (HB.out.trans (hx.below HB.out.size (fun k hk => by omega))) (by omega) (by omega)
end Go.Proofs.YtnpmlbhlchoolaaDoor

/- Collisions of all cells, steps and steps back: by the reference. -/


namespace Go.Proofs.YtnpmlbhlchoolaaDoor
set_option linter.unusedSimpArgs false
set_option linter.unusedVariables false
open Go.RowKit

theorem rowLt {w w' : World} {b n : Nat} {G : Nat → Nat → Int} (h : Hid (Row w b n G)) (hb : Below w.heap.size w w') : b < w'.heap.size := Nat.lt_of_lt_of_le h.out.1 hb.size
theorem rowGrd {w w' : World} {b n : Nat} {G : Nat → Nat → Int} (h : Hid (Row w b n G)) (hb : Below w.heap.size w w') : Grd w' b 0 n G := h.out.grd.below hb h.out.1
theorem Three.at {w : World} {B B' : Nat} {t : TypeId} {x y z : Value} (h : Three w B t x y z) (e : B = B') : Three w B' t x y z := e ▸ h
theorem Two.at {w : World} {B B' : Nat} {t : TypeId} {x y : Value} (h : Two w B t x y) (e : B = B') : Two w B' t x y := e ▸ h
theorem blocks3 {w wo : World} {t1 t2 t3 : TypeId} {a b c d e f g h : Value} (hb : Below (((w.alloc (.cells #[a, b, c] t1)).alloc (.cells #[d, e] t2)).alloc (.cells #[f, g, h] t3)).heap.size (((w.alloc (.cells #[a, b, c] t1)).alloc (.cells #[d, e] t2)).alloc (.cells #[f, g, h] t3)) wo) :
    Three wo w.heap.size t1 a b c ∧ Two wo (w.heap.size + 1) t2 d e ∧ Three wo (w.heap.size + 2) t3 f g h := by
  refine ⟨(Three.new3 w t1 a b c _ _).below hb (by simp; omega), Two.at (((Two.new (w.alloc (.cells #[a, b, c] t1)) t2 d e).alloc _).below hb (by simp)) (by simp), Three.at ((Three.new0 ((w.alloc (.cells #[a, b, c] t1)).alloc (.cells #[d, e] t2)) t3 f g h).below hb (by simp)) (by simp)⟩
theorem afterG (G : Nat → Nat → Int) (i : Nat) (k y : Int) (w : World) (h : Ok4 (G i 0) (G i 1) (G i 2) (G i 3)) (hr : OkR k y) :
    Calls Tryd.prog 106 #[.agg #[.int .i64 (G i 0), .int .i64 (G i 1), .int .i64 (G i 2), .int .i64 (G i 3)], .agg #[.int .i64 k, .int .i64 y]] w fun e w' => e = .returned (.agg #[.int .i64 (colG k y G i 0), .int .i64 (colG k y G i 1), .int .i64 (colG k y G i 2), .int .i64 (colG k y G i 3)]) ∧ Below w.heap.size w w' := by
  rw [colG0, colG1, colG2, colG3]
  exact after_ok _ _ _ _ k y w h hr

set_option maxHeartbeats 1000000 in
theorem flow1 (W H n b off cap : Nat) (G : Nat → Nat → Int) (w : World) (s : Sides W H n) (hlt : b < w.heap.size) (hG : Grd w b off n G) :
    Calls Tryd.prog 74 #[.agg #[.int .i64 W, .int .i64 H, .slice (some ⟨b, off, none⟩) n cap]] w (Gave W H n (pull W H 1 G) w) := by
  have D := Lib.hid (fun w' (hb : Below w.heap.size w w') => pulledF W H n b off cap G w' s (Nat.lt_of_lt_of_le hlt hb.size) (hG.below hb hlt))
  clear hG s
  go_enter Tryd.func74, Tryd.ntmps74
  go_wp2_with (go_at_call 105; (with_reducible refine (D.out _ (by (repeat' (first | (with_reducible exact Below.refl _ _) | (with_reducible refine Below.setCell ?_ (by first | omega | (simp; done) | (simp; omega)) _) | (with_reducible refine Below.alloc ?_ (by first | omega | (simp; done) | (simp; omega)) _) | (with_reducible refine Below.drew ?_) | (with_reducible refine below_drewN ?_ _) | (with_reducible refine Below.trans ?_ (Below.mono (by assumption) (by first | omega | (simp; done) | (simp; omega)))))))).mono ?_); rintro e wo ⟨o, co, rfl, ho, loo, hb⟩; have Co := Lib.hid ho; clear ho; obtain ⟨hc, hf, hz⟩ := bcall hb; (try simp at hc hf hz loo))
  have HB := Lib.hid (show Below w.heap.size w wo from by (repeat' (first | (with_reducible exact Below.refl _ _) | (with_reducible refine Below.setCell ?_ (by first | omega | (simp; done) | (simp; omega)) _) | (with_reducible refine Below.alloc ?_ (by first | omega | (simp; done) | (simp; omega)) _) | (with_reducible refine Below.drew ?_) | (with_reducible refine below_drewN ?_ _) | (with_reducible refine Below.trans ?_ (Below.mono (by assumption) (by first | omega | (simp; done) | (simp; omega)))))))
  refine bodyPost_ret (v := .agg #[.int .i64 W, .int .i64 H, .slice (some ⟨o, 0, none⟩) n co]) (by simp [results, Tryd.results74, go_sem, ↓IntWalk.iteOmega, *]) rfl ?_
  exact gave_pass Co.out HB.out (by omega) (by omega)

set_option maxHeartbeats 1000000 in
theorem ebb1 (W H n b off cap : Nat) (G : Nat → Nat → Int) (w : World) (s : Sides W H n) (hlt : b < w.heap.size) (hG : Grd w b off n G) :
    Calls Tryd.prog 76 #[.agg #[.int .i64 W, .int .i64 H, .slice (some ⟨b, off, none⟩) n cap]] w (Gave W H n (pull W H (-1) G) w) := by
  have D := Lib.hid (fun w' (hb : Below w.heap.size w w') => pulledT W H n b off cap G w' s (Nat.lt_of_lt_of_le hlt hb.size) (hG.below hb hlt))
  clear hG s
  go_enter Tryd.func76, Tryd.ntmps76
  go_wp2_with (go_at_call 105; (with_reducible refine (D.out _ (by (repeat' (first | (with_reducible exact Below.refl _ _) | (with_reducible refine Below.setCell ?_ (by first | omega | (simp; done) | (simp; omega)) _) | (with_reducible refine Below.alloc ?_ (by first | omega | (simp; done) | (simp; omega)) _) | (with_reducible refine Below.drew ?_) | (with_reducible refine below_drewN ?_ _) | (with_reducible refine Below.trans ?_ (Below.mono (by assumption) (by first | omega | (simp; done) | (simp; omega)))))))).mono ?_); rintro e wo ⟨o, co, rfl, ho, loo, hb⟩; have Co := Lib.hid ho; clear ho; obtain ⟨hc, hf, hz⟩ := bcall hb; (try simp at hc hf hz loo))
  have HB := Lib.hid (show Below w.heap.size w wo from by (repeat' (first | (with_reducible exact Below.refl _ _) | (with_reducible refine Below.setCell ?_ (by first | omega | (simp; done) | (simp; omega)) _) | (with_reducible refine Below.alloc ?_ (by first | omega | (simp; done) | (simp; omega)) _) | (with_reducible refine Below.drew ?_) | (with_reducible refine below_drewN ?_ _) | (with_reducible refine Below.trans ?_ (Below.mono (by assumption) (by first | omega | (simp; done) | (simp; omega)))))))
  refine bodyPost_ret (v := .agg #[.int .i64 W, .int .i64 H, .slice (some ⟨o, 0, none⟩) n co]) (by simp [results, Tryd.results76, go_sem, ↓IntWalk.iteOmega, *]) rfl ?_
  exact gave_pass Co.out HB.out (by omega) (by omega)

end Go.Proofs.YtnpmlbhlchoolaaDoor
