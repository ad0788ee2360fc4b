/- Sides, weights and validity of a grid, blank grids and copies: by the reference. -/
import Derived.Test.YtmdeooflgkjbbaaDoorKCopy
import Derived.Test.YtmdeooflgkjbbaaDoorKRunU
import Derived.Test.YtmdeooflgkjbbaaDoorKRules
import Derived.LoopTactic
import Derived.Test.YtmdeooflgkjbbaaDoorKRef
import Derived.Deep.CutRange
namespace Go.Proofs.YtmdeooflgkjbbaaDoor
set_option linter.unusedSimpArgs false
set_option linter.unusedVariables false
open Go.RowKit

theorem within2_yes (n lo hi : Int) (w : World) (h1 : lo ≤ n) (h2 : n ≤ hi) :
    Calls Tryd.prog 159 #[.int .i64 n, .int .i64 lo, .int .i64 hi] w fun e w' => e = .returned (.bool true) ∧ w = w' := by
  go_enter Tryd.func159, Tryd.ntmps159
  go_wp2
  go_ret
  exact ⟨rfl, rfl⟩
theorem within2_no (n lo hi : Int) (w : World) (h : n < lo ∨ hi < n) :
    Calls Tryd.prog 159 #[.int .i64 n, .int .i64 lo, .int .i64 hi] w fun e w' => e = .returned (.bool false) ∧ w = w' := by
  by_cases h1 : lo ≤ n
  · have h2 : ¬ n ≤ hi := by omega
    clear h
    go_enter Tryd.func159, Tryd.ntmps159
    go_wp2
    go_ret
    exact ⟨rfl, rfl⟩
  · clear h
    go_enter Tryd.func159, Tryd.ntmps159
    go_wp2
    go_ret
    exact ⟨rfl, rfl⟩

set_option maxHeartbeats 1000000 in
theorem sides_yes (W H : Int) (n : Nat) (w : World) (h : Sd W H) (hn : (n : Int) = W * H) : Calls Tryd.prog 137 #[.int .i64 W, .int .i64 H, .int .i64 n] w fun e w' => e = .returned (.bool true) ∧ w = w' := by
  obtain ⟨b1, b2⟩ := h.bd
  obtain ⟨h1, h2, h3, h4, _⟩ := h
  have e : ((n : Int) == W * H) = true := by rw [hn]; simp
  clear hn
  go_enter Tryd.func137, Tryd.ntmps137
  go_wp2_with (go_at_call 159; (with_reducible refine (within2_yes _ _ _ _ (by omega) (by omega)).mono ?_); rintro e w1 ⟨rfl, rfl⟩)
  go_ret
  exact ⟨by simp [*], rfl⟩
set_option maxHeartbeats 2000000 in
theorem sides_no (W H : Int) (n : Nat) (w : World) (h : ((W < 1 ∨ 64 < W) ∨ (H < 1 ∨ 64 < H)) ∨ (((1 ≤ W ∧ W ≤ 64) ∧ (1 ≤ H ∧ H ≤ 64)) ∧ 1024 < W * H) ∨ (Sd W H ∧ (n : Int) ≠ W * H)) :
    Calls Tryd.prog 137 #[.int .i64 W, .int .i64 H, .int .i64 n] w fun e w' => e = .returned (.bool false) ∧ w = w' := by
  rcases h with h | ⟨⟨⟨h1, h2⟩, h3, h4⟩, h5⟩ | ⟨hs, hn⟩
  · by_cases hW : W < 1 ∨ 64 < W
    · clear h
      go_enter Tryd.func137, Tryd.ntmps137
      go_wp2_with (go_at_call 159; (with_reducible refine (within2_no _ _ _ _ hW).mono ?_); rintro e w1 ⟨rfl, rfl⟩)
      go_ret
      exact ⟨rfl, rfl⟩
    · have hH : H < 1 ∨ 64 < H := by omega
      have h1 : 1 ≤ W := by omega
      have h2 : W ≤ 64 := by omega
      clear h hW
      go_enter Tryd.func137, Tryd.ntmps137
      go_wp2_with (first | (go_at_call 159; (with_reducible refine (within2_yes _ _ _ _ h1 h2).mono ?_); rintro e w1 ⟨rfl, rfl⟩) | (go_at_call 159; (with_reducible refine (within2_no _ _ _ _ hH).mono ?_); rintro e w1 ⟨rfl, rfl⟩))
      go_ret
      exact ⟨rfl, rfl⟩
  · obtain ⟨b1, b2⟩ := side_bd h1 h2 h3 h4
    have h6 : ¬ W * H ≤ 1024 := by omega
    go_enter Tryd.func137, Tryd.ntmps137
    go_wp2_with (go_at_call 159; (with_reducible refine (within2_yes _ _ _ _ (by omega) (by omega)).mono ?_); rintro e w1 ⟨rfl, rfl⟩)
    go_ret
    exact ⟨by simp, rfl⟩
  · obtain ⟨b1, b2⟩ := hs.bd
    obtain ⟨h1, h2, h3, h4, _⟩ := hs
    have e : ((n : Int) == W * H) = false := beq_eq_false_iff_ne.2 hn
    clear hn
    go_enter Tryd.func137, Tryd.ntmps137
    go_wp2_with (go_at_call 159; (with_reducible refine (within2_yes _ _ _ _ (by omega) (by omega)).mono ?_); rintro e w1 ⟨rfl, rfl⟩)
    go_ret
    exact ⟨by simp [*], rfl⟩

set_option maxRecDepth 100000 in
set_option maxHeartbeats 2000000 in
theorem weight_any1 (b off n cap : Nat) (G : Nat → Nat → Int) (w : World) (hn : n ≤ 1000000) (hok : ∀ i, i < n → Ok4 (G i 0) (G i 1) (G i 2) (G i 3)) (hlt : b < w.heap.size) (hG : Grd w b off n G) :
    Calls Tryd.prog 139 #[.slice (some ⟨b, off, none⟩) n cap] w fun e w' => e = .returned (.int .i64 (wt G n)) ∧ Below w.heap.size w w' := by
  have HO := Lib.hid hok; clear hok
  have HG := Lib.hid hG; clear hG
  go_enter Tryd.func139, Tryd.ntmps139
  go_wp2
  go_loopw [3, 4] (fun t i wr => ∃ k : Nat, k ≤ n ∧ i = .int .i64 k ∧ t = .int .i64 (wt G k) ∧ Below w.heap.size w wr) (fun _ i _ => n - (intOf i).toNat)
  case atStart => exact ⟨0, Nat.zero_le _, rfl, rfl, Below.refl _ _⟩
  case round =>
    obtain ⟨k, hk, rfl, rfl, hB⟩ := hrel
    by_cases hlk : k < n
    · obtain ⟨c0, c1, c2, c3⟩ := HG.out.get hB hlt hlk
      obtain ⟨x0, x1, x2, x3, x4⟩ := HO.out k hlk
      obtain ⟨w10, w11⟩ := wt_bd HO.out k hk
      have p0 : (0 : Int) ≤ (k : Int) := by omega
      have p1 : (k : Int) < (n : Int) := by omega
      have s1 : IntKind.i64.wrap (wt G k + G k 0) = wt G k + G k 0 := IntWalk.i64_in _ ⟨by omega, by omega⟩
      have s2 : IntKind.i64.wrap (wt G k + G k 0 + G k 1) = wt G k + G k 0 + G k 1 := IntWalk.i64_in _ ⟨by omega, by omega⟩
      have s3 : IntKind.i64.wrap (wt G k + G k 0 + G k 1 + G k 2) = wt G k + G k 0 + G k 1 + G k 2 := IntWalk.i64_in _ ⟨by omega, by omega⟩
      have s4 : IntKind.i64.wrap (wt G k + G k 0 + G k 1 + G k 2 + G k 3) = wt G k + G k 0 + G k 1 + G k 2 + G k 3 := IntWalk.i64_in _ ⟨by omega, by omega⟩
      go_wp2
      go_quiet (fail)
      clear s1 s2 s3 s4
      go_wp2
      go_roundw
      case rel => exact ⟨k + 1, by omega, by go_num, congrArg (Value.int IntKind.i64) (show wt G k + G k 0 + G k 1 + G k 2 + G k 3 = wt G k + (G k 0 + G k 1 + G k 2 + G k 3) by omega), below_drewN hB _⟩
      case measure => simp [intOf]; omega
    · obtain rfl : n = k := by omega
      go_wp2
      go_ret
      exact ⟨rfl, hB⟩

theorem getI {w wr : World} {b off n : Nat} {G : Nat → Nat → Int} (h : Grd w b off n G) (hb : Below w.heap.size w wr) (hlt : b < w.heap.size) : CellsIn wr (some ⟨b, off, none⟩) n G := .inr ⟨b, off, rfl, Nat.lt_of_lt_of_le hlt hb.size, h.below hb hlt⟩

set_option maxHeartbeats 4000000 in
theorem rValid_in (W H : Int) (b off n cap : Nat) (G : Nat → Nat → Int) (w : World) (hs : Sd W H) (hn : (n : Int) = W * H) (hlt : b < w.heap.size) (hG : Grd w b off n G) :
    Calls Tryd.prog 87 #[.agg #[.int .i64 W, .int .i64 H, .slice (some ⟨b, off, none⟩) n cap]] w fun e w' => ∃ bb : Bool, e = .returned (.bool bb) ∧ Hid (bb = true ↔ OkG n G) ∧ Below w.heap.size w w' := by
  have hn2 : (n : Int) ≤ 1024 := by have := hs.bd; omega
  have HS := Lib.hid hs; clear hs
  have HN := Lib.hid hn; clear hn
  have HG := Lib.hid hG; clear hG
  go_enter Tryd.func87, Tryd.ntmps87
  go_wp2_with (go_at_call 137; (with_reducible refine (sides_yes W H n _ HS.out HN.out).mono ?_); rintro e w1 ⟨rfl, rfl⟩)
  go_loopw [3] (fun i wr => ∃ k : Nat, k ≤ n ∧ i = .int .i64 k ∧ Hid (Three wr w.heap.size 24 (.int .i64 W) (.int .i64 H) (.slice (some ⟨b, off, none⟩) n cap)) ∧ Below w.heap.size w wr ∧ Hid (∀ j, j < k → Ok4 (G j 0) (G j 1) (G j 2) (G j 3))) (fun i _ => n - (intOf i).toNat)
  case atStart => exact ⟨0, Nat.zero_le _, rfl, Lib.hid (World.alloc_heap_new w _), by (repeat' (first | (with_reducible exact Below.refl _ _) | (with_reducible refine Below.setCell ?_ (by first | omega | (simp; done) | (simp; omega)) _) | (with_reducible refine Below.alloc ?_ (by first | omega | (simp; done) | (simp; omega)) _) | (with_reducible refine Below.drew ?_) | (with_reducible refine below_drewN ?_ _) | (with_reducible refine Below.trans ?_ (Below.mono (by assumption) (by first | omega | (simp; done) | (simp; omega)))))), Lib.hid (by omega)⟩
  case round =>
    obtain ⟨k, hk, rfl, HT, hB, HO⟩ := hrel
    have k2 := HT.out.c2
    have hlT := HT.out.lt
    by_cases hlk : k < n
    · obtain ⟨c0, c1, c2, c3⟩ := HG.out.get hB hlt hlk
      have hs := hB.size
      by_cases hx : Ok4 (G k 0) (G k 1) (G k 2) (G k 3)
      · have HK := Lib.hid hx; clear hx
        go_wp2_with (go_at_call 138; (with_reducible refine (refValid_ok _ _ _ _ _ HK.out).mono ?_); rintro e w1 ⟨rfl, hb⟩; obtain ⟨hc, hf, hz⟩ := bcall hb; (try simp at hc hf hz))
        go_roundw
        case rel => exact ⟨k + 1, by omega, by go_num, Lib.hid (HT.out.below hb hlT), by (repeat' (first | (with_reducible exact Below.refl _ _) | (with_reducible refine Below.setCell ?_ (by first | omega | (simp; done) | (simp; omega)) _) | (with_reducible refine Below.alloc ?_ (by first | omega | (simp; done) | (simp; omega)) _) | (with_reducible refine Below.drew ?_) | (with_reducible refine below_drewN ?_ _) | (with_reducible refine Below.trans ?_ (Below.mono (by assumption) (by first | omega | (simp; done) | (simp; omega)))))), Lib.hid (fun j hj => by
          by_cases e : j = k
          · subst e; exact HK.out
          · exact HO.out j (by omega))⟩
        case measure => simp [intOf]; omega
      · have HK := Lib.hid hx; clear hx
        go_wp2_with (go_at_call 138; (with_reducible refine (refValid_bad _ _ _ _ _ HK.out).mono ?_); rintro e w1 ⟨rfl, hb⟩; obtain ⟨hc, hf, hz⟩ := bcall hb; (try simp at hc hf hz))
        go_ret
        exact ⟨false, rfl, Lib.hid ⟨(fun h => by cases h), fun h => absurd (h.1 k hlk) HK.out⟩, by (repeat' (first | (with_reducible exact Below.refl _ _) | (with_reducible refine Below.setCell ?_ (by first | omega | (simp; done) | (simp; omega)) _) | (with_reducible refine Below.alloc ?_ (by first | omega | (simp; done) | (simp; omega)) _) | (with_reducible refine Below.drew ?_) | (with_reducible refine below_drewN ?_ _) | (with_reducible refine Below.trans ?_ (Below.mono (by assumption) (by first | omega | (simp; done) | (simp; omega))))))⟩
    · obtain rfl : n = k := by omega
      by_cases hw : wt G n ≤ 1000000000
      · have HW := Lib.hid hw
        go_wp2_with (go_at_call 139; (with_reducible refine (weight_any1 b off n cap G _ (by omega) HO.out (by have := hB.size; omega) (HG.out.below hB hlt)).mono ?_); rintro e w1 ⟨rfl, hb⟩; obtain ⟨hc, hf, hz⟩ := bcall hb; (try simp at hc hf hz))
        go_ret
        exact ⟨true, by simp [hw], Lib.hid ⟨fun _ => ⟨HO.out, HW.out⟩, fun _ => rfl⟩, by (repeat' (first | (with_reducible exact Below.refl _ _) | (with_reducible refine Below.setCell ?_ (by first | omega | (simp; done) | (simp; omega)) _) | (with_reducible refine Below.alloc ?_ (by first | omega | (simp; done) | (simp; omega)) _) | (with_reducible refine Below.drew ?_) | (with_reducible refine below_drewN ?_ _) | (with_reducible refine Below.trans ?_ (Below.mono (by assumption) (by first | omega | (simp; done) | (simp; omega))))))⟩
      · have HW := Lib.hid hw
        go_wp2_with (go_at_call 139; (with_reducible refine (weight_any1 b off n cap G _ (by omega) HO.out (by have := hB.size; omega) (HG.out.below hB hlt)).mono ?_); rintro e w1 ⟨rfl, hb⟩; obtain ⟨hc, hf, hz⟩ := bcall hb; (try simp at hc hf hz))
        go_ret
        exact ⟨false, by simp [hw], Lib.hid ⟨(fun h => by cases h), fun h => by have := h.2; have := HW.out; omega⟩, by (repeat' (first | (with_reducible exact Below.refl _ _) | (with_reducible refine Below.setCell ?_ (by first | omega | (simp; done) | (simp; omega)) _) | (with_reducible refine Below.alloc ?_ (by first | omega | (simp; done) | (simp; omega)) _) | (with_reducible refine Below.drew ?_) | (with_reducible refine below_drewN ?_ _) | (with_reducible refine Below.trans ?_ (Below.mono (by assumption) (by first | omega | (simp; done) | (simp; omega))))))⟩

set_option maxHeartbeats 1000000 in
theorem rValid_sides (W H : Int) (ao : Option Addr) (n cap : Nat) (w : World) (h : ((W < 1 ∨ 64 < W) ∨ (H < 1 ∨ 64 < H)) ∨ (((1 ≤ W ∧ W ≤ 64) ∧ (1 ≤ H ∧ H ≤ 64)) ∧ 1024 < W * H) ∨ (Sd W H ∧ (n : Int) ≠ W * H)) :
    Calls Tryd.prog 87 #[.agg #[.int .i64 W, .int .i64 H, .slice (ao) n cap]] w fun e w' => e = .returned (.bool false) ∧ Below w.heap.size w w' := by
  have HS := Lib.hid h; clear h
  go_enter Tryd.func87, Tryd.ntmps87
  go_wp2_with (go_at_call 137; (with_reducible refine (sides_no W H n _ HS.out).mono ?_); rintro e w1 ⟨rfl, rfl⟩)
  go_ret
  refine ⟨rfl, ?_⟩
  (repeat' (first | (with_reducible exact Below.refl _ _) | (with_reducible refine Below.setCell ?_ (by first | omega | (simp; done) | (simp; omega)) _) | (with_reducible refine Below.alloc ?_ (by first | omega | (simp; done) | (simp; omega)) _) | (with_reducible refine Below.drew ?_) | (with_reducible refine below_drewN ?_ _) | (with_reducible refine Below.trans ?_ (Below.mono (by assumption) (by first | omega | (simp; done) | (simp; omega))))))

theorem rValid_ok (W H : Int) (ao : Option Addr) (n cap : Nat) (G : Nat → Nat → Int) (w : World) (hv : VG W H n G) (h : CellsIn w ao n G) :
    Calls Tryd.prog 87 #[.agg #[.int .i64 W, .int .i64 H, .slice (ao) n cap]] w fun e w' => e = .returned (.bool true) ∧ Below w.heap.size w w' := by
  obtain ⟨hs, hn, ho⟩ := hv
  rcases h with h | ⟨b, off, rfl, hlt, hG⟩
  · have := hs.bd
    omega
  · exact (rValid_in W H b off n cap G w hs hn hlt hG).mono fun e w' ⟨bb, he, hb, hB⟩ => ⟨by rw [he, hb.out.2 ho], hB⟩
theorem rValid_bad (W H : Int) (ao : Option Addr) (n cap : Nat) (G : Nat → Nat → Int) (w : World) (hv : ¬ VG W H n G) (h : CellsIn w ao n G) :
    Calls Tryd.prog 87 #[.agg #[.int .i64 W, .int .i64 H, .slice (ao) n cap]] w fun e w' => e = .returned (.bool false) ∧ Below w.heap.size w w' := by
  rcases not_vg hv with h1 | h1 | h1 | ⟨hs, hn, hb⟩
  · exact rValid_sides W H ao n cap w (.inl h1)
  · exact rValid_sides W H ao n cap w (.inr (.inl h1))
  · exact rValid_sides W H ao n cap w (.inr (.inr h1))
  · rcases h with h | ⟨b, off, rfl, hlt, hG⟩
    · have := hs.bd
      omega
    · refine (rValid_in W H b off n cap G w hs hn hlt hG).mono fun e w' ⟨bb, he, hb', hB⟩ => ⟨?_, hB⟩
      cases bb with
      | true => exact absurd (hb'.out.1 rfl) hb
      | false => exact he
end Go.Proofs.YtmdeooflgkjbbaaDoor

/- Whether rules are valid, and the rule of a step: by the reference. -/


namespace Go.Proofs.YtmdeooflgkjbbaaDoor
set_option linter.unusedSimpArgs false
set_option linter.unusedVariables false
open Go.RowKit

theorem RulesAt.get {w wr : World} {b off n : Nat} {R : Nat → Int × Int} (h : RulesAt w b off n R) (hb : Below w.heap.size w wr) (hlt : b < w.heap.size) {k : Nat} (hk : k < n) :
    wr.cell? ⟨b, off + k * 2, none⟩ = some (.int .i64 ((R k).1)) ∧ wr.cell? ⟨b, off + k * 2 + 1, none⟩ = some (.int .i64 ((R k).2)) :=
  ⟨(hb.cell (p := ⟨b, off + k * 2, none⟩) hlt).trans (h k hk).1, (hb.cell (p := ⟨b, off + k * 2 + 1, none⟩) hlt).trans (h k hk).2⟩

end Go.Proofs.YtmdeooflgkjbbaaDoor

/- The reference's grids: blank ones, copies, where particles come from. -/



namespace Go.Proofs.YtmdeooflgkjbbaaDoor
set_option linter.unusedSimpArgs false
set_option linter.unusedVariables false
open Go.RowKit

theorem nb_opp (W H k : Nat) : nb W H (-1) k 2 = nb W H 1 k 0 ∧ nb W H (-1) k 3 = nb W H 1 k 1 ∧ nb W H (-1) k 0 = nb W H 1 k 2 ∧ nb W H (-1) k 1 = nb W H 1 k 3 := by
  unfold nb
  refine ⟨?_, ?_, ?_, ?_⟩ <;> simp [dx, dy]

set_option maxHeartbeats 4000000 in
theorem from0 (W H n k : Nat) (w : World) (s : Sides W H n) (hk : k < n) :
    Calls Tryd.prog 115 #[.int .i64 W, .int .i64 H, .int .i64 k, .int .i64 0] w fun e w' => e = .returned (.int .i64 (nb W H (-1) k 0)) ∧ ∃ j, w' = w.drewN j := by
  obtain ⟨x0, x1, y0, y1⟩ := coords W k (by have := s.n1; omega)
  have p := (nb_plc W H (-1) k s.w0 (s.n0 ▸ hk)).1
  rw [Int.natCast_emod, Int.natCast_ediv] at p
  obtain ⟨h1, h2, h3, h4, h5, h6⟩ := s
  obtain ⟨X, hX⟩ : ∃ X, (k : Int) % (W : Int) = X := ⟨_, rfl⟩
  obtain ⟨Y, hY⟩ : ∃ Y, (k : Int) / (W : Int) = Y := ⟨_, rfl⟩
  rw [hX] at x0 x1 p
  rw [hY] at y0 y1 p
  obtain ⟨b0, b1, b2, b3⟩ := plc_bd (W := W) (H := H) (x := X + -1) (y := Y) (by omega) (by omega) (by omega) (by omega)
  rw [← p]
  have e : (X + (W : Int) - 1) % (W : Int) = (X + -1) % (W : Int) := by rw [show X + (W : Int) - 1 = X + -1 + W by omega]; first | rw [Int.add_emod_right] | rw [Int.add_emod_self]
  have e2 : (X + (W : Int) - 1) % (W : Int) + Y % (H : Int) * (W : Int) = plc W H (X + -1) (Y) := by
    unfold plc
    rw [e, Int.mul_comm]
  have s1 : IntKind.i64.wrap (Y % (H : Int) * (W : Int)) = Y % (H : Int) * (W : Int) := IntWalk.i64_in _ (by first | (rw [Int.mul_comm]; exact ⟨by omega, by omega⟩) | (rw [e, Int.mul_comm]; exact ⟨by omega, by omega⟩))
  have s2 : IntKind.i64.wrap ((X + (W : Int) - 1) % (W : Int) + Y % (H : Int) * (W : Int)) = plc W H (X + -1) (Y) := by
    rw [e2]
    exact IntWalk.i64_in _ ⟨by omega, by omega⟩
  clear b0 b1 b2 b3 e e2 p
  go_enter Tryd.func115, Tryd.ntmps115
  go_wp2
  go_quiet (fail)
  go_wp2
  go_quiet (fail)
  go_wp2
  go_ret
  exact ⟨rfl, _, World.drewN_drewN ..⟩

set_option maxHeartbeats 4000000 in
theorem from1 (W H n k : Nat) (w : World) (s : Sides W H n) (hk : k < n) :
    Calls Tryd.prog 115 #[.int .i64 W, .int .i64 H, .int .i64 k, .int .i64 1] w fun e w' => e = .returned (.int .i64 (nb W H (-1) k 1)) ∧ ∃ j, w' = w.drewN j := by
  obtain ⟨x0, x1, y0, y1⟩ := coords W k (by have := s.n1; omega)
  have p := (nb_plc W H (-1) k s.w0 (s.n0 ▸ hk)).2.1
  rw [Int.natCast_emod, Int.natCast_ediv] at p
  obtain ⟨h1, h2, h3, h4, h5, h6⟩ := s
  obtain ⟨X, hX⟩ : ∃ X, (k : Int) % (W : Int) = X := ⟨_, rfl⟩
  obtain ⟨Y, hY⟩ : ∃ Y, (k : Int) / (W : Int) = Y := ⟨_, rfl⟩
  rw [hX] at x0 x1 p
  rw [hY] at y0 y1 p
  obtain ⟨b0, b1, b2, b3⟩ := plc_bd (W := W) (H := H) (x := X) (y := Y + -1) (by omega) (by omega) (by omega) (by omega)
  rw [← p]
  have e : (Y + (H : Int) - 1) % (H : Int) = (Y + -1) % (H : Int) := by rw [show Y + (H : Int) - 1 = Y + -1 + H by omega]; first | rw [Int.add_emod_right] | rw [Int.add_emod_self]
  have e2 : X % (W : Int) + (Y + (H : Int) - 1) % (H : Int) * (W : Int) = plc W H (X) (Y + -1) := by
    unfold plc
    rw [e, Int.mul_comm]
  have s1 : IntKind.i64.wrap ((Y + (H : Int) - 1) % (H : Int) * (W : Int)) = (Y + (H : Int) - 1) % (H : Int) * (W : Int) := IntWalk.i64_in _ (by first | (rw [Int.mul_comm]; exact ⟨by omega, by omega⟩) | (rw [e, Int.mul_comm]; exact ⟨by omega, by omega⟩))
  have s2 : IntKind.i64.wrap (X % (W : Int) + (Y + (H : Int) - 1) % (H : Int) * (W : Int)) = plc W H (X) (Y + -1) := by
    rw [e2]
    exact IntWalk.i64_in _ ⟨by omega, by omega⟩
  clear b0 b1 b2 b3 e e2 p
  go_enter Tryd.func115, Tryd.ntmps115
  go_wp2
  go_quiet (fail)
  go_wp2
  go_quiet (fail)
  go_wp2
  go_ret
  exact ⟨rfl, _, World.drewN_drewN ..⟩

set_option maxHeartbeats 4000000 in
theorem from2 (W H n k : Nat) (w : World) (s : Sides W H n) (hk : k < n) :
    Calls Tryd.prog 115 #[.int .i64 W, .int .i64 H, .int .i64 k, .int .i64 2] w fun e w' => e = .returned (.int .i64 (nb W H (-1) k 2)) ∧ ∃ j, w' = w.drewN j := by
  obtain ⟨x0, x1, y0, y1⟩ := coords W k (by have := s.n1; omega)
  have p := (nb_plc W H (-1) k s.w0 (s.n0 ▸ hk)).2.2.1
  rw [Int.natCast_emod, Int.natCast_ediv] at p
  obtain ⟨h1, h2, h3, h4, h5, h6⟩ := s
  obtain ⟨X, hX⟩ : ∃ X, (k : Int) % (W : Int) = X := ⟨_, rfl⟩
  obtain ⟨Y, hY⟩ : ∃ Y, (k : Int) / (W : Int) = Y := ⟨_, rfl⟩
  rw [hX] at x0 x1 p
  rw [hY] at y0 y1 p
  obtain ⟨b0, b1, b2, b3⟩ := plc_bd (W := W) (H := H) (x := X - -1) (y := Y) (by omega) (by omega) (by omega) (by omega)
  rw [← p]
  have e : (X + 1) % (W : Int) = (X - -1) % (W : Int) := by rw [show X - -1 = X + 1 by omega]
  have e2 : (X + 1) % (W : Int) + Y % (H : Int) * (W : Int) = plc W H (X - -1) (Y) := by
    unfold plc
    rw [e, Int.mul_comm]
  have s1 : IntKind.i64.wrap (Y % (H : Int) * (W : Int)) = Y % (H : Int) * (W : Int) := IntWalk.i64_in _ (by first | (rw [Int.mul_comm]; exact ⟨by omega, by omega⟩) | (rw [e, Int.mul_comm]; exact ⟨by omega, by omega⟩))
  have s2 : IntKind.i64.wrap ((X + 1) % (W : Int) + Y % (H : Int) * (W : Int)) = plc W H (X - -1) (Y) := by
    rw [e2]
    exact IntWalk.i64_in _ ⟨by omega, by omega⟩
  clear b0 b1 b2 b3 e e2 p
  go_enter Tryd.func115, Tryd.ntmps115
  go_wp2
  go_quiet (fail)
  go_wp2
  go_quiet (fail)
  go_wp2
  go_ret
  exact ⟨rfl, _, World.drewN_drewN ..⟩

set_option maxHeartbeats 4000000 in
theorem from3 (W H n k : Nat) (w : World) (s : Sides W H n) (hk : k < n) :
    Calls Tryd.prog 115 #[.int .i64 W, .int .i64 H, .int .i64 k, .int .i64 3] w fun e w' => e = .returned (.int .i64 (nb W H (-1) k 3)) ∧ ∃ j, w' = w.drewN j := by
  obtain ⟨x0, x1, y0, y1⟩ := coords W k (by have := s.n1; omega)
  have p := (nb_plc W H (-1) k s.w0 (s.n0 ▸ hk)).2.2.2
  rw [Int.natCast_emod, Int.natCast_ediv] at p
  obtain ⟨h1, h2, h3, h4, h5, h6⟩ := s
  obtain ⟨X, hX⟩ : ∃ X, (k : Int) % (W : Int) = X := ⟨_, rfl⟩
  obtain ⟨Y, hY⟩ : ∃ Y, (k : Int) / (W : Int) = Y := ⟨_, rfl⟩
  rw [hX] at x0 x1 p
  rw [hY] at y0 y1 p
  obtain ⟨b0, b1, b2, b3⟩ := plc_bd (W := W) (H := H) (x := X) (y := Y - -1) (by omega) (by omega) (by omega) (by omega)
  rw [← p]
  have e : (Y + 1) % (H : Int) = (Y - -1) % (H : Int) := by rw [show Y - -1 = Y + 1 by omega]
  have e2 : X % (W : Int) + (Y + 1) % (H : Int) * (W : Int) = plc W H (X) (Y - -1) := by
    unfold plc
    rw [e, Int.mul_comm]
  have s1 : IntKind.i64.wrap ((Y + 1) % (H : Int) * (W : Int)) = (Y + 1) % (H : Int) * (W : Int) := IntWalk.i64_in _ (by first | (rw [Int.mul_comm]; exact ⟨by omega, by omega⟩) | (rw [e, Int.mul_comm]; exact ⟨by omega, by omega⟩))
  have s2 : IntKind.i64.wrap (X % (W : Int) + (Y + 1) % (H : Int) * (W : Int)) = plc W H (X) (Y - -1) := by
    rw [e2]
    exact IntWalk.i64_in _ ⟨by omega, by omega⟩
  clear b0 b1 b2 b3 e e2 p
  go_enter Tryd.func115, Tryd.ntmps115
  go_wp2
  go_quiet (fail)
  go_wp2
  go_quiet (fail)
  go_wp2
  go_ret
  exact ⟨rfl, _, World.drewN_drewN ..⟩

/-- A grid that was given. -/
def Gave (W H : Int) (n : Nat) (K : Nat → Nat → Int) (w : World) (e : Ending) (w' : World) : Prop :=
  ∃ b c, e = .returned (.agg #[.int .i64 W, .int .i64 H, .slice (some ⟨b, 0, none⟩) n c]) ∧ Row w' b n K ∧ w.heap.size + 1 ≤ b ∧ Below w.heap.size w w'
theorem three_ex {w5 : World} {r : Nat} {v0 v1 v2 : Value} : Ex (fun k => k = r) w5 (((w5.setCell ⟨r, 0, none⟩ v0).setCell ⟨r, 1, none⟩ v1).setCell ⟨r, 2, none⟩ v2) := by
  refine Ex.setCell (Ex.setCell (Ex.setCell (Ex.refl _ w5) ?_ _) ?_ _) ?_ _ <;> rfl
theorem gave_pass {W H : Int} {n b c r : Nat} {K : Nat → Nat → Int} {w w5 : World} {v0 v1 v2 : Value} (hr : Row w5 b n K) (hb : Below w.heap.size w w5) (h1 : w.heap.size ≤ r) (h2 : r < b) :
    Gave W H n K w (.returned (.agg #[.int .i64 W, .int .i64 H, .slice (some ⟨b, 0, none⟩) n c])) (((w5.setCell ⟨r, 0, none⟩ v0).setCell ⟨r, 1, none⟩ v1).setCell ⟨r, 2, none⟩ v2) :=
  ⟨b, c, rfl, hr.ex three_ex (by omega), by omega, hb.trans (three_ex.below hb.size (fun k hk => by omega))⟩
theorem Three.set {w : World} {B : Nat} {t : TypeId} {x y z v0 v1 v2 : Value} (h : Three w B t x y z) : Three (((w.setCell ⟨B, 0, none⟩ v0).setCell ⟨B, 1, none⟩ v1).setCell ⟨B, 2, none⟩ v2) B t v0 v1 v2 := by
  unfold Three at *
  simp only [World.setCell, Array.getElem?_modify, ↓reduceIte, h, Option.map_some]
  rfl
theorem Three.new0 (w : World) (t : TypeId) (x y z : Value) : Three (w.alloc (.cells #[x, y, z] t)) w.heap.size t x y z := World.alloc_heap_new w _

theorem copy_end {W H : Int} {n g c : Nat} {K : Nat → Nat → Int} {w w5 : World} {v v0 v1 v2 : Value} (hr : Row w5 g n K) (hb : Below w.heap.size w w5) (h1 : w.heap.size + 3 ≤ g) :
    Gave W H n K w (.returned (.agg #[.int .i64 W, .int .i64 H, .slice (some ⟨g, 0, none⟩) n c])) ((((w5.setCell ⟨w.heap.size, 2, none⟩ v).setCell ⟨w.heap.size + 1, 0, none⟩ v0).setCell ⟨w.heap.size + 1, 1, none⟩ v1).setCell ⟨w.heap.size + 1, 2, none⟩ v2) := by
  have x : Ex (fun k => k = w.heap.size) w5 (w5.setCell ⟨w.heap.size, 2, none⟩ v) := by
    refine Ex.setCell (Ex.refl _ w5) ?_ _
    rfl
  exact gave_pass (hr.ex x (by omega)) (hb.trans (x.below hb.size (fun k hk => by omega))) (by omega) (by omega)

end Go.Proofs.YtmdeooflgkjbbaaDoor

/- All particles moved one place: by the reference. -/

namespace Go.Proofs.YtmdeooflgkjbbaaDoor
set_option linter.unusedSimpArgs false
set_option linter.unusedVariables false
open Go.RowKit

theorem Three.new2 (w : World) (t : TypeId) (x y z : Value) (o : Obj) : Three ((w.alloc (.cells #[x, y, z] t)).alloc o) w.heap.size t x y z :=
  (Three.new0 w t x y z).below ((Below.refl _ (w.alloc (.cells #[x, y, z] t))).alloc (Nat.le_refl _) o) (by simp)
theorem Three.new3 (w : World) (t : TypeId) (x y z : Value) (o o2 : Obj) : Three (((w.alloc (.cells #[x, y, z] t)).alloc o).alloc o2) w.heap.size t x y z :=
  (Three.new2 w t x y z o).below ((Below.refl _ _).alloc (Nat.le_refl _) o2) (by simp; omega)
theorem half_step4 {n k : Nat} {D G K : Nat → Nat → Int} {v0 v1 v2 v3 : Int} (h : Half n k D G K) (hk : k < n) (e0 : v0 = D k 0) (e1 : v1 = D k 1) (e2 : v2 = D k 2) (e3 : v3 = D k 3) : Half n (k + 1) D G (upd (upd (upd (upd K k 0 v0) k 1 v1) k 2 v2) k 3 v3) := by
  subst e0 e1 e2 e3
  exact half_step h hk
theorem chain4 {w : World} {b n : Nat} {K : Nat → Nat → Int} {q : Nat} (h : Row w b n K) (l : q < n) (v0 v1 v2 v3 : Int) {k0 k1 k2 k3 : Nat} :
    Ex (fun k => k = b) w ((((((((w.drewN k0).setCell ⟨b, q * 4, none⟩ (.int .i64 v0)).drewN k1).setCell ⟨b, q * 4 + 1, none⟩ (.int .i64 v1)).drewN k2).setCell ⟨b, q * 4 + 2, none⟩ (.int .i64 v2)).drewN k3).setCell ⟨b, q * 4 + 3, none⟩ (.int .i64 v3)) ∧
    Row ((((((((w.drewN k0).setCell ⟨b, q * 4, none⟩ (.int .i64 v0)).drewN k1).setCell ⟨b, q * 4 + 1, none⟩ (.int .i64 v1)).drewN k2).setCell ⟨b, q * 4 + 2, none⟩ (.int .i64 v2)).drewN k3).setCell ⟨b, q * 4 + 3, none⟩ (.int .i64 v3)) b n (upd (upd (upd (upd K q 0 v0) q 1 v1) q 2 v2) q 3 v3) := by
  refine ⟨?_, ?_⟩
  · refine Ex.setCell (Ex.drewN (Ex.setCell (Ex.drewN (Ex.setCell (Ex.drewN (Ex.setCell (Ex.drewN (Ex.refl _ w) k0) ?_ _) k1) ?_ _) k2) ?_ _) k3) ?_ _ <;> rfl
  · exact (((((((h.drewN k0).set l (show 0 < 4 by omega) v0 (o := q * 4) rfl).drewN k1).set l (show 1 < 4 by omega) v1 rfl).drewN k2).set l (show 2 < 4 by omega) v2 rfl).drewN k3).set l (show 3 < 4 by omega) v3 rfl

end Go.Proofs.YtmdeooflgkjbbaaDoor

/- Collisions of all cells, steps and steps back: by the reference. -/


namespace Go.Proofs.YtmdeooflgkjbbaaDoor
set_option linter.unusedSimpArgs false
set_option linter.unusedVariables false
open Go.RowKit

theorem rowLt {w w' : World} {b n : Nat} {G : Nat → Nat → Int} (h : Hid (Row w b n G)) (hb : Below w.heap.size w w') : b < w'.heap.size := Nat.lt_of_lt_of_le h.out.1 hb.size
theorem rowGrd {w w' : World} {b n : Nat} {G : Nat → Nat → Int} (h : Hid (Row w b n G)) (hb : Below w.heap.size w w') : Grd w' b 0 n G := h.out.grd.below hb h.out.1
theorem Three.at {w : World} {B B' : Nat} {t : TypeId} {x y z : Value} (h : Three w B t x y z) (e : B = B') : Three w B' t x y z := e ▸ h
theorem Two.at {w : World} {B B' : Nat} {t : TypeId} {x y : Value} (h : Two w B t x y) (e : B = B') : Two w B' t x y := e ▸ h
theorem blocks3 {w wo : World} {t1 t2 t3 : TypeId} {a b c d e f g h : Value} (hb : Below (((w.alloc (.cells #[a, b, c] t1)).alloc (.cells #[d, e] t2)).alloc (.cells #[f, g, h] t3)).heap.size (((w.alloc (.cells #[a, b, c] t1)).alloc (.cells #[d, e] t2)).alloc (.cells #[f, g, h] t3)) wo) :
    Three wo w.heap.size t1 a b c ∧ Two wo (w.heap.size + 1) t2 d e ∧ Three wo (w.heap.size + 2) t3 f g h := by
  refine ⟨(Three.new3 w t1 a b c _ _).below hb (by simp; omega), Two.at (((Two.new (w.alloc (.cells #[a, b, c] t1)) t2 d e).alloc _).below hb (by simp)) (by simp), Three.at ((Three.new0 ((w.alloc (.cells #[a, b, c] t1)).alloc (.cells #[d, e] t2)) t3 f g h).below hb (by simp)) (by simp)⟩
end Go.Proofs.YtmdeooflgkjbbaaDoor
