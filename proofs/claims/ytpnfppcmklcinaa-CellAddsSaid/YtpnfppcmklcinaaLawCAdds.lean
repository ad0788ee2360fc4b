/- The law CellAdds: the walk. -/
import Derived.Test.YtpnfppcmklcinaaParts
import Derived.Test.YtpnfppcmklcinaaAdd
import Derived.Test.YtpnfppcmklcinaaAwake
import Derived.Test.YtpnfppcmklcinaaMach
namespace Go.Proofs.Ytpnfppcmklcinaa
set_option linter.unusedSimpArgs false
set_option linter.unusedVariables false
open Go.RowKit

theorem added_both (a b c d a' b' c' d' : Int) : ∃ r0 r1 r2 r3 z : Int,
    (∀ w : World, Calls Try.prog 12 #[.agg #[.int .i64 a, .int .i64 b, .int .i64 c, .int .i64 d], .agg #[.int .i64 a', .int .i64 b', .int .i64 c', .int .i64 d']] w fun e w' => e = .returned (.tuple #[.agg #[.int .i64 r0, .int .i64 r1, .int .i64 r2, .int .i64 r3], .int .i64 z]) ∧ Below w.heap.size w w') ∧
    (∀ w : World, Calls Try.prog 13 #[.agg #[.int .i64 a, .int .i64 b, .int .i64 c, .int .i64 d], .agg #[.int .i64 a', .int .i64 b', .int .i64 c', .int .i64 d']] w fun e w' => e = .returned (.tuple #[.agg #[.int .i64 r0, .int .i64 r1, .int .i64 r2, .int .i64 r3], .int .i64 z]) ∧ Below w.heap.size w w') := by
  by_cases h : Ok4 a b c d
  · by_cases g : Ok4 a' b' c' d'
    · by_cases s : Ok4 (a + a') (b + b') (c + c') (d + d')
      · exact ⟨_, _, _, _, _, fun w => added_ok a b c d a' b' c' d' w h g s, fun w => refAdded_ok a b c d a' b' c' d' w h g s⟩
      · exact ⟨_, _, _, _, _, fun w => added_limit a b c d a' b' c' d' w h g s, fun w => refAdded_limit a b c d a' b' c' d' w h g s⟩
    · exact ⟨_, _, _, _, _, fun w => added_bad a b c d a' b' c' d' w (fun k => g k.2), fun w => refAdded_bad a b c d a' b' c' d' w (fun k => g k.2)⟩
  · exact ⟨_, _, _, _, _, fun w => added_bad a b c d a' b' c' d' w (fun k => h k.1), fun w => refAdded_bad a b c d a' b' c' d' w (fun k => h k.1)⟩

/-- The world in the loop: the argument's block, the parts' block Q, the sum's block B. -/
def AL (w : World) (Q B : Nat) (a b c d : Int) (k : Nat) (wr : World) : Prop :=
  Below w.heap.size w wr ∧ (w.heap.size < Q ∧ Q < B ∧ B < wr.heap.size) ∧ (wr.cell? ⟨w.heap.size, 0, none⟩ = some (.int .i64 a) ∧ wr.cell? ⟨w.heap.size, 1, none⟩ = some (.int .i64 b) ∧ wr.cell? ⟨w.heap.size, 2, none⟩ = some (.int .i64 c) ∧ wr.cell? ⟨w.heap.size, 3, none⟩ = some (.int .i64 d)) ∧ wr.rangeAt Q 0 (sp16 a b c d) ∧
  (wr.cell? ⟨B, 0, none⟩ = some (.int .i64 (psum a k)) ∧ wr.cell? ⟨B, 1, none⟩ = some (.int .i64 (psum b k)) ∧ wr.cell? ⟨B, 2, none⟩ = some (.int .i64 (psum c k)) ∧ wr.cell? ⟨B, 3, none⟩ = some (.int .i64 (psum d k))) ∧ (∀ j, wr.frozen? ⟨B, j, none⟩ = false)
theorem AL.step {w wr wr' : World} {Q B : Nat} {a b c d : Int} {k : Nat} (h : AL w Q B a b c d k wr) (hx : Ex (fun z => z = B ∨ wr.heap.size ≤ z) wr wr') (hB : wr'.cell? ⟨B, 0, none⟩ = some (.int .i64 (psum a (k + 1))) ∧ wr'.cell? ⟨B, 1, none⟩ = some (.int .i64 (psum b (k + 1))) ∧ wr'.cell? ⟨B, 2, none⟩ = some (.int .i64 (psum c (k + 1))) ∧ wr'.cell? ⟨B, 3, none⟩ = some (.int .i64 (psum d (k + 1)))) (hf : ∀ j, wr'.frozen? ⟨B, j, none⟩ = false) : AL w Q B a b c d (k + 1) wr' := by
  obtain ⟨h1, ⟨h2, h3, h4⟩, ⟨c0, c1, c2, c3⟩, h5, _, _⟩ := h
  have s := hx.size
  exact ⟨h1.trans (hx.below h1.size (fun z hz => by omega)), ⟨h2, h3, by omega⟩, ⟨(hx.cell (by omega) (by omega)).trans c0, (hx.cell (by omega) (by omega)).trans c1, (hx.cell (by omega) (by omega)).trans c2, (hx.cell (by omega) (by omega)).trans c3⟩, fun j v hv => (hx.cell (by omega) (by omega)).trans (h5 j v hv), hB, hf⟩

attribute [local irreducible] wpStill
set_option maxRecDepth 100000 in
set_option maxHeartbeats 16000000 in
theorem cellAdds_ok (a b c d a' b' c' d' : Int) (w : World) (h : Ok4 a b c d) :
    Calls Try.prog 3 #[.agg #[.int .i64 a, .int .i64 b, .int .i64 c, .int .i64 d], .agg #[.int .i64 a', .int .i64 b', .int .i64 c', .int .i64 d']] w fun e w' => e = .returned (.bool true) ∧ Below w.heap.size w w' := by
  obtain ⟨r0, r1, r2, r3, z, hA, hR⟩ := added_both a b c d a' b' c' d'
  have HA := Lib.hid hA; clear hA
  have HR := Lib.hid hR; clear hR
  have H := Lib.hid h; clear h
  go_enter Try.func3, Try.ntmps3
  go_wp2_with (first | (go_at_call 12; (with_reducible refine (HA.out _).mono ?_); rintro e w1 ⟨rfl, hb⟩; obtain ⟨hc, hf, hz⟩ := bcall hb; (try simp at hc hf hz)) | (go_at_call 13; (with_reducible refine (HR.out _).mono ?_); rintro e w1 ⟨rfl, hb⟩; obtain ⟨hc, hf, hz⟩ := bcall hb; (try simp at hc hf hz)) | (go_at_call 14; (with_reducible refine (split_ok a b c d _ H.out).mono ?_); rintro e w2 ⟨rfl, hb⟩; rw [← sp16_arr]; obtain ⟨hc, hf, hz⟩ := bcall hb; (try simp at hc hf hz)) | (go_at_call 15; (with_reducible refine (refSplit_ok a b c d _ H.out).mono ?_); rintro e w3 ⟨rfl, hb⟩; rw [← sp16_arr]; have HQ := Lib.hid (rangeAt_below hRS hb (by omega)); obtain ⟨hc, hf, hz⟩ := bcall hb; (try simp at hc hf hz)) | (refine wpList_store_new rfl 27 _ _ rfl _ (sp16 a b c d) rfl rfl (there_new _) info16 one_of_map ?_; intro wS hcS hfS hzS hBS hRS hKS; simp at hcS hfS hzS) | (refine wpList_load_mid rfl 27 _ rfl _ 0 rfl (sp16 a b c d) _ (hKS _ _ (by omega) (World.rangeAt_alloc HQ.out _)) Try.underlying27 rfl info16 ?_) | (refine wpList_load_mid rfl 27 _ rfl _ 0 rfl (sp16 a b c d) _ hRS Try.underlying27 rfl info16 ?_))
  have P : AL w w2.heap.size (w3.heap.size + 1) a b c d 0 (wS.alloc (.cells #[.int .i64 0, .int .i64 0, .int .i64 0, .int .i64 0] 23)) := by
    refine ⟨by (repeat' (first | (with_reducible exact Below.refl _ _) | (with_reducible refine Below.setCell ?_ (by first | omega | (simp; done) | (simp; omega)) _) | (with_reducible refine Below.alloc ?_ (by first | omega | (simp; done) | (simp; omega)) _) | (with_reducible refine Below.drew ?_) | (with_reducible refine below_drewN ?_ _) | (with_reducible refine Below.trans ?_ (Below.mono (by assumption) (by first | omega | (simp; done) | (simp; omega)))))), ⟨by omega, by omega, by simp [hzS]⟩, ⟨?_, ?_, ?_, ?_⟩, World.rangeAt_alloc (hKS _ _ (by omega) (World.rangeAt_alloc HQ.out _)) _, ⟨?_, ?_, ?_, ?_⟩, fun j => ?_⟩
    · simp [go_sem, ↓IntWalk.iteOmega, *]
    · simp [go_sem, ↓IntWalk.iteOmega, *]
    · simp [go_sem, ↓IntWalk.iteOmega, *]
    · simp [go_sem, ↓IntWalk.iteOmega, *]
    · rw [alloc_cell, if_neg (by omega), if_pos (by omega)]; rfl
    · rw [alloc_cell, if_neg (by omega), if_pos (by omega)]; rfl
    · rw [alloc_cell, if_neg (by omega), if_pos (by omega)]; rfl
    · rw [alloc_cell, if_neg (by omega), if_pos (by omega)]; rfl
    · rw [alloc_frozen, if_neg (by omega), if_pos (by omega)]
  have P' := Lib.hid P
  clear P
  obtain ⟨Q, hQ⟩ : ∃ Q, Q = w2.heap.size := ⟨_, rfl⟩
  rw [← hQ] at P'
  rw [← hQ]
  obtain ⟨B, hB⟩ : ∃ B, B = w3.heap.size + 1 := ⟨_, rfl⟩
  rw [← hB] at P'
  rw [← hB]
  obtain ⟨wl, hwl⟩ : ∃ wl, wl = wS.alloc (.cells #[.int .i64 0, .int .i64 0, .int .i64 0, .int .i64 0] 23) := ⟨_, rfl⟩
  rw [← hwl] at P'
  rw [← hwl]
  clear hwl hB hQ hcS hfS hzS hBS hRS hKS HQ hc hf hz hb
  go_loopw [12] (fun i wr => ∃ k : Nat, k ≤ 4 ∧ i = .int .i64 k ∧ Hid (AL w Q B a b c d k wr)) (fun i _ => 4 - (intOf i).toNat)
  case atStart => exact ⟨0, by omega, rfl, P'⟩
  case round =>
    clear P'
    obtain ⟨k, hk, rfl, P⟩ := hrel
    by_cases hlk : k < 4
    · have k0 : (0 : Int) ≤ (k : Int) := by omega
      have k4 : (k : Int) < 4 := by omega
      obtain ⟨q1, q2, q3⟩ := P.out.2.1
      obtain ⟨e0, e1, e2, e3⟩ := P.out.2.2.2.2.1
      have f0 := P.out.2.2.2.2.2 0
      have f1 := P.out.2.2.2.2.2 1
      have f2 := P.out.2.2.2.2.2 2
      have f3 := P.out.2.2.2.2.2 3
      obtain ⟨g0, g1, g2, g3⟩ := sp16_range P.out.2.2.2.1 hlk
      have KA := Lib.hid (psum_ok H.out hk)
      have KB := Lib.hid (spl_ok H.out hlk)
      have KS := Lib.hid (show Ok4 (psum a k + spl a k) (psum b k + spl b k) (psum c k + spl c k) (psum d k + spl d k) from psum_ok H.out hlk)
      go_wp2
      go_region_held3 (fun w' => w'.cell? ⟨B, 0, none⟩ = some (.int .i64 (psum a k)) ∧ w'.cell? ⟨B, 1, none⟩ = some (.int .i64 (psum b k)) ∧ w'.cell? ⟨B, 2, none⟩ = some (.int .i64 (psum c k)) ∧ w'.cell? ⟨B, 3, none⟩ = some (.int .i64 (psum d k)) ∧ w'.cell? ⟨Q, k * 4, none⟩ = some (.int .i64 (spl a k)) ∧ w'.cell? ⟨Q, k * 4 + 1, none⟩ = some (.int .i64 (spl b k)) ∧ w'.cell? ⟨Q, k * 4 + 2, none⟩ = some (.int .i64 (spl c k)) ∧ w'.cell? ⟨Q, k * 4 + 3, none⟩ = some (.int .i64 (spl d k))) (first | (go_split_ands; (try dsimp only); refine ⟨?_, ?_, ?_, ?_, ?_, ?_, ?_, ?_⟩ <;> (first | (with_reducible assumption) | (with_reducible exact keep_cell (by assumption) (by first | omega | (simp; done) | (simp; omega)) (by assumption)) | (with_reducible exact (World.cell?_alloc_past _ _ _ (by show _ < _; omega)).trans (by assumption)) | (with_reducible exact (World.cell?_alloc_past _ _ _ (by show _ < _; omega)).trans ((World.cell?_alloc_past _ _ _ (by show _ < _; omega)).symm.trans (by assumption))) | (simp [go_sem]; with_reducible assumption))) | (simp [go_sem, ↓IntWalk.iteOmega, *]; done)) ((go_at_call 12; (with_reducible refine (added_ok _ _ _ _ _ _ _ _ _ KA.out KB.out KS.out).mono ?_); rintro e w7 ⟨rfl, hb7⟩; obtain ⟨hc7, hf7, hz7⟩ := bcall hb7; (try simp at hc7 hf7 hz7)))
      all_goals
        go_wp2
        go_roundw
        case rel =>
          refine ⟨k + 1, by omega, by go_num, Lib.hid (P.out.step (Ex.setCell (Ex.setCell (Ex.setCell (Ex.setCell (Ex.of_below (by (repeat' (first | (with_reducible exact Below.refl _ _) | (with_reducible refine Below.setCell ?_ (by first | omega | (simp; done) | (simp; omega)) _) | (with_reducible refine Below.alloc ?_ (by first | omega | (simp; done) | (simp; omega)) _) | (with_reducible refine Below.drew ?_) | (with_reducible refine below_drewN ?_ _) | (with_reducible refine Below.trans ?_ (Below.mono (by assumption) (by first | omega | (simp; done) | (simp; omega)))))))) (Or.inl rfl) _) (Or.inl rfl) _) (Or.inl rfl) _) (Or.inl rfl) _) ⟨?_, ?_, ?_, ?_⟩ (fun j => ?_))⟩
          · simp [go_sem, ↓IntWalk.iteOmega, psum, *]
          · simp [go_sem, ↓IntWalk.iteOmega, psum, *]
          · simp [go_sem, ↓IntWalk.iteOmega, psum, *]
          · simp [go_sem, ↓IntWalk.iteOmega, psum, *]
          · have fj := P.out.2.2.2.2.2 j
            simp [go_sem, ↓IntWalk.iteOmega, *]
        case measure => simp [intOf]; omega
    · obtain rfl : k = 4 := by omega
      obtain ⟨c0, c1, c2, c3⟩ := P.out.2.2.1
      obtain ⟨e0, e1, e2, e3⟩ := P.out.2.2.2.2.1
      rw [psum_4] at e0 e1 e2 e3
      go_wp2_with (go_at_call 16; (with_reducible refine (awake_any _).mono ?_); rintro e w1 ⟨rfl, hb⟩; obtain ⟨hc, hf, hz⟩ := bcall hb; (try simp at hc hf hz))
      go_ret
      refine ⟨by simp, ?_⟩
      have h1 := P.out.1
      have h2 := h1.size
      (repeat' (first | (with_reducible exact Below.refl _ _) | (with_reducible refine Below.setCell ?_ (by first | omega | (simp; done) | (simp; omega)) _) | (with_reducible refine Below.alloc ?_ (by first | omega | (simp; done) | (simp; omega)) _) | (with_reducible refine Below.drew ?_) | (with_reducible refine below_drewN ?_ _) | (with_reducible refine Below.trans ?_ (Below.mono (by assumption) (by first | omega | (simp; done) | (simp; omega))))))

set_option maxRecDepth 100000 in
set_option maxHeartbeats 16000000 in
theorem cellAdds_bad (a b c d a' b' c' d' : Int) (w : World) (h : ¬ Ok4 a b c d) :
    Calls Try.prog 3 #[.agg #[.int .i64 a, .int .i64 b, .int .i64 c, .int .i64 d], .agg #[.int .i64 a', .int .i64 b', .int .i64 c', .int .i64 d']] w fun e w' => e = .returned (.bool true) ∧ Below w.heap.size w w' := by
  obtain ⟨r0, r1, r2, r3, z, hA, hR⟩ := added_both a b c d a' b' c' d'
  have HA := Lib.hid hA; clear hA
  have HR := Lib.hid hR; clear hR
  have H := Lib.hid h; clear h
  go_enter Try.func3, Try.ntmps3
  go_wp2_with (first | (go_at_call 12; (with_reducible refine (HA.out _).mono ?_); rintro e w1 ⟨rfl, hb⟩; obtain ⟨hc, hf, hz⟩ := bcall hb; (try simp at hc hf hz)) | (go_at_call 13; (with_reducible refine (HR.out _).mono ?_); rintro e w1 ⟨rfl, hb⟩; obtain ⟨hc, hf, hz⟩ := bcall hb; (try simp at hc hf hz)) | (go_at_call 14; (with_reducible refine (split_bad a b c d _ H.out).mono ?_); rintro e w2 ⟨rfl, hb⟩; obtain ⟨hc, hf, hz⟩ := bcall hb; (try simp at hc hf hz)) | (go_at_call 15; (with_reducible refine (refSplit_bad a b c d _ H.out).mono ?_); rintro e w3 ⟨rfl, hb⟩; have HQ := Lib.hid (rangeAt_below hRS hb (by omega)); obtain ⟨hc, hf, hz⟩ := bcall hb; (try simp at hc hf hz)) | (refine wpList_store_new rfl 27 _ _ rfl _ zero16 rfl rfl (there_new _) info16 one_of_map ?_; intro wS hcS hfS hzS hBS hRS hKS; simp at hcS hfS hzS) | (refine wpList_load_mid rfl 27 _ rfl _ 0 rfl zero16 _ (hKS _ _ (by omega) (World.rangeAt_alloc HQ.out _)) Try.underlying27 rfl info16 ?_) | (refine wpList_load_mid rfl 27 _ rfl _ 0 rfl zero16 _ hRS Try.underlying27 rfl info16 ?_) | (go_at_call 16; (with_reducible refine (awake_any _).mono ?_); rintro e w1 ⟨rfl, hb⟩; obtain ⟨hc, hf, hz⟩ := bcall hb; (try simp at hc hf hz)))
  go_ret
  refine ⟨by simp, ?_⟩
  (repeat' (first | (with_reducible exact Below.refl _ _) | (with_reducible refine Below.setCell ?_ (by first | omega | (simp; done) | (simp; omega)) _) | (with_reducible refine Below.alloc ?_ (by first | omega | (simp; done) | (simp; omega)) _) | (with_reducible refine Below.drew ?_) | (with_reducible refine below_drewN ?_ _) | (with_reducible refine Below.trans ?_ (Below.mono (by assumption) (by first | omega | (simp; done) | (simp; omega))))))
theorem cellAdds_any (a b c d a' b' c' d' : Int) (w : World) :
    Calls Try.prog 3 #[.agg #[.int .i64 a, .int .i64 b, .int .i64 c, .int .i64 d], .agg #[.int .i64 a', .int .i64 b', .int .i64 c', .int .i64 d']] w fun e w' => e = .returned (.bool true) ∧ Below w.heap.size w w' := by
  by_cases h : Ok4 a b c d
  · exact cellAdds_ok a b c d a' b' c' d' w h
  · exact cellAdds_bad a b c d a' b' c' d' w h
end Go.Proofs.Ytpnfppcmklcinaa
