/- Refined, by the reference. -/
import Derived.Test.YtpnfppcmklcinaaKLevC
import Derived.Deep.CutRange
import Derived.Deep.RegionHeld3
namespace Go.Proofs.Ytpnfppcmklcinaa
set_option linter.unusedSimpArgs false
set_option linter.unusedVariables false
open Go.RowKit

set_option maxHeartbeats 1000000 in
theorem rempty6 (W H n : Nat) (w : World) (s : Sides W H n) : Calls Try.prog 124 #[.int .i64 W, .int .i64 H] w (Gave W H n (fun _ _ => 0) w) := by
  have hp : (W : Int) * (H : Int) = (n : Int) := by rw [s.n0, Int.natCast_mul]
  have hmk := fun wx => run_zeros n (by have := s.n1; omega) wx
  obtain ⟨h1, h2, h3, h4, h5, h6⟩ := s
  clear h5
  go_enter Try.func124, Try.ntmps124
  go_wp2
  refine bodyPost_ret (v := .agg #[.int .i64 W, .int .i64 H, .slice (some ⟨w.heap.size + 1, 0, none⟩) n n]) (by simp [results, Try.results124, go_sem, ↓IntWalk.iteOmega, *]) rfl ?_
  refine ⟨w.heap.size + 1, n, rfl, ?_, by omega, by (repeat' (first | (with_reducible exact Below.refl _ _) | (with_reducible refine Below.setCell ?_ (by first | omega | (simp; done) | (simp; omega)) _) | (with_reducible refine Below.alloc ?_ (by first | omega | (simp; done) | (simp; omega)) _) | (with_reducible refine Below.drew ?_) | (with_reducible refine below_drewN ?_ _) | (with_reducible refine Below.trans ?_ (Below.mono (by assumption) (by first | omega | (simp; done) | (simp; omega))))))⟩
  have := row_zeros (w.alloc (.cells #[.int .i64 W, .int .i64 H, .slice (some ⟨w.heap.size + 1, 0, none⟩) n n] 34)) n
  rwa [World.size_alloc] at this

set_option maxHeartbeats 1000000 in
theorem rat6 (W H : Int) (ao : Option Addr) (n cap : Nat) (x y q : Int) (w : World) (h0 : 0 ≤ W) (h1 : W ≤ 100000) (x0 : 0 ≤ x) (x1 : x ≤ 100000) (hq : W * y = q - x) (q0 : 0 ≤ q) (q1 : q ≤ 1000000) :
    Calls Try.prog 125 #[.agg #[.int .i64 W, .int .i64 H, .slice (ao) n cap], .int .i64 x, .int .i64 y] w fun e w' => e = .returned (.int .i64 q) ∧ Below w.heap.size w w' := by
  have e : x + (q - x) = q := by omega
  go_enter Try.func125, Try.ntmps125
  go_wp2
  go_ret
  refine ⟨rfl, ?_⟩
  (repeat' (first | (with_reducible exact Below.refl _ _) | (with_reducible refine Below.setCell ?_ (by first | omega | (simp; done) | (simp; omega)) _) | (with_reducible refine Below.alloc ?_ (by first | omega | (simp; done) | (simp; omega)) _) | (with_reducible refine Below.drew ?_) | (with_reducible refine below_drewN ?_ _) | (with_reducible refine Below.trans ?_ (Below.mono (by assumption) (by first | omega | (simp; done) | (simp; omega))))))

/-- Four points in a block. -/
def Pts (w : World) (g : Nat) (x y : Int) : Prop := g < w.heap.size ∧ w.cell? ⟨g, 0, none⟩ = some (.int .i64 (2 * x)) ∧ w.cell? ⟨g, 1, none⟩ = some (.int .i64 (2 * y)) ∧ w.cell? ⟨g, 2, none⟩ = some (.int .i64 (2 * x + 1)) ∧ w.cell? ⟨g, 3, none⟩ = some (.int .i64 (2 * y)) ∧ w.cell? ⟨g, 4, none⟩ = some (.int .i64 (2 * x)) ∧ w.cell? ⟨g, 5, none⟩ = some (.int .i64 (2 * y + 1)) ∧ w.cell? ⟨g, 6, none⟩ = some (.int .i64 (2 * x + 1)) ∧ w.cell? ⟨g, 7, none⟩ = some (.int .i64 (2 * y + 1))
set_option maxHeartbeats 2000000 in
theorem four_any (x y : Int) (w : World) (x0 : 0 ≤ x) (x1 : x ≤ 100000) (y0 : 0 ≤ y) (y1 : y ≤ 100000) :
    Calls Try.prog 137 #[.int .i64 x, .int .i64 y] w fun e w' => (∃ c : Nat, e = .returned (.slice (some ⟨w.heap.size, 0, none⟩) 4 c)) ∧ Pts w' w.heap.size x y ∧ Below w.heap.size w w' := by
  go_enter Try.func137, Try.ntmps137
  go_wp2
  go_ret
  refine ⟨⟨_, rfl⟩, ⟨by simp, ?_⟩, ?_⟩
  · refine ⟨?_, ?_, ?_, ?_, ?_, ?_, ?_, ?_⟩ <;> simp [go_sem, ↓IntWalk.iteOmega, *]
  · (repeat' (first | (with_reducible exact Below.refl _ _) | (with_reducible refine Below.setCell ?_ (by first | omega | (simp; done) | (simp; omega)) _) | (with_reducible refine Below.alloc ?_ (by first | omega | (simp; done) | (simp; omega)) _) | (with_reducible refine Below.drew ?_) | (with_reducible refine below_drewN ?_ _) | (with_reducible refine Below.trans ?_ (Below.mono (by assumption) (by first | omega | (simp; done) | (simp; omega))))))

theorem q4_xy {W X Y i : Nat} (hX : X < W) (hi : i < 4) : q4 W (X + W * Y) i = (2 * X + i % 2) + 2 * W * (2 * Y + i / 2) := by
  obtain ⟨h1, h2⟩ := at_xy (y := Y) hX
  unfold q4
  rw [h1, h2]

theorem LR.step2 {W n o m : Nat} {G : Nat → Nat → Int} {w7 : World} {k t : Nat} {wr X : World} (h : LR W n o m G w7 k t wr) (hX : Below wr.heap.size wr X) (hW : 0 < W) (ht : t < 4) (hq : q4 W k t < m) {Q : Nat} (hQ : Q = q4 W k t) :
    LR W n o m G w7 k (t + 1) ((((X.setCell ⟨o, Q * 4, none⟩ (.int .i64 (spl (G k 0) t))).setCell ⟨o, Q * 4 + 1, none⟩ (.int .i64 (spl (G k 1) t))).setCell ⟨o, Q * 4 + 2, none⟩ (.int .i64 (spl (G k 2) t))).setCell ⟨o, Q * 4 + 3, none⟩ (.int .i64 (spl (G k 3) t))) := by
  subst hQ
  obtain ⟨K, h1, h2, h3⟩ := h
  obtain ⟨g1, g2⟩ := lev_set (w := X) (h2.below hX h2.1) hq (spl (G k 0) t) (spl (G k 1) t) (spl (G k 2) t) (spl (G k 3) t)
  exact ⟨_, (h1.trans (Ex.of_below hX)).trans g1, g2, h3.step hW ht⟩

attribute [local irreducible] wpStill
set_option maxRecDepth 100000 in
set_option maxHeartbeats 16000000 in
theorem refined_in (W H b off n m cap : Nat) (G : Nat → Nat → Int) (w : World) (s : Sides W H n) (hG : OkG n G) (hlt : b < w.heap.size) (hC : Grd w b off n G) (hm : m = n * 4) (h2 : Sides (2 * W) (2 * H) m) :
    Calls Try.prog 112 #[.agg #[.int .i64 W, .int .i64 H, .slice (some ⟨b, off, none⟩) n cap]] w (Gave (2 * (W : Int)) (2 * (H : Int)) m (refG W G) w) := by
  have EM := Lib.hid (show ∀ w', Calls Try.prog 124 #[.int .i64 (2 * (W : Int)), .int .i64 (2 * (H : Int))] w' (Gave (2 * (W : Int)) (2 * (H : Int)) m (fun _ _ => 0) w') from fun w' => rempty6 (2 * W) (2 * H) m w' h2)
  obtain ⟨b1, b2, b3⟩ := h2.twice
  have hw0 := s.w0
  have hh0 := s.h0
  have hn1 := s.n1
  have HN := Lib.hid s.n0
  have HG := Lib.hid hC
  have HO := Lib.hid hG
  have HM := Lib.hid hm
  have H2 := Lib.hid h2
  clear hC hG s h2 hm
  go_enter Try.func112, Try.ntmps112
  go_wp2_with (go_at_call 124; (with_reducible refine (EM.out _).mono ?_); rintro e w2 ⟨o, co, rfl, ho, lo, hb⟩; obtain ⟨hc, hf, hz⟩ := bcall hb; (try simp at hc hf hz lo))
  obtain ⟨wl, hwl⟩ : ∃ wl, wl = w2.alloc (.cells #[.int .i64 (2 * (W : Int)), .int .i64 (2 * (H : Int)), .slice (some ⟨o, 0, none⟩) m co] 34) := ⟨_, rfl⟩
  have l2 : wl.heap.size = w2.heap.size + 1 := by rw [hwl]; simp
  have lo2 := ho.1
  have k0 : wl.cell? ⟨w.heap.size, 0, none⟩ = some (.int .i64 W) := by rw [hwl]; simp [go_sem, ↓IntWalk.iteOmega, *]
  have k1 : wl.cell? ⟨w.heap.size, 1, none⟩ = some (.int .i64 H) := by rw [hwl]; simp [go_sem, ↓IntWalk.iteOmega, *]
  have k2 : wl.cell? ⟨w.heap.size, 2, none⟩ = some (.slice (some ⟨b, off, none⟩) n cap) := by rw [hwl]; simp [go_sem, ↓IntWalk.iteOmega, *]
  have T1 : Three ((w.alloc (.cells #[.int .i64 W, .int .i64 H, .slice (some ⟨b, off, none⟩) n cap] 34)).alloc (.cells #[.int .i64 0, .int .i64 0, .slice none 0 0] 34)) (w.heap.size + 1) 34 (.int .i64 0) (.int .i64 0) (.slice none 0 0) := Three.new1 w _ 34 (.int .i64 0) (.int .i64 0) (.slice none 0 0)
  have T2 := Lib.hid (show Three wl (w.heap.size + 1) 34 (.int .i64 0) (.int .i64 0) (.slice none 0 0) from by rw [hwl]; exact (T1.below hb (by simp)).below ((Below.refl w2.heap.size w2).alloc (Nat.le_refl _) _) (by omega))
  have TF := Lib.hid (show Three wl w2.heap.size 34 (.int .i64 (2 * (W : Int))) (.int .i64 (2 * (H : Int))) (.slice (some ⟨o, 0, none⟩) m co) from by rw [hwl]; exact Three.new0 _ _ _ _ _)
  have RO := Lib.hid (show Row wl o m (fun _ _ => 0) from by rw [hwl]; exact ho.below ((Below.refl w2.heap.size w2).alloc (Nat.le_refl _) _) lo2)
  have BB := Lib.hid (show Below w.heap.size w wl from by rw [hwl]; (repeat' (first | (with_reducible exact Below.refl _ _) | (with_reducible refine Below.setCell ?_ (by first | omega | (simp; done) | (simp; omega)) _) | (with_reducible refine Below.alloc ?_ (by first | omega | (simp; done) | (simp; omega)) _) | (with_reducible refine Below.drew ?_) | (with_reducible refine below_drewN ?_ _) | (with_reducible refine Below.trans ?_ (Below.mono (by assumption) (by first | omega | (simp; done) | (simp; omega)))))))
  go_wp2
  rw [← hwl]
  obtain ⟨F, hF⟩ : ∃ F, F = w2.heap.size := ⟨_, rfl⟩
  rw [← hF] at TF l2 lo2
  rw [← hF]
  have lw1 : w.heap.size + 2 ≤ o := by omega
  clear ho hc hf hz hb T1 hwl hF lo
  go_loopw [4, 5, 9] (fun y _ _ wr => ∃ Y : Nat, Y ≤ H ∧ y = .int .i64 Y ∧ Hid (∃ K, Ex (fun z => z = o ∨ wl.heap.size ≤ z) wl wr ∧ Row wr o m K ∧ DoneR W n (0 + W * Y) 0 G K)) (fun y _ _ _ => H - (intOf y).toNat)
  case atStart => exact ⟨0, Nat.zero_le _, rfl, Lib.hid ⟨_, Ex.refl _ _, RO.out, fun i p _ _ hl => by omega⟩⟩
  case round =>
    obtain ⟨Y, hY, rfl, HH⟩ := hrel
    obtain ⟨wy, hwy⟩ : ∃ wy, wy = wr := ⟨_, rfl⟩
    subst hwy
    obtain ⟨K, hX, hR, hD⟩ := HH.out
    have lX := hX.size
    have kO : wy.cell? ⟨w.heap.size, 1, none⟩ = some (.int .i64 H) := (hX.cell (by have := BB.out.size; omega) (by omega)).trans k1
    have TO := Lib.hid (TF.out.ex hX (by omega))
    have HX := Lib.hid hX
    have HR := Lib.hid hR
    clear hX hD hR
    have sB := BB.out.size
    by_cases hlY : Y < H
    · go_wp2
      go_loopw [5, 9] (fun x _ wr => ∃ X : Nat, X ≤ W ∧ x = .int .i64 X ∧ Hid (∃ K, Ex (fun z => z = o ∨ wl.heap.size ≤ z) wl wr ∧ Row wr o m K ∧ DoneR W n (X + W * Y) 0 G K)) (fun x _ _ => W - (intOf x).toNat)
      case atStart => exact ⟨0, Nat.zero_le _, rfl, HH⟩
      case round =>
        obtain ⟨X, hXW, rfl, HJ⟩ := hrel
        obtain ⟨wo, hwo⟩ : ∃ wo, wo = wr := ⟨_, rfl⟩
        subst hwo
        obtain ⟨K2, hX2, hR2, hD2⟩ := HJ.out
        have lX2 := hX2.size
        have BO := Lib.hid (BB.out.trans (hX2.below sB (fun z hz => by omega)))
        have g0 : wo.cell? ⟨w.heap.size, 0, none⟩ = some (.int .i64 W) := (hX2.cell (by omega) (by omega)).trans k0
        have g1 : wo.cell? ⟨w.heap.size, 1, none⟩ = some (.int .i64 H) := (hX2.cell (by omega) (by omega)).trans k1
        have g2 : wo.cell? ⟨w.heap.size, 2, none⟩ = some (.slice (some ⟨b, off, none⟩) n cap) := (hX2.cell (by omega) (by omega)).trans k2
        have TQ := Lib.hid (TF.out.ex hX2 (by omega))
        have HX2 := Lib.hid hX2
        have HR2 := Lib.hid hR2
        have HD2 := Lib.hid hD2
        clear hX2 hR2 hD2 HJ
        by_cases hlX : X < W
        · have lB := BO.out.size
          obtain ⟨k, hk⟩ : ∃ k, k = X + W * Y := ⟨_, rfl⟩
          have hlk : k < n := by rw [hk, HN.out]; exact xy_lt hlX hlY
          have HK := Lib.hid hk
          have hqx : (W : Int) * (Y : Int) = (k : Int) - (X : Int) := by rw [hk]; push_cast; omega
          obtain ⟨e0, e1, e2, e3⟩ := HG.out.get BO.out hlt hlk
          have p0 : (0 : Int) ≤ (k : Int) := by omega
          have p1 : (k : Int) < (n : Int) := by omega
          have KK := Lib.hid (HO.out.1 k hlk)
          have AK := Lib.hid (fun w' => rat6 W H (some ⟨b, off, none⟩) n cap X Y k w' (by omega) (by omega) (by omega) (by omega) hqx (by omega) (by omega))
          clear hk hqx
          go_upto_region 8 with fail
          go_cut [6, 7] from 23 to 65 (fun s6 s7 wy => ∃ PB : Nat, s6 = .pointer (some ⟨PB, 0, none⟩) ∧ s7 = .int .i64 0 ∧ Hid (Below wo.heap.size wo wy ∧ wy.rangeAt PB 0 (sp16 (G k 0) (G k 1) (G k 2) (G k 3))) ∧ wo.heap.size ≤ PB ∧ PB < wy.heap.size)
          case first =>
            refine wp_region_noPanic ?_
            refine wp_region_held_drew (S := (fun w' => w'.cell? ⟨w.heap.size, 0, none⟩ = some (.int .i64 W) ∧ w'.cell? ⟨w.heap.size, 1, none⟩ = some (.int .i64 H) ∧ w'.cell? ⟨w.heap.size, 2, none⟩ = some (.slice (some ⟨b, off, none⟩) n cap) ∧ w'.cell? ⟨b, off + k * 4, none⟩ = some (.int .i64 (G k 0)) ∧ w'.cell? ⟨b, off + k * 4 + 1, none⟩ = some (.int .i64 (G k 1)) ∧ w'.cell? ⟨b, off + k * 4 + 2, none⟩ = some (.int .i64 (G k 2)) ∧ w'.cell? ⟨b, off + k * 4 + 3, none⟩ = some (.int .i64 (G k 3)))) (by kernel_rfl) ?_ (fun hHeld => ?_)
            · ((try dsimp only); (first | (go_split_ands; (try dsimp only); refine ⟨?_, ?_, ?_, ?_, ?_, ?_, ?_⟩ <;> (first | (with_reducible assumption) | (with_reducible exact keep_cell (by assumption) (by first | omega | (simp; done) | (simp; omega)) (by assumption)) | (with_reducible exact (World.cell?_alloc_past _ _ _ (by show _ < _; omega)).trans (by assumption)) | (with_reducible exact (World.cell?_alloc_past _ _ _ (by show _ < _; omega)).trans ((World.cell?_alloc_past _ _ _ (by show _ < _; omega)).symm.trans (by assumption))) | (simp [go_sem]; with_reducible assumption))) | (simp [go_sem, ↓IntWalk.iteOmega, *]; done)))
            refine wpAnyH_take (i := 0) (v := ?_) rfl (by kernel_rfl) (by kernel_rfl) (by kernel_rfl) (fun _ _ _ h => h) (Or.inl ⟨by rfl, ?_⟩) (by assumption) ?_
            rotate_left
            · (intro w hSw; (try dsimp only at hSw); go_simp; (try with_reducible rfl))
            (try simp only [Act.put, List.setIfInBounds_toArray, List.set_cons_zero, List.set_cons_succ])
            refine wpAnyH_take (i := 1) (v := ?_) rfl (by kernel_rfl) (by kernel_rfl) (by kernel_rfl) (fun _ _ _ h => h) (Or.inl ⟨by rfl, ?_⟩) (by assumption) ?_
            rotate_left
            · (intro w hSw; (try dsimp only at hSw); go_simp; (try with_reducible rfl))
            (try simp only [Act.put, List.setIfInBounds_toArray, List.set_cons_zero, List.set_cons_succ])
            refine wpAnyH_take (i := 2) (v := ?_) rfl (by kernel_rfl) (by kernel_rfl) (by kernel_rfl) (fun _ _ _ h => h) (Or.inl ⟨by rfl, ?_⟩) (by assumption) ?_
            rotate_left
            · (intro w hSw; (try dsimp only at hSw); go_simp; (try with_reducible rfl))
            (try simp only [Act.put, List.setIfInBounds_toArray, List.set_cons_zero, List.set_cons_succ])
            refine wpAnyH_take (i := 3) (v := ?_) rfl (by kernel_rfl) (by kernel_rfl) (by kernel_rfl) (fun _ _ _ h => h) (Or.inl ⟨by rfl, ?_⟩) (by assumption) ?_
            rotate_left
            · (intro w hSw; (try dsimp only at hSw); go_simp; (try with_reducible rfl))
            (try simp only [Act.put, List.setIfInBounds_toArray, List.set_cons_zero, List.set_cons_succ])
            refine wpAnyH_take (i := 4) (v := ?_) rfl (by kernel_rfl) (by kernel_rfl) (by kernel_rfl) (fun _ _ _ h => h) (Or.inl ⟨by rfl, ?_⟩) (by assumption) ?_
            rotate_left
            · (intro w hSw; (try dsimp only at hSw); go_simp; (try with_reducible rfl))
            (try simp only [Act.put, List.setIfInBounds_toArray, List.set_cons_zero, List.set_cons_succ])
            refine wpAnyH_ready (rs := [5, 12]) (by kernel_rfl) (by simp) ?_
            refine AllReadyH.cons rfl (fun K hK => ?_) (AllReadyH.cons rfl (fun K hK => ?_) (AllReadyH.nil))
            · (go_simp; go_at_call 125; (with_reducible refine (AK.out _).mono ?_); rintro e w7 ⟨rfl, hb7⟩; obtain ⟨hc7, hf7, hz7⟩ := bcall hb7; (try simp at hc7 hf7 hz7))
              refine hK.out _ _ ?_ (fun hHeld => ?_)
              · ((try dsimp only); (first | (go_split_ands; (try dsimp only); refine ⟨?_, ?_, ?_, ?_, ?_, ?_, ?_⟩ <;> (first | (with_reducible assumption) | (with_reducible exact keep_cell (by assumption) (by first | omega | (simp; done) | (simp; omega)) (by assumption)) | (with_reducible exact (World.cell?_alloc_past _ _ _ (by show _ < _; omega)).trans (by assumption)) | (with_reducible exact (World.cell?_alloc_past _ _ _ (by show _ < _; omega)).trans ((World.cell?_alloc_past _ _ _ (by show _ < _; omega)).symm.trans (by assumption))) | (simp [go_sem]; with_reducible assumption))) | (simp [go_sem, ↓IntWalk.iteOmega, *]; done)))
              clear hK K
              (try simp only [Act.put, List.setIfInBounds_toArray, List.set_cons_zero, List.set_cons_succ])
              refine wpAnyH_take (i := 6) (v := ?_) rfl (by kernel_rfl) (by kernel_rfl) (by kernel_rfl) (fun _ _ _ h => h) (Or.inl ⟨by rfl, ?_⟩) (by assumption) ?_
              rotate_left
              · (intro w hSw; (try dsimp only at hSw); go_simp; (try with_reducible rfl))
              (try simp only [Act.put, List.setIfInBounds_toArray, List.set_cons_zero, List.set_cons_succ])
              refine wpAnyH_take (i := 7) (v := ?_) rfl (by kernel_rfl) (by kernel_rfl) (by kernel_rfl) (fun _ _ _ h => h) (Or.inl ⟨by rfl, ?_⟩) (by assumption) ?_
              rotate_left
              · (intro w hSw; (try dsimp only at hSw); go_simp; (try with_reducible rfl))
              (try simp only [Act.put, List.setIfInBounds_toArray, List.set_cons_zero, List.set_cons_succ])
              refine wpAnyH_ready (rs := [8, 12]) (by kernel_rfl) (by simp) ?_
              refine AllReadyH.cons rfl (fun K hK => ?_) (AllReadyH.cons rfl (fun K hK => ?_) (AllReadyH.nil))
              · (go_simp; go_at_call 15; (with_reducible refine (refSplit_ok (G k 0) (G k 1) (G k 2) (G k 3) _ KK.out).mono ?_); rintro e w8 ⟨rfl, hb8⟩; rw [← sp16_arr]; obtain ⟨hc8, hf8, hz8⟩ := bcall hb8; (try simp at hc8 hf8 hz8))
                refine hK.out _ _ ?_ (fun hHeld => ?_)
                · ((try dsimp only); (first | (go_split_ands; (try dsimp only); refine ⟨?_, ?_, ?_, ?_, ?_, ?_, ?_⟩ <;> (first | (with_reducible assumption) | (with_reducible exact keep_cell (by assumption) (by first | omega | (simp; done) | (simp; omega)) (by assumption)) | (with_reducible exact (World.cell?_alloc_past _ _ _ (by show _ < _; omega)).trans (by assumption)) | (with_reducible exact (World.cell?_alloc_past _ _ _ (by show _ < _; omega)).trans ((World.cell?_alloc_past _ _ _ (by show _ < _; omega)).symm.trans (by assumption))) | (simp [go_sem]; with_reducible assumption))) | (simp [go_sem, ↓IntWalk.iteOmega, *]; done)))
                clear hK K
                (try simp only [Act.put, List.setIfInBounds_toArray, List.set_cons_zero, List.set_cons_succ])
                refine wpAnyH_take (i := 9) (v := ?_) rfl (by kernel_rfl) (by kernel_rfl) (by kernel_rfl) (fun _ _ _ h => h) (Or.inl ⟨by rfl, ?_⟩) (by assumption) ?_
                rotate_left
                · (intro w hSw; (try dsimp only at hSw); go_simp; (try with_reducible rfl))
                (try simp only [Act.put, List.setIfInBounds_toArray, List.set_cons_zero, List.set_cons_succ])
                refine wpAnyH_take (i := 10) (v := ?_) rfl (by kernel_rfl) (by kernel_rfl) (by kernel_rfl) (fun _ _ _ h => h) (Or.inl ⟨by rfl, ?_⟩) (by assumption) ?_
                rotate_left
                · (intro w hSw; (try dsimp only at hSw); go_simp; (try with_reducible rfl))
                (try simp only [Act.put, List.setIfInBounds_toArray, List.set_cons_zero, List.set_cons_succ])
                refine wpAnyH_take (i := 11) (v := ?_) rfl (by kernel_rfl) (by kernel_rfl) (by kernel_rfl) (fun _ _ _ h => h) (Or.inl ⟨by rfl, ?_⟩) (by assumption) ?_
                rotate_left
                · (intro w hSw; (try dsimp only at hSw); go_simp; (try with_reducible rfl))
                (try simp only [Act.put, List.setIfInBounds_toArray, List.set_cons_zero, List.set_cons_succ])
                refine wpAnyH_ready (rs := [12]) (by kernel_rfl) (by simp) ?_
                refine AllReadyH.cons rfl (fun K hK => ?_) AllReadyH.nil
                go_simp
                refine hK.out _ _ ?_ (fun hHeld => ?_)
                · ((try dsimp only); (first | (go_split_ands; (try dsimp only); refine ⟨?_, ?_, ?_, ?_, ?_, ?_, ?_⟩ <;> (first | (with_reducible assumption) | (with_reducible exact keep_cell (by assumption) (by first | omega | (simp; done) | (simp; omega)) (by assumption)) | (with_reducible exact (World.cell?_alloc_past _ _ _ (by show _ < _; omega)).trans (by assumption)) | (with_reducible exact (World.cell?_alloc_past _ _ _ (by show _ < _; omega)).trans ((World.cell?_alloc_past _ _ _ (by show _ < _; omega)).symm.trans (by assumption))) | (simp [go_sem]; with_reducible assumption))) | (simp [go_sem, ↓IntWalk.iteOmega, *]; done)))
                clear hK K
                (try simp only [Act.put, List.setIfInBounds_toArray, List.set_cons_zero, List.set_cons_succ])
                refine wpAnyH_ready (rs := [13]) (by kernel_rfl) (by simp) ?_
                refine AllReadyH.cons rfl (fun K hK => ?_) AllReadyH.nil
                (refine step_store_new (by rfl) 27 _ _ (by rfl) _ (sp16 (G k 0) (G k 1) (G k 2) (G k 3)) (by rfl) (by rfl) (there_new _) info16 one_of_map ?_; intro wS hcS hfS hzS hBS hRS hKS; (try simp at hcS hfS hzS))
                refine hK.out _ _ ?_ (fun hHeld => ?_)
                · ((try dsimp only); (first | (go_split_ands; (try dsimp only); refine ⟨?_, ?_, ?_, ?_, ?_, ?_, ?_⟩ <;> (first | (with_reducible assumption) | (with_reducible exact keep_cell (by assumption) (by first | omega | (simp; done) | (simp; omega)) (by assumption)) | (with_reducible exact (World.cell?_alloc_past _ _ _ (by show _ < _; omega)).trans (by assumption)) | (with_reducible exact (World.cell?_alloc_past _ _ _ (by show _ < _; omega)).trans ((World.cell?_alloc_past _ _ _ (by show _ < _; omega)).symm.trans (by assumption))) | (simp [go_sem]; with_reducible assumption))) | (simp [go_sem, ↓IntWalk.iteOmega, *]; done)))
                clear hK K
                (try simp only [Act.put, List.setIfInBounds_toArray, List.set_cons_zero, List.set_cons_succ])
                refine wpAnyH_ready (rs := [14]) (by kernel_rfl) (by simp) ?_
                refine AllReadyH.cons rfl (fun K hK => ?_) AllReadyH.nil
                go_simp
                refine hK.out _ _ ?_ (fun hHeld => ?_)
                · ((try dsimp only); (first | (go_split_ands; (try dsimp only); refine ⟨?_, ?_, ?_, ?_, ?_, ?_, ?_⟩ <;> (first | (with_reducible assumption) | (with_reducible exact keep_cell (by assumption) (by first | omega | (simp; done) | (simp; omega)) (by assumption)) | (with_reducible exact (World.cell?_alloc_past _ _ _ (by show _ < _; omega)).trans (by assumption)) | (with_reducible exact (World.cell?_alloc_past _ _ _ (by show _ < _; omega)).trans ((World.cell?_alloc_past _ _ _ (by show _ < _; omega)).symm.trans (by assumption))) | (simp [go_sem]; with_reducible assumption))) | (simp [go_sem, ↓IntWalk.iteOmega, *]; done)))
                clear hK K
                (try simp only [Act.put, List.setIfInBounds_toArray, List.set_cons_zero, List.set_cons_succ])
                refine wpAnyH_done (by kernel_rfl) ?_ _
                refine NoPanic.normal ?_
                go_wp2_with fail
                go_meet
                exact ⟨_, rfl, rfl, Lib.hid ⟨by (repeat' (first | (with_reducible exact Below.refl _ _) | (with_reducible refine Below.setCell ?_ (by first | omega | (simp; done) | (simp; omega)) _) | (with_reducible refine Below.alloc ?_ (by first | omega | (simp; done) | (simp; omega)) _) | (with_reducible refine Below.drew ?_) | (with_reducible refine below_drewN ?_ _) | (with_reducible refine Below.trans ?_ (Below.mono (by assumption) (by first | omega | (simp; done) | (simp; omega)))))), hRS⟩, (by first | omega | (simp; done) | (simp; omega)), (by first | omega | (simp; done) | (simp; omega))⟩
              · go_simp
                refine hK.out _ _ ?_ (fun hHeld => ?_)
                · ((try dsimp only); (first | (go_split_ands; (try dsimp only); refine ⟨?_, ?_, ?_, ?_, ?_, ?_, ?_⟩ <;> (first | (with_reducible assumption) | (with_reducible exact keep_cell (by assumption) (by first | omega | (simp; done) | (simp; omega)) (by assumption)) | (with_reducible exact (World.cell?_alloc_past _ _ _ (by show _ < _; omega)).trans (by assumption)) | (with_reducible exact (World.cell?_alloc_past _ _ _ (by show _ < _; omega)).trans ((World.cell?_alloc_past _ _ _ (by show _ < _; omega)).symm.trans (by assumption))) | (simp [go_sem]; with_reducible assumption))) | (simp [go_sem, ↓IntWalk.iteOmega, *]; done)))
                clear hK K
                (try simp only [Act.put, List.setIfInBounds_toArray, List.set_cons_zero, List.set_cons_succ])
                refine wpAnyH_ready (rs := [8]) (by kernel_rfl) (by simp) ?_
                refine AllReadyH.cons rfl (fun K hK => ?_) AllReadyH.nil
                (go_simp; go_at_call 15; (with_reducible refine (refSplit_ok (G k 0) (G k 1) (G k 2) (G k 3) _ KK.out).mono ?_); rintro e w8 ⟨rfl, hb8⟩; rw [← sp16_arr]; obtain ⟨hc8, hf8, hz8⟩ := bcall hb8; (try simp at hc8 hf8 hz8))
                refine hK.out _ _ ?_ (fun hHeld => ?_)
                · ((try dsimp only); (first | (go_split_ands; (try dsimp only); refine ⟨?_, ?_, ?_, ?_, ?_, ?_, ?_⟩ <;> (first | (with_reducible assumption) | (with_reducible exact keep_cell (by assumption) (by first | omega | (simp; done) | (simp; omega)) (by assumption)) | (with_reducible exact (World.cell?_alloc_past _ _ _ (by show _ < _; omega)).trans (by assumption)) | (with_reducible exact (World.cell?_alloc_past _ _ _ (by show _ < _; omega)).trans ((World.cell?_alloc_past _ _ _ (by show _ < _; omega)).symm.trans (by assumption))) | (simp [go_sem]; with_reducible assumption))) | (simp [go_sem, ↓IntWalk.iteOmega, *]; done)))
                clear hK K
                (try simp only [Act.put, List.setIfInBounds_toArray, List.set_cons_zero, List.set_cons_succ])
                refine wpAnyH_take (i := 9) (v := ?_) rfl (by kernel_rfl) (by kernel_rfl) (by kernel_rfl) (fun _ _ _ h => h) (Or.inl ⟨by rfl, ?_⟩) (by assumption) ?_
                rotate_left
                · (intro w hSw; (try dsimp only at hSw); go_simp; (try with_reducible rfl))
                (try simp only [Act.put, List.setIfInBounds_toArray, List.set_cons_zero, List.set_cons_succ])
                refine wpAnyH_take (i := 10) (v := ?_) rfl (by kernel_rfl) (by kernel_rfl) (by kernel_rfl) (fun _ _ _ h => h) (Or.inl ⟨by rfl, ?_⟩) (by assumption) ?_
                rotate_left
                · (intro w hSw; (try dsimp only at hSw); go_simp; (try with_reducible rfl))
                (try simp only [Act.put, List.setIfInBounds_toArray, List.set_cons_zero, List.set_cons_succ])
                refine wpAnyH_take (i := 11) (v := ?_) rfl (by kernel_rfl) (by kernel_rfl) (by kernel_rfl) (fun _ _ _ h => h) (Or.inl ⟨by rfl, ?_⟩) (by assumption) ?_
                rotate_left
                · (intro w hSw; (try dsimp only at hSw); go_simp; (try with_reducible rfl))
                (try simp only [Act.put, List.setIfInBounds_toArray, List.set_cons_zero, List.set_cons_succ])
                refine wpAnyH_ready (rs := [13]) (by kernel_rfl) (by simp) ?_
                refine AllReadyH.cons rfl (fun K hK => ?_) AllReadyH.nil
                (refine step_store_new (by rfl) 27 _ _ (by rfl) _ (sp16 (G k 0) (G k 1) (G k 2) (G k 3)) (by rfl) (by rfl) (there_below (there_new _) hb8 (by first | omega | (simp; done) | (simp; omega))) info16 one_of_map ?_; intro wS hcS hfS hzS hBS hRS hKS; (try simp at hcS hfS hzS))
                refine hK.out _ _ ?_ (fun hHeld => ?_)
                · ((try dsimp only); (first | (go_split_ands; (try dsimp only); refine ⟨?_, ?_, ?_, ?_, ?_, ?_, ?_⟩ <;> (first | (with_reducible assumption) | (with_reducible exact keep_cell (by assumption) (by first | omega | (simp; done) | (simp; omega)) (by assumption)) | (with_reducible exact (World.cell?_alloc_past _ _ _ (by show _ < _; omega)).trans (by assumption)) | (with_reducible exact (World.cell?_alloc_past _ _ _ (by show _ < _; omega)).trans ((World.cell?_alloc_past _ _ _ (by show _ < _; omega)).symm.trans (by assumption))) | (simp [go_sem]; with_reducible assumption))) | (simp [go_sem, ↓IntWalk.iteOmega, *]; done)))
                clear hK K
                (try simp only [Act.put, List.setIfInBounds_toArray, List.set_cons_zero, List.set_cons_succ])
                refine wpAnyH_ready (rs := [14]) (by kernel_rfl) (by simp) ?_
                refine AllReadyH.cons rfl (fun K hK => ?_) AllReadyH.nil
                go_simp
                refine hK.out _ _ ?_ (fun hHeld => ?_)
                · ((try dsimp only); (first | (go_split_ands; (try dsimp only); refine ⟨?_, ?_, ?_, ?_, ?_, ?_, ?_⟩ <;> (first | (with_reducible assumption) | (with_reducible exact keep_cell (by assumption) (by first | omega | (simp; done) | (simp; omega)) (by assumption)) | (with_reducible exact (World.cell?_alloc_past _ _ _ (by show _ < _; omega)).trans (by assumption)) | (with_reducible exact (World.cell?_alloc_past _ _ _ (by show _ < _; omega)).trans ((World.cell?_alloc_past _ _ _ (by show _ < _; omega)).symm.trans (by assumption))) | (simp [go_sem]; with_reducible assumption))) | (simp [go_sem, ↓IntWalk.iteOmega, *]; done)))
                clear hK K
                (try simp only [Act.put, List.setIfInBounds_toArray, List.set_cons_zero, List.set_cons_succ])
                refine wpAnyH_done (by kernel_rfl) ?_ _
                refine NoPanic.normal ?_
                go_wp2_with fail
                go_meet
                exact ⟨_, rfl, rfl, Lib.hid ⟨by (repeat' (first | (with_reducible exact Below.refl _ _) | (with_reducible refine Below.setCell ?_ (by first | omega | (simp; done) | (simp; omega)) _) | (with_reducible refine Below.alloc ?_ (by first | omega | (simp; done) | (simp; omega)) _) | (with_reducible refine Below.drew ?_) | (with_reducible refine below_drewN ?_ _) | (with_reducible refine Below.trans ?_ (Below.mono (by assumption) (by first | omega | (simp; done) | (simp; omega)))))), hRS⟩, (by first | omega | (simp; done) | (simp; omega)), (by first | omega | (simp; done) | (simp; omega))⟩
            · go_simp
              refine hK.out _ _ ?_ (fun hHeld => ?_)
              · ((try dsimp only); (first | (go_split_ands; (try dsimp only); refine ⟨?_, ?_, ?_, ?_, ?_, ?_, ?_⟩ <;> (first | (with_reducible assumption) | (with_reducible exact keep_cell (by assumption) (by first | omega | (simp; done) | (simp; omega)) (by assumption)) | (with_reducible exact (World.cell?_alloc_past _ _ _ (by show _ < _; omega)).trans (by assumption)) | (with_reducible exact (World.cell?_alloc_past _ _ _ (by show _ < _; omega)).trans ((World.cell?_alloc_past _ _ _ (by show _ < _; omega)).symm.trans (by assumption))) | (simp [go_sem]; with_reducible assumption))) | (simp [go_sem, ↓IntWalk.iteOmega, *]; done)))
              clear hK K
              (try simp only [Act.put, List.setIfInBounds_toArray, List.set_cons_zero, List.set_cons_succ])
              refine wpAnyH_ready (rs := [5]) (by kernel_rfl) (by simp) ?_
              refine AllReadyH.cons rfl (fun K hK => ?_) AllReadyH.nil
              (go_simp; go_at_call 125; (with_reducible refine (AK.out _).mono ?_); rintro e w7 ⟨rfl, hb7⟩; obtain ⟨hc7, hf7, hz7⟩ := bcall hb7; (try simp at hc7 hf7 hz7))
              refine hK.out _ _ ?_ (fun hHeld => ?_)
              · ((try dsimp only); (first | (go_split_ands; (try dsimp only); refine ⟨?_, ?_, ?_, ?_, ?_, ?_, ?_⟩ <;> (first | (with_reducible assumption) | (with_reducible exact keep_cell (by assumption) (by first | omega | (simp; done) | (simp; omega)) (by assumption)) | (with_reducible exact (World.cell?_alloc_past _ _ _ (by show _ < _; omega)).trans (by assumption)) | (with_reducible exact (World.cell?_alloc_past _ _ _ (by show _ < _; omega)).trans ((World.cell?_alloc_past _ _ _ (by show _ < _; omega)).symm.trans (by assumption))) | (simp [go_sem]; with_reducible assumption))) | (simp [go_sem, ↓IntWalk.iteOmega, *]; done)))
              clear hK K
              (try simp only [Act.put, List.setIfInBounds_toArray, List.set_cons_zero, List.set_cons_succ])
              refine wpAnyH_take (i := 6) (v := ?_) rfl (by kernel_rfl) (by kernel_rfl) (by kernel_rfl) (fun _ _ _ h => h) (Or.inl ⟨by rfl, ?_⟩) (by assumption) ?_
              rotate_left
              · (intro w hSw; (try dsimp only at hSw); go_simp; (try with_reducible rfl))
              (try simp only [Act.put, List.setIfInBounds_toArray, List.set_cons_zero, List.set_cons_succ])
              refine wpAnyH_take (i := 7) (v := ?_) rfl (by kernel_rfl) (by kernel_rfl) (by kernel_rfl) (fun _ _ _ h => h) (Or.inl ⟨by rfl, ?_⟩) (by assumption) ?_
              rotate_left
              · (intro w hSw; (try dsimp only at hSw); go_simp; (try with_reducible rfl))
              (try simp only [Act.put, List.setIfInBounds_toArray, List.set_cons_zero, List.set_cons_succ])
              refine wpAnyH_ready (rs := [8]) (by kernel_rfl) (by simp) ?_
              refine AllReadyH.cons rfl (fun K hK => ?_) AllReadyH.nil
              (go_simp; go_at_call 15; (with_reducible refine (refSplit_ok (G k 0) (G k 1) (G k 2) (G k 3) _ KK.out).mono ?_); rintro e w8 ⟨rfl, hb8⟩; rw [← sp16_arr]; obtain ⟨hc8, hf8, hz8⟩ := bcall hb8; (try simp at hc8 hf8 hz8))
              refine hK.out _ _ ?_ (fun hHeld => ?_)
              · ((try dsimp only); (first | (go_split_ands; (try dsimp only); refine ⟨?_, ?_, ?_, ?_, ?_, ?_, ?_⟩ <;> (first | (with_reducible assumption) | (with_reducible exact keep_cell (by assumption) (by first | omega | (simp; done) | (simp; omega)) (by assumption)) | (with_reducible exact (World.cell?_alloc_past _ _ _ (by show _ < _; omega)).trans (by assumption)) | (with_reducible exact (World.cell?_alloc_past _ _ _ (by show _ < _; omega)).trans ((World.cell?_alloc_past _ _ _ (by show _ < _; omega)).symm.trans (by assumption))) | (simp [go_sem]; with_reducible assumption))) | (simp [go_sem, ↓IntWalk.iteOmega, *]; done)))
              clear hK K
              (try simp only [Act.put, List.setIfInBounds_toArray, List.set_cons_zero, List.set_cons_succ])
              refine wpAnyH_take (i := 9) (v := ?_) rfl (by kernel_rfl) (by kernel_rfl) (by kernel_rfl) (fun _ _ _ h => h) (Or.inl ⟨by rfl, ?_⟩) (by assumption) ?_
              rotate_left
              · (intro w hSw; (try dsimp only at hSw); go_simp; (try with_reducible rfl))
              (try simp only [Act.put, List.setIfInBounds_toArray, List.set_cons_zero, List.set_cons_succ])
              refine wpAnyH_take (i := 10) (v := ?_) rfl (by kernel_rfl) (by kernel_rfl) (by kernel_rfl) (fun _ _ _ h => h) (Or.inl ⟨by rfl, ?_⟩) (by assumption) ?_
              rotate_left
              · (intro w hSw; (try dsimp only at hSw); go_simp; (try with_reducible rfl))
              (try simp only [Act.put, List.setIfInBounds_toArray, List.set_cons_zero, List.set_cons_succ])
              refine wpAnyH_take (i := 11) (v := ?_) rfl (by kernel_rfl) (by kernel_rfl) (by kernel_rfl) (fun _ _ _ h => h) (Or.inl ⟨by rfl, ?_⟩) (by assumption) ?_
              rotate_left
              · (intro w hSw; (try dsimp only at hSw); go_simp; (try with_reducible rfl))
              (try simp only [Act.put, List.setIfInBounds_toArray, List.set_cons_zero, List.set_cons_succ])
              refine wpAnyH_ready (rs := [13]) (by kernel_rfl) (by simp) ?_
              refine AllReadyH.cons rfl (fun K hK => ?_) AllReadyH.nil
              (refine step_store_new (by rfl) 27 _ _ (by rfl) _ (sp16 (G k 0) (G k 1) (G k 2) (G k 3)) (by rfl) (by rfl) (there_below (there_below ((World.there_drew _ _ _ _).2 (there_new _)) hb7 (by first | omega | (simp; done) | (simp; omega))) hb8 (by first | omega | (simp; done) | (simp; omega))) info16 one_of_map ?_; intro wS hcS hfS hzS hBS hRS hKS; (try simp at hcS hfS hzS))
              refine hK.out _ _ ?_ (fun hHeld => ?_)
              · ((try dsimp only); (first | (go_split_ands; (try dsimp only); refine ⟨?_, ?_, ?_, ?_, ?_, ?_, ?_⟩ <;> (first | (with_reducible assumption) | (with_reducible exact keep_cell (by assumption) (by first | omega | (simp; done) | (simp; omega)) (by assumption)) | (with_reducible exact (World.cell?_alloc_past _ _ _ (by show _ < _; omega)).trans (by assumption)) | (with_reducible exact (World.cell?_alloc_past _ _ _ (by show _ < _; omega)).trans ((World.cell?_alloc_past _ _ _ (by show _ < _; omega)).symm.trans (by assumption))) | (simp [go_sem]; with_reducible assumption))) | (simp [go_sem, ↓IntWalk.iteOmega, *]; done)))
              clear hK K
              (try simp only [Act.put, List.setIfInBounds_toArray, List.set_cons_zero, List.set_cons_succ])
              refine wpAnyH_ready (rs := [14]) (by kernel_rfl) (by simp) ?_
              refine AllReadyH.cons rfl (fun K hK => ?_) AllReadyH.nil
              go_simp
              refine hK.out _ _ ?_ (fun hHeld => ?_)
              · ((try dsimp only); (first | (go_split_ands; (try dsimp only); refine ⟨?_, ?_, ?_, ?_, ?_, ?_, ?_⟩ <;> (first | (with_reducible assumption) | (with_reducible exact keep_cell (by assumption) (by first | omega | (simp; done) | (simp; omega)) (by assumption)) | (with_reducible exact (World.cell?_alloc_past _ _ _ (by show _ < _; omega)).trans (by assumption)) | (with_reducible exact (World.cell?_alloc_past _ _ _ (by show _ < _; omega)).trans ((World.cell?_alloc_past _ _ _ (by show _ < _; omega)).symm.trans (by assumption))) | (simp [go_sem]; with_reducible assumption))) | (simp [go_sem, ↓IntWalk.iteOmega, *]; done)))
              clear hK K
              (try simp only [Act.put, List.setIfInBounds_toArray, List.set_cons_zero, List.set_cons_succ])
              refine wpAnyH_done (by kernel_rfl) ?_ _
              refine NoPanic.normal ?_
              go_wp2_with fail
              go_meet
              exact ⟨_, rfl, rfl, Lib.hid ⟨by (repeat' (first | (with_reducible exact Below.refl _ _) | (with_reducible refine Below.setCell ?_ (by first | omega | (simp; done) | (simp; omega)) _) | (with_reducible refine Below.alloc ?_ (by first | omega | (simp; done) | (simp; omega)) _) | (with_reducible refine Below.drew ?_) | (with_reducible refine below_drewN ?_ _) | (with_reducible refine Below.trans ?_ (Below.mono (by assumption) (by first | omega | (simp; done) | (simp; omega)))))), hRS⟩, (by first | omega | (simp; done) | (simp; omega)), (by first | omega | (simp; done) | (simp; omega))⟩
          case rest =>
            obtain ⟨PB, rfl, rfl, CC, lp1, lp2⟩ := hcut
            rename_i a9
            refine a9 _ _ ?_
            dsimp +zetaDelta only
            have FA := Lib.hid (fun w' => four_any X Y w' (by omega) (by omega) (by omega) (by omega))
            have sC := CC.out.1.size
            have lo7 := HR2.out.1
            have lF := TQ.out.lt
            clear e0 e1 e2 e3 AK KK
            go_wp2_with (go_at_call 137; (with_reducible refine (FA.out _).mono ?_); rintro e w9 ⟨⟨fc, rfl⟩, hP, hb9⟩)
            have B9 := Lib.hid (CC.out.1.trans (hb9.mono sC))
            obtain ⟨fb, hfb⟩ : ∃ fb, fb = wc.heap.size := ⟨_, rfl⟩
            rw [← hfb] at hP
            rw [← hfb]
            have R9 := Lib.hid (HR2.out.below B9.out lo7)
            have T9 := Lib.hid (TQ.out.below B9.out lF)
            have G9 := Lib.hid (rangeAt_below CC.out.2 hb9 lp2)
            have P9 := Lib.hid hP
            have s9 := hb9.size
            have l9 := hP.1
            have L0 := Lib.hid (show LR W n o m G w9 k 0 w9 from ⟨K2, Ex.refl _ _, R9.out, by rw [HK.out]; exact HD2.out⟩)
            have hkW : k < W * H := by have := HN.out; omega
            have q0l := q4_lt hkW (show 0 < 4 by omega)
            have q1l := q4_lt hkW (show 1 < 4 by omega)
            have q2l := q4_lt hkW (show 2 < 4 by omega)
            have q3l := q4_lt hkW (show 3 < 4 by omega)
            rw [← H2.out.n0] at q0l q1l q2l q3l
            have lfb : wo.heap.size ≤ fb := by omega
            clear hb9 hP hkW hfb
            go_wp2
            go_loopw [9] (fun i wr => ∃ t : Nat, t ≤ 4 ∧ i = .int .i64 t ∧ Hid (LR W n o m G w9 k t wr)) (fun i _ => 4 - (intOf i).toNat)
            case atStart => exact ⟨0, by omega, rfl, L0⟩
            case round =>
              obtain ⟨t, ht, rfl, L⟩ := hrel
              have xL : Ex (fun z => z = o) w9 wr := by obtain ⟨_, x, _⟩ := L.out; exact x
              have HXL := Lib.hid xL
              have TW := T9.out.ex xL (by omega)
              have F0 := TW.c0
              have F1 := TW.c1
              have F2 := TW.c2
              have lFw := TW.lt
              clear TW
              have sL := xL.size
              have pl : ∀ j v, w9.cell? ⟨fb, j, none⟩ = some v → wr.cell? ⟨fb, j, none⟩ = some v := fun j v h => (xL.cell (by omega) (by omega)).trans h
              obtain ⟨_, z0, z1, z2, z3, z4, z5, z6, z7⟩ := P9.out
              replace z0 := pl _ _ z0
              replace z1 := pl _ _ z1
              replace z2 := pl _ _ z2
              replace z3 := pl _ _ z3
              replace z4 := pl _ _ z4
              replace z5 := pl _ _ z5
              replace z6 := pl _ _ z6
              replace z7 := pl _ _ z7
              have G8 := Lib.hid (show wr.rangeAt PB 0 (sp16 (G k 0) (G k 1) (G k 2) (G k 3)) from fun j v hv => (xL.cell (by omega) (by omega)).trans (G9.out j v hv))
              clear xL pl
              obtain ⟨K3, _, rK, dK⟩ := L.out
              have HRK := Lib.hid rK
              have HDK := Lib.hid dK
              have lor := rK.1
              clear rK dK
              have ht' : t = 0 ∨ t = 1 ∨ t = 2 ∨ t = 3 ∨ t = 4 := by omega
              rcases ht' with rfl | rfl | rfl | rfl | rfl
              · simp only [show ((0 : Nat) : Int) = 0 from rfl] at *
                obtain ⟨a0, a1, a2, a3⟩ := HRK.out.at4 q0l
                obtain ⟨f0, f1, f2, f3⟩ := HRK.out.free4 q0l
                obtain ⟨Q, hQ⟩ : ∃ Q, Q = q4 W k 0 := ⟨_, rfl⟩
                have HQ := Lib.hid hQ
                have HL := Lib.hid q0l
                have hql := q0l
                rw [← hQ] at a0 a1 a2 a3 f0 f1 f2 f3 hql
                have hqx : (2 * (W : Int)) * (2 * (Y : Int)) = (Q : Int) - (2 * (X : Int)) := by
                  have e := q4_xy (Y := Y) hlX (show 0 < 4 by omega)
                  simp only [show 0 % 2 = 0 from rfl, show 0 / 2 = 0 from rfl] at e
                  have hP : (2 * (W : Int)) * (2 * (Y : Int)) = ((2 * W * (2 * Y + 0) : Nat) : Int) := by
                    rw [Nat.add_zero]; push_cast
                    rfl
                  rw [hP, hQ, HK.out, e]
                  generalize 2 * W * (2 * Y + 0) = P
                  omega
                have AQ := Lib.hid (fun w' => rat6 (2 * (W : Int)) (2 * (H : Int)) (some ⟨o, 0, none⟩) m co (2 * (X : Int)) (2 * (Y : Int)) Q w' (by omega) (by omega) (by omega) (by omega) hqx (by omega) (by omega))
                have p2 : (0 : Int) ≤ (Q : Int) := by omega
                have p3 : (Q : Int) < (m : Int) := by omega
                obtain ⟨g0, g1, g2, g3⟩ := sp16_range G8.out (show 0 < 4 by omega)
                have h0 : wr.cell? ⟨PB, 0, none⟩ = some (.int .i64 (spl (G k 0) 0)) := g0
                have h1 : wr.cell? ⟨PB, 1, none⟩ = some (.int .i64 (spl (G k 1) 0)) := g1
                have h2 : wr.cell? ⟨PB, 2, none⟩ = some (.int .i64 (spl (G k 2) 0)) := g2
                have h3 : wr.cell? ⟨PB, 3, none⟩ = some (.int .i64 (spl (G k 3) 0)) := g3
                clear g0 g1 g2 g3 hqx hQ q0l q1l q2l q3l z2 z3 z4 z5 z6 z7
                go_wp2
                go_region_held3 (fun w' => w'.cell? ⟨F, 0, none⟩ = some (.int .i64 (2 * (W : Int))) ∧ w'.cell? ⟨F, 1, none⟩ = some (.int .i64 (2 * (H : Int))) ∧ w'.cell? ⟨F, 2, none⟩ = some (.slice (some ⟨o, 0, none⟩) m co) ∧ w'.cell? ⟨fb, 0, none⟩ = some (.int .i64 (2 * (X : Int))) ∧ w'.cell? ⟨fb, 1, none⟩ = some (.int .i64 (2 * (Y : Int))) ∧ w'.cell? ⟨PB, 0, none⟩ = some (.int .i64 (spl (G k 0) 0)) ∧ w'.cell? ⟨PB, 1, none⟩ = some (.int .i64 (spl (G k 1) 0)) ∧ w'.cell? ⟨PB, 2, none⟩ = some (.int .i64 (spl (G k 2) 0)) ∧ w'.cell? ⟨PB, 3, none⟩ = some (.int .i64 (spl (G k 3) 0))) (first | (go_split_ands; (try dsimp only); refine ⟨?_, ?_, ?_, ?_, ?_, ?_, ?_, ?_, ?_⟩ <;> (first | (with_reducible assumption) | (with_reducible exact keep_cell (by assumption) (by first | omega | (simp; done) | (simp; omega)) (by assumption)) | (with_reducible exact (World.cell?_alloc_past _ _ _ (by show _ < _; omega)).trans (by assumption)) | (with_reducible exact (World.cell?_alloc_past _ _ _ (by show _ < _; omega)).trans ((World.cell?_alloc_past _ _ _ (by show _ < _; omega)).symm.trans (by assumption))) | (simp [go_sem]; with_reducible assumption))) | (simp [go_sem, ↓IntWalk.iteOmega, *]; done)) ((go_at_call 125; (with_reducible refine (AQ.out _).mono ?_); rintro e w10 ⟨rfl, hb10⟩; obtain ⟨hc10, hf10, hz10⟩ := bcall hb10; (try simp at hc10 hf10 hz10)))
                go_wp2
                go_roundw
                case rel => exact ⟨1, by omega, by go_num, Lib.hid (L.out.step2 (by (repeat' (first | (with_reducible exact Below.refl _ _) | (with_reducible refine Below.setCell ?_ (by first | omega | (simp; done) | (simp; omega)) _) | (with_reducible refine Below.alloc ?_ (by first | omega | (simp; done) | (simp; omega)) _) | (with_reducible refine Below.drew ?_) | (with_reducible refine below_drewN ?_ _) | (with_reducible refine Below.trans ?_ (Below.mono (by assumption) (by first | omega | (simp; done) | (simp; omega))))))) (by omega) (by omega) HL.out HQ.out)⟩
                case measure => simp [intOf]
              · simp only [show ((1 : Nat) : Int) = 1 from rfl] at *
                obtain ⟨a0, a1, a2, a3⟩ := HRK.out.at4 q1l
                obtain ⟨f0, f1, f2, f3⟩ := HRK.out.free4 q1l
                obtain ⟨Q, hQ⟩ : ∃ Q, Q = q4 W k 1 := ⟨_, rfl⟩
                have HQ := Lib.hid hQ
                have HL := Lib.hid q1l
                have hql := q1l
                rw [← hQ] at a0 a1 a2 a3 f0 f1 f2 f3 hql
                have hqx : (2 * (W : Int)) * (2 * (Y : Int)) = (Q : Int) - (2 * (X : Int) + 1) := by
                  have e := q4_xy (Y := Y) hlX (show 1 < 4 by omega)
                  simp only [show 1 % 2 = 1 from rfl, show 1 / 2 = 0 from rfl] at e
                  have hP : (2 * (W : Int)) * (2 * (Y : Int)) = ((2 * W * (2 * Y + 0) : Nat) : Int) := by
                    rw [Nat.add_zero]; push_cast
                    rfl
                  rw [hP, hQ, HK.out, e]
                  generalize 2 * W * (2 * Y + 0) = P
                  omega
                have AQ := Lib.hid (fun w' => rat6 (2 * (W : Int)) (2 * (H : Int)) (some ⟨o, 0, none⟩) m co (2 * (X : Int) + 1) (2 * (Y : Int)) Q w' (by omega) (by omega) (by omega) (by omega) hqx (by omega) (by omega))
                have p2 : (0 : Int) ≤ (Q : Int) := by omega
                have p3 : (Q : Int) < (m : Int) := by omega
                obtain ⟨g0, g1, g2, g3⟩ := sp16_range G8.out (show 1 < 4 by omega)
                have h0 : wr.cell? ⟨PB, 4, none⟩ = some (.int .i64 (spl (G k 0) 1)) := g0
                have h1 : wr.cell? ⟨PB, 5, none⟩ = some (.int .i64 (spl (G k 1) 1)) := g1
                have h2 : wr.cell? ⟨PB, 6, none⟩ = some (.int .i64 (spl (G k 2) 1)) := g2
                have h3 : wr.cell? ⟨PB, 7, none⟩ = some (.int .i64 (spl (G k 3) 1)) := g3
                clear g0 g1 g2 g3 hqx hQ q0l q1l q2l q3l z0 z1 z4 z5 z6 z7
                go_wp2
                go_region_held3 (fun w' => w'.cell? ⟨F, 0, none⟩ = some (.int .i64 (2 * (W : Int))) ∧ w'.cell? ⟨F, 1, none⟩ = some (.int .i64 (2 * (H : Int))) ∧ w'.cell? ⟨F, 2, none⟩ = some (.slice (some ⟨o, 0, none⟩) m co) ∧ w'.cell? ⟨fb, 2, none⟩ = some (.int .i64 (2 * (X : Int) + 1)) ∧ w'.cell? ⟨fb, 3, none⟩ = some (.int .i64 (2 * (Y : Int))) ∧ w'.cell? ⟨PB, 4, none⟩ = some (.int .i64 (spl (G k 0) 1)) ∧ w'.cell? ⟨PB, 5, none⟩ = some (.int .i64 (spl (G k 1) 1)) ∧ w'.cell? ⟨PB, 6, none⟩ = some (.int .i64 (spl (G k 2) 1)) ∧ w'.cell? ⟨PB, 7, none⟩ = some (.int .i64 (spl (G k 3) 1))) (first | (go_split_ands; (try dsimp only); refine ⟨?_, ?_, ?_, ?_, ?_, ?_, ?_, ?_, ?_⟩ <;> (first | (with_reducible assumption) | (with_reducible exact keep_cell (by assumption) (by first | omega | (simp; done) | (simp; omega)) (by assumption)) | (with_reducible exact (World.cell?_alloc_past _ _ _ (by show _ < _; omega)).trans (by assumption)) | (with_reducible exact (World.cell?_alloc_past _ _ _ (by show _ < _; omega)).trans ((World.cell?_alloc_past _ _ _ (by show _ < _; omega)).symm.trans (by assumption))) | (simp [go_sem]; with_reducible assumption))) | (simp [go_sem, ↓IntWalk.iteOmega, *]; done)) ((go_at_call 125; (with_reducible refine (AQ.out _).mono ?_); rintro e w10 ⟨rfl, hb10⟩; obtain ⟨hc10, hf10, hz10⟩ := bcall hb10; (try simp at hc10 hf10 hz10)))
                go_wp2
                go_roundw
                case rel => exact ⟨2, by omega, by go_num, Lib.hid (L.out.step2 (by (repeat' (first | (with_reducible exact Below.refl _ _) | (with_reducible refine Below.setCell ?_ (by first | omega | (simp; done) | (simp; omega)) _) | (with_reducible refine Below.alloc ?_ (by first | omega | (simp; done) | (simp; omega)) _) | (with_reducible refine Below.drew ?_) | (with_reducible refine below_drewN ?_ _) | (with_reducible refine Below.trans ?_ (Below.mono (by assumption) (by first | omega | (simp; done) | (simp; omega))))))) (by omega) (by omega) HL.out HQ.out)⟩
                case measure => simp [intOf]
              · simp only [show ((2 : Nat) : Int) = 2 from rfl] at *
                obtain ⟨a0, a1, a2, a3⟩ := HRK.out.at4 q2l
                obtain ⟨f0, f1, f2, f3⟩ := HRK.out.free4 q2l
                obtain ⟨Q, hQ⟩ : ∃ Q, Q = q4 W k 2 := ⟨_, rfl⟩
                have HQ := Lib.hid hQ
                have HL := Lib.hid q2l
                have hql := q2l
                rw [← hQ] at a0 a1 a2 a3 f0 f1 f2 f3 hql
                have hqx : (2 * (W : Int)) * (2 * (Y : Int) + 1) = (Q : Int) - (2 * (X : Int)) := by
                  have e := q4_xy (Y := Y) hlX (show 2 < 4 by omega)
                  simp only [show 2 % 2 = 0 from rfl, show 2 / 2 = 1 from rfl] at e
                  have hP : (2 * (W : Int)) * (2 * (Y : Int) + 1) = ((2 * W * (2 * Y + 1) : Nat) : Int) := by
                    push_cast
                    rfl
                  rw [hP, hQ, HK.out, e]
                  generalize 2 * W * (2 * Y + 1) = P
                  omega
                have AQ := Lib.hid (fun w' => rat6 (2 * (W : Int)) (2 * (H : Int)) (some ⟨o, 0, none⟩) m co (2 * (X : Int)) (2 * (Y : Int) + 1) Q w' (by omega) (by omega) (by omega) (by omega) hqx (by omega) (by omega))
                have p2 : (0 : Int) ≤ (Q : Int) := by omega
                have p3 : (Q : Int) < (m : Int) := by omega
                obtain ⟨g0, g1, g2, g3⟩ := sp16_range G8.out (show 2 < 4 by omega)
                have h0 : wr.cell? ⟨PB, 8, none⟩ = some (.int .i64 (spl (G k 0) 2)) := g0
                have h1 : wr.cell? ⟨PB, 9, none⟩ = some (.int .i64 (spl (G k 1) 2)) := g1
                have h2 : wr.cell? ⟨PB, 10, none⟩ = some (.int .i64 (spl (G k 2) 2)) := g2
                have h3 : wr.cell? ⟨PB, 11, none⟩ = some (.int .i64 (spl (G k 3) 2)) := g3
                clear g0 g1 g2 g3 hqx hQ q0l q1l q2l q3l z0 z1 z2 z3 z6 z7
                go_wp2
                go_region_held3 (fun w' => w'.cell? ⟨F, 0, none⟩ = some (.int .i64 (2 * (W : Int))) ∧ w'.cell? ⟨F, 1, none⟩ = some (.int .i64 (2 * (H : Int))) ∧ w'.cell? ⟨F, 2, none⟩ = some (.slice (some ⟨o, 0, none⟩) m co) ∧ w'.cell? ⟨fb, 4, none⟩ = some (.int .i64 (2 * (X : Int))) ∧ w'.cell? ⟨fb, 5, none⟩ = some (.int .i64 (2 * (Y : Int) + 1)) ∧ w'.cell? ⟨PB, 8, none⟩ = some (.int .i64 (spl (G k 0) 2)) ∧ w'.cell? ⟨PB, 9, none⟩ = some (.int .i64 (spl (G k 1) 2)) ∧ w'.cell? ⟨PB, 10, none⟩ = some (.int .i64 (spl (G k 2) 2)) ∧ w'.cell? ⟨PB, 11, none⟩ = some (.int .i64 (spl (G k 3) 2))) (first | (go_split_ands; (try dsimp only); refine ⟨?_, ?_, ?_, ?_, ?_, ?_, ?_, ?_, ?_⟩ <;> (first | (with_reducible assumption) | (with_reducible exact keep_cell (by assumption) (by first | omega | (simp; done) | (simp; omega)) (by assumption)) | (with_reducible exact (World.cell?_alloc_past _ _ _ (by show _ < _; omega)).trans (by assumption)) | (with_reducible exact (World.cell?_alloc_past _ _ _ (by show _ < _; omega)).trans ((World.cell?_alloc_past _ _ _ (by show _ < _; omega)).symm.trans (by assumption))) | (simp [go_sem]; with_reducible assumption))) | (simp [go_sem, ↓IntWalk.iteOmega, *]; done)) ((go_at_call 125; (with_reducible refine (AQ.out _).mono ?_); rintro e w10 ⟨rfl, hb10⟩; obtain ⟨hc10, hf10, hz10⟩ := bcall hb10; (try simp at hc10 hf10 hz10)))
                go_wp2
                go_roundw
                case rel => exact ⟨3, by omega, by go_num, Lib.hid (L.out.step2 (by (repeat' (first | (with_reducible exact Below.refl _ _) | (with_reducible refine Below.setCell ?_ (by first | omega | (simp; done) | (simp; omega)) _) | (with_reducible refine Below.alloc ?_ (by first | omega | (simp; done) | (simp; omega)) _) | (with_reducible refine Below.drew ?_) | (with_reducible refine below_drewN ?_ _) | (with_reducible refine Below.trans ?_ (Below.mono (by assumption) (by first | omega | (simp; done) | (simp; omega))))))) (by omega) (by omega) HL.out HQ.out)⟩
                case measure => simp [intOf]
              · simp only [show ((3 : Nat) : Int) = 3 from rfl] at *
                obtain ⟨a0, a1, a2, a3⟩ := HRK.out.at4 q3l
                obtain ⟨f0, f1, f2, f3⟩ := HRK.out.free4 q3l
                obtain ⟨Q, hQ⟩ : ∃ Q, Q = q4 W k 3 := ⟨_, rfl⟩
                have HQ := Lib.hid hQ
                have HL := Lib.hid q3l
                have hql := q3l
                rw [← hQ] at a0 a1 a2 a3 f0 f1 f2 f3 hql
                have hqx : (2 * (W : Int)) * (2 * (Y : Int) + 1) = (Q : Int) - (2 * (X : Int) + 1) := by
                  have e := q4_xy (Y := Y) hlX (show 3 < 4 by omega)
                  simp only [show 3 % 2 = 1 from rfl, show 3 / 2 = 1 from rfl] at e
                  have hP : (2 * (W : Int)) * (2 * (Y : Int) + 1) = ((2 * W * (2 * Y + 1) : Nat) : Int) := by
                    push_cast
                    rfl
                  rw [hP, hQ, HK.out, e]
                  generalize 2 * W * (2 * Y + 1) = P
                  omega
                have AQ := Lib.hid (fun w' => rat6 (2 * (W : Int)) (2 * (H : Int)) (some ⟨o, 0, none⟩) m co (2 * (X : Int) + 1) (2 * (Y : Int) + 1) Q w' (by omega) (by omega) (by omega) (by omega) hqx (by omega) (by omega))
                have p2 : (0 : Int) ≤ (Q : Int) := by omega
                have p3 : (Q : Int) < (m : Int) := by omega
                obtain ⟨g0, g1, g2, g3⟩ := sp16_range G8.out (show 3 < 4 by omega)
                have h0 : wr.cell? ⟨PB, 12, none⟩ = some (.int .i64 (spl (G k 0) 3)) := g0
                have h1 : wr.cell? ⟨PB, 13, none⟩ = some (.int .i64 (spl (G k 1) 3)) := g1
                have h2 : wr.cell? ⟨PB, 14, none⟩ = some (.int .i64 (spl (G k 2) 3)) := g2
                have h3 : wr.cell? ⟨PB, 15, none⟩ = some (.int .i64 (spl (G k 3) 3)) := g3
                clear g0 g1 g2 g3 hqx hQ q0l q1l q2l q3l z0 z1 z2 z3 z4 z5
                go_wp2
                go_region_held3 (fun w' => w'.cell? ⟨F, 0, none⟩ = some (.int .i64 (2 * (W : Int))) ∧ w'.cell? ⟨F, 1, none⟩ = some (.int .i64 (2 * (H : Int))) ∧ w'.cell? ⟨F, 2, none⟩ = some (.slice (some ⟨o, 0, none⟩) m co) ∧ w'.cell? ⟨fb, 6, none⟩ = some (.int .i64 (2 * (X : Int) + 1)) ∧ w'.cell? ⟨fb, 7, none⟩ = some (.int .i64 (2 * (Y : Int) + 1)) ∧ w'.cell? ⟨PB, 12, none⟩ = some (.int .i64 (spl (G k 0) 3)) ∧ w'.cell? ⟨PB, 13, none⟩ = some (.int .i64 (spl (G k 1) 3)) ∧ w'.cell? ⟨PB, 14, none⟩ = some (.int .i64 (spl (G k 2) 3)) ∧ w'.cell? ⟨PB, 15, none⟩ = some (.int .i64 (spl (G k 3) 3))) (first | (go_split_ands; (try dsimp only); refine ⟨?_, ?_, ?_, ?_, ?_, ?_, ?_, ?_, ?_⟩ <;> (first | (with_reducible assumption) | (with_reducible exact keep_cell (by assumption) (by first | omega | (simp; done) | (simp; omega)) (by assumption)) | (with_reducible exact (World.cell?_alloc_past _ _ _ (by show _ < _; omega)).trans (by assumption)) | (with_reducible exact (World.cell?_alloc_past _ _ _ (by show _ < _; omega)).trans ((World.cell?_alloc_past _ _ _ (by show _ < _; omega)).symm.trans (by assumption))) | (simp [go_sem]; with_reducible assumption))) | (simp [go_sem, ↓IntWalk.iteOmega, *]; done)) ((go_at_call 125; (with_reducible refine (AQ.out _).mono ?_); rintro e w10 ⟨rfl, hb10⟩; obtain ⟨hc10, hf10, hz10⟩ := bcall hb10; (try simp at hc10 hf10 hz10)))
                go_wp2
                go_roundw
                case rel => exact ⟨4, by omega, by go_num, Lib.hid (L.out.step2 (by (repeat' (first | (with_reducible exact Below.refl _ _) | (with_reducible refine Below.setCell ?_ (by first | omega | (simp; done) | (simp; omega)) _) | (with_reducible refine Below.alloc ?_ (by first | omega | (simp; done) | (simp; omega)) _) | (with_reducible refine Below.drew ?_) | (with_reducible refine below_drewN ?_ _) | (with_reducible refine Below.trans ?_ (Below.mono (by assumption) (by first | omega | (simp; done) | (simp; omega))))))) (by omega) (by omega) HL.out HQ.out)⟩
                case measure => simp [intOf]
              · go_wp2
                go_roundw
                case rel => exact ⟨X + 1, by omega, by go_num, Lib.hid ⟨K3, (HX2.out.trans (Ex.of_below B9.out)).trans (HXL.out.mono (fun z hz => .inl hz)), HRK.out, by rw [show X + 1 + W * Y = k + 1 by have := HK.out; omega]; exact HDK.out.next⟩⟩
                case measure => simp [intOf]; omega
        · obtain rfl : X = W := by omega
          go_wp2
          go_roundw
          case rel => exact ⟨Y + 1, by omega, by go_num, Lib.hid ⟨K2, HX2.out, HR2.out, by rw [show 0 + X * (Y + 1) = X + X * Y by rw [Nat.zero_add, Nat.mul_succ, Nat.add_comm]]; exact HD2.out⟩⟩
          case measure => simp [intOf]; omega
    · obtain rfl : Y = H := by omega
      obtain ⟨c0, c1, c2⟩ := And.intro TO.out.c0 (And.intro TO.out.c1 TO.out.c2)
      have t2 := T2.out.ex HX.out (by omega)
      obtain ⟨r0, r1, r2⟩ := And.intro t2.c0 (And.intro t2.c1 t2.c2)
      have u0 := t2.free 0
      have u1 := t2.free 1
      have u2 := t2.free 2
      have BO := Lib.hid (BB.out.trans (HX.out.below sB (fun z hz => by omega)))
      clear t2
      go_wp2
      refine bodyPost_ret (v := .agg #[.int .i64 (2 * (W : Int)), .int .i64 (2 * (Y : Int)), .slice (some ⟨o, 0, none⟩) m co]) (by simp [results, Try.results112, go_sem, ↓IntWalk.iteOmega, *]) rfl ?_
      obtain ⟨K, _, hR, hD⟩ := HH.out
      rw [Nat.zero_add, ← HN.out] at hD
      exact gave_pass (hR.eqG (hD.all HN.out HM.out)) BO.out (by omega) (by omega)
end Go.Proofs.Ytpnfppcmklcinaa
