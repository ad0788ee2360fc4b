/- Refine, by the program. -/
import Derived.Test.YtpnfppcmklcinaaKLevE
namespace Go.Proofs.Ytpnfppcmklcinaa
set_option linter.unusedSimpArgs false
set_option linter.unusedVariables false
open Go.RowKit

theorem Sides.twice {W H m : Nat} (h : Sides (2 * W) (2 * H) m) : W ≤ 32 ∧ H ≤ 32 ∧ m ≤ 1024 := ⟨by have := h.w1; omega, by have := h.h1; omega, h.n1⟩

/-- The round's four stores into the fine row. -/
theorem lev_set {w : World} {b n : Nat} {K : Nat → Nat → Int} {q : Nat} (h : Row w b n K) (l : q < n) (v0 v1 v2 v3 : Int) :
    Ex (fun z => z = b) w ((((w.setCell ⟨b, q * 4, none⟩ (.int .i64 v0)).setCell ⟨b, q * 4 + 1, none⟩ (.int .i64 v1)).setCell ⟨b, q * 4 + 2, none⟩ (.int .i64 v2)).setCell ⟨b, q * 4 + 3, none⟩ (.int .i64 v3)) ∧
    Row ((((w.setCell ⟨b, q * 4, none⟩ (.int .i64 v0)).setCell ⟨b, q * 4 + 1, none⟩ (.int .i64 v1)).setCell ⟨b, q * 4 + 2, none⟩ (.int .i64 v2)).setCell ⟨b, q * 4 + 3, none⟩ (.int .i64 v3)) b n (upd (upd (upd (upd K q 0 v0) q 1 v1) q 2 v2) q 3 v3) :=
  ⟨Ex.setCell (Ex.setCell (Ex.setCell (Ex.setCell (Ex.refl _ w) (show b = b from rfl) _) (show b = b from rfl) _) (show b = b from rfl) _) (show b = b from rfl) _,
   (((h.set (d := 0) l (by omega) v0 rfl).set (d := 1) l (by omega) v1 rfl).set (d := 2) l (by omega) v2 rfl).set (d := 3) l (by omega) v3 rfl⟩

/-- The inner loop's world: the fine row in the block o as it is done so far. -/
def LR (W n o m : Nat) (G : Nat → Nat → Int) (w7 : World) (k t : Nat) (wr : World) : Prop :=
  ∃ K, Ex (fun z => z = o) w7 wr ∧ Row wr o m K ∧ DoneR W n k t G K
theorem LR.step {W n o m : Nat} {G : Nat → Nat → Int} {w7 : World} {k t : Nat} {wr : World} (h : LR W n o m G w7 k t wr) (hW : 0 < W) (ht : t < 4) (hq : q4 W k t < m) {Q : Nat} (hQ : Q = q4 W k t) :
    LR W n o m G w7 k (t + 1) ((((wr.setCell ⟨o, Q * 4, none⟩ (.int .i64 (spl (G k 0) t))).setCell ⟨o, Q * 4 + 1, none⟩ (.int .i64 (spl (G k 1) t))).setCell ⟨o, Q * 4 + 2, none⟩ (.int .i64 (spl (G k 2) t))).setCell ⟨o, Q * 4 + 3, none⟩ (.int .i64 (spl (G k 3) t))).drew := by
  subst hQ
  obtain ⟨K, h1, h2, h3⟩ := h
  obtain ⟨g1, g2⟩ := lev_set (w := wr) h2 hq (spl (G k 0) t) (spl (G k 1) t) (spl (G k 2) t) (spl (G k 3) t)
  exact ⟨_, Ex.drew (h1.trans g1), g2.ex (S := fun _ => False) ((Ex.refl _ _).drew) (fun h => h), h3.step hW ht⟩

attribute [local irreducible] wpStill
set_option maxRecDepth 100000 in
set_option maxHeartbeats 16000000 in
theorem refine_in (W H b off n m cap : Nat) (G : Nat → Nat → Int) (w : World) (s : Sides W H n) (hG : OkG n G) (hlt : b < w.heap.size) (hC : Grd w b off n G) (hm : m = n * 4) (h2 : Sides (2 * W) (2 * H) m) :
    Calls Try.prog 44 #[.agg #[.int .i64 W, .int .i64 H, .slice (some ⟨b, off, none⟩) n cap]] w (Made (2 * (W : Int)) (2 * (H : Int)) m (refG W G) w) := by
  have GV := Lib.hid (fun w' (hb : Below w.heap.size w w') => gValid_ok W H (some ⟨b, off, none⟩) n cap G w' (vg_of s hG) (getI hC hb hlt))
  have EM := Lib.hid (show ∀ w', Calls Try.prog 109 #[.int .i64 (2 * (W : Int)), .int .i64 (2 * (H : Int))] w' (GaveE (2 * (W : Int)) (2 * (H : Int)) m (fun _ _ => 0) w') from fun w' => emptyG_ok (2 * W) (2 * H) m w' h2)
  obtain ⟨b1, b2, b3⟩ := h2.twice
  have hw0 := s.w0
  have hh0 := s.h0
  have hn1 := s.n1
  have HN := Lib.hid s.n0
  have HG := Lib.hid hC
  have HO := Lib.hid hG
  have HM := Lib.hid hm
  have H2 := Lib.hid h2
  clear hC hG s h2 hm
  go_enter Try.func44, Try.ntmps44
  go_wp2_with (first | (go_at_call 108; (with_reducible refine (GV.out _ (by (repeat' (first | (with_reducible exact Below.refl _ _) | (with_reducible refine Below.setCell ?_ (by first | omega | (simp; done) | (simp; omega)) _) | (with_reducible refine Below.alloc ?_ (by first | omega | (simp; done) | (simp; omega)) _) | (with_reducible refine Below.drew ?_) | (with_reducible refine below_drewN ?_ _) | (with_reducible refine Below.trans ?_ (Below.mono (by assumption) (by first | omega | (simp; done) | (simp; omega)))))))).mono ?_); rintro e w1 ⟨rfl, hb⟩; obtain ⟨hc, hf, hz⟩ := bcall hb; (try simp at hc hf hz)) | (go_at_call 109; (with_reducible refine (EM.out _).mono ?_); rintro e w2 ⟨o, co, rfl, ho, lo, hb⟩; obtain ⟨hc, hf, hz⟩ := bcall hb; (try simp at hc hf hz lo)))
  obtain ⟨wl, hwl⟩ : ∃ wl, wl = w2.alloc (.cells #[.int .i64 (2 * (W : Int)), .int .i64 (2 * (H : Int)), .slice (some ⟨o, 0, none⟩) m co] 34) := ⟨_, rfl⟩
  have l2 : wl.heap.size = w2.heap.size + 1 := by rw [hwl]; simp
  have lo2 := ho.1
  have k0 : wl.cell? ⟨w.heap.size, 0, none⟩ = some (.int .i64 W) := by rw [hwl]; simp [go_sem, ↓IntWalk.iteOmega, *]
  have T1 : Three w1 (w.heap.size + 1) 34 (.int .i64 0) (.int .i64 0) (.slice none 0 0) := by
    have := Three.new1 w (.cells #[.int .i64 W, .int .i64 H, .slice (some ⟨b, off, none⟩) n cap] 34) 34 (.int .i64 0) (.int .i64 0) (.slice none 0 0)
    exact this.below (by assumption) (by simp)
  have T2 := Lib.hid (show Three wl (w.heap.size + 1) 34 (.int .i64 0) (.int .i64 0) (.slice none 0 0) from by rw [hwl]; exact (T1.below hb (by omega)).below ((Below.refl w2.heap.size w2).alloc (Nat.le_refl _) _) (by omega))
  have TF := Lib.hid (show Three wl w2.heap.size 34 (.int .i64 (2 * (W : Int))) (.int .i64 (2 * (H : Int))) (.slice (some ⟨o, 0, none⟩) m co) from by rw [hwl]; exact Three.new0 _ _ _ _ _)
  have RO := Lib.hid (show Row wl o m (fun _ _ => 0) from by rw [hwl]; exact ho.below ((Below.refl w2.heap.size w2).alloc (Nat.le_refl _) _) lo2)
  have BB := Lib.hid (show Below w.heap.size w wl from by rw [hwl]; (repeat' (first | (with_reducible exact Below.refl _ _) | (with_reducible refine Below.setCell ?_ (by first | omega | (simp; done) | (simp; omega)) _) | (with_reducible refine Below.alloc ?_ (by first | omega | (simp; done) | (simp; omega)) _) | (with_reducible refine Below.drew ?_) | (with_reducible refine below_drewN ?_ _) | (with_reducible refine Below.trans ?_ (Below.mono (by assumption) (by first | omega | (simp; done) | (simp; omega)))))))
  rw [← hwl]
  obtain ⟨F, hF⟩ : ∃ F, F = w2.heap.size := ⟨_, rfl⟩
  rw [← hF] at TF l2 lo2
  rw [← hF]
  have lw1 : w.heap.size + 2 ≤ o := by omega
  clear ho hc hf hz hb T1 hwl hF lo
  go_loopw [32, 6, 53, 10, 11] (fun i _ _ _ _ wr => ∃ k : Nat, k ≤ n ∧ i = .int .i64 k ∧ Hid (∃ K, Ex (fun z => z = o ∨ wl.heap.size ≤ z) wl wr ∧ Row wr o m K ∧ DoneR W n k 0 G K)) (fun i _ _ _ _ _ => n - (intOf i).toNat)
  case atStart => exact ⟨0, Nat.zero_le _, rfl, Lib.hid ⟨_, Ex.refl _ _, RO.out, fun i p _ _ hl => by omega⟩⟩
  case round =>
    obtain ⟨k, hk, rfl, HH⟩ := hrel
    obtain ⟨wo, hwo⟩ : ∃ wo, wo = wr := ⟨_, rfl⟩
    subst hwo
    obtain ⟨K, hX, hR, hD⟩ := HH.out
    have lX := hX.size
    have BO := Lib.hid (BB.out.trans (hX.below BB.out.size (fun z hz => by have := BB.out.size; omega)))
    have kO : wo.cell? ⟨w.heap.size, 0, none⟩ = some (.int .i64 W) := (hX.cell (by omega) (by omega)).trans k0
    have tF := TF.out.ex hX (by omega)
    have TO := Lib.hid tF
    have F0 := tF.c0
    have HX := Lib.hid hX
    have HR := Lib.hid hR
    have HD := Lib.hid hD
    clear hX hR hD tF HH
    by_cases hlk : k < n
    · have lB := BO.out.size
      obtain ⟨e0, e1, e2, e3⟩ := HG.out.get BO.out hlt hlk
      have p0 : (0 : Int) ≤ (k : Int) := by omega
      have p1 : (k : Int) < (n : Int) := by omega
      have KK := Lib.hid (HO.out.1 k hlk)
      have hkW : k < W * H := by have := HN.out; omega
      have QC := Lib.hid (fun w' => quarters_at W H k w' (by omega) (by omega) hkW)
      have q0l := q4_lt hkW (show 0 < 4 by omega)
      have q1l := q4_lt hkW (show 1 < 4 by omega)
      have q2l := q4_lt hkW (show 2 < 4 by omega)
      have q3l := q4_lt hkW (show 3 < 4 by omega)
      rw [← H2.out.n0] at q0l q1l q2l q3l
      have tm : (k : Int).tmod (W : Int) = ((k % W : Nat) : Int) := by rw [Int.tmod_eq_emod_of_nonneg (by omega)]; rfl
      have td : (k : Int).tdiv (W : Int) = ((k / W : Nat) : Int) := by rw [Int.tdiv_eq_ediv_of_nonneg (by omega)]; rfl
      have wz : ¬ W = 0 := by omega
      have x1 : k % W < 64 := Nat.lt_of_lt_of_le (Nat.mod_lt _ (by omega)) (by omega)
      have y1 : k / W < 2000 := Nat.lt_of_le_of_lt (Nat.div_le_self _ _) (by omega)
      obtain ⟨X, hXX⟩ : ∃ X, X = k % W := ⟨_, rfl⟩
      obtain ⟨Y, hYY⟩ : ∃ Y, Y = k / W := ⟨_, rfl⟩
      obtain ⟨Q0, hQ0⟩ : ∃ Q, Q = q4 W k 0 := ⟨_, rfl⟩
      obtain ⟨Q1, hQ1⟩ : ∃ Q, Q = q4 W k 1 := ⟨_, rfl⟩
      obtain ⟨Q2, hQ2⟩ : ∃ Q, Q = q4 W k 2 := ⟨_, rfl⟩
      obtain ⟨Q3, hQ3⟩ : ∃ Q, Q = q4 W k 3 := ⟨_, rfl⟩
      rw [← hXX] at tm x1 QC
      rw [← hYY] at td y1 QC
      rw [← hQ0, ← hQ1, ← hQ2, ← hQ3] at QC
      rw [← hQ0] at q0l
      rw [← hQ1] at q1l
      rw [← hQ2] at q2l
      rw [← hQ3] at q3l
      have HQ0 := Lib.hid hQ0
      have HQ1 := Lib.hid hQ1
      have HQ2 := Lib.hid hQ2
      have HQ3 := Lib.hid hQ3
      have yw : IntKind.i64.wrap (Y : Int) = (Y : Int) := IntWalk.i64_in _ ⟨by omega, by omega⟩
      clear hXX hYY hQ0 hQ1 hQ2 hQ3 hkW
      go_wp2_with (first | (go_at_call 14; (with_reducible refine (split_ok (G k 0) (G k 1) (G k 2) (G k 3) _ KK.out).mono ?_); rintro e w5 ⟨rfl, hb⟩; rw [← sp16_arr]; obtain ⟨hc, hf, hz⟩ := bcall hb; (try simp at hc hf hz)) | (refine wpList_store_new rfl 27 _ _ rfl _ (sp16 (G k 0) (G k 1) (G k 2) (G k 3)) rfl rfl (there_new _) info16 one_of_map ?_; intro wS hcS hfS hzS hBS hRS hKS; simp at hcS hfS hzS))
      have kS : wS.cell? ⟨w.heap.size, 0, none⟩ = some (.int .i64 W) := by simp [go_sem, ↓IntWalk.iteOmega, *]
      have fS : wS.cell? ⟨F, 0, none⟩ = some (.int .i64 (2 * (W : Int))) := by simp [go_sem, ↓IntWalk.iteOmega, *]
      have BS := Lib.hid (show Below wo.heap.size wo wS from by (repeat' (first | (with_reducible exact Below.refl _ _) | (with_reducible refine Below.setCell ?_ (by first | omega | (simp; done) | (simp; omega)) _) | (with_reducible refine Below.alloc ?_ (by first | omega | (simp; done) | (simp; omega)) _) | (with_reducible refine Below.drew ?_) | (with_reducible refine below_drewN ?_ _) | (with_reducible refine Below.trans ?_ (Below.mono (by assumption) (by first | omega | (simp; done) | (simp; omega)))))))
      obtain ⟨PB, hPB⟩ : ∃ PB, PB = w5.heap.size := ⟨_, rfl⟩
      rw [← hPB] at hRS hzS
      rw [← hPB]
      have HRS := Lib.hid hRS
      have lPB : wo.heap.size ≤ PB := by omega
      clear hc hf hz hb hcS hfS hBS hRS hKS hPB
      go_region_held3 (fun w' => w'.cell? ⟨w.heap.size, 0, none⟩ = some (.int .i64 W) ∧ w'.cell? ⟨F, 0, none⟩ = some (.int .i64 (2 * (W : Int)))) (first | (go_split_ands; (try dsimp only); refine ⟨?_, ?_⟩ <;> (first | (with_reducible assumption) | (with_reducible exact keep_cell (by assumption) (by first | omega | (simp; done) | (simp; omega)) (by assumption)) | (with_reducible exact (World.cell?_alloc_past _ _ _ (by show _ < _; omega)).trans (by assumption)) | (with_reducible exact (World.cell?_alloc_past _ _ _ (by show _ < _; omega)).trans ((World.cell?_alloc_past _ _ _ (by show _ < _; omega)).symm.trans (by assumption))) | (simp [go_sem]; with_reducible assumption))) | (simp [go_sem, ↓IntWalk.iteOmega, *]; done)) ((go_at_call 110; (with_reducible refine (QC.out _).mono ?_); rintro e w7 ⟨rfl, hb7⟩; obtain ⟨hc7, hf7, hz7⟩ := bcall hb7; (try simp at hc7 hf7 hz7)))
      have bs := BS.out
      have B7 := Lib.hid (show Below wo.heap.size wo w7 from by (repeat' (first | (with_reducible exact Below.refl _ _) | (with_reducible refine Below.setCell ?_ (by first | omega | (simp; done) | (simp; omega)) _) | (with_reducible refine Below.alloc ?_ (by first | omega | (simp; done) | (simp; omega)) _) | (with_reducible refine Below.drew ?_) | (with_reducible refine below_drewN ?_ _) | (with_reducible refine Below.trans ?_ (Below.mono (by assumption) (by first | omega | (simp; done) | (simp; omega)))))))
      clear bs
      have lo7 := HR.out.1
      have lF := TO.out.lt
      have R7 := Lib.hid (HR.out.below B7.out lo7)
      have T7 := Lib.hid (TO.out.below B7.out lF)
      have G7 := Lib.hid (rangeAt_below (rangeAt_drew' HRS.out) hb7 (by show PB < wS.heap.size; omega))
      have s7 : wS.heap.size ≤ w7.heap.size := hb7.size
      have L0 := Lib.hid (show LR W n o m G w7 k 0 w7 from ⟨K, Ex.refl _ _, R7.out, HD.out⟩)
      clear hc7 hf7 hz7 hb7
      go_wp2
      go_loopw [53, 10, 11] (fun i _ _ wr => ∃ t : Nat, t ≤ 4 ∧ i = .int .i64 t ∧ Hid (LR W n o m G w7 k t wr)) (fun i _ _ _ => 4 - (intOf i).toNat)
      case atStart => exact ⟨0, by omega, rfl, L0⟩
      case round =>
        obtain ⟨t, ht, rfl, L⟩ := hrel
        have xL : Ex (fun z => z = o) w7 wr := by obtain ⟨_, x, _⟩ := L.out; exact x
        have HXL := Lib.hid xL
        have F2 := (T7.out.ex xL (by omega)).c2
        have G8 := Lib.hid (show wr.rangeAt PB 0 (sp16 (G k 0) (G k 1) (G k 2) (G k 3)) from fun j v hv => (xL.cell (by omega) (by omega)).trans (G7.out j v hv))
        clear xL
        obtain ⟨K2, _, rK, dK⟩ := L.out
        have HRK := Lib.hid rK
        have HDK := Lib.hid dK
        clear rK dK
        have ht' : t = 0 ∨ t = 1 ∨ t = 2 ∨ t = 3 ∨ t = 4 := by omega
        rcases ht' with rfl | rfl | rfl | rfl | rfl
        · obtain ⟨a0, a1, a2, a3⟩ := HRK.out.at4 q0l
          obtain ⟨f0, f1, f2, f3⟩ := HRK.out.free4 q0l
          have p2 : (0 : Int) ≤ (Q0 : Int) := by omega
          have p3 : (Q0 : Int) < (m : Int) := by omega
          obtain ⟨g0, g1, g2, g3⟩ := sp16_range G8.out (show 0 < 4 by omega)
          have h0 : wr.cell? ⟨PB, 0, none⟩ = some (.int .i64 (spl (G k 0) 0)) := g0
          have h1 : wr.cell? ⟨PB, 1, none⟩ = some (.int .i64 (spl (G k 1) 0)) := g1
          have h2 : wr.cell? ⟨PB, 2, none⟩ = some (.int .i64 (spl (G k 2) 0)) := g2
          have h3 : wr.cell? ⟨PB, 3, none⟩ = some (.int .i64 (spl (G k 3) 0)) := g3
          clear g0 g1 g2 g3
          go_wp2
          (refine still_tail 7 (by kernel_rfl) (by kernel_rfl) ?_; simp only [List.take_succ_cons, List.take_zero, List.drop_succ_cons, List.drop_zero]; (iterate 7 still_step); refine wpStill_nil ?_)
          go_wp2
          go_roundw
          case rel => exact ⟨1, by omega, by go_num, Lib.hid (L.out.step (by omega) (by omega) (by rw [← HQ0.out]; exact q0l) HQ0.out)⟩
          case measure => simp [intOf]
        · obtain ⟨a0, a1, a2, a3⟩ := HRK.out.at4 q1l
          obtain ⟨f0, f1, f2, f3⟩ := HRK.out.free4 q1l
          have p2 : (0 : Int) ≤ (Q1 : Int) := by omega
          have p3 : (Q1 : Int) < (m : Int) := by omega
          obtain ⟨g0, g1, g2, g3⟩ := sp16_range G8.out (show 1 < 4 by omega)
          have h0 : wr.cell? ⟨PB, 4, none⟩ = some (.int .i64 (spl (G k 0) 1)) := g0
          have h1 : wr.cell? ⟨PB, 5, none⟩ = some (.int .i64 (spl (G k 1) 1)) := g1
          have h2 : wr.cell? ⟨PB, 6, none⟩ = some (.int .i64 (spl (G k 2) 1)) := g2
          have h3 : wr.cell? ⟨PB, 7, none⟩ = some (.int .i64 (spl (G k 3) 1)) := g3
          clear g0 g1 g2 g3
          go_wp2
          (refine still_tail 7 (by kernel_rfl) (by kernel_rfl) ?_; simp only [List.take_succ_cons, List.take_zero, List.drop_succ_cons, List.drop_zero]; (iterate 7 still_step); refine wpStill_nil ?_)
          go_wp2
          go_roundw
          case rel => exact ⟨2, by omega, by go_num, Lib.hid (L.out.step (by omega) (by omega) (by rw [← HQ1.out]; exact q1l) HQ1.out)⟩
          case measure => simp [intOf]
        · obtain ⟨a0, a1, a2, a3⟩ := HRK.out.at4 q2l
          obtain ⟨f0, f1, f2, f3⟩ := HRK.out.free4 q2l
          have p2 : (0 : Int) ≤ (Q2 : Int) := by omega
          have p3 : (Q2 : Int) < (m : Int) := by omega
          obtain ⟨g0, g1, g2, g3⟩ := sp16_range G8.out (show 2 < 4 by omega)
          have h0 : wr.cell? ⟨PB, 8, none⟩ = some (.int .i64 (spl (G k 0) 2)) := g0
          have h1 : wr.cell? ⟨PB, 9, none⟩ = some (.int .i64 (spl (G k 1) 2)) := g1
          have h2 : wr.cell? ⟨PB, 10, none⟩ = some (.int .i64 (spl (G k 2) 2)) := g2
          have h3 : wr.cell? ⟨PB, 11, none⟩ = some (.int .i64 (spl (G k 3) 2)) := g3
          clear g0 g1 g2 g3
          go_wp2
          (refine still_tail 7 (by kernel_rfl) (by kernel_rfl) ?_; simp only [List.take_succ_cons, List.take_zero, List.drop_succ_cons, List.drop_zero]; (iterate 7 still_step); refine wpStill_nil ?_)
          go_wp2
          go_roundw
          case rel => exact ⟨3, by omega, by go_num, Lib.hid (L.out.step (by omega) (by omega) (by rw [← HQ2.out]; exact q2l) HQ2.out)⟩
          case measure => simp [intOf]
        · obtain ⟨a0, a1, a2, a3⟩ := HRK.out.at4 q3l
          obtain ⟨f0, f1, f2, f3⟩ := HRK.out.free4 q3l
          have p2 : (0 : Int) ≤ (Q3 : Int) := by omega
          have p3 : (Q3 : Int) < (m : Int) := by omega
          obtain ⟨g0, g1, g2, g3⟩ := sp16_range G8.out (show 3 < 4 by omega)
          have h0 : wr.cell? ⟨PB, 12, none⟩ = some (.int .i64 (spl (G k 0) 3)) := g0
          have h1 : wr.cell? ⟨PB, 13, none⟩ = some (.int .i64 (spl (G k 1) 3)) := g1
          have h2 : wr.cell? ⟨PB, 14, none⟩ = some (.int .i64 (spl (G k 2) 3)) := g2
          have h3 : wr.cell? ⟨PB, 15, none⟩ = some (.int .i64 (spl (G k 3) 3)) := g3
          clear g0 g1 g2 g3
          go_wp2
          (refine still_tail 7 (by kernel_rfl) (by kernel_rfl) ?_; simp only [List.take_succ_cons, List.take_zero, List.drop_succ_cons, List.drop_zero]; (iterate 7 still_step); refine wpStill_nil ?_)
          go_wp2
          go_roundw
          case rel => exact ⟨4, by omega, by go_num, Lib.hid (L.out.step (by omega) (by omega) (by rw [← HQ3.out]; exact q3l) HQ3.out)⟩
          case measure => simp [intOf]
        · go_wp2
          go_roundw
          case rel => exact ⟨k + 1, by omega, by go_num, Lib.hid ⟨K2, (HX.out.trans (Ex.of_below B7.out)).trans (HXL.out.mono (fun z hz => .inl hz)), HRK.out, HDK.out.next⟩⟩
          case measure => simp [intOf]; omega
    · obtain rfl : k = n := by omega
      obtain ⟨c0, c1, c2⟩ := And.intro TO.out.c0 (And.intro TO.out.c1 TO.out.c2)
      have t2 := T2.out.ex HX.out (by omega)
      obtain ⟨r0, r1, r2⟩ := And.intro t2.c0 (And.intro t2.c1 t2.c2)
      have u0 := t2.free 0
      have u1 := t2.free 1
      have u2 := t2.free 2
      clear t2
      go_wp2
      refine bodyPost_ret (v := .tuple #[.agg #[.int .i64 (2 * (W : Int)), .int .i64 (2 * (H : Int)), .slice (some ⟨o, 0, none⟩) m co], .int .i64 0]) (by simp [results, Try.results44, go_sem, ↓IntWalk.iteOmega, *]) rfl ?_
      exact made_pass (HR.out.eqG (HD.out.all HN.out HM.out)).cellsIn BO.out (by omega) (by omega)
end Go.Proofs.Ytpnfppcmklcinaa
