/- The interface of two phases: kinds, Interface, Kind, by the program. -/
import Derived.Test.YtglkikdjchpmjaaDoorKInter
namespace Go.Proofs.YtglkikdjchpmjaaDoor
set_option linter.unusedSimpArgs false
set_option linter.unusedVariables false
open Go.RowKit

theorem mix_cells (w : World) (t : TypeId) (a b c d : Value) : (w.alloc (.cells #[a, b, c, d] t)).cell? ⟨w.heap.size, 0, none⟩ = some a ∧ (w.alloc (.cells #[a, b, c, d] t)).cell? ⟨w.heap.size, 1, none⟩ = some b ∧ (w.alloc (.cells #[a, b, c, d] t)).cell? ⟨w.heap.size, 2, none⟩ = some c ∧ (w.alloc (.cells #[a, b, c, d] t)).cell? ⟨w.heap.size, 3, none⟩ = some d :=
  ⟨(World.cell?_alloc_at _ _ _ _ rfl).trans rfl, (World.cell?_alloc_at _ _ _ _ rfl).trans rfl, (World.cell?_alloc_at _ _ _ _ rfl).trans rfl, (World.cell?_alloc_at _ _ _ _ rfl).trans rfl⟩

set_option maxRecDepth 100000 in
set_option maxHeartbeats 8000000 in
theorem kinds_in (W H : Int) (n c d b ob b2 o2 : Nat) (A B : Nat → Nat → Int) (w : World) (h1 : 1 ≤ n) (hn : n ≤ 1024) (hA : OkG n A) (hB : OkG n B) (lb : b < w.heap.size) (hC : Grd w b ob n A) (lb2 : b2 < w.heap.size) (hD : Grd w b2 o2 n B) :
    Calls Tryd.prog 89 #[.agg #[.int .i64 W, .int .i64 H, .slice (some ⟨b, ob, none⟩) n c, .slice (some ⟨b2, o2, none⟩) n d]] w fun e w' => ∃ g, e = .returned (.slice (some ⟨g, 0, none⟩) n n) ∧ Hid (NumsAt w' g 0 n (kdG A B) ∧ g < w'.heap.size) ∧ Below w.heap.size w w' := by
  have hmk := fun wx => run_zerosI n (by omega) wx
  have KA := Lib.hid (fun k (hk : k < n) wx (hb : Below w.heap.size w wx) => kindAt_in W H n c n d b ob b2 o2 k A B wx hk hk hn hA hB (Nat.lt_of_lt_of_le lb hb.size) (hC.below hb lb) (Nat.lt_of_lt_of_le lb2 hb.size) (hD.below hb lb2))
  obtain ⟨KK, hKK⟩ : ∃ KK, KK = kdG A B := ⟨_, rfl⟩
  rw [← hKK] at KA ⊢
  clear hA hB hC hD hKK
  go_enter Tryd.func89, Tryd.ntmps89
  go_wp2
  obtain ⟨m0, m1, m2, m3⟩ := mix_cells w 50 (.int .i64 W) (.int .i64 H) (.slice (some ⟨b, ob, none⟩) n c) (.slice (some ⟨b2, o2, none⟩) n d)
  have r0 := rowZ_zeros (w.alloc (.cells #[.int .i64 W, .int .i64 H, .slice (some ⟨b, ob, none⟩) n c, .slice (some ⟨b2, o2, none⟩) n d] 50)) n
  have hb1 : Below w.heap.size w (w.alloc (.cells #[.int .i64 W, .int .i64 H, .slice (some ⟨b, ob, none⟩) n c, .slice (some ⟨b2, o2, none⟩) n d] 50)) := (Below.refl _ _).alloc (Nat.le_refl _) _
  have hs1 : (w.alloc (.cells #[.int .i64 W, .int .i64 H, .slice (some ⟨b, ob, none⟩) n c, .slice (some ⟨b2, o2, none⟩) n d] 50)).heap.size = w.heap.size + 1 := by simp
  obtain ⟨w1, hw1⟩ : ∃ w1, w1 = w.alloc (.cells #[.int .i64 W, .int .i64 H, .slice (some ⟨b, ob, none⟩) n c, .slice (some ⟨b2, o2, none⟩) n d] 50) := ⟨_, rfl⟩
  rw [← hw1] at m0 m1 m2 m3 r0 hb1 hs1 ⊢
  rw [hs1] at r0
  have x2 : Below w1.heap.size w1 (w1.alloc (.cells (zerosI n) 3)) := (Below.refl _ _).alloc (Nat.le_refl _) _
  obtain ⟨w2, hw2⟩ : ∃ w2, w2 = w1.alloc (.cells (zerosI n) 3) := ⟨_, rfl⟩
  have hs2 : w2.heap.size = w.heap.size + 2 := by rw [hw2]; simp [hs1]
  rw [← hw2] at r0 x2 ⊢
  have HX2 := Lib.hid (hb1.trans (x2.mono hb1.size))
  have M0 := Lib.hid (keep_cell x2 (by omega) m0)
  have M1 := Lib.hid (keep_cell x2 (by omega) m1)
  have M2 := Lib.hid (keep_cell x2 (by omega) m2)
  have M3 := Lib.hid (keep_cell x2 (by omega) m3)
  have R0 := Lib.hid r0
  clear m0 m1 m2 m3 r0 hb1 hw1 hw2 x2 hs1
  go_loopw [11] (fun i wr => ∃ (k : Nat) (L : Nat → Int), k ≤ n ∧ i = .int .i64 k ∧ Hid (Ex (fun x => x = w.heap.size + 1) w2 wr ∧ RowZ wr (w.heap.size + 1) n L ∧ ∀ j, j < k → L j = KK j)) (fun i _ => n - (intOf i).toNat)
  case atStart => exact ⟨0, _, Nat.zero_le _, rfl, Lib.hid ⟨Ex.refl _ _, R0.out, fun j hj => by omega⟩⟩
  case round =>
    obtain ⟨k, L, hk, rfl, HH⟩ := hrel
    by_cases hlk : k < n
    · have e0 := (HH.out.1.cell (o := 0) (k := w.heap.size) (by omega) (by omega)).trans M0.out
      have e1 := (HH.out.1.cell (o := 1) (k := w.heap.size) (by omega) (by omega)).trans M1.out
      have e2 := (HH.out.1.cell (o := 2) (k := w.heap.size) (by omega) (by omega)).trans M2.out
      have e3 := (HH.out.1.cell (o := 3) (k := w.heap.size) (by omega) (by omega)).trans M3.out
      obtain ⟨a0, f0⟩ := HH.out.2.1.2 k hlk
      have lg := HH.out.2.1.1
      have hBr := HX2.out.trans (HH.out.1.below HX2.out.size (fun k hk => by omega))
      have HBR := Lib.hid hBr
      have KAk := Lib.hid (fun wx (hb : Below wr.heap.size wr wx) => KA.out k hlk wx (HBR.out.trans (hb.mono HBR.out.size)))
      have lw : w.heap.size < wr.heap.size := by omega
      have p0 : (0 : Int) ≤ (k : Int) := by omega
      have p1 : (k : Int) < (n : Int) := by omega
      obtain ⟨z, hz⟩ : ∃ z, z = KK k := ⟨_, rfl⟩
      rw [← hz] at KAk
      have HZ := Lib.hid hz
      clear hz hBr
      go_wp2_with (go_at_call 91; (with_reducible refine (KAk.out _ (by (repeat' (first | (with_reducible exact Below.refl _ _) | (with_reducible refine Below.setCell ?_ (by first | omega | (simp; done) | (simp; omega)) _) | (with_reducible refine Below.alloc ?_ (by first | omega | (simp; done) | (simp; omega)) _) | (with_reducible refine Below.drew ?_) | (with_reducible refine below_drewN ?_ _) | (with_reducible refine Below.trans ?_ (Below.mono (by assumption) (by first | omega | (simp; done) | (simp; omega)))))))).mono ?_); rintro e w1 ⟨rfl, hb⟩; obtain ⟨hc, hf, hz⟩ := bcall hb; (try simp at hc hf hz))
      have HB := Lib.hid hb
      have lgw := hb.size
      clear hc hf hb e0 e1 e2 e3
      go_roundw
      case rel =>
        refine ⟨k + 1, updZ L k z, by omega, by go_num, Lib.hid ⟨?_, ?_, fun j hj => ?_⟩⟩
        · exact (HH.out.1.trans (Ex.of_below HB.out)).setCell (p := ⟨w.heap.size + 1, k, none⟩) rfl _
        · exact (HH.out.2.1.ex (S := fun _ => False) (Ex.of_below HB.out) (fun h => h)).set hlk z
        · unfold updZ
          by_cases e : j = k
          · rw [if_pos e, e, HZ.out]
          · rw [if_neg e]; exact HH.out.2.2 j (by omega)
      case measure => simp [intOf]; omega
    · obtain rfl : n = k := by omega
      have HBr := Lib.hid (HX2.out.trans (HH.out.1.below HX2.out.size (fun k hk => by omega)))
      go_wp2
      go_ret
      refine ⟨_, rfl, Lib.hid ⟨fun j hj => ?_, HH.out.2.1.1⟩, HBr.out⟩
      rw [Nat.zero_add, (HH.out.2.1.2 j hj).1, HH.out.2.2 j hj]

set_option maxRecDepth 100000 in
set_option maxHeartbeats 4000000 in
theorem kind_in (W H n c d b ob b2 o2 q : Nat) (A B : Nat → Nat → Int) (w : World) (s : Sides W H n) (hq : q < n) (hv : VM W H n A n B) (lb : b < w.heap.size) (hC : Grd w b ob n A) (lb2 : b2 < w.heap.size) (hD : Grd w b2 o2 n B) :
    Calls Tryd.prog 30 #[.agg #[.int .i64 W, .int .i64 H, .slice (some ⟨b, ob, none⟩) n c, .slice (some ⟨b2, o2, none⟩) n d], .agg #[.int .i64 (((q % W : Nat) : Int)), .int .i64 (((q / W : Nat) : Int))]] w fun e w' => e = .returned (.tuple #[.int .i64 (kdG A B q), .int .i64 0]) ∧ Below w.heap.size w w' := by
  have hn := s.n1
  have hw0 := s.w0
  have hw1 := s.w1
  have hh0 := s.h0
  have hh1 := s.h1
  have KA := Lib.hid (fun wx (hb : Below w.heap.size w wx) => kindAt_in W H n c n d b ob b2 o2 q A B wx hq hq hn hv.1.1.2.2 hv.1.2.2.2 (Nat.lt_of_lt_of_le lb hb.size) (hC.below hb lb) (Nat.lt_of_lt_of_le lb2 hb.size) (hD.below hb lb2))
  have VV := Lib.hid (fun wx (hb : Below w.heap.size w wx) => mValid_ok W H (some ⟨b, ob, none⟩) n c A (some ⟨b2, o2, none⟩) n d B wx hv (.inr ⟨b, ob, rfl, Nat.lt_of_lt_of_le lb hb.size, hC.below hb lb⟩) (.inr ⟨b2, o2, rfl, Nat.lt_of_lt_of_le lb2 hb.size, hD.below hb lb2⟩))
  obtain ⟨x, hx⟩ : ∃ x, x = q % W := ⟨_, rfl⟩
  obtain ⟨y, hy⟩ : ∃ y, y = q / W := ⟨_, rfl⟩
  have hxl : x < W := by rw [hx]; exact Nat.mod_lt _ (by omega)
  have hyl : y < H := by
    rw [hy]
    have := s.n0
    exact Nat.div_lt_of_lt_mul (by omega)
  have hxy : (x : Int) + (W : Int) * (y : Int) = (q : Int) := by
    rw [hx, hy]
    have := Nat.mod_add_div q W
    omega
  have q2 : (W : Int) * (y : Int) = (q : Int) - (x : Int) := by omega
  have x3 : x ≤ q := by rw [hx]; exact Nat.mod_le _ _
  have w0 : IntKind.i64.wrap ((W : Int) * (y : Int)) = (W : Int) * (y : Int) := IntWalk.i64_in _ ⟨by omega, by omega⟩
  have w1 : IntKind.i64.wrap ((x : Int) + (W : Int) * (y : Int)) = (q : Int) := by rw [hxy]; exact IntWalk.i64_in _ ⟨by omega, by omega⟩
  obtain ⟨z, hz⟩ : ∃ z, z = kdG A B q := ⟨_, rfl⟩
  rw [← hx, ← hy]
  rw [← hz] at KA ⊢
  clear hx hy hz hxy q2 hv hC hD s x3
  go_enter Tryd.func30, Tryd.ntmps30
  go_wp2_with (first | (go_at_call 88; (with_reducible refine (VV.out _ (by (repeat' (first | (with_reducible exact Below.refl _ _) | (with_reducible refine Below.setCell ?_ (by first | omega | (simp; done) | (simp; omega)) _) | (with_reducible refine Below.alloc ?_ (by first | omega | (simp; done) | (simp; omega)) _) | (with_reducible refine Below.drew ?_) | (with_reducible refine below_drewN ?_ _) | (with_reducible refine Below.trans ?_ (Below.mono (by assumption) (by first | omega | (simp; done) | (simp; omega)))))))).mono ?_); rintro e w1 ⟨rfl, hb⟩; obtain ⟨hc, hf, hz⟩ := bcall hb; (try simp at hc hf hz)) | (go_at_call 91; (with_reducible refine (KA.out _ (by (repeat' (first | (with_reducible exact Below.refl _ _) | (with_reducible refine Below.setCell ?_ (by first | omega | (simp; done) | (simp; omega)) _) | (with_reducible refine Below.alloc ?_ (by first | omega | (simp; done) | (simp; omega)) _) | (with_reducible refine Below.drew ?_) | (with_reducible refine below_drewN ?_ _) | (with_reducible refine Below.trans ?_ (Below.mono (by assumption) (by first | omega | (simp; done) | (simp; omega)))))))).mono ?_); rintro e w1 ⟨rfl, hb⟩; obtain ⟨hc, hf, hz⟩ := bcall hb; (try simp at hc hf hz)))
  go_ret2
  refine ⟨rfl, ?_⟩
  (repeat' (first | (with_reducible exact Below.refl _ _) | (with_reducible refine Below.setCell ?_ (by first | omega | (simp; done) | (simp; omega)) _) | (with_reducible refine Below.alloc ?_ (by first | omega | (simp; done) | (simp; omega)) _) | (with_reducible refine Below.drew ?_) | (with_reducible refine below_drewN ?_ _) | (with_reducible refine Below.trans ?_ (Below.mono (by assumption) (by first | omega | (simp; done) | (simp; omega))))))
end Go.Proofs.YtglkikdjchpmjaaDoor
