/- The law FieldJoins: the walk. -/
import Derived.Test.YtmpfchgampiohaaDoorKFAwkL
import Derived.Deep.RegionHeld3
import Derived.BigQuiet
namespace Go.Proofs.YtmpfchgampiohaaDoor
set_option linter.unusedSimpArgs false
set_option linter.unusedVariables false
open Go.RowKit Go.Shelf
attribute [local go_sem] Oper.semAt_some

section
variable (W H n cap b off ax ay bx yb : Nat) (mid : Int) (G : Nat → Nat → Int) (w : World) (s : Sides W H n) (hO : OkG n G) (lb : b < w.heap.size) (hG : Grd w b off n G) (hn : n ≤ 100) (hM : Mvs w) (h1 : ax ≤ bx) (h2 : bx < W) (h3 : ay ≤ yb) (h4 : yb < H)
include s hO lb hG hn hM h1 h2 h3 h4
set_option maxRecDepth 100000 in
set_option maxHeartbeats 32000000 in
theorem fj_in_lt (hA : (ay : Int) ≤ mid ∧ mid ≤ (yb : Int)) (hB : mid < (ax : Int)) : Calls Tryd.prog 4 #[.agg #[.int .i64 W, .int .i64 H, .slice (some ⟨b, off, none⟩) n cap], .agg #[.int .i64 ((ax : Int)), .int .i64 ((ay : Int))], .agg #[.int .i64 ((bx : Int)), .int .i64 ((yb : Int))], .int .i64 mid] w fun e w' => e = .returned (.bool true) ∧ Below w.heap.size w w' := by
  have HM := Lib.hid hM
  have BG := Lib.hid (fun wx => fbig_small W H (some ⟨b, off, none⟩) n cap wx hn)
  have CI := Lib.hid (fun ax ay bx yb (h1 : ax ≤ bx) (h2 : bx < W) (h3 : ay ≤ yb) (h4 : yb < H) wx (hb : Below w.heap.size w wx) => fCirc_ok W H n cap b off G ax ay bx yb wx s hO (Nat.lt_of_lt_of_le lb hb.size) (hG.below hb lb) h1 h2 h3 h4)
  have MO := Lib.hid (fun x y (hx : x < W) (hy : y < H) wx (hb : Below w.heap.size w wx) => fmom_in W H n cap b off x y G wx s hO (Nat.lt_of_lt_of_le lb hb.size) (hG.below hb lb) hx hy)
  have EA := Lib.hid (fun x y (hx : x < W) (hy : y < H) wx (hb : Below w.heap.size w wx) => feas_in W H n cap b off x y G wx s hO (Nat.lt_of_lt_of_le lb hb.size) (hG.below hb lb) hx hy)
  have BD := Lib.hid (fun ax ay bx yb (h1 : ax ≤ bx) (h2 : bx < W) (h3 : ay ≤ yb) (h4 : yb < H) => cirS_bd (tells_bd hO) s ax ay bx yb h1 h2 h3 h4)
  have BN := Lib.hid (fun x y (hx : x < W) (hy : y < H) => (tells_bd hO).2.2 (x + W * y) (by rw [s.n0]; exact xy_lt2 hx hy))
  have BE := Lib.hid (fun x y (hx : x < W) (hy : y < H) => (tells_bd hO).2.1 (x + W * y) (by rw [s.n0]; exact xy_lt2 hx hy))
  have C0 := Lib.hid (CI.out ax ay bx yb h1 h2 h3 h4)
  obtain ⟨z, hz⟩ : ∃ z, z = cirS G W ax ay bx yb := ⟨_, rfl⟩
  rw [← hz] at C0
  have HZ := Lib.hid hz
  clear hz
  have d1 : decide ((ay : Int) ≤ mid) = true := by simp; omega
  have d2 : decide (mid ≤ (yb : Int)) = true := by simp; omega
  have d3 : decide (mid < (ax : Int)) = true := by simp; omega
  have p1 : (ay : Int) ≤ mid := by omega
  have p2 : mid ≤ (yb : Int) := by omega
  have p3 : mid < (ax : Int) := by omega
  obtain ⟨m, hm⟩ : ∃ m : Nat, mid = (m : Int) := ⟨mid.toNat, by omega⟩
  have R1 := Lib.hid (CI.out ax ay bx m h1 h2 (by omega) (by omega))
  have R2 := Lib.hid (CI.out ax m bx yb h1 h2 (by omega) h4)
  have R3 := Lib.hid (MO.out bx m h2 (by omega))
  have R4 := Lib.hid (MO.out ax m (by omega) (by omega))
  have E1 := cir_rows G W ax ay bx yb m (by omega) (by omega)
  have b1 := BD.out ax ay bx m h1 h2 (by omega) (by omega)
  have b2 := BD.out ax m bx yb h1 h2 (by omega) h4
  have b3 := BN.out bx m h2 (by omega)
  have b4 := BN.out ax m (by omega) (by omega)
  obtain ⟨a1, ha1⟩ : ∃ z, z = cirS G W ax ay bx m := ⟨_, rfl⟩
  obtain ⟨a2, ha2⟩ : ∃ z, z = cirS G W ax m bx yb := ⟨_, rfl⟩
  obtain ⟨a3, ha3⟩ : ∃ z, z = noC G (bx + W * m) := ⟨_, rfl⟩
  obtain ⟨a4, ha4⟩ : ∃ z, z = noC G (ax + W * m) := ⟨_, rfl⟩
  rw [← ha1] at R1 E1 b1
  rw [← ha2] at R2 E1 b2
  rw [← ha3] at R3 E1 b3
  rw [← ha4] at R4 E1 b4
  rw [← HZ.out] at E1
  rw [← hm] at R1 R2 R3 R4
  obtain ⟨s1, hs1⟩ : ∃ t, t = a1 + a2 := ⟨_, rfl⟩
  obtain ⟨s2, hs2⟩ : ∃ t, t = s1 - a3 := ⟨_, rfl⟩
  have x1 : IntKind.i64.wrap (a1 + a2) = s1 := by rw [hs1]; exact IntWalk.i64_in _ ⟨by omega, by omega⟩
  have x2 : IntKind.i64.wrap (s1 - a3) = s2 := by rw [hs2]; exact IntWalk.i64_in _ ⟨by omega, by omega⟩
  have x3 : IntKind.i64.wrap (s2 + a4) = z := by rw [show s2 + a4 = z by omega]; exact IntWalk.i64_in _ ⟨by omega, by omega⟩
  clear hm ha1 ha2 ha3 ha4 hs1 hs2 E1 b1 b2 b3 b4 CI MO EA BD BN BE HZ hM hG hO s h1 h2 h3 h4 hn hA hB lb
  go_enter Tryd.func4, Tryd.ntmps4
  go_wp2_with (first | (go_at_call 17; (with_reducible refine (awake08_any _ (HM.out.below (by (repeat' (first | (with_reducible exact Below.refl _ _) | (with_reducible refine Below.setCell ?_ (by first | omega | (simp; done) | (simp; omega)) _) | (with_reducible refine Below.alloc ?_ (by first | omega | (simp; done) | (simp; omega)) _) | (with_reducible refine Below.drew ?_) | (with_reducible refine below_drewN ?_ _) | (with_reducible refine Below.trans ?_ (Below.mono (by assumption) (by first | omega | (simp; done) | (simp; omega))))))))).mono ?_); rintro e w1 ⟨rfl, hb⟩; obtain ⟨hc, hf, hz⟩ := bcall hb; (try simp at hc hf hz)) | (go_at_call 18; (with_reducible refine (BG.out _).mono ?_); rintro e w1 ⟨rfl, hb⟩; obtain ⟨hc, hf, hz⟩ := bcall hb; (try simp at hc hf hz)) | (go_at_call 19; (with_reducible refine (C0.out _ (by (repeat' (first | (with_reducible exact Below.refl _ _) | (with_reducible refine Below.setCell ?_ (by first | omega | (simp; done) | (simp; omega)) _) | (with_reducible refine Below.alloc ?_ (by first | omega | (simp; done) | (simp; omega)) _) | (with_reducible refine Below.drew ?_) | (with_reducible refine below_drewN ?_ _) | (with_reducible refine Below.trans ?_ (Below.mono (by assumption) (by first | omega | (simp; done) | (simp; omega)))))))).mono ?_); rintro e w1 ⟨rfl, hb⟩; obtain ⟨hc, hf, hz⟩ := bcall hb; (try simp at hc hf hz)) | (go_at_call 19; (with_reducible refine (R1.out _ (by (repeat' (first | (with_reducible exact Below.refl _ _) | (with_reducible refine Below.setCell ?_ (by first | omega | (simp; done) | (simp; omega)) _) | (with_reducible refine Below.alloc ?_ (by first | omega | (simp; done) | (simp; omega)) _) | (with_reducible refine Below.drew ?_) | (with_reducible refine below_drewN ?_ _) | (with_reducible refine Below.trans ?_ (Below.mono (by assumption) (by first | omega | (simp; done) | (simp; omega)))))))).mono ?_); rintro e w1 ⟨rfl, hb⟩; obtain ⟨hc, hf, hz⟩ := bcall hb; (try simp at hc hf hz)) | (go_at_call 19; (with_reducible refine (R2.out _ (by (repeat' (first | (with_reducible exact Below.refl _ _) | (with_reducible refine Below.setCell ?_ (by first | omega | (simp; done) | (simp; omega)) _) | (with_reducible refine Below.alloc ?_ (by first | omega | (simp; done) | (simp; omega)) _) | (with_reducible refine Below.drew ?_) | (with_reducible refine below_drewN ?_ _) | (with_reducible refine Below.trans ?_ (Below.mono (by assumption) (by first | omega | (simp; done) | (simp; omega)))))))).mono ?_); rintro e w1 ⟨rfl, hb⟩; obtain ⟨hc, hf, hz⟩ := bcall hb; (try simp at hc hf hz)))
  go_region_held3 (fun w' => w'.cell? ⟨w.heap.size, 0, none⟩ = some (.int .i64 W) ∧ w'.cell? ⟨w.heap.size, 1, none⟩ = some (.int .i64 H) ∧ w'.cell? ⟨w.heap.size, 2, none⟩ = some (.slice (some ⟨b, off, none⟩) n cap) ∧ w'.cell? ⟨w.heap.size + 1, 0, none⟩ = some (.int .i64 ((ax : Int))) ∧ w'.cell? ⟨w.heap.size + 1, 1, none⟩ = some (.int .i64 ((ay : Int))) ∧ w'.cell? ⟨w.heap.size + 1 + 1, 0, none⟩ = some (.int .i64 ((bx : Int))) ∧ w'.cell? ⟨w.heap.size + 1 + 1, 1, none⟩ = some (.int .i64 ((yb : Int)))) (first | (go_split_ands; (try dsimp only); refine ⟨?_, ?_, ?_, ?_, ?_, ?_, ?_⟩ <;> (first | (with_reducible assumption) | (with_reducible exact keep_cell (by assumption) (by first | omega | (simp; done) | (simp; omega)) (by assumption)) | (with_reducible exact (World.cell?_alloc_past _ _ _ (by show _ < _; omega)).trans (by assumption)) | (with_reducible exact (World.cell?_alloc_past _ _ _ (by show _ < _; omega)).trans ((World.cell?_alloc_past _ _ _ (by show _ < _; omega)).symm.trans (by assumption))) | (simp [go_sem]; with_reducible assumption))) | (simp [go_sem, ↓IntWalk.iteOmega, *]; done)) ((first | (go_at_call 20; (with_reducible refine (R3.out _ (by (repeat' (first | (with_reducible exact Below.refl _ _) | (with_reducible refine Below.setCell ?_ (by first | omega | (simp; done) | (simp; omega)) _) | (with_reducible refine Below.alloc ?_ (by first | omega | (simp; done) | (simp; omega)) _) | (with_reducible refine Below.drew ?_) | (with_reducible refine below_drewN ?_ _) | (with_reducible refine Below.trans ?_ (Below.mono (by assumption) (by first | omega | (simp; done) | (simp; omega)))))))).mono ?_); rintro e w1 ⟨rfl, hb⟩; obtain ⟨hc, hf, hz⟩ := bcall hb; (try simp at hc hf hz)) | (go_at_call 20; (with_reducible refine (R4.out _ (by (repeat' (first | (with_reducible exact Below.refl _ _) | (with_reducible refine Below.setCell ?_ (by first | omega | (simp; done) | (simp; omega)) _) | (with_reducible refine Below.alloc ?_ (by first | omega | (simp; done) | (simp; omega)) _) | (with_reducible refine Below.drew ?_) | (with_reducible refine below_drewN ?_ _) | (with_reducible refine Below.trans ?_ (Below.mono (by assumption) (by first | omega | (simp; done) | (simp; omega)))))))).mono ?_); rintro e w1 ⟨rfl, hb⟩; obtain ⟨hc, hf, hz⟩ := bcall hb; (try simp at hc hf hz))))
  all_goals (rename_i hX; clear hX)
  all_goals
    go_wp2_with (first | (go_at_call 17; (with_reducible refine (awake08_any _ (HM.out.below (by (repeat' (first | (with_reducible exact Below.refl _ _) | (with_reducible refine Below.setCell ?_ (by first | omega | (simp; done) | (simp; omega)) _) | (with_reducible refine Below.alloc ?_ (by first | omega | (simp; done) | (simp; omega)) _) | (with_reducible refine Below.drew ?_) | (with_reducible refine below_drewN ?_ _) | (with_reducible refine Below.trans ?_ (Below.mono (by assumption) (by first | omega | (simp; done) | (simp; omega))))))))).mono ?_); rintro e w1 ⟨rfl, hb⟩; obtain ⟨hc, hf, hz⟩ := bcall hb; (try simp at hc hf hz)) | (go_at_call 18; (with_reducible refine (BG.out _).mono ?_); rintro e w1 ⟨rfl, hb⟩; obtain ⟨hc, hf, hz⟩ := bcall hb; (try simp at hc hf hz)) | (go_at_call 19; (with_reducible refine (C0.out _ (by (repeat' (first | (with_reducible exact Below.refl _ _) | (with_reducible refine Below.setCell ?_ (by first | omega | (simp; done) | (simp; omega)) _) | (with_reducible refine Below.alloc ?_ (by first | omega | (simp; done) | (simp; omega)) _) | (with_reducible refine Below.drew ?_) | (with_reducible refine below_drewN ?_ _) | (with_reducible refine Below.trans ?_ (Below.mono (by assumption) (by first | omega | (simp; done) | (simp; omega)))))))).mono ?_); rintro e w1 ⟨rfl, hb⟩; obtain ⟨hc, hf, hz⟩ := bcall hb; (try simp at hc hf hz)) | (go_at_call 19; (with_reducible refine (R1.out _ (by (repeat' (first | (with_reducible exact Below.refl _ _) | (with_reducible refine Below.setCell ?_ (by first | omega | (simp; done) | (simp; omega)) _) | (with_reducible refine Below.alloc ?_ (by first | omega | (simp; done) | (simp; omega)) _) | (with_reducible refine Below.drew ?_) | (with_reducible refine below_drewN ?_ _) | (with_reducible refine Below.trans ?_ (Below.mono (by assumption) (by first | omega | (simp; done) | (simp; omega)))))))).mono ?_); rintro e w1 ⟨rfl, hb⟩; obtain ⟨hc, hf, hz⟩ := bcall hb; (try simp at hc hf hz)) | (go_at_call 19; (with_reducible refine (R2.out _ (by (repeat' (first | (with_reducible exact Below.refl _ _) | (with_reducible refine Below.setCell ?_ (by first | omega | (simp; done) | (simp; omega)) _) | (with_reducible refine Below.alloc ?_ (by first | omega | (simp; done) | (simp; omega)) _) | (with_reducible refine Below.drew ?_) | (with_reducible refine below_drewN ?_ _) | (with_reducible refine Below.trans ?_ (Below.mono (by assumption) (by first | omega | (simp; done) | (simp; omega)))))))).mono ?_); rintro e w1 ⟨rfl, hb⟩; obtain ⟨hc, hf, hz⟩ := bcall hb; (try simp at hc hf hz)))
    go_ret
    refine ⟨by simp, ?_⟩
    (repeat' (first | (with_reducible exact Below.refl _ _) | (with_reducible refine Below.setCell ?_ (by first | omega | (simp; done) | (simp; omega)) _) | (with_reducible refine Below.alloc ?_ (by first | omega | (simp; done) | (simp; omega)) _) | (with_reducible refine Below.drew ?_) | (with_reducible refine below_drewN ?_ _) | (with_reducible refine Below.trans ?_ (Below.mono (by assumption) (by first | omega | (simp; done) | (simp; omega))))))
set_option maxRecDepth 100000 in
set_option maxHeartbeats 32000000 in
theorem fj_in_gt (hA : (ay : Int) ≤ mid ∧ mid ≤ (yb : Int)) (hB : (bx : Int) < mid) : Calls Tryd.prog 4 #[.agg #[.int .i64 W, .int .i64 H, .slice (some ⟨b, off, none⟩) n cap], .agg #[.int .i64 ((ax : Int)), .int .i64 ((ay : Int))], .agg #[.int .i64 ((bx : Int)), .int .i64 ((yb : Int))], .int .i64 mid] w fun e w' => e = .returned (.bool true) ∧ Below w.heap.size w w' := by
  have HM := Lib.hid hM
  have BG := Lib.hid (fun wx => fbig_small W H (some ⟨b, off, none⟩) n cap wx hn)
  have CI := Lib.hid (fun ax ay bx yb (h1 : ax ≤ bx) (h2 : bx < W) (h3 : ay ≤ yb) (h4 : yb < H) wx (hb : Below w.heap.size w wx) => fCirc_ok W H n cap b off G ax ay bx yb wx s hO (Nat.lt_of_lt_of_le lb hb.size) (hG.below hb lb) h1 h2 h3 h4)
  have MO := Lib.hid (fun x y (hx : x < W) (hy : y < H) wx (hb : Below w.heap.size w wx) => fmom_in W H n cap b off x y G wx s hO (Nat.lt_of_lt_of_le lb hb.size) (hG.below hb lb) hx hy)
  have EA := Lib.hid (fun x y (hx : x < W) (hy : y < H) wx (hb : Below w.heap.size w wx) => feas_in W H n cap b off x y G wx s hO (Nat.lt_of_lt_of_le lb hb.size) (hG.below hb lb) hx hy)
  have BD := Lib.hid (fun ax ay bx yb (h1 : ax ≤ bx) (h2 : bx < W) (h3 : ay ≤ yb) (h4 : yb < H) => cirS_bd (tells_bd hO) s ax ay bx yb h1 h2 h3 h4)
  have BN := Lib.hid (fun x y (hx : x < W) (hy : y < H) => (tells_bd hO).2.2 (x + W * y) (by rw [s.n0]; exact xy_lt2 hx hy))
  have BE := Lib.hid (fun x y (hx : x < W) (hy : y < H) => (tells_bd hO).2.1 (x + W * y) (by rw [s.n0]; exact xy_lt2 hx hy))
  have C0 := Lib.hid (CI.out ax ay bx yb h1 h2 h3 h4)
  obtain ⟨z, hz⟩ : ∃ z, z = cirS G W ax ay bx yb := ⟨_, rfl⟩
  rw [← hz] at C0
  have HZ := Lib.hid hz
  clear hz
  have d1 : decide ((ay : Int) ≤ mid) = true := by simp; omega
  have d2 : decide (mid ≤ (yb : Int)) = true := by simp; omega
  have d3 : decide (mid < (ax : Int)) = false := by simp; omega
  have d4 : decide ((bx : Int) < mid) = true := by simp; omega
  have p1 : (ay : Int) ≤ mid := by omega
  have p2 : mid ≤ (yb : Int) := by omega
  have p3 : (ax : Int) ≤ mid := by omega
  have p4 : (bx : Int) < mid := by omega
  obtain ⟨m, hm⟩ : ∃ m : Nat, mid = (m : Int) := ⟨mid.toNat, by omega⟩
  have R1 := Lib.hid (CI.out ax ay bx m h1 h2 (by omega) (by omega))
  have R2 := Lib.hid (CI.out ax m bx yb h1 h2 (by omega) h4)
  have R3 := Lib.hid (MO.out bx m h2 (by omega))
  have R4 := Lib.hid (MO.out ax m (by omega) (by omega))
  have E1 := cir_rows G W ax ay bx yb m (by omega) (by omega)
  have b1 := BD.out ax ay bx m h1 h2 (by omega) (by omega)
  have b2 := BD.out ax m bx yb h1 h2 (by omega) h4
  have b3 := BN.out bx m h2 (by omega)
  have b4 := BN.out ax m (by omega) (by omega)
  obtain ⟨a1, ha1⟩ : ∃ z, z = cirS G W ax ay bx m := ⟨_, rfl⟩
  obtain ⟨a2, ha2⟩ : ∃ z, z = cirS G W ax m bx yb := ⟨_, rfl⟩
  obtain ⟨a3, ha3⟩ : ∃ z, z = noC G (bx + W * m) := ⟨_, rfl⟩
  obtain ⟨a4, ha4⟩ : ∃ z, z = noC G (ax + W * m) := ⟨_, rfl⟩
  rw [← ha1] at R1 E1 b1
  rw [← ha2] at R2 E1 b2
  rw [← ha3] at R3 E1 b3
  rw [← ha4] at R4 E1 b4
  rw [← HZ.out] at E1
  rw [← hm] at R1 R2 R3 R4
  obtain ⟨s1, hs1⟩ : ∃ t, t = a1 + a2 := ⟨_, rfl⟩
  obtain ⟨s2, hs2⟩ : ∃ t, t = s1 - a3 := ⟨_, rfl⟩
  have x1 : IntKind.i64.wrap (a1 + a2) = s1 := by rw [hs1]; exact IntWalk.i64_in _ ⟨by omega, by omega⟩
  have x2 : IntKind.i64.wrap (s1 - a3) = s2 := by rw [hs2]; exact IntWalk.i64_in _ ⟨by omega, by omega⟩
  have x3 : IntKind.i64.wrap (s2 + a4) = z := by rw [show s2 + a4 = z by omega]; exact IntWalk.i64_in _ ⟨by omega, by omega⟩
  clear hm ha1 ha2 ha3 ha4 hs1 hs2 E1 b1 b2 b3 b4 CI MO EA BD BN BE HZ hM hG hO s h1 h2 h3 h4 hn hA hB lb
  go_enter Tryd.func4, Tryd.ntmps4
  go_wp2_with (first | (go_at_call 17; (with_reducible refine (awake08_any _ (HM.out.below (by (repeat' (first | (with_reducible exact Below.refl _ _) | (with_reducible refine Below.setCell ?_ (by first | omega | (simp; done) | (simp; omega)) _) | (with_reducible refine Below.alloc ?_ (by first | omega | (simp; done) | (simp; omega)) _) | (with_reducible refine Below.drew ?_) | (with_reducible refine below_drewN ?_ _) | (with_reducible refine Below.trans ?_ (Below.mono (by assumption) (by first | omega | (simp; done) | (simp; omega))))))))).mono ?_); rintro e w1 ⟨rfl, hb⟩; obtain ⟨hc, hf, hz⟩ := bcall hb; (try simp at hc hf hz)) | (go_at_call 18; (with_reducible refine (BG.out _).mono ?_); rintro e w1 ⟨rfl, hb⟩; obtain ⟨hc, hf, hz⟩ := bcall hb; (try simp at hc hf hz)) | (go_at_call 19; (with_reducible refine (C0.out _ (by (repeat' (first | (with_reducible exact Below.refl _ _) | (with_reducible refine Below.setCell ?_ (by first | omega | (simp; done) | (simp; omega)) _) | (with_reducible refine Below.alloc ?_ (by first | omega | (simp; done) | (simp; omega)) _) | (with_reducible refine Below.drew ?_) | (with_reducible refine below_drewN ?_ _) | (with_reducible refine Below.trans ?_ (Below.mono (by assumption) (by first | omega | (simp; done) | (simp; omega)))))))).mono ?_); rintro e w1 ⟨rfl, hb⟩; obtain ⟨hc, hf, hz⟩ := bcall hb; (try simp at hc hf hz)) | (go_at_call 19; (with_reducible refine (R1.out _ (by (repeat' (first | (with_reducible exact Below.refl _ _) | (with_reducible refine Below.setCell ?_ (by first | omega | (simp; done) | (simp; omega)) _) | (with_reducible refine Below.alloc ?_ (by first | omega | (simp; done) | (simp; omega)) _) | (with_reducible refine Below.drew ?_) | (with_reducible refine below_drewN ?_ _) | (with_reducible refine Below.trans ?_ (Below.mono (by assumption) (by first | omega | (simp; done) | (simp; omega)))))))).mono ?_); rintro e w1 ⟨rfl, hb⟩; obtain ⟨hc, hf, hz⟩ := bcall hb; (try simp at hc hf hz)) | (go_at_call 19; (with_reducible refine (R2.out _ (by (repeat' (first | (with_reducible exact Below.refl _ _) | (with_reducible refine Below.setCell ?_ (by first | omega | (simp; done) | (simp; omega)) _) | (with_reducible refine Below.alloc ?_ (by first | omega | (simp; done) | (simp; omega)) _) | (with_reducible refine Below.drew ?_) | (with_reducible refine below_drewN ?_ _) | (with_reducible refine Below.trans ?_ (Below.mono (by assumption) (by first | omega | (simp; done) | (simp; omega)))))))).mono ?_); rintro e w1 ⟨rfl, hb⟩; obtain ⟨hc, hf, hz⟩ := bcall hb; (try simp at hc hf hz)))
  go_region_held3 (fun w' => w'.cell? ⟨w.heap.size, 0, none⟩ = some (.int .i64 W) ∧ w'.cell? ⟨w.heap.size, 1, none⟩ = some (.int .i64 H) ∧ w'.cell? ⟨w.heap.size, 2, none⟩ = some (.slice (some ⟨b, off, none⟩) n cap) ∧ w'.cell? ⟨w.heap.size + 1, 0, none⟩ = some (.int .i64 ((ax : Int))) ∧ w'.cell? ⟨w.heap.size + 1, 1, none⟩ = some (.int .i64 ((ay : Int))) ∧ w'.cell? ⟨w.heap.size + 1 + 1, 0, none⟩ = some (.int .i64 ((bx : Int))) ∧ w'.cell? ⟨w.heap.size + 1 + 1, 1, none⟩ = some (.int .i64 ((yb : Int)))) (first | (go_split_ands; (try dsimp only); refine ⟨?_, ?_, ?_, ?_, ?_, ?_, ?_⟩ <;> (first | (with_reducible assumption) | (with_reducible exact keep_cell (by assumption) (by first | omega | (simp; done) | (simp; omega)) (by assumption)) | (with_reducible exact (World.cell?_alloc_past _ _ _ (by show _ < _; omega)).trans (by assumption)) | (with_reducible exact (World.cell?_alloc_past _ _ _ (by show _ < _; omega)).trans ((World.cell?_alloc_past _ _ _ (by show _ < _; omega)).symm.trans (by assumption))) | (simp [go_sem]; with_reducible assumption))) | (simp [go_sem, ↓IntWalk.iteOmega, *]; done)) ((first | (go_at_call 20; (with_reducible refine (R3.out _ (by (repeat' (first | (with_reducible exact Below.refl _ _) | (with_reducible refine Below.setCell ?_ (by first | omega | (simp; done) | (simp; omega)) _) | (with_reducible refine Below.alloc ?_ (by first | omega | (simp; done) | (simp; omega)) _) | (with_reducible refine Below.drew ?_) | (with_reducible refine below_drewN ?_ _) | (with_reducible refine Below.trans ?_ (Below.mono (by assumption) (by first | omega | (simp; done) | (simp; omega)))))))).mono ?_); rintro e w1 ⟨rfl, hb⟩; obtain ⟨hc, hf, hz⟩ := bcall hb; (try simp at hc hf hz)) | (go_at_call 20; (with_reducible refine (R4.out _ (by (repeat' (first | (with_reducible exact Below.refl _ _) | (with_reducible refine Below.setCell ?_ (by first | omega | (simp; done) | (simp; omega)) _) | (with_reducible refine Below.alloc ?_ (by first | omega | (simp; done) | (simp; omega)) _) | (with_reducible refine Below.drew ?_) | (with_reducible refine below_drewN ?_ _) | (with_reducible refine Below.trans ?_ (Below.mono (by assumption) (by first | omega | (simp; done) | (simp; omega)))))))).mono ?_); rintro e w1 ⟨rfl, hb⟩; obtain ⟨hc, hf, hz⟩ := bcall hb; (try simp at hc hf hz))))
  all_goals (rename_i hX; clear hX)
  all_goals
    go_wp2_with (first | (go_at_call 17; (with_reducible refine (awake08_any _ (HM.out.below (by (repeat' (first | (with_reducible exact Below.refl _ _) | (with_reducible refine Below.setCell ?_ (by first | omega | (simp; done) | (simp; omega)) _) | (with_reducible refine Below.alloc ?_ (by first | omega | (simp; done) | (simp; omega)) _) | (with_reducible refine Below.drew ?_) | (with_reducible refine below_drewN ?_ _) | (with_reducible refine Below.trans ?_ (Below.mono (by assumption) (by first | omega | (simp; done) | (simp; omega))))))))).mono ?_); rintro e w1 ⟨rfl, hb⟩; obtain ⟨hc, hf, hz⟩ := bcall hb; (try simp at hc hf hz)) | (go_at_call 18; (with_reducible refine (BG.out _).mono ?_); rintro e w1 ⟨rfl, hb⟩; obtain ⟨hc, hf, hz⟩ := bcall hb; (try simp at hc hf hz)) | (go_at_call 19; (with_reducible refine (C0.out _ (by (repeat' (first | (with_reducible exact Below.refl _ _) | (with_reducible refine Below.setCell ?_ (by first | omega | (simp; done) | (simp; omega)) _) | (with_reducible refine Below.alloc ?_ (by first | omega | (simp; done) | (simp; omega)) _) | (with_reducible refine Below.drew ?_) | (with_reducible refine below_drewN ?_ _) | (with_reducible refine Below.trans ?_ (Below.mono (by assumption) (by first | omega | (simp; done) | (simp; omega)))))))).mono ?_); rintro e w1 ⟨rfl, hb⟩; obtain ⟨hc, hf, hz⟩ := bcall hb; (try simp at hc hf hz)) | (go_at_call 19; (with_reducible refine (R1.out _ (by (repeat' (first | (with_reducible exact Below.refl _ _) | (with_reducible refine Below.setCell ?_ (by first | omega | (simp; done) | (simp; omega)) _) | (with_reducible refine Below.alloc ?_ (by first | omega | (simp; done) | (simp; omega)) _) | (with_reducible refine Below.drew ?_) | (with_reducible refine below_drewN ?_ _) | (with_reducible refine Below.trans ?_ (Below.mono (by assumption) (by first | omega | (simp; done) | (simp; omega)))))))).mono ?_); rintro e w1 ⟨rfl, hb⟩; obtain ⟨hc, hf, hz⟩ := bcall hb; (try simp at hc hf hz)) | (go_at_call 19; (with_reducible refine (R2.out _ (by (repeat' (first | (with_reducible exact Below.refl _ _) | (with_reducible refine Below.setCell ?_ (by first | omega | (simp; done) | (simp; omega)) _) | (with_reducible refine Below.alloc ?_ (by first | omega | (simp; done) | (simp; omega)) _) | (with_reducible refine Below.drew ?_) | (with_reducible refine below_drewN ?_ _) | (with_reducible refine Below.trans ?_ (Below.mono (by assumption) (by first | omega | (simp; done) | (simp; omega)))))))).mono ?_); rintro e w1 ⟨rfl, hb⟩; obtain ⟨hc, hf, hz⟩ := bcall hb; (try simp at hc hf hz)))
    go_ret
    refine ⟨by simp, ?_⟩
    (repeat' (first | (with_reducible exact Below.refl _ _) | (with_reducible refine Below.setCell ?_ (by first | omega | (simp; done) | (simp; omega)) _) | (with_reducible refine Below.alloc ?_ (by first | omega | (simp; done) | (simp; omega)) _) | (with_reducible refine Below.drew ?_) | (with_reducible refine below_drewN ?_ _) | (with_reducible refine Below.trans ?_ (Below.mono (by assumption) (by first | omega | (simp; done) | (simp; omega))))))
set_option maxRecDepth 100000 in
set_option maxHeartbeats 32000000 in
theorem fj_in_in (hA : (ay : Int) ≤ mid ∧ mid ≤ (yb : Int)) (hB : (ax : Int) ≤ mid ∧ mid ≤ (bx : Int)) : Calls Tryd.prog 4 #[.agg #[.int .i64 W, .int .i64 H, .slice (some ⟨b, off, none⟩) n cap], .agg #[.int .i64 ((ax : Int)), .int .i64 ((ay : Int))], .agg #[.int .i64 ((bx : Int)), .int .i64 ((yb : Int))], .int .i64 mid] w fun e w' => e = .returned (.bool true) ∧ Below w.heap.size w w' := by
  have HM := Lib.hid hM
  have BG := Lib.hid (fun wx => fbig_small W H (some ⟨b, off, none⟩) n cap wx hn)
  have CI := Lib.hid (fun ax ay bx yb (h1 : ax ≤ bx) (h2 : bx < W) (h3 : ay ≤ yb) (h4 : yb < H) wx (hb : Below w.heap.size w wx) => fCirc_ok W H n cap b off G ax ay bx yb wx s hO (Nat.lt_of_lt_of_le lb hb.size) (hG.below hb lb) h1 h2 h3 h4)
  have MO := Lib.hid (fun x y (hx : x < W) (hy : y < H) wx (hb : Below w.heap.size w wx) => fmom_in W H n cap b off x y G wx s hO (Nat.lt_of_lt_of_le lb hb.size) (hG.below hb lb) hx hy)
  have EA := Lib.hid (fun x y (hx : x < W) (hy : y < H) wx (hb : Below w.heap.size w wx) => feas_in W H n cap b off x y G wx s hO (Nat.lt_of_lt_of_le lb hb.size) (hG.below hb lb) hx hy)
  have BD := Lib.hid (fun ax ay bx yb (h1 : ax ≤ bx) (h2 : bx < W) (h3 : ay ≤ yb) (h4 : yb < H) => cirS_bd (tells_bd hO) s ax ay bx yb h1 h2 h3 h4)
  have BN := Lib.hid (fun x y (hx : x < W) (hy : y < H) => (tells_bd hO).2.2 (x + W * y) (by rw [s.n0]; exact xy_lt2 hx hy))
  have BE := Lib.hid (fun x y (hx : x < W) (hy : y < H) => (tells_bd hO).2.1 (x + W * y) (by rw [s.n0]; exact xy_lt2 hx hy))
  have C0 := Lib.hid (CI.out ax ay bx yb h1 h2 h3 h4)
  obtain ⟨z, hz⟩ : ∃ z, z = cirS G W ax ay bx yb := ⟨_, rfl⟩
  rw [← hz] at C0
  have HZ := Lib.hid hz
  clear hz
  have d1 : decide ((ay : Int) ≤ mid) = true := by simp; omega
  have d2 : decide (mid ≤ (yb : Int)) = true := by simp; omega
  have d3 : decide (mid < (ax : Int)) = false := by simp; omega
  have d4 : decide ((bx : Int) < mid) = false := by simp; omega
  have p1 : (ay : Int) ≤ mid := by omega
  have p2 : mid ≤ (yb : Int) := by omega
  have p3 : (ax : Int) ≤ mid := by omega
  have p4 : mid ≤ (bx : Int) := by omega
  obtain ⟨m, hm⟩ : ∃ m : Nat, mid = (m : Int) := ⟨mid.toNat, by omega⟩
  have R1 := Lib.hid (CI.out ax ay bx m h1 h2 (by omega) (by omega))
  have R2 := Lib.hid (CI.out ax m bx yb h1 h2 (by omega) h4)
  have R3 := Lib.hid (MO.out bx m h2 (by omega))
  have R4 := Lib.hid (MO.out ax m (by omega) (by omega))
  have E1 := cir_rows G W ax ay bx yb m (by omega) (by omega)
  have b1 := BD.out ax ay bx m h1 h2 (by omega) (by omega)
  have b2 := BD.out ax m bx yb h1 h2 (by omega) h4
  have b3 := BN.out bx m h2 (by omega)
  have b4 := BN.out ax m (by omega) (by omega)
  obtain ⟨a1, ha1⟩ : ∃ z, z = cirS G W ax ay bx m := ⟨_, rfl⟩
  obtain ⟨a2, ha2⟩ : ∃ z, z = cirS G W ax m bx yb := ⟨_, rfl⟩
  obtain ⟨a3, ha3⟩ : ∃ z, z = noC G (bx + W * m) := ⟨_, rfl⟩
  obtain ⟨a4, ha4⟩ : ∃ z, z = noC G (ax + W * m) := ⟨_, rfl⟩
  rw [← ha1] at R1 E1 b1
  rw [← ha2] at R2 E1 b2
  rw [← ha3] at R3 E1 b3
  rw [← ha4] at R4 E1 b4
  rw [← HZ.out] at E1
  rw [← hm] at R1 R2 R3 R4
  obtain ⟨s1, hs1⟩ : ∃ t, t = a1 + a2 := ⟨_, rfl⟩
  obtain ⟨s2, hs2⟩ : ∃ t, t = s1 - a3 := ⟨_, rfl⟩
  have x1 : IntKind.i64.wrap (a1 + a2) = s1 := by rw [hs1]; exact IntWalk.i64_in _ ⟨by omega, by omega⟩
  have x2 : IntKind.i64.wrap (s1 - a3) = s2 := by rw [hs2]; exact IntWalk.i64_in _ ⟨by omega, by omega⟩
  have x3 : IntKind.i64.wrap (s2 + a4) = z := by rw [show s2 + a4 = z by omega]; exact IntWalk.i64_in _ ⟨by omega, by omega⟩
  have U1 := Lib.hid (CI.out ax ay m yb (by omega) (by omega) h3 h4)
  have U2 := Lib.hid (CI.out m ay bx yb (by omega) h2 h3 h4)
  have U3 := Lib.hid (EA.out m ay (by omega) (by omega))
  have U4 := Lib.hid (EA.out m yb (by omega) h4)
  have E2 := cir_cols G W ax ay bx yb m (by omega) (by omega)
  have c1 := BD.out ax ay m yb (by omega) (by omega) h3 h4
  have c2 := BD.out m ay bx yb (by omega) h2 h3 h4
  have c3 := BE.out m ay (by omega) (by omega)
  have c4 := BE.out m yb (by omega) h4
  obtain ⟨u1, hu1⟩ : ∃ z, z = cirS G W ax ay m yb := ⟨_, rfl⟩
  obtain ⟨u2, hu2⟩ : ∃ z, z = cirS G W m ay bx yb := ⟨_, rfl⟩
  obtain ⟨u3, hu3⟩ : ∃ z, z = eaC G (m + W * ay) := ⟨_, rfl⟩
  obtain ⟨u4, hu4⟩ : ∃ z, z = eaC G (m + W * yb) := ⟨_, rfl⟩
  rw [← hu1] at U1 E2 c1
  rw [← hu2] at U2 E2 c2
  rw [← hu3] at U3 E2 c3
  rw [← hu4] at U4 E2 c4
  rw [← HZ.out] at E2
  rw [← hm] at U1 U2 U3 U4
  obtain ⟨t1, ht1⟩ : ∃ t, t = u1 + u2 := ⟨_, rfl⟩
  obtain ⟨t2, ht2⟩ : ∃ t, t = t1 - u3 := ⟨_, rfl⟩
  have y1 : IntKind.i64.wrap (u1 + u2) = t1 := by rw [ht1]; exact IntWalk.i64_in _ ⟨by omega, by omega⟩
  have y2 : IntKind.i64.wrap (t1 - u3) = t2 := by rw [ht2]; exact IntWalk.i64_in _ ⟨by omega, by omega⟩
  have y3 : IntKind.i64.wrap (t2 + u4) = z := by rw [show t2 + u4 = z by omega]; exact IntWalk.i64_in _ ⟨by omega, by omega⟩
  clear hm ha1 ha2 ha3 ha4 hs1 hs2 E1 b1 b2 b3 b4 hu1 hu2 hu3 hu4 ht1 ht2 E2 c1 c2 c3 c4 CI MO EA BD BN BE HZ hM hG hO s h1 h2 h3 h4 hn hA hB lb
  go_enter Tryd.func4, Tryd.ntmps4
  go_wp2_with (first | (go_at_call 17; (with_reducible refine (awake08_any _ (HM.out.below (by (repeat' (first | (with_reducible exact Below.refl _ _) | (with_reducible refine Below.setCell ?_ (by first | omega | (simp; done) | (simp; omega)) _) | (with_reducible refine Below.alloc ?_ (by first | omega | (simp; done) | (simp; omega)) _) | (with_reducible refine Below.drew ?_) | (with_reducible refine below_drewN ?_ _) | (with_reducible refine Below.trans ?_ (Below.mono (by assumption) (by first | omega | (simp; done) | (simp; omega))))))))).mono ?_); rintro e w1 ⟨rfl, hb⟩; obtain ⟨hc, hf, hz⟩ := bcall hb; (try simp at hc hf hz)) | (go_at_call 18; (with_reducible refine (BG.out _).mono ?_); rintro e w1 ⟨rfl, hb⟩; obtain ⟨hc, hf, hz⟩ := bcall hb; (try simp at hc hf hz)) | (go_at_call 19; (with_reducible refine (C0.out _ (by (repeat' (first | (with_reducible exact Below.refl _ _) | (with_reducible refine Below.setCell ?_ (by first | omega | (simp; done) | (simp; omega)) _) | (with_reducible refine Below.alloc ?_ (by first | omega | (simp; done) | (simp; omega)) _) | (with_reducible refine Below.drew ?_) | (with_reducible refine below_drewN ?_ _) | (with_reducible refine Below.trans ?_ (Below.mono (by assumption) (by first | omega | (simp; done) | (simp; omega)))))))).mono ?_); rintro e w1 ⟨rfl, hb⟩; obtain ⟨hc, hf, hz⟩ := bcall hb; (try simp at hc hf hz)) | (go_at_call 19; (with_reducible refine (R1.out _ (by (repeat' (first | (with_reducible exact Below.refl _ _) | (with_reducible refine Below.setCell ?_ (by first | omega | (simp; done) | (simp; omega)) _) | (with_reducible refine Below.alloc ?_ (by first | omega | (simp; done) | (simp; omega)) _) | (with_reducible refine Below.drew ?_) | (with_reducible refine below_drewN ?_ _) | (with_reducible refine Below.trans ?_ (Below.mono (by assumption) (by first | omega | (simp; done) | (simp; omega)))))))).mono ?_); rintro e w1 ⟨rfl, hb⟩; obtain ⟨hc, hf, hz⟩ := bcall hb; (try simp at hc hf hz)) | (go_at_call 19; (with_reducible refine (R2.out _ (by (repeat' (first | (with_reducible exact Below.refl _ _) | (with_reducible refine Below.setCell ?_ (by first | omega | (simp; done) | (simp; omega)) _) | (with_reducible refine Below.alloc ?_ (by first | omega | (simp; done) | (simp; omega)) _) | (with_reducible refine Below.drew ?_) | (with_reducible refine below_drewN ?_ _) | (with_reducible refine Below.trans ?_ (Below.mono (by assumption) (by first | omega | (simp; done) | (simp; omega)))))))).mono ?_); rintro e w1 ⟨rfl, hb⟩; obtain ⟨hc, hf, hz⟩ := bcall hb; (try simp at hc hf hz)) | (go_at_call 19; (with_reducible refine (U1.out _ (by (repeat' (first | (with_reducible exact Below.refl _ _) | (with_reducible refine Below.setCell ?_ (by first | omega | (simp; done) | (simp; omega)) _) | (with_reducible refine Below.alloc ?_ (by first | omega | (simp; done) | (simp; omega)) _) | (with_reducible refine Below.drew ?_) | (with_reducible refine below_drewN ?_ _) | (with_reducible refine Below.trans ?_ (Below.mono (by assumption) (by first | omega | (simp; done) | (simp; omega)))))))).mono ?_); rintro e w1 ⟨rfl, hb⟩; obtain ⟨hc, hf, hz⟩ := bcall hb; (try simp at hc hf hz)) | (go_at_call 19; (with_reducible refine (U2.out _ (by (repeat' (first | (with_reducible exact Below.refl _ _) | (with_reducible refine Below.setCell ?_ (by first | omega | (simp; done) | (simp; omega)) _) | (with_reducible refine Below.alloc ?_ (by first | omega | (simp; done) | (simp; omega)) _) | (with_reducible refine Below.drew ?_) | (with_reducible refine below_drewN ?_ _) | (with_reducible refine Below.trans ?_ (Below.mono (by assumption) (by first | omega | (simp; done) | (simp; omega)))))))).mono ?_); rintro e w1 ⟨rfl, hb⟩; obtain ⟨hc, hf, hz⟩ := bcall hb; (try simp at hc hf hz)))
  go_region_held3 (fun w' => w'.cell? ⟨w.heap.size, 0, none⟩ = some (.int .i64 W) ∧ w'.cell? ⟨w.heap.size, 1, none⟩ = some (.int .i64 H) ∧ w'.cell? ⟨w.heap.size, 2, none⟩ = some (.slice (some ⟨b, off, none⟩) n cap) ∧ w'.cell? ⟨w.heap.size + 1, 0, none⟩ = some (.int .i64 ((ax : Int))) ∧ w'.cell? ⟨w.heap.size + 1, 1, none⟩ = some (.int .i64 ((ay : Int))) ∧ w'.cell? ⟨w.heap.size + 1 + 1, 0, none⟩ = some (.int .i64 ((bx : Int))) ∧ w'.cell? ⟨w.heap.size + 1 + 1, 1, none⟩ = some (.int .i64 ((yb : Int)))) (first | (go_split_ands; (try dsimp only); refine ⟨?_, ?_, ?_, ?_, ?_, ?_, ?_⟩ <;> (first | (with_reducible assumption) | (with_reducible exact keep_cell (by assumption) (by first | omega | (simp; done) | (simp; omega)) (by assumption)) | (with_reducible exact (World.cell?_alloc_past _ _ _ (by show _ < _; omega)).trans (by assumption)) | (with_reducible exact (World.cell?_alloc_past _ _ _ (by show _ < _; omega)).trans ((World.cell?_alloc_past _ _ _ (by show _ < _; omega)).symm.trans (by assumption))) | (simp [go_sem]; with_reducible assumption))) | (simp [go_sem, ↓IntWalk.iteOmega, *]; done)) ((first | (go_at_call 20; (with_reducible refine (R3.out _ (by (repeat' (first | (with_reducible exact Below.refl _ _) | (with_reducible refine Below.setCell ?_ (by first | omega | (simp; done) | (simp; omega)) _) | (with_reducible refine Below.alloc ?_ (by first | omega | (simp; done) | (simp; omega)) _) | (with_reducible refine Below.drew ?_) | (with_reducible refine below_drewN ?_ _) | (with_reducible refine Below.trans ?_ (Below.mono (by assumption) (by first | omega | (simp; done) | (simp; omega)))))))).mono ?_); rintro e w1 ⟨rfl, hb⟩; obtain ⟨hc, hf, hz⟩ := bcall hb; (try simp at hc hf hz)) | (go_at_call 20; (with_reducible refine (R4.out _ (by (repeat' (first | (with_reducible exact Below.refl _ _) | (with_reducible refine Below.setCell ?_ (by first | omega | (simp; done) | (simp; omega)) _) | (with_reducible refine Below.alloc ?_ (by first | omega | (simp; done) | (simp; omega)) _) | (with_reducible refine Below.drew ?_) | (with_reducible refine below_drewN ?_ _) | (with_reducible refine Below.trans ?_ (Below.mono (by assumption) (by first | omega | (simp; done) | (simp; omega)))))))).mono ?_); rintro e w1 ⟨rfl, hb⟩; obtain ⟨hc, hf, hz⟩ := bcall hb; (try simp at hc hf hz))))
  all_goals (rename_i hX; clear hX)
  all_goals
    go_wp2_with (first | (go_at_call 17; (with_reducible refine (awake08_any _ (HM.out.below (by (repeat' (first | (with_reducible exact Below.refl _ _) | (with_reducible refine Below.setCell ?_ (by first | omega | (simp; done) | (simp; omega)) _) | (with_reducible refine Below.alloc ?_ (by first | omega | (simp; done) | (simp; omega)) _) | (with_reducible refine Below.drew ?_) | (with_reducible refine below_drewN ?_ _) | (with_reducible refine Below.trans ?_ (Below.mono (by assumption) (by first | omega | (simp; done) | (simp; omega))))))))).mono ?_); rintro e w1 ⟨rfl, hb⟩; obtain ⟨hc, hf, hz⟩ := bcall hb; (try simp at hc hf hz)) | (go_at_call 18; (with_reducible refine (BG.out _).mono ?_); rintro e w1 ⟨rfl, hb⟩; obtain ⟨hc, hf, hz⟩ := bcall hb; (try simp at hc hf hz)) | (go_at_call 19; (with_reducible refine (C0.out _ (by (repeat' (first | (with_reducible exact Below.refl _ _) | (with_reducible refine Below.setCell ?_ (by first | omega | (simp; done) | (simp; omega)) _) | (with_reducible refine Below.alloc ?_ (by first | omega | (simp; done) | (simp; omega)) _) | (with_reducible refine Below.drew ?_) | (with_reducible refine below_drewN ?_ _) | (with_reducible refine Below.trans ?_ (Below.mono (by assumption) (by first | omega | (simp; done) | (simp; omega)))))))).mono ?_); rintro e w1 ⟨rfl, hb⟩; obtain ⟨hc, hf, hz⟩ := bcall hb; (try simp at hc hf hz)) | (go_at_call 19; (with_reducible refine (R1.out _ (by (repeat' (first | (with_reducible exact Below.refl _ _) | (with_reducible refine Below.setCell ?_ (by first | omega | (simp; done) | (simp; omega)) _) | (with_reducible refine Below.alloc ?_ (by first | omega | (simp; done) | (simp; omega)) _) | (with_reducible refine Below.drew ?_) | (with_reducible refine below_drewN ?_ _) | (with_reducible refine Below.trans ?_ (Below.mono (by assumption) (by first | omega | (simp; done) | (simp; omega)))))))).mono ?_); rintro e w1 ⟨rfl, hb⟩; obtain ⟨hc, hf, hz⟩ := bcall hb; (try simp at hc hf hz)) | (go_at_call 19; (with_reducible refine (R2.out _ (by (repeat' (first | (with_reducible exact Below.refl _ _) | (with_reducible refine Below.setCell ?_ (by first | omega | (simp; done) | (simp; omega)) _) | (with_reducible refine Below.alloc ?_ (by first | omega | (simp; done) | (simp; omega)) _) | (with_reducible refine Below.drew ?_) | (with_reducible refine below_drewN ?_ _) | (with_reducible refine Below.trans ?_ (Below.mono (by assumption) (by first | omega | (simp; done) | (simp; omega)))))))).mono ?_); rintro e w1 ⟨rfl, hb⟩; obtain ⟨hc, hf, hz⟩ := bcall hb; (try simp at hc hf hz)) | (go_at_call 19; (with_reducible refine (U1.out _ (by (repeat' (first | (with_reducible exact Below.refl _ _) | (with_reducible refine Below.setCell ?_ (by first | omega | (simp; done) | (simp; omega)) _) | (with_reducible refine Below.alloc ?_ (by first | omega | (simp; done) | (simp; omega)) _) | (with_reducible refine Below.drew ?_) | (with_reducible refine below_drewN ?_ _) | (with_reducible refine Below.trans ?_ (Below.mono (by assumption) (by first | omega | (simp; done) | (simp; omega)))))))).mono ?_); rintro e w1 ⟨rfl, hb⟩; obtain ⟨hc, hf, hz⟩ := bcall hb; (try simp at hc hf hz)) | (go_at_call 19; (with_reducible refine (U2.out _ (by (repeat' (first | (with_reducible exact Below.refl _ _) | (with_reducible refine Below.setCell ?_ (by first | omega | (simp; done) | (simp; omega)) _) | (with_reducible refine Below.alloc ?_ (by first | omega | (simp; done) | (simp; omega)) _) | (with_reducible refine Below.drew ?_) | (with_reducible refine below_drewN ?_ _) | (with_reducible refine Below.trans ?_ (Below.mono (by assumption) (by first | omega | (simp; done) | (simp; omega)))))))).mono ?_); rintro e w1 ⟨rfl, hb⟩; obtain ⟨hc, hf, hz⟩ := bcall hb; (try simp at hc hf hz)))
    go_region_held3 (fun w' => w'.cell? ⟨w.heap.size, 0, none⟩ = some (.int .i64 W) ∧ w'.cell? ⟨w.heap.size, 1, none⟩ = some (.int .i64 H) ∧ w'.cell? ⟨w.heap.size, 2, none⟩ = some (.slice (some ⟨b, off, none⟩) n cap) ∧ w'.cell? ⟨w.heap.size + 1, 0, none⟩ = some (.int .i64 ((ax : Int))) ∧ w'.cell? ⟨w.heap.size + 1, 1, none⟩ = some (.int .i64 ((ay : Int))) ∧ w'.cell? ⟨w.heap.size + 1 + 1, 0, none⟩ = some (.int .i64 ((bx : Int))) ∧ w'.cell? ⟨w.heap.size + 1 + 1, 1, none⟩ = some (.int .i64 ((yb : Int)))) (first | (go_split_ands; (try dsimp only); refine ⟨?_, ?_, ?_, ?_, ?_, ?_, ?_⟩ <;> (first | (with_reducible assumption) | (with_reducible exact keep_cell (by assumption) (by first | omega | (simp; done) | (simp; omega)) (by assumption)) | (with_reducible exact (World.cell?_alloc_past _ _ _ (by show _ < _; omega)).trans (by assumption)) | (with_reducible exact (World.cell?_alloc_past _ _ _ (by show _ < _; omega)).trans ((World.cell?_alloc_past _ _ _ (by show _ < _; omega)).symm.trans (by assumption))) | (simp [go_sem]; with_reducible assumption))) | (simp [go_sem, ↓IntWalk.iteOmega, *]; done)) ((first | (go_at_call 21; (with_reducible refine (U3.out _ (by (repeat' (first | (with_reducible exact Below.refl _ _) | (with_reducible refine Below.setCell ?_ (by first | omega | (simp; done) | (simp; omega)) _) | (with_reducible refine Below.alloc ?_ (by first | omega | (simp; done) | (simp; omega)) _) | (with_reducible refine Below.drew ?_) | (with_reducible refine below_drewN ?_ _) | (with_reducible refine Below.trans ?_ (Below.mono (by assumption) (by first | omega | (simp; done) | (simp; omega)))))))).mono ?_); rintro e w1 ⟨rfl, hb⟩; obtain ⟨hc, hf, hz⟩ := bcall hb; (try simp at hc hf hz)) | (go_at_call 21; (with_reducible refine (U4.out _ (by (repeat' (first | (with_reducible exact Below.refl _ _) | (with_reducible refine Below.setCell ?_ (by first | omega | (simp; done) | (simp; omega)) _) | (with_reducible refine Below.alloc ?_ (by first | omega | (simp; done) | (simp; omega)) _) | (with_reducible refine Below.drew ?_) | (with_reducible refine below_drewN ?_ _) | (with_reducible refine Below.trans ?_ (Below.mono (by assumption) (by first | omega | (simp; done) | (simp; omega)))))))).mono ?_); rintro e w1 ⟨rfl, hb⟩; obtain ⟨hc, hf, hz⟩ := bcall hb; (try simp at hc hf hz))))
    all_goals (rename_i hX; clear hX)
    all_goals
      go_wp2
      go_ret
      refine ⟨by simp, ?_⟩
      (repeat' (first | (with_reducible exact Below.refl _ _) | (with_reducible refine Below.setCell ?_ (by first | omega | (simp; done) | (simp; omega)) _) | (with_reducible refine Below.alloc ?_ (by first | omega | (simp; done) | (simp; omega)) _) | (with_reducible refine Below.drew ?_) | (with_reducible refine below_drewN ?_ _) | (with_reducible refine Below.trans ?_ (Below.mono (by assumption) (by first | omega | (simp; done) | (simp; omega))))))
end
end Go.Proofs.YtmpfchgampiohaaDoor
