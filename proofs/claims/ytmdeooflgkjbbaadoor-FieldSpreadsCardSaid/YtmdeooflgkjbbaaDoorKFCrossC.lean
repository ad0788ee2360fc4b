/- What crosses a line: by the program of the fields; the table across. -/
import Derived.Test.YtmdeooflgkjbbaaDoorKFSums
import Derived.Test.YtmdeooflgkjbbaaDoorKFDens
import Derived.Test.YtmdeooflgkjbbaaDoorKEnds
import Derived.LaidLaws
import Derived.LaidMore
import Derived.MakeChecks
namespace Go.Proofs.YtmdeooflgkjbbaaDoor
set_option linter.unusedSimpArgs false
set_option linter.unusedVariables false
open Go.ChangeShapes Go.WideShapes Go.ChangeAt Go.RowKit Go.Joins Go.Deep Go.Shelf
set_option maxRecDepth 100000

/-- The table across lies in its variable. -/
def Acr (w : World) : Prop := ∀ a, a < 2 → ∀ d, d < 2 → w.cell? ⟨0, a * 2 + d, none⟩ = some (.int .i64 (((a + 2 * d : Nat) : Int)))
theorem gAcr : Tryd.prog.globalNamed "slipstream/field.across" = some 0 := by kernel_rfl
theorem tAcr : (Tryd.prog.globals[0]?).map (·.type) = some 114 := by kernel_rfl
theorem row2F {H : Type} {enc : TypeId × Value → H} {W : World} {base : Nat} {sp : Nat → Bool} {held : Bool} {fuel : Nat} {L : List Value} {x : DataW H × List MemPlace} {q0 q1 : Int} (hl : L.length = 2) (h : DataW.trod enc Tryd.prog W base sp held fuel 113 L = some x) (hx : x.1 = .agg [.lit (.int .i64 q0), .lit (.int .i64 q1)]) : L = [.int .i64 q0, .int .i64 q1] := by
  obtain ⟨c0, c1, rfl⟩ := size2 L (by simpa using hl)
  obtain ⟨xs, m, _, rfl, _, hn, hel⟩ := DataW.trod_array Tryd.underlying113 h
  match xs, hn with
  | [r0, r1], _ =>
    have h0 := hel 0 (by omega)
    have h1 := hel 1 (by omega)
    rw [cells_int] at h0 h1
    obtain ⟨x0, e0, rfl, _⟩ := DataW.trod_int Tryd.underlying3 h0
    obtain ⟨x1, e1, rfl, _⟩ := DataW.trod_int Tryd.underlying3 h1
    simp at e0 e1 hx
    obtain ⟨a0, a1⟩ := hx
    rw [e0, e1, a0, a1]
theorem acr_of {W : World} (h : laidMetH Tryd.prog [("slipstream/field.across", Rows.laid_slipstream_field_across)] W) : Acr W := by
  rw [MakeChecks.laidMetH_plain _ _ _ (by kernel_rfl)] at h
  obtain ⟨ps, ⟨g0, t0, cs0, f0, p0, q0, hg0, ht0, hv0, hd0, _, _⟩, _, _⟩ := h
  obtain rfl := Option.some.inj (gAcr.symm.trans hg0)
  obtain rfl := Option.some.inj (tAcr.symm.trans ht0)
  obtain ⟨xs, m1, rfl, hx1, hlen, hn, hel⟩ := DataW.trod_array Tryd.underlying114 hd0
  rw [cells_arr2] at hel
  have hl4 : cs0.toList.length = 4 := hlen.trans (by kernel_rfl)
  obtain ⟨l⟩ := cs0
  have row : ∀ k, k < 2 → ∀ d, d < 2 → l[k * 2 + d]? = some (.int .i64 (((k + 2 * d : Nat) : Int))) := by
    match xs, hn with
    | [r0, r1], _ =>
      simp only [Prod.mk.injEq, Rows.laid_slipstream_field_across, DataW.agg.injEq, List.map_cons, List.map_nil, List.cons.injEq, and_true] at hx1
      obtain ⟨⟨g0, g1⟩, _⟩ := hx1
      have hl : l.length = 4 := by simpa using hl4
      have u0 := row2F (by simp; omega) (hel 0 (by omega)) g0.symm
      have u1 := row2F (by simp; omega) (hel 1 (by omega)) g1.symm
      intro k hk d hd
      have key : ∀ k, l[k * 2 + d]? = ((l.drop (k * 2)).take 2)[d]? := fun k => by simp [List.getElem?_take, List.getElem?_drop, hd]
      rw [key]
      simp only [Nat.zero_mul, List.drop_zero] at u0
      match k, hk, d, hd with
      | 0, _, 0, _ => simp [u0]
      | 0, _, 1, _ => simp [u0]
      | 1, _, 0, _ => simp at u1; simp [u1]
      | 1, _, 1, _ => simp at u1; simp [u1]
  intro k hk d hd
  have := World.var?_cell hg0 hv0 (k * 2 + d)
  rw [this]
  simpa using row k hk d hd
theorem acr_lt {w : World} (h : Acr w) : 0 < w.heap.size := block_lt (h 0 (by decide) 0 (by decide))
theorem Acr.below {w w' : World} (h : Acr w) (hb : Below w.heap.size w w') : Acr w' := fun k hk d hd => (hb.cell (p := ⟨0, k * 2 + d, none⟩) (block_lt (h k hk d hd))).trans (h k hk d hd)

section
variable (B : Nat) (p q r s : Int) (w : World) (hA : Acr w)
include hA
set_option maxHeartbeats 2000000 in
theorem crs1_0 (hB : w.cell? ⟨B, 0, none⟩ = some (.int .i64 0)) : Calls Tryd.prog 85 #[.agg #[.int .i64 p, .int .i64 q, .int .i64 r, .int .i64 s], .pointer (some ⟨B, 0, none⟩)] w fun e w' => e = .returned (.int .i64 p) ∧ Below w.heap.size w w' := by
  have t0 : w.cell? ⟨0, 0, none⟩ = some (.int .i64 0) := hA 0 (by decide) 0 (by decide)
  have hg := block_lt t0
  have hl := block_lt hB
  clear hA
  go_enter Tryd.func85, Tryd.ntmps85
  go_wp2
  go_ret
  refine ⟨rfl, ?_⟩
  (repeat' (first | (with_reducible exact Below.refl _ _) | (with_reducible refine Below.setCell ?_ (by first | omega | (simp; done) | (simp; omega)) _) | (with_reducible refine Below.alloc ?_ (by first | omega | (simp; done) | (simp; omega)) _) | (with_reducible refine Below.drew ?_) | (with_reducible refine below_drewN ?_ _) | (with_reducible refine Below.trans ?_ (Below.mono (by assumption) (by first | omega | (simp; done) | (simp; omega))))))
set_option maxHeartbeats 2000000 in
theorem crs1_1 (hB : w.cell? ⟨B, 0, none⟩ = some (.int .i64 1)) : Calls Tryd.prog 85 #[.agg #[.int .i64 p, .int .i64 q, .int .i64 r, .int .i64 s], .pointer (some ⟨B, 0, none⟩)] w fun e w' => e = .returned (.int .i64 q) ∧ Below w.heap.size w w' := by
  have t0 : w.cell? ⟨0, 2, none⟩ = some (.int .i64 1) := hA 1 (by decide) 0 (by decide)
  have hg := block_lt t0
  have hl := block_lt hB
  clear hA
  go_enter Tryd.func85, Tryd.ntmps85
  go_wp2
  go_ret
  refine ⟨rfl, ?_⟩
  (repeat' (first | (with_reducible exact Below.refl _ _) | (with_reducible refine Below.setCell ?_ (by first | omega | (simp; done) | (simp; omega)) _) | (with_reducible refine Below.alloc ?_ (by first | omega | (simp; done) | (simp; omega)) _) | (with_reducible refine Below.drew ?_) | (with_reducible refine below_drewN ?_ _) | (with_reducible refine Below.trans ?_ (Below.mono (by assumption) (by first | omega | (simp; done) | (simp; omega))))))
set_option maxHeartbeats 2000000 in
theorem crs2_0 (hB : w.cell? ⟨B, 0, none⟩ = some (.int .i64 0)) : Calls Tryd.prog 86 #[.agg #[.int .i64 p, .int .i64 q, .int .i64 r, .int .i64 s], .pointer (some ⟨B, 0, none⟩)] w fun e w' => e = .returned (.int .i64 r) ∧ Below w.heap.size w w' := by
  have t0 : w.cell? ⟨0, 1, none⟩ = some (.int .i64 2) := hA 0 (by decide) 1 (by decide)
  have hg := block_lt t0
  have hl := block_lt hB
  clear hA
  go_enter Tryd.func86, Tryd.ntmps86
  go_wp2
  go_ret
  refine ⟨rfl, ?_⟩
  (repeat' (first | (with_reducible exact Below.refl _ _) | (with_reducible refine Below.setCell ?_ (by first | omega | (simp; done) | (simp; omega)) _) | (with_reducible refine Below.alloc ?_ (by first | omega | (simp; done) | (simp; omega)) _) | (with_reducible refine Below.drew ?_) | (with_reducible refine below_drewN ?_ _) | (with_reducible refine Below.trans ?_ (Below.mono (by assumption) (by first | omega | (simp; done) | (simp; omega))))))
set_option maxHeartbeats 2000000 in
theorem crs2_1 (hB : w.cell? ⟨B, 0, none⟩ = some (.int .i64 1)) : Calls Tryd.prog 86 #[.agg #[.int .i64 p, .int .i64 q, .int .i64 r, .int .i64 s], .pointer (some ⟨B, 0, none⟩)] w fun e w' => e = .returned (.int .i64 s) ∧ Below w.heap.size w w' := by
  have t0 : w.cell? ⟨0, 3, none⟩ = some (.int .i64 3) := hA 1 (by decide) 1 (by decide)
  have hg := block_lt t0
  have hl := block_lt hB
  clear hA
  go_enter Tryd.func86, Tryd.ntmps86
  go_wp2
  go_ret
  refine ⟨rfl, ?_⟩
  (repeat' (first | (with_reducible exact Below.refl _ _) | (with_reducible refine Below.setCell ?_ (by first | omega | (simp; done) | (simp; omega)) _) | (with_reducible refine Below.alloc ?_ (by first | omega | (simp; done) | (simp; omega)) _) | (with_reducible refine Below.drew ?_) | (with_reducible refine below_drewN ?_ _) | (with_reducible refine Below.trans ?_ (Below.mono (by assumption) (by first | omega | (simp; done) | (simp; omega))))))
end
theorem Acr.kb {w w' : World} (h : Acr w) (hb : KB (fun k => k < w.heap.size) w w') : Acr w' := fun k hk d hd => (hb.cell (block_lt (h k hk d hd))).trans (h k hk d hd)
theorem tells_crs1 {w : World} {B a N : Nat} {G : Nat → Nat → Int} (hA : Acr w) (ha : a < 2) (hB : w.cell? ⟨B, 0, none⟩ = some (.int .i64 ((a : Int)))) : Tells w 85 #[.pointer (some ⟨B, 0, none⟩)] N G (fun q => G q a) := by
  refine ⟨enters_of Tryd.func85 (by kernel_rfl) rfl, fun wx q hk _ => ?_⟩
  have hB2 := (hk.cell (block_lt hB)).trans hB
  match a, ha with
  | 0, _ => exact crs1_0 B _ _ _ _ wx (hA.kb hk) hB2
  | 1, _ => exact crs1_1 B _ _ _ _ wx (hA.kb hk) hB2
theorem tells_crs2 {w : World} {B a N : Nat} {G : Nat → Nat → Int} (hA : Acr w) (ha : a < 2) (hB : w.cell? ⟨B, 0, none⟩ = some (.int .i64 ((a : Int)))) : Tells w 86 #[.pointer (some ⟨B, 0, none⟩)] N G (fun q => G q (a + 2)) := by
  refine ⟨enters_of Tryd.func86 (by kernel_rfl) rfl, fun wx q hk _ => ?_⟩
  have hB2 := (hk.cell (block_lt hB)).trans hB
  match a, ha with
  | 0, _ => exact crs2_0 B _ _ _ _ wx (hA.kb hk) hB2
  | 1, _ => exact crs2_1 B _ _ _ _ wx (hA.kb hk) hB2
theorem way_bd {N : Nat} {G : Nat → Nat → Int} (hO : OkG N G) {d : Nat} (hd : d < 4) : ∀ q, q < N → -1000000000 ≤ G q d ∧ G q d ≤ 1000000000 := fun q hq => by
  obtain ⟨h0, h1, h2, h3, h4⟩ := hO.1 q hq
  match d, hd with
  | 0, _ => constructor <;> omega
  | 1, _ => constructor <;> omega
  | 2, _ => constructor <;> omega
  | 3, _ => constructor <;> omega
end Go.Proofs.YtmdeooflgkjbbaaDoor

/- Crossing: by the program of the fields. -/

namespace Go.Proofs.YtmdeooflgkjbbaaDoor
set_option linter.unusedSimpArgs false
set_option linter.unusedVariables false
open Go.RowKit Go.Shelf
attribute [local go_sem] Oper.semAt_some

set_option maxRecDepth 100000 in
set_option maxHeartbeats 16000000 in
theorem fcross_in (a W H n cap b off at_ : Nat) (G : Nat → Nat → Int) (w : World) (s : Sides W H n) (hO : OkG n G) (lb : b < w.heap.size) (hG : Grd w b off n G) (ha : a < 2) (hat : at_ < lnN a W H) (hA : Acr w) :
    Calls Tryd.prog 27 #[.agg #[.int .i64 W, .int .i64 H, .slice (some ⟨b, off, none⟩) n cap], .int .i64 ((a : Int)), .int .i64 ((at_ : Int))] w fun e w' => e = .returned (.tuple #[.int .i64 (lnS a W H (fun q => G q a) (prv (lnN a W H) at_)), .int .i64 (lnS a W H (fun q => G q (a + 2)) at_), .int .i64 0]) ∧ Below w.heap.size w w' := by
  have LN := Lib.hid (fun wx (hb : Below w.heap.size w wx) => flines_any a W H n cap b off G wx s (Nat.lt_of_lt_of_le lb hb.size) (hG.below hb lb) ha hO)
  have SM := Lib.hid (fun fn cs tv i (hi : i < lnN a W H) wx (hb : Below w.heap.size w wx) => fsum_line a W H n cap b off G w s lb hG fn cs tv i hi wx hb)
  have hl := lnN_one (a := a) s
  have hpr := prv_lt hat
  have HPM := Lib.hid (prv_mod hat)
  have HO := Lib.hid hO
  have HA := Lib.hid hA
  have HAT := Lib.hid hat
  have HAA := Lib.hid ha
  obtain ⟨L, hL⟩ : ∃ L, L = lnN a W H := ⟨_, rfl⟩
  obtain ⟨p, hp⟩ : ∃ p, p = prv (lnN a W H) at_ := ⟨_, rfl⟩
  rw [← hp] at hpr HPM ⊢
  obtain ⟨z, hz⟩ : ∃ z, z = lnS a W H (fun q => G q a) p := ⟨_, rfl⟩
  obtain ⟨z', hz'⟩ : ∃ z, z = lnS a W H (fun q => G q (a + 2)) at_ := ⟨_, rfl⟩
  have HZ := Lib.hid hz
  have HZ' := Lib.hid hz'
  rw [← hz, ← hz']
  clear hz hz'
  rw [← hL] at hpr HPM hl hat SM LN HAT
  have n0 : ¬ ((L : Int) = 0) := by omega
  have n1 : ¬ (L = 0) := by omega
  obtain ⟨m1, hm1⟩ : ∃ m1, m1 = at_ + L := ⟨_, rfl⟩
  obtain ⟨m2, hm2⟩ : ∃ m2, m2 = at_ + L - 1 := ⟨_, rfl⟩
  have e1 : IntKind.i64.wrap ((at_ : Int) + (L : Int)) = (m1 : Int) := by rw [hm1]; push_cast; exact IntWalk.i64_in _ ⟨by omega, by omega⟩
  have e2 : IntKind.i64.wrap ((m1 : Int) - 1) = (m2 : Int) := by rw [IntWalk.i64_in _ ⟨by omega, by omega⟩]; omega
  have e3 : (m2 : Int) % (L : Int) = (p : Int) := by rw [← HPM.out, hm2]; exact (Int.natCast_emod _ _).symm
  have e4 : Int.tmod (m2 : Int) (L : Int) = (p : Int) := by rw [Int.tmod_eq_emod_of_nonneg (by omega)]; exact e3
  have q0 : (0 : Int) ≤ (at_ : Int) := by omega
  have q1 : (at_ : Int) < (L : Int) := by omega
  have q2 : (0 : Int) ≤ (p : Int) := by omega
  have q3 : (p : Int) < (L : Int) := by omega
  have q4 : decide ((at_ : Int) < 0) = false := by simp
  have q5 : decide ((L : Int) ≤ (at_ : Int)) = false := by simp; omega
  clear hL hp hm1 hm2 hO hG hA s ha
  go_enter Tryd.func27, Tryd.ntmps27
  go_wp2_with fail
  have hBA : ((w.alloc (.cells #[.int .i64 W, .int .i64 H, .slice (some ⟨b, off, none⟩) n cap] 24)).alloc (.cells #[.int .i64 ((a : Int))] 3)).cell? ⟨w.heap.size + 1, 0, none⟩ = some (.int .i64 ((a : Int))) := by simp [go_sem]
  go_at_call 79
  refine (LN.out _ (by (repeat' (first | (with_reducible exact Below.refl _ _) | (with_reducible refine Below.setCell ?_ (by first | omega | (simp; done) | (simp; omega)) _) | (with_reducible refine Below.alloc ?_ (by first | omega | (simp; done) | (simp; omega)) _) | (with_reducible refine Below.drew ?_) | (with_reducible refine below_drewN ?_ _) | (with_reducible refine Below.trans ?_ (Below.mono (by assumption) (by first | omega | (simp; done) | (simp; omega)))))))).mono ?_
  rintro e w1 ⟨g, c, rfl, hBl, lg, hb⟩
  have hbw := Lib.hid (show Below w.heap.size w w1 from by (repeat' (first | (with_reducible exact Below.refl _ _) | (with_reducible refine Below.setCell ?_ (by first | omega | (simp; done) | (simp; omega)) _) | (with_reducible refine Below.alloc ?_ (by first | omega | (simp; done) | (simp; omega)) _) | (with_reducible refine Below.drew ?_) | (with_reducible refine below_drewN ?_ _) | (with_reducible refine Below.trans ?_ (Below.mono (by assumption) (by first | omega | (simp; done) | (simp; omega)))))))
  have hs1 : w.heap.size + 1 < w1.heap.size := by have := hb.size; simp at this; omega
  have hB1 : w1.cell? ⟨w.heap.size + 1, 0, none⟩ = some (.int .i64 ((a : Int))) := (hb.cell (p := ⟨w.heap.size + 1, 0, none⟩) (by simp)).trans hBA
  have TB := Lib.hid (fun wx (hx : Below w1.heap.size w1 wx) => (show wx.cell? ⟨w.heap.size + 1, 0, none⟩ = some (.int .i64 ((a : Int))) from (hx.cell (p := ⟨w.heap.size + 1, 0, none⟩) hs1).trans hB1))
  have TW := Lib.hid (fun wx (hx : Below w1.heap.size w1 wx) => hbw.out.trans (hx.mono hbw.out.size))
  have CP := Lib.hid (fun wx (hx : Below w1.heap.size w1 wx) => SM.out 85 #[.pointer (some ⟨w.heap.size + 1, 0, none⟩)] (fun q => G q a) p hpr wx (TW.out wx hx) (tells_crs1 (HA.out.below (TW.out wx hx)) HAA.out (TB.out wx hx)) (way_bd HO.out (by have := HAA.out; omega)))
  have CQ := Lib.hid (fun wx (hx : Below w1.heap.size w1 wx) => SM.out 86 #[.pointer (some ⟨w.heap.size + 1, 0, none⟩)] (fun q => G q (a + 2)) at_ hat wx (TW.out wx hx) (tells_crs2 (HA.out.below (TW.out wx hx)) HAA.out (TB.out wx hx)) (way_bd HO.out (by have := HAA.out; omega)))
  have e0 : w1.cell? ⟨g, p * 7, none⟩ = _ := hBl p hpr 0 _ rfl
  have f0 : w1.cell? ⟨g, at_ * 7, none⟩ = _ := hBl at_ hat 0 _ rfl
  have ee1 := hBl p hpr 1 _ rfl
  have f1 := hBl at_ hat 1 _ rfl
  have ee2 := hBl p hpr 2 _ rfl
  have f2 := hBl at_ hat 2 _ rfl
  have ee3 := hBl p hpr 3 _ rfl
  have f3 := hBl at_ hat 3 _ rfl
  have ee4 := hBl p hpr 4 _ rfl
  have f4 := hBl at_ hat 4 _ rfl
  have ee5 := hBl p hpr 5 _ rfl
  have f5 := hBl at_ hat 5 _ rfl
  have ee6 := hBl p hpr 6 _ rfl
  have f6 := hBl at_ hat 6 _ rfl
  obtain ⟨x, hx⟩ : ∃ x : Int, x = ((pL a p).1 : Int) := ⟨_, rfl⟩
  obtain ⟨y, hy⟩ : ∃ y : Int, y = ((pL a p).2 : Int) := ⟨_, rfl⟩
  obtain ⟨bx, hbx⟩ : ∃ bx : Int, bx = ((pL a p).1 : Int) + (wiL a W : Int) - 1 := ⟨_, rfl⟩
  obtain ⟨yb, hyb⟩ : ∃ yb : Int, yb = ((pL a p).2 : Int) + (hiL a H : Int) - 1 := ⟨_, rfl⟩
  obtain ⟨x', hx'⟩ : ∃ x : Int, x = ((pL a at_).1 : Int) := ⟨_, rfl⟩
  obtain ⟨y', hy'⟩ : ∃ y : Int, y = ((pL a at_).2 : Int) := ⟨_, rfl⟩
  obtain ⟨bx', hbx'⟩ : ∃ bx : Int, bx = ((pL a at_).1 : Int) + (wiL a W : Int) - 1 := ⟨_, rfl⟩
  obtain ⟨yb', hyb'⟩ : ∃ yb : Int, yb = ((pL a at_).2 : Int) + (hiL a H : Int) - 1 := ⟨_, rfl⟩
  rw [← hbx, ← hyb, ← hx, ← hy] at CP
  rw [← hbx', ← hyb', ← hx', ← hy'] at CQ
  rw [← hx] at ee3
  rw [← hy] at ee4
  rw [← hbx] at ee5
  rw [← hyb] at ee6
  rw [← hx'] at f3
  rw [← hy'] at f4
  rw [← hbx'] at f5
  rw [← hyb'] at f6
  rw [← HZ.out] at CP
  rw [← HZ'.out] at CQ
  clear hx hy hbx hyb hx' hy' hbx' hyb' hBl hBA hb LN SM
  go_wp2_with fail
  (go_at_call 66; (with_reducible refine (CP.out _ (by (repeat' (first | (with_reducible exact Below.refl _ _) | (with_reducible refine Below.setCell ?_ (by first | omega | (simp; done) | (simp; omega)) _) | (with_reducible refine Below.alloc ?_ (by first | omega | (simp; done) | (simp; omega)) _) | (with_reducible refine Below.drew ?_) | (with_reducible refine below_drewN ?_ _) | (with_reducible refine Below.trans ?_ (Below.mono (by assumption) (by first | omega | (simp; done) | (simp; omega)))))))).mono ?_); rintro e w2 ⟨rfl, hb2⟩; obtain ⟨hc2, hf2, hz2⟩ := bcall hb2; (try simp at hc2 hf2 hz2))
  have hs2 : w1.heap.size ≤ w2.heap.size := by omega
  go_wp2_with fail
  (go_at_call 66; (with_reducible refine (CQ.out _ (by (repeat' (first | (with_reducible exact Below.refl _ _) | (with_reducible refine Below.setCell ?_ (by first | omega | (simp; done) | (simp; omega)) _) | (with_reducible refine Below.alloc ?_ (by first | omega | (simp; done) | (simp; omega)) _) | (with_reducible refine Below.drew ?_) | (with_reducible refine below_drewN ?_ _) | (with_reducible refine Below.trans ?_ (Below.mono (by assumption) (by first | omega | (simp; done) | (simp; omega)))))))).mono ?_); rintro e w3 ⟨rfl, hb3⟩; obtain ⟨hc3, hf3, hz3⟩ := bcall hb3; (try simp at hc3 hf3 hz3))
  have hbw := hbw.out
  have hbs := hbw.size
  go_wp2
  go_ret3
  refine ⟨rfl, ?_⟩
  (repeat' (first | (with_reducible exact Below.refl _ _) | (with_reducible refine Below.setCell ?_ (by first | omega | (simp; done) | (simp; omega)) _) | (with_reducible refine Below.alloc ?_ (by first | omega | (simp; done) | (simp; omega)) _) | (with_reducible refine Below.drew ?_) | (with_reducible refine below_drewN ?_ _) | (with_reducible refine Below.trans ?_ (Below.mono (by assumption) (by first | omega | (simp; done) | (simp; omega))))))

set_option maxRecDepth 100000 in
set_option maxHeartbeats 8000000 in
theorem fprof_in (a W H n cap b off : Nat) (G : Nat → Nat → Int) (w : World) (s : Sides W H n) (hO : OkG n G) (lb : b < w.heap.size) (hG : Grd w b off n G) (ha : a < 2) :
    Calls Tryd.prog 22 #[.agg #[.int .i64 W, .int .i64 H, .slice (some ⟨b, off, none⟩) n cap], .int .i64 ((a : Int))] w fun e w' => ∃ v, e = .returned (.tuple #[v, .int .i64 0]) ∧ w'.ownsRow w.heap.size 3 1 v (lnN a W H) (iV (fnL (lnS a W H (msC G)) (lnN a W H))) ∧ Below w.heap.size w w' := by
  have LN := Lib.hid (fun wx (hb : Below w.heap.size w wx) => flines_any a W H n cap b off G wx s (Nat.lt_of_lt_of_le lb hb.size) (hG.below hb lb) ha hO)
  have hl := lnN_one (a := a) s
  have SU := Lib.hid (fun g c wy (hb : Below w.heap.size w wy) (lg : g < wy.heap.size) (hB : BlksAt wy g (lnN a W H) W H (wiL a W) (hiL a H) (some ⟨b, off, none⟩) n cap (pL a)) =>
    fsums_in g (lnN a W H) c W H (wiL a W) (hiL a H) n cap (some ⟨b, off, none⟩) (pL a) 67 (lnS a W H (msC G)) wy (by omega) lg hB (fun i hi wx hx => fsum_line a W H n cap b off G w s lb hG 67 #[] (msC G) i hi wx (hb.trans (hx.mono hb.size)) (tells_mass wx n G hO) (tells_bd hO).1))
  obtain ⟨L, hL⟩ : ∃ L, L = lnN a W H := ⟨_, rfl⟩
  obtain ⟨xs, hxs⟩ : ∃ xs, xs = iV (fnL (lnS a W H (msC G)) (lnN a W H)) := ⟨_, rfl⟩
  rw [← hxs]
  rw [← hxs] at SU
  rw [← hL] at LN SU ⊢
  clear hL hxs s hO hG
  go_enter Tryd.func22, Tryd.ntmps22
  go_wp2_with fail
  go_at_call 79
  refine (LN.out _ (by (repeat' (first | (with_reducible exact Below.refl _ _) | (with_reducible refine Below.setCell ?_ (by first | omega | (simp; done) | (simp; omega)) _) | (with_reducible refine Below.alloc ?_ (by first | omega | (simp; done) | (simp; omega)) _) | (with_reducible refine Below.drew ?_) | (with_reducible refine below_drewN ?_ _) | (with_reducible refine Below.trans ?_ (Below.mono (by assumption) (by first | omega | (simp; done) | (simp; omega)))))))).mono ?_
  rintro e w1 ⟨g, c, rfl, hBl, lg, hb⟩
  have hbw := Lib.hid (show Below w.heap.size w w1 from by (repeat' (first | (with_reducible exact Below.refl _ _) | (with_reducible refine Below.setCell ?_ (by first | omega | (simp; done) | (simp; omega)) _) | (with_reducible refine Below.alloc ?_ (by first | omega | (simp; done) | (simp; omega)) _) | (with_reducible refine Below.drew ?_) | (with_reducible refine below_drewN ?_ _) | (with_reducible refine Below.trans ?_ (Below.mono (by assumption) (by first | omega | (simp; done) | (simp; omega)))))))
  have hbs := hbw.out.size
  have HBl := Lib.hid hBl
  clear hBl hb
  go_wp2_with fail
  go_at_call 78
  refine (SU.out g c _ hbw.out lg HBl.out).mono ?_
  rintro e w2 ⟨v, rfl, hr, hb2⟩
  have HR := Lib.hid hr
  have HB2 := Lib.hid hb2
  clear hr hb2
  go_wp2
  go_ret2
  exact ⟨v, rfl, ownsRow_base_a HR.out hbs, hbw.out.trans (HB2.out.mono hbs)⟩
end Go.Proofs.YtmdeooflgkjbbaaDoor
