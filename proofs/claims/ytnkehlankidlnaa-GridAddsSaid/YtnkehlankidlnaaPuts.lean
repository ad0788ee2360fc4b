/- Put and Take: by the program. -/
import Derived.Test.YtnkehlankidlnaaStreamed
import Derived.Test.YtnkehlankidlnaaPutM
import Derived.Test.YtnkehlankidlnaaMoved
import Derived.Deep.RegionLaw
namespace Go.Proofs.Ytnkehlankidlnaa
set_option linter.unusedSimpArgs false
set_option linter.unusedVariables false
open Go.RowKit

/-- A point on the grid, and a direction. -/
def Pop (W H px py d : Int) : Prop := 0 ≤ px ∧ px < W ∧ 0 ≤ py ∧ py < H ∧ 0 ≤ d ∧ d ≤ 3
def Cnt (v : Int) : Prop := 0 ≤ v ∧ v ≤ 1000000000

set_option maxHeartbeats 1000000 in
theorem isPop_yes (W H px py d : Int) (ao : Option Addr) (n cap : Nat) (w : World) (h : Pop W H px py d) :
    Calls Try.prog 70 #[.agg #[.int .i64 W, .int .i64 H, .slice (ao) n cap], .agg #[.int .i64 px, .int .i64 py], .int .i64 d] w fun e w' => e = .returned (.bool true) ∧ Below w.heap.size w w' := by
  obtain ⟨h0, h1, h2, h3, h4, h5⟩ := h
  go_enter Try.func70, Try.ntmps70
  go_wp2
  go_ret
  refine ⟨rfl, ?_⟩
  (repeat' (first | (with_reducible exact Below.refl _ _) | (with_reducible refine Below.setCell ?_ (by first | omega | (simp; done) | (simp; omega)) _) | (with_reducible refine Below.alloc ?_ (by first | omega | (simp; done) | (simp; omega)) _) | (with_reducible refine Below.drew ?_) | (with_reducible refine below_drewN ?_ _) | (with_reducible refine Below.trans ?_ (Below.mono (by assumption) (by first | omega | (simp; done) | (simp; omega))))))

set_option maxHeartbeats 4000000 in
theorem isPop_no (W H px py d : Int) (ao : Option Addr) (n cap : Nat) (w : World) (h : ¬ Pop W H px py d) :
    Calls Try.prog 70 #[.agg #[.int .i64 W, .int .i64 H, .slice (ao) n cap], .agg #[.int .i64 px, .int .i64 py], .int .i64 d] w fun e w' => e = .returned (.bool false) ∧ Below w.heap.size w w' := by
  by_cases h0 : 0 ≤ px
  rotate_left
  · clear h
    go_enter Try.func70, Try.ntmps70
    go_wp2
    go_ret
    refine ⟨rfl, ?_⟩
    (repeat' (first | (with_reducible exact Below.refl _ _) | (with_reducible refine Below.setCell ?_ (by first | omega | (simp; done) | (simp; omega)) _) | (with_reducible refine Below.alloc ?_ (by first | omega | (simp; done) | (simp; omega)) _) | (with_reducible refine Below.drew ?_) | (with_reducible refine below_drewN ?_ _) | (with_reducible refine Below.trans ?_ (Below.mono (by assumption) (by first | omega | (simp; done) | (simp; omega))))))
  by_cases h1 : px < W
  rotate_left
  · clear h
    go_enter Try.func70, Try.ntmps70
    go_wp2
    go_ret
    refine ⟨rfl, ?_⟩
    (repeat' (first | (with_reducible exact Below.refl _ _) | (with_reducible refine Below.setCell ?_ (by first | omega | (simp; done) | (simp; omega)) _) | (with_reducible refine Below.alloc ?_ (by first | omega | (simp; done) | (simp; omega)) _) | (with_reducible refine Below.drew ?_) | (with_reducible refine below_drewN ?_ _) | (with_reducible refine Below.trans ?_ (Below.mono (by assumption) (by first | omega | (simp; done) | (simp; omega))))))
  by_cases h2 : 0 ≤ py
  rotate_left
  · clear h
    go_enter Try.func70, Try.ntmps70
    go_wp2
    go_ret
    refine ⟨rfl, ?_⟩
    (repeat' (first | (with_reducible exact Below.refl _ _) | (with_reducible refine Below.setCell ?_ (by first | omega | (simp; done) | (simp; omega)) _) | (with_reducible refine Below.alloc ?_ (by first | omega | (simp; done) | (simp; omega)) _) | (with_reducible refine Below.drew ?_) | (with_reducible refine below_drewN ?_ _) | (with_reducible refine Below.trans ?_ (Below.mono (by assumption) (by first | omega | (simp; done) | (simp; omega))))))
  by_cases h3 : py < H
  rotate_left
  · clear h
    go_enter Try.func70, Try.ntmps70
    go_wp2
    go_ret
    refine ⟨rfl, ?_⟩
    (repeat' (first | (with_reducible exact Below.refl _ _) | (with_reducible refine Below.setCell ?_ (by first | omega | (simp; done) | (simp; omega)) _) | (with_reducible refine Below.alloc ?_ (by first | omega | (simp; done) | (simp; omega)) _) | (with_reducible refine Below.drew ?_) | (with_reducible refine below_drewN ?_ _) | (with_reducible refine Below.trans ?_ (Below.mono (by assumption) (by first | omega | (simp; done) | (simp; omega))))))
  by_cases h4 : 0 ≤ d
  rotate_left
  · clear h
    go_enter Try.func70, Try.ntmps70
    go_wp2
    go_ret
    refine ⟨rfl, ?_⟩
    (repeat' (first | (with_reducible exact Below.refl _ _) | (with_reducible refine Below.setCell ?_ (by first | omega | (simp; done) | (simp; omega)) _) | (with_reducible refine Below.alloc ?_ (by first | omega | (simp; done) | (simp; omega)) _) | (with_reducible refine Below.drew ?_) | (with_reducible refine below_drewN ?_ _) | (with_reducible refine Below.trans ?_ (Below.mono (by assumption) (by first | omega | (simp; done) | (simp; omega))))))
  by_cases h5 : d ≤ 3
  rotate_left
  · clear h
    go_enter Try.func70, Try.ntmps70
    go_wp2
    go_ret
    refine ⟨rfl, ?_⟩
    (repeat' (first | (with_reducible exact Below.refl _ _) | (with_reducible refine Below.setCell ?_ (by first | omega | (simp; done) | (simp; omega)) _) | (with_reducible refine Below.alloc ?_ (by first | omega | (simp; done) | (simp; omega)) _) | (with_reducible refine Below.drew ?_) | (with_reducible refine below_drewN ?_ _) | (with_reducible refine Below.trans ?_ (Below.mono (by assumption) (by first | omega | (simp; done) | (simp; omega))))))
  exact absurd ⟨h0, h1, h2, h3, h4, h5⟩ h

set_option maxHeartbeats 400000 in
theorem isCount_yes (v : Int) (w : World) (h : Cnt v) : Calls Try.prog 71 #[.int .i64 v] w fun e w' => e = .returned (.bool true) ∧ w = w' := by
  obtain ⟨h0, h1⟩ := h
  go_enter Try.func71, Try.ntmps71
  go_wp2
  go_ret
  exact ⟨rfl, rfl⟩
set_option maxHeartbeats 400000 in
theorem isCount_no (v : Int) (w : World) (h : ¬ Cnt v) : Calls Try.prog 71 #[.int .i64 v] w fun e w' => e = .returned (.bool false) ∧ w = w' := by
  by_cases h0 : 0 ≤ v
  · have h1 : ¬ v ≤ 1000000000 := fun k => h ⟨h0, k⟩
    clear h
    go_enter Try.func71, Try.ntmps71
    go_wp2
    go_ret
    exact ⟨rfl, rfl⟩
  · clear h
    go_enter Try.func71, Try.ntmps71
    go_wp2
    go_ret
    exact ⟨rfl, rfl⟩

theorem Grd.at {w : World} {b off n : Nat} {G : Nat → Nat → Int} (h : Grd w b off n G) {i d : Nat} (hi : i < n) (hd : d < 4) : w.cell? ⟨b, off + i * 4 + d, none⟩ = some (.int .i64 (G i d)) := by
  have := h.flat (i * 4 + d) (by omega)
  rw [show (i * 4 + d) / 4 = i by omega, show (i * 4 + d) % 4 = d by omega, ← Nat.add_assoc] at this
  exact this

/-- The place of a point. -/
theorem pop_place {W H n : Nat} {px py d : Int} (s : Sides W H n) (h : Pop W H px py d) : ∃ q k : Nat, q < n ∧ k < 4 ∧ d = k ∧ px + (W : Int) * py = q ∧ 0 ≤ px ∧ px ≤ 5000 ∧ 0 ≤ py ∧ py ≤ 5000 := by
  obtain ⟨h0, h1, h2, h3, h4, h5⟩ := h
  obtain ⟨x, rfl⟩ := Int.eq_ofNat_of_zero_le h0
  obtain ⟨y, rfl⟩ := Int.eq_ofNat_of_zero_le h2
  obtain ⟨k, rfl⟩ := Int.eq_ofNat_of_zero_le h4
  have := s.w1
  have := s.h1
  exact ⟨x + W * y, k, by rw [s.n0]; exact xy_lt (by omega) (by omega), by omega, rfl, by simp, by omega, by omega, by omega, by omega⟩

set_option maxRecDepth 100000 in
set_option maxHeartbeats 8000000 in
theorem grown_any (W H n b off cap : Nat) (G : Nat → Nat → Int) (px py v : Int) (q d : Nat) (w : World) (s : Sides W H n) (hO : OkG n G) (hlt : b < w.heap.size) (hG : Grd w b off n G) (hq : q < n) (hd : d < 4) (hp : px + (W : Int) * py = q) (p0 : 0 ≤ px) (p1 : px ≤ 5000) (y0 : 0 ≤ py) (y1 : py ≤ 5000) (v0 : -1000000000 ≤ v) (v1 : v ≤ 1000000000) :
    Calls Try.prog 72 #[.agg #[.int .i64 W, .int .i64 H, .slice (some ⟨b, off, none⟩) n cap], .agg #[.int .i64 px, .int .i64 py], .int .i64 d, .int .i64 v] w (Gave W H n (upd G q d (G q d + v)) w) := by
  have hn1 := s.n1
  have hn0 := row_of s
  have ri := Lib.hid (fun w' => index_any W H (some ⟨b, off, none⟩) n cap px py q w' (by omega) (by have := s.w1; omega) p0 p1 y0 y1 hp (by omega))
  have D := Lib.hid (fun w' (hb : Below w.heap.size w w') => copied_any b off n cap G w' hn0 (by omega) (hG.below hb hlt))
  obtain ⟨g0, g1⟩ := pop_le hO hq hd
  have g2 := hO.2
  have g3 : G q d ≤ 1000000000 := by omega
  have sv : IntKind.i64.wrap (G q d + v) = G q d + v := IntWalk.i64_in _ ⟨by omega, by omega⟩
  clear s hO hG hp g1 g2
  go_enter Try.func72, Try.ntmps72
  go_wp2_with fail
  go_at_call 87
  refine (D.out _ (by (repeat' (first | (with_reducible exact Below.refl _ _) | (with_reducible refine Below.setCell ?_ (by first | omega | (simp; done) | (simp; omega)) _) | (with_reducible refine Below.alloc ?_ (by first | omega | (simp; done) | (simp; omega)) _) | (with_reducible refine Below.drew ?_) | (with_reducible refine below_drewN ?_ _) | (with_reducible refine Below.trans ?_ (Below.mono (by assumption) (by first | omega | (simp; done) | (simp; omega)))))))).mono ?_
  rintro e w1 ⟨g, c, rfl, hr, hg, hcc, hm, hb⟩
  obtain ⟨hc, hf, hz⟩ := bcall hb
  (try simp at hc hf hz hg)
  have HR := Lib.hid hr
  have a0 := (hr.at hq hd).1
  have f0 := (hr.at hq hd).2
  have lg := hr.1
  have i0 : (0 : Int) ≤ (q : Int) := by omega
  have i1 : (q : Int) < (n : Int) := by omega
  have i2 : (0 : Int) ≤ (d : Int) := by omega
  have i3 : (d : Int) < 4 := by omega
  clear hr D
  go_wp2
  go_region_law ((go_simp; go_at_call 76; (with_reducible refine (ri.out _).mono ?_); rintro e w5 ⟨rfl, hb5⟩; have a5 := keep_cell hb5 (by first | omega | (simp; done) | (simp; omega)) a0; have f5 := (hb5.frozen (p := ⟨g, q * 4 + d, none⟩) (by first | omega | (simp; done) | (simp; omega))).trans f0))
  all_goals
    have HB5 := Lib.hid (show Below w.heap.size w (w5.setCell ⟨g, q * 4 + d, none⟩ (.int .i64 (G q d + v))) from by (repeat' (first | (with_reducible exact Below.refl _ _) | (with_reducible refine Below.setCell ?_ (by first | omega | (simp; done) | (simp; omega)) _) | (with_reducible refine Below.alloc ?_ (by first | omega | (simp; done) | (simp; omega)) _) | (with_reducible refine Below.drew ?_) | (with_reducible refine below_drewN ?_ _) | (with_reducible refine Below.trans ?_ (Below.mono (by assumption) (by first | omega | (simp; done) | (simp; omega)))))))
    have HR5 := Lib.hid (show Row (w5.setCell ⟨g, q * 4 + d, none⟩ (.int .i64 (G q d + v))) g n (upd G q d (G q d + v)) from ((HR.out.ex ((Ex.refl (fun _ => False) w1).drew) (fun h => h)).below hb5 (by first | omega | (simp; done) | (simp; omega))).set hq hd _ rfl)
    obtain ⟨hc5, hf5, hz5⟩ := bcall hb5
    (try simp at hc5 hf5 hz5)
    clear a5 f5 a0 f0 sv
    go_wp2
    refine bodyPost_ret (v := .agg #[.int .i64 W, .int .i64 H, .slice (some ⟨g, 0, none⟩) n c]) (by simp [results, Try.results72, go_sem, ↓IntWalk.iteOmega, *]) rfl ?_
    exact gave_pass HR5.out HB5.out (by omega) (by omega)

end Go.Proofs.Ytnkehlankidlnaa
