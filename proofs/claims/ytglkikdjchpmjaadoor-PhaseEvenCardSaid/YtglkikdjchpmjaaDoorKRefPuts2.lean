/- Reversed, Shifted, Turned, Mirrored: by the reference. -/
import Derived.Test.YtglkikdjchpmjaaDoorKDiff
import Derived.Test.YtglkikdjchpmjaaDoorKPuts
namespace Go.Proofs.YtglkikdjchpmjaaDoor
set_option linter.unusedSimpArgs false
set_option linter.unusedVariables false
open Go.RowKit

/-- While the reference moves cells. -/
def RMv (w : World) (P o co : Nat) (W H wide high : Int) (b off n cap : Nat) (K : Nat → Nat → Int) (wr : World) : Prop :=
  Three wr w.heap.size 24 (.int .i64 W) (.int .i64 H) (.slice (some ⟨b, off, none⟩) n cap) ∧ Three wr (w.heap.size + 1) 24 (.int .i64 0) (.int .i64 0) (.slice none 0 0) ∧ Three wr P 24 (.int .i64 wide) (.int .i64 high) (.slice (some ⟨o, 0, none⟩) n co) ∧ Row wr o n K ∧ w.heap.size + 1 < o ∧ P ≠ o ∧ w.heap.size + 1 < P ∧ Below w.heap.size w wr

theorem RMv.step {w wr wr' : World} {P o co : Nat} {W H wide high : Int} {b off n cap : Nat} {K K' : Nat → Nat → Int} (h : RMv w P o co W H wide high b off n cap K wr) (hx : Ex (fun k => k = o) wr wr') (hr : Row wr' o n K') : RMv w P o co W H wide high b off n cap K' wr' := by
  obtain ⟨t0, t1, t3, _, q0, q1, q2, hb⟩ := h
  exact ⟨t0.ex hx (by omega), t1.ex hx (by omega), t3.ex hx (by omega), hr, q0, q1, q2, hb.trans (hx.below hb.size (fun k hk => by omega))⟩

theorem rmv_start {w wo : World} {o co : Nat} {W H wide high : Int} {b off n cap : Nat} (hb : Below ((w.alloc (.cells #[.int .i64 W, .int .i64 H, .slice (some ⟨b, off, none⟩) n cap] 24)).alloc (.cells #[.int .i64 0, .int .i64 0, .slice none 0 0] 24)).heap.size ((w.alloc (.cells #[.int .i64 W, .int .i64 H, .slice (some ⟨b, off, none⟩) n cap] 24)).alloc (.cells #[.int .i64 0, .int .i64 0, .slice none 0 0] 24)) wo)
    (hr : Row wo o n (fun _ _ => 0)) (ho : w.heap.size + 1 < o) :
    RMv w wo.heap.size o co W H wide high b off n cap (fun _ _ => 0) (wo.alloc (.cells #[.int .i64 wide, .int .i64 high, .slice (some ⟨o, 0, none⟩) n co] 24)) := by
  have x : Ex (fun _ => False) wo (wo.alloc (.cells #[.int .i64 wide, .int .i64 high, .slice (some ⟨o, 0, none⟩) n co] 24)) := (Ex.refl _ _).alloc _
  have t0 : Three ((w.alloc (.cells #[.int .i64 W, .int .i64 H, .slice (some ⟨b, off, none⟩) n cap] 24)).alloc (.cells #[.int .i64 0, .int .i64 0, .slice none 0 0] 24)) w.heap.size 24 (.int .i64 W) (.int .i64 H) (.slice (some ⟨b, off, none⟩) n cap) := (Three.new0 w _ _ _ _).below ((Below.refl _ _).alloc (Nat.le_refl _) _) (by simp)
  have hs := hb.size
  simp at hs
  have hB : Below w.heap.size w wo := (((Below.refl _ w).alloc (Nat.le_refl _) _).alloc (by simp) _).trans (hb.mono (by simp; omega))
  have hlt := hr.1
  exact ⟨(t0.below hb (by simp; omega)).ex x (fun h => h), ((Three.new1 w _ _ _ _ _).below hb (by simp)).ex x (fun h => h), Three.new0 wo _ _ _ _, hr.ex x (fun h => h), ho, by omega, by omega, hB.alloc (by omega) _⟩

theorem tmodW {k W : Nat} {X : Int} (h : (k : Int) % (W : Int) = X) : (k : Int).tmod (W : Int) = X := by rw [← h]; exact Int.tmod_eq_emod_of_nonneg (Int.natCast_nonneg _)

theorem sh_facts {W H n k a c q : Nat} (s : Sides W H n) (hk : k < n) (ha : a < W) (hc : c < H) (hq : q = shp W H a c k) : ∃ X Y A A2 B B2 M : Int, (k : Int) % (W : Int) = X ∧ (k : Int) / (W : Int) = Y ∧ X + a = A ∧ A % (W : Int) = A2 ∧ A.tmod W = A2 ∧ Y + c = B ∧ B % (H : Int) = B2 ∧ B.tmod H = B2 ∧ B2 * (W : Int) = M ∧ A2 + M = q ∧
    0 ≤ X ∧ X ≤ 5000 ∧ 0 ≤ Y ∧ Y ≤ 5000 ∧ 0 ≤ A ∧ A ≤ 5000 ∧ 0 ≤ B ∧ B ≤ 5000 ∧ 0 ≤ A2 ∧ A2 ≤ 5000 ∧ 0 ≤ B2 ∧ B2 ≤ 5000 ∧ 0 ≤ M ∧ M ≤ 5000 := by
  obtain ⟨e1, e2, h1, h2, h3, h4⟩ := xy_int s hk
  have hw := s.w1
  have hh := s.h1
  have m0 := Nat.mod_lt (k % W + a) (show 0 < W by omega)
  have m1 := Nat.mod_lt (k / W + c) (show 0 < H by omega)
  have f1 : ((k : Int) % (W : Int) + a) % (W : Int) = (((k % W + a) % W : Nat) : Int) := by rw [e1, ← Int.natCast_add, ← Int.natCast_emod]
  have f2 : ((k : Int) / (W : Int) + c) % (H : Int) = (((k / W + c) % H : Nat) : Int) := by rw [e2, ← Int.natCast_add, ← Int.natCast_emod]
  have f3 : (((k / W + c) % H : Nat) : Int) * (W : Int) = ((W * ((k / W + c) % H) : Nat) : Int) := by rw [Int.natCast_mul, Int.mul_comm]
  have f4 : W * ((k / W + c) % H) ≤ 64 * 64 := Nat.mul_le_mul hw (by omega)
  refine ⟨_, _, _, _, _, _, _, rfl, rfl, rfl, rfl, Int.tmod_eq_emod_of_nonneg (by omega), rfl, rfl, Int.tmod_eq_emod_of_nonneg (by omega), rfl, ?_, by omega, by omega, by omega, by omega, by omega, by omega, by omega, by omega, ?_, ?_, ?_, ?_, ?_, ?_⟩
  · rw [f1, f2, f3, hq, ← Int.natCast_add]
    rfl
  · rw [f1]; omega
  · rw [f1]; omega
  · rw [f2]; omega
  · rw [f2]; omega
  · rw [f2, f3]; exact Int.natCast_nonneg _
  · rw [f2, f3]; omega

theorem tu_facts {W H n k q : Nat} (s : Sides W H n) (hk : k < n) (hq : q = trp W H k) : ∃ X Y H1 A M : Int, (k : Int) % (W : Int) = X ∧ (k : Int) / (W : Int) = Y ∧ (H : Int) - 1 = H1 ∧ H1 - Y = A ∧ (H : Int) * X = M ∧ A + M = q ∧
    0 ≤ X ∧ X ≤ 5000 ∧ 0 ≤ Y ∧ Y ≤ 5000 ∧ 0 ≤ H1 ∧ H1 ≤ 5000 ∧ 0 ≤ A ∧ A ≤ 5000 ∧ 0 ≤ M ∧ M ≤ 5000 := by
  obtain ⟨e1, e2, h1, h2, h3, h4⟩ := xy_int s hk
  have hw := s.w1
  have hh := s.h1
  have f4 : H * (k % W) ≤ 64 * 64 := Nat.mul_le_mul hh (by omega)
  have f3 : (H : Int) * ((k % W : Nat) : Int) = ((H * (k % W) : Nat) : Int) := (Int.natCast_mul _ _).symm
  have f1 : (H : Int) - 1 - (k : Int) / (W : Int) = ((H - 1 - k / W : Nat) : Int) := by rw [e2]; generalize k / W = z at *; omega
  refine ⟨_, _, _, _, _, rfl, rfl, rfl, rfl, rfl, ?_, by omega, by omega, by omega, by omega, by omega, by omega, by omega, by omega, ?_, ?_⟩
  · rw [f1, e1, f3, hq, ← Int.natCast_add]
    rfl
  · rw [e1, f3]; exact Int.natCast_nonneg _
  · rw [e1, f3]; omega

theorem mi_facts {W H n k q : Nat} (s : Sides W H n) (hk : k < n) (hq : q = mip W k) : ∃ X Y H1 A M : Int, (k : Int) % (W : Int) = X ∧ (k : Int) / (W : Int) = Y ∧ (W : Int) - 1 = H1 ∧ H1 - X = A ∧ (W : Int) * Y = M ∧ A + M = q ∧
    0 ≤ X ∧ X ≤ 5000 ∧ 0 ≤ Y ∧ Y ≤ 5000 ∧ 0 ≤ H1 ∧ H1 ≤ 5000 ∧ 0 ≤ A ∧ A ≤ 5000 ∧ 0 ≤ M ∧ M ≤ 5000 := by
  obtain ⟨e1, e2, h1, h2, h3, h4⟩ := xy_int s hk
  have hw := s.w1
  have hh := s.h1
  have f4 : W * (k / W) ≤ 64 * 64 := Nat.mul_le_mul hw (by omega)
  have f3 : (W : Int) * ((k / W : Nat) : Int) = ((W * (k / W) : Nat) : Int) := (Int.natCast_mul _ _).symm
  have f1 : (W : Int) - 1 - (k : Int) % (W : Int) = ((W - 1 - k % W : Nat) : Int) := by rw [e1]; generalize k % W = z at *; omega
  refine ⟨_, _, _, _, _, rfl, rfl, rfl, rfl, rfl, ?_, by omega, by omega, by omega, by omega, by omega, by omega, by omega, by omega, ?_, ?_⟩
  · rw [f1, e2, f3, hq, ← Int.natCast_add]
    rfl
  · rw [e2, f3]; exact Int.natCast_nonneg _
  · rw [e2, f3]; omega

theorem Sides.turn' {W H n : Nat} (s : Sides W H n) : Sides H W n := ⟨s.h0, s.h1, s.w0, s.w1, by rw [s.n0, Nat.mul_comm], s.n1⟩

end Go.Proofs.YtglkikdjchpmjaaDoor

/- Put and Take: by the reference. -/


namespace Go.Proofs.YtglkikdjchpmjaaDoor
set_option linter.unusedSimpArgs false
set_option linter.unusedVariables false
open Go.RowKit

set_option maxHeartbeats 1000000 in
theorem rOn_yes (W H px py : Int) (ao : Option Addr) (n cap : Nat) (w : World) (w0 : 1 ≤ W) (w1 : W ≤ 64) (h0 : 1 ≤ H) (h1 : H ≤ 64) (h : 0 ≤ px ∧ px < W ∧ 0 ≤ py ∧ py < H) :
    Calls Tryd.prog 82 #[.agg #[.int .i64 W, .int .i64 H, .slice (ao) n cap], .agg #[.int .i64 px, .int .i64 py]] w fun e w' => e = .returned (.bool true) ∧ Below w.heap.size w w' := by
  obtain ⟨k0, k1, k2, k3⟩ := h
  go_enter Tryd.func82, Tryd.ntmps82
  go_wp2_with (go_at_call 151; (with_reducible refine (within2_yes _ _ _ _ (by omega) (by omega)).mono ?_); rintro e w1 ⟨rfl, rfl⟩)
  go_ret
  refine ⟨by simp, ?_⟩
  (repeat' (first | (with_reducible exact Below.refl _ _) | (with_reducible refine Below.setCell ?_ (by first | omega | (simp; done) | (simp; omega)) _) | (with_reducible refine Below.alloc ?_ (by first | omega | (simp; done) | (simp; omega)) _) | (with_reducible refine Below.drew ?_) | (with_reducible refine below_drewN ?_ _) | (with_reducible refine Below.trans ?_ (Below.mono (by assumption) (by first | omega | (simp; done) | (simp; omega))))))
set_option maxHeartbeats 2000000 in
theorem rOn_no (W H px py : Int) (ao : Option Addr) (n cap : Nat) (w : World) (w0 : 1 ≤ W) (w1 : W ≤ 64) (h0 : 1 ≤ H) (h1 : H ≤ 64) (h : ¬ (0 ≤ px ∧ px < W ∧ 0 ≤ py ∧ py < H)) :
    Calls Tryd.prog 82 #[.agg #[.int .i64 W, .int .i64 H, .slice (ao) n cap], .agg #[.int .i64 px, .int .i64 py]] w fun e w' => e = .returned (.bool false) ∧ Below w.heap.size w w' := by
  by_cases hx : 0 ≤ px ∧ px < W
  · have hy : py < 0 ∨ H - 1 < py := by omega
    obtain ⟨x0, x1⟩ := hx
    clear h
    go_enter Tryd.func82, Tryd.ntmps82
    go_wp2_with (first | (go_at_call 151; (with_reducible refine (within2_yes px 0 (W - 1) _ (by omega) (by omega)).mono ?_); rintro e w1 ⟨rfl, rfl⟩) | (go_at_call 151; (with_reducible refine (within2_no py 0 (H - 1) _ hy).mono ?_); rintro e w1 ⟨rfl, rfl⟩))
    go_ret
    refine ⟨by simp, ?_⟩
    (repeat' (first | (with_reducible exact Below.refl _ _) | (with_reducible refine Below.setCell ?_ (by first | omega | (simp; done) | (simp; omega)) _) | (with_reducible refine Below.alloc ?_ (by first | omega | (simp; done) | (simp; omega)) _) | (with_reducible refine Below.drew ?_) | (with_reducible refine below_drewN ?_ _) | (with_reducible refine Below.trans ?_ (Below.mono (by assumption) (by first | omega | (simp; done) | (simp; omega))))))
  · have hy : px < 0 ∨ W - 1 < px := by omega
    clear h hx
    go_enter Tryd.func82, Tryd.ntmps82
    go_wp2_with (go_at_call 151; (with_reducible refine (within2_no px 0 (W - 1) _ hy).mono ?_); rintro e w1 ⟨rfl, rfl⟩)
    go_ret
    refine ⟨by simp, ?_⟩
    (repeat' (first | (with_reducible exact Below.refl _ _) | (with_reducible refine Below.setCell ?_ (by first | omega | (simp; done) | (simp; omega)) _) | (with_reducible refine Below.alloc ?_ (by first | omega | (simp; done) | (simp; omega)) _) | (with_reducible refine Below.drew ?_) | (with_reducible refine below_drewN ?_ _) | (with_reducible refine Below.trans ?_ (Below.mono (by assumption) (by first | omega | (simp; done) | (simp; omega))))))

end Go.Proofs.YtglkikdjchpmjaaDoor

/- Put and Take: by the reference. -/

namespace Go.Proofs.YtglkikdjchpmjaaDoor
set_option linter.unusedSimpArgs false
set_option linter.unusedVariables false
open Go.RowKit
attribute [local irreducible] wpStill

set_option maxRecDepth 100000 in
set_option maxHeartbeats 2000000 in
theorem weight2_any (b off n cap : Nat) (G : Nat → Nat → Int) (w : World) (hn : n ≤ 100000) (hok : ∀ i, i < n → 0 ≤ G i 0 ∧ G i 0 ≤ 2000000000 ∧ 0 ≤ G i 1 ∧ G i 1 ≤ 2000000000 ∧ 0 ≤ G i 2 ∧ G i 2 ≤ 2000000000 ∧ 0 ≤ G i 3 ∧ G i 3 ≤ 2000000000) (hlt : b < w.heap.size) (hG : Grd w b off n G) :
    Calls Tryd.prog 132 #[.slice (some ⟨b, off, none⟩) n cap] w fun e w' => e = .returned (.int .i64 (wt G n)) ∧ Below w.heap.size w w' := by
  have HO := Lib.hid hok; clear hok
  have HG := Lib.hid hG; clear hG
  go_enter Tryd.func132, Tryd.ntmps132
  go_wp2
  go_loopw [3, 4] (fun t i wr => ∃ k : Nat, k ≤ n ∧ i = .int .i64 k ∧ t = .int .i64 (wt G k) ∧ Below w.heap.size w wr) (fun _ i _ => n - (intOf i).toNat)
  case atStart => exact ⟨0, Nat.zero_le _, rfl, rfl, Below.refl _ _⟩
  case round =>
    obtain ⟨k, hk, rfl, rfl, hB⟩ := hrel
    by_cases hlk : k < n
    · obtain ⟨c0, c1, c2, c3⟩ := HG.out.get hB hlt hlk
      obtain ⟨x0, y0, x1, y1, x2, y2, x3, y3⟩ := HO.out k hlk
      obtain ⟨w10, w11⟩ := wt_bd2 HO.out k hk
      have p0 : (0 : Int) ≤ (k : Int) := by omega
      have p1 : (k : Int) < (n : Int) := by omega
      have s1 : IntKind.i64.wrap (wt G k + G k 0) = wt G k + G k 0 := IntWalk.i64_in _ ⟨by omega, by omega⟩
      have s2 : IntKind.i64.wrap (wt G k + G k 0 + G k 1) = wt G k + G k 0 + G k 1 := IntWalk.i64_in _ ⟨by omega, by omega⟩
      have s3 : IntKind.i64.wrap (wt G k + G k 0 + G k 1 + G k 2) = wt G k + G k 0 + G k 1 + G k 2 := IntWalk.i64_in _ ⟨by omega, by omega⟩
      have s4 : IntKind.i64.wrap (wt G k + G k 0 + G k 1 + G k 2 + G k 3) = wt G k + G k 0 + G k 1 + G k 2 + G k 3 := IntWalk.i64_in _ ⟨by omega, by omega⟩
      go_wp2
      go_quiet (fail)
      clear s1 s2 s3 s4
      go_wp2
      go_roundw
      case rel => exact ⟨k + 1, by omega, by go_num, congrArg (Value.int IntKind.i64) (show wt G k + G k 0 + G k 1 + G k 2 + G k 3 = wt G k + (G k 0 + G k 1 + G k 2 + G k 3) by omega), below_drewN hB _⟩
      case measure => simp [intOf]; omega
    · obtain rfl : n = k := by omega
      go_wp2
      go_ret
      exact ⟨rfl, hB⟩

theorem upd_bd {G : Nat → Nat → Int} {n q d : Nat} {v : Int} (hO : OkG n G) (hq : q < n) (hd : d < 4) (v0 : 0 ≤ v) (v1 : v ≤ 1000000000) : ∀ i, i < n → 0 ≤ upd G q d (G q d + v) i 0 ∧ upd G q d (G q d + v) i 0 ≤ 2000000000 ∧ 0 ≤ upd G q d (G q d + v) i 1 ∧ upd G q d (G q d + v) i 1 ≤ 2000000000 ∧ 0 ≤ upd G q d (G q d + v) i 2 ∧ upd G q d (G q d + v) i 2 ≤ 2000000000 ∧ 0 ≤ upd G q d (G q d + v) i 3 ∧ upd G q d (G q d + v) i 3 ≤ 2000000000 := by
  intro i hi
  have h2 := hO.2
  have each : ∀ e, e < 4 → 0 ≤ upd G q d (G q d + v) i e ∧ upd G q d (G q d + v) i e ≤ 2000000000 := by
    intro e he
    obtain ⟨a, b⟩ := pop_le hO hi he
    obtain ⟨a', b'⟩ := pop_le hO hq hd
    unfold upd
    split <;> omega
  exact ⟨(each 0 (by omega)).1, (each 0 (by omega)).2, (each 1 (by omega)).1, (each 1 (by omega)).2, (each 2 (by omega)).1, (each 2 (by omega)).2, (each 3 (by omega)).1, (each 3 (by omega)).2⟩
theorem wt_upd {G : Nat → Nat → Int} {n q d : Nat} {x : Int} (hq : q < n) (hd : d < 4) : wt (upd G q d x) n = wt G n + (x - G q d) := by
  have := wt_at (G := G) (K := upd G q d x) hq hd (fun j _ e _ h => upd_other G x h)
  rw [upd_same] at this
  exact this

/-- The world behind a copy that is stored over the argument. -/
theorem copied_world {w wo : World} {W H px py : Int} {b off n cap o co : Nat} (hb : Below (((w.alloc (.cells #[.int .i64 W, .int .i64 H, .slice (some ⟨b, off, none⟩) n cap] 24)).alloc (.cells #[.int .i64 px, .int .i64 py] 31)).alloc (.cells #[.int .i64 0, .int .i64 0, .slice none 0 0] 24)).heap.size (((w.alloc (.cells #[.int .i64 W, .int .i64 H, .slice (some ⟨b, off, none⟩) n cap] 24)).alloc (.cells #[.int .i64 px, .int .i64 py] 31)).alloc (.cells #[.int .i64 0, .int .i64 0, .slice none 0 0] 24)) wo)
    {w0 : World} (hw : w0 = ((wo.setCell ⟨w.heap.size, 0, none⟩ (.int .i64 W)).setCell ⟨w.heap.size, 1, none⟩ (.int .i64 H)).setCell ⟨w.heap.size, 2, none⟩ (.slice (some ⟨o, 0, none⟩) n co)) :
    Three w0 w.heap.size 24 (.int .i64 W) (.int .i64 H) (.slice (some ⟨o, 0, none⟩) n co) ∧ Two w0 (w.heap.size + 1) 31 (.int .i64 px) (.int .i64 py) ∧ Three w0 (w.heap.size + 2) 24 (.int .i64 0) (.int .i64 0) (.slice none 0 0) ∧ Ex (fun k => k = w.heap.size) wo w0 := by
  subst hw
  have x : Ex (fun k => k = w.heap.size) wo (((wo.setCell ⟨w.heap.size, 0, none⟩ (.int .i64 W)).setCell ⟨w.heap.size, 1, none⟩ (.int .i64 H)).setCell ⟨w.heap.size, 2, none⟩ (.slice (some ⟨o, 0, none⟩) n co)) := three_ex
  have t0 := (Three.new3 w 24 (.int .i64 W) (.int .i64 H) (.slice (some ⟨b, off, none⟩) n cap) (.cells #[.int .i64 px, .int .i64 py] 31) (.cells #[.int .i64 0, .int .i64 0, .slice none 0 0] 24)).below hb (by simp; omega)
  have t1 := Two.at (((Two.new (w.alloc (.cells #[.int .i64 W, .int .i64 H, .slice (some ⟨b, off, none⟩) n cap] 24)) 31 (.int .i64 px) (.int .i64 py)).alloc (.cells #[.int .i64 0, .int .i64 0, .slice none 0 0] 24)).below hb (by simp)) (show _ = w.heap.size + 1 by simp)
  have t2 := Three.at ((Three.new0 ((w.alloc (.cells #[.int .i64 W, .int .i64 H, .slice (some ⟨b, off, none⟩) n cap] 24)).alloc (.cells #[.int .i64 px, .int .i64 py] 31)) 24 (.int .i64 0) (.int .i64 0) (.slice none 0 0)).below hb (by simp)) (show _ = w.heap.size + 2 by simp)
  exact ⟨t0.set, (x.block _ t1.lt (by omega)).trans t1, t2.ex x (by omega), x⟩

end Go.Proofs.YtglkikdjchpmjaaDoor
