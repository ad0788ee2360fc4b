/- The reference's grids: blank ones, copies, where particles come from. -/
import Derived.Test.YtnkehlankidlnaaRefG1
import Derived.Test.YtnkehlankidlnaaRefRules
import Derived.Test.YtnkehlankidlnaaRef2
namespace Go.Proofs.Ytnkehlankidlnaa
set_option linter.unusedSimpArgs false
set_option linter.unusedVariables false
open Go.RowKit

theorem refOpp0 (w : World) : Calls Try.prog 68 #[.int .i64 0] w fun e w' => e = .returned (.int .i64 2) ∧ w = w' := by
  go_enter Try.func68, Try.ntmps68
  go_wp2
  go_ret
  exact ⟨rfl, rfl⟩
theorem refOpp1 (w : World) : Calls Try.prog 68 #[.int .i64 1] w fun e w' => e = .returned (.int .i64 3) ∧ w = w' := by
  go_enter Try.func68, Try.ntmps68
  go_wp2
  go_ret
  exact ⟨rfl, rfl⟩
theorem refOpp2 (w : World) : Calls Try.prog 68 #[.int .i64 2] w fun e w' => e = .returned (.int .i64 0) ∧ w = w' := by
  go_enter Try.func68, Try.ntmps68
  go_wp2
  go_ret
  exact ⟨rfl, rfl⟩
theorem refOpp3 (w : World) : Calls Try.prog 68 #[.int .i64 3] w fun e w' => e = .returned (.int .i64 1) ∧ w = w' := by
  go_enter Try.func68, Try.ntmps68
  go_wp2
  go_ret
  exact ⟨rfl, rfl⟩
theorem nb_opp (W H k : Nat) : nb W H (-1) k 2 = nb W H 1 k 0 ∧ nb W H (-1) k 3 = nb W H 1 k 1 ∧ nb W H (-1) k 0 = nb W H 1 k 2 ∧ nb W H (-1) k 1 = nb W H 1 k 3 := by
  unfold nb
  refine ⟨?_, ?_, ?_, ?_⟩ <;> simp [dx, dy]

set_option maxHeartbeats 4000000 in
theorem from0 (W H n k : Nat) (w : World) (s : Sides W H n) (hk : k < n) :
    Calls Try.prog 116 #[.int .i64 W, .int .i64 H, .int .i64 k, .int .i64 0] w fun e w' => e = .returned (.int .i64 (nb W H (-1) k 0)) ∧ ∃ j, w' = w.drewN j := by
  obtain ⟨x0, x1, y0, y1⟩ := coords W k (by have := s.n1; omega)
  have p := (nb_plc W H (-1) k s.w0 (s.n0 ▸ hk)).1
  rw [Int.natCast_emod, Int.natCast_ediv] at p
  obtain ⟨h1, h2, h3, h4, h5, h6⟩ := s
  obtain ⟨X, hX⟩ : ∃ X, (k : Int) % (W : Int) = X := ⟨_, rfl⟩
  obtain ⟨Y, hY⟩ : ∃ Y, (k : Int) / (W : Int) = Y := ⟨_, rfl⟩
  rw [hX] at x0 x1 p
  rw [hY] at y0 y1 p
  obtain ⟨b0, b1, b2, b3⟩ := plc_bd (W := W) (H := H) (x := X + -1) (y := Y) (by omega) (by omega) (by omega) (by omega)
  rw [← p]
  have e : (X + (W : Int) - 1) % (W : Int) = (X + -1) % (W : Int) := by rw [show X + (W : Int) - 1 = X + -1 + W by omega]; first | rw [Int.add_emod_right] | rw [Int.add_emod_self]
  have e2 : (X + (W : Int) - 1) % (W : Int) + Y % (H : Int) * (W : Int) = plc W H (X + -1) (Y) := by
    unfold plc
    rw [e, Int.mul_comm]
  have s1 : IntKind.i64.wrap (Y % (H : Int) * (W : Int)) = Y % (H : Int) * (W : Int) := IntWalk.i64_in _ (by first | (rw [Int.mul_comm]; exact ⟨by omega, by omega⟩) | (rw [e, Int.mul_comm]; exact ⟨by omega, by omega⟩))
  have s2 : IntKind.i64.wrap ((X + (W : Int) - 1) % (W : Int) + Y % (H : Int) * (W : Int)) = plc W H (X + -1) (Y) := by
    rw [e2]
    exact IntWalk.i64_in _ ⟨by omega, by omega⟩
  clear b0 b1 b2 b3 e e2 p
  go_enter Try.func116, Try.ntmps116
  go_wp2
  go_quiet (fail)
  go_wp2
  go_quiet (fail)
  go_wp2
  go_ret
  exact ⟨rfl, _, World.drewN_drewN ..⟩

set_option maxHeartbeats 4000000 in
theorem from1 (W H n k : Nat) (w : World) (s : Sides W H n) (hk : k < n) :
    Calls Try.prog 116 #[.int .i64 W, .int .i64 H, .int .i64 k, .int .i64 1] w fun e w' => e = .returned (.int .i64 (nb W H (-1) k 1)) ∧ ∃ j, w' = w.drewN j := by
  obtain ⟨x0, x1, y0, y1⟩ := coords W k (by have := s.n1; omega)
  have p := (nb_plc W H (-1) k s.w0 (s.n0 ▸ hk)).2.1
  rw [Int.natCast_emod, Int.natCast_ediv] at p
  obtain ⟨h1, h2, h3, h4, h5, h6⟩ := s
  obtain ⟨X, hX⟩ : ∃ X, (k : Int) % (W : Int) = X := ⟨_, rfl⟩
  obtain ⟨Y, hY⟩ : ∃ Y, (k : Int) / (W : Int) = Y := ⟨_, rfl⟩
  rw [hX] at x0 x1 p
  rw [hY] at y0 y1 p
  obtain ⟨b0, b1, b2, b3⟩ := plc_bd (W := W) (H := H) (x := X) (y := Y + -1) (by omega) (by omega) (by omega) (by omega)
  rw [← p]
  have e : (Y + (H : Int) - 1) % (H : Int) = (Y + -1) % (H : Int) := by rw [show Y + (H : Int) - 1 = Y + -1 + H by omega]; first | rw [Int.add_emod_right] | rw [Int.add_emod_self]
  have e2 : X % (W : Int) + (Y + (H : Int) - 1) % (H : Int) * (W : Int) = plc W H (X) (Y + -1) := by
    unfold plc
    rw [e, Int.mul_comm]
  have s1 : IntKind.i64.wrap ((Y + (H : Int) - 1) % (H : Int) * (W : Int)) = (Y + (H : Int) - 1) % (H : Int) * (W : Int) := IntWalk.i64_in _ (by first | (rw [Int.mul_comm]; exact ⟨by omega, by omega⟩) | (rw [e, Int.mul_comm]; exact ⟨by omega, by omega⟩))
  have s2 : IntKind.i64.wrap (X % (W : Int) + (Y + (H : Int) - 1) % (H : Int) * (W : Int)) = plc W H (X) (Y + -1) := by
    rw [e2]
    exact IntWalk.i64_in _ ⟨by omega, by omega⟩
  clear b0 b1 b2 b3 e e2 p
  go_enter Try.func116, Try.ntmps116
  go_wp2
  go_quiet (fail)
  go_wp2
  go_quiet (fail)
  go_wp2
  go_ret
  exact ⟨rfl, _, World.drewN_drewN ..⟩

set_option maxHeartbeats 4000000 in
theorem from2 (W H n k : Nat) (w : World) (s : Sides W H n) (hk : k < n) :
    Calls Try.prog 116 #[.int .i64 W, .int .i64 H, .int .i64 k, .int .i64 2] w fun e w' => e = .returned (.int .i64 (nb W H (-1) k 2)) ∧ ∃ j, w' = w.drewN j := by
  obtain ⟨x0, x1, y0, y1⟩ := coords W k (by have := s.n1; omega)
  have p := (nb_plc W H (-1) k s.w0 (s.n0 ▸ hk)).2.2.1
  rw [Int.natCast_emod, Int.natCast_ediv] at p
  obtain ⟨h1, h2, h3, h4, h5, h6⟩ := s
  obtain ⟨X, hX⟩ : ∃ X, (k : Int) % (W : Int) = X := ⟨_, rfl⟩
  obtain ⟨Y, hY⟩ : ∃ Y, (k : Int) / (W : Int) = Y := ⟨_, rfl⟩
  rw [hX] at x0 x1 p
  rw [hY] at y0 y1 p
  obtain ⟨b0, b1, b2, b3⟩ := plc_bd (W := W) (H := H) (x := X - -1) (y := Y) (by omega) (by omega) (by omega) (by omega)
  rw [← p]
  have e : (X + 1) % (W : Int) = (X - -1) % (W : Int) := by rw [show X - -1 = X + 1 by omega]
  have e2 : (X + 1) % (W : Int) + Y % (H : Int) * (W : Int) = plc W H (X - -1) (Y) := by
    unfold plc
    rw [e, Int.mul_comm]
  have s1 : IntKind.i64.wrap (Y % (H : Int) * (W : Int)) = Y % (H : Int) * (W : Int) := IntWalk.i64_in _ (by first | (rw [Int.mul_comm]; exact ⟨by omega, by omega⟩) | (rw [e, Int.mul_comm]; exact ⟨by omega, by omega⟩))
  have s2 : IntKind.i64.wrap ((X + 1) % (W : Int) + Y % (H : Int) * (W : Int)) = plc W H (X - -1) (Y) := by
    rw [e2]
    exact IntWalk.i64_in _ ⟨by omega, by omega⟩
  clear b0 b1 b2 b3 e e2 p
  go_enter Try.func116, Try.ntmps116
  go_wp2
  go_quiet (fail)
  go_wp2
  go_quiet (fail)
  go_wp2
  go_ret
  exact ⟨rfl, _, World.drewN_drewN ..⟩

set_option maxHeartbeats 4000000 in
theorem from3 (W H n k : Nat) (w : World) (s : Sides W H n) (hk : k < n) :
    Calls Try.prog 116 #[.int .i64 W, .int .i64 H, .int .i64 k, .int .i64 3] w fun e w' => e = .returned (.int .i64 (nb W H (-1) k 3)) ∧ ∃ j, w' = w.drewN j := by
  obtain ⟨x0, x1, y0, y1⟩ := coords W k (by have := s.n1; omega)
  have p := (nb_plc W H (-1) k s.w0 (s.n0 ▸ hk)).2.2.2
  rw [Int.natCast_emod, Int.natCast_ediv] at p
  obtain ⟨h1, h2, h3, h4, h5, h6⟩ := s
  obtain ⟨X, hX⟩ : ∃ X, (k : Int) % (W : Int) = X := ⟨_, rfl⟩
  obtain ⟨Y, hY⟩ : ∃ Y, (k : Int) / (W : Int) = Y := ⟨_, rfl⟩
  rw [hX] at x0 x1 p
  rw [hY] at y0 y1 p
  obtain ⟨b0, b1, b2, b3⟩ := plc_bd (W := W) (H := H) (x := X) (y := Y - -1) (by omega) (by omega) (by omega) (by omega)
  rw [← p]
  have e : (Y + 1) % (H : Int) = (Y - -1) % (H : Int) := by rw [show Y - -1 = Y + 1 by omega]
  have e2 : X % (W : Int) + (Y + 1) % (H : Int) * (W : Int) = plc W H (X) (Y - -1) := by
    unfold plc
    rw [e, Int.mul_comm]
  have s1 : IntKind.i64.wrap ((Y + 1) % (H : Int) * (W : Int)) = (Y + 1) % (H : Int) * (W : Int) := IntWalk.i64_in _ (by first | (rw [Int.mul_comm]; exact ⟨by omega, by omega⟩) | (rw [e, Int.mul_comm]; exact ⟨by omega, by omega⟩))
  have s2 : IntKind.i64.wrap (X % (W : Int) + (Y + 1) % (H : Int) * (W : Int)) = plc W H (X) (Y - -1) := by
    rw [e2]
    exact IntWalk.i64_in _ ⟨by omega, by omega⟩
  clear b0 b1 b2 b3 e e2 p
  go_enter Try.func116, Try.ntmps116
  go_wp2
  go_quiet (fail)
  go_wp2
  go_quiet (fail)
  go_wp2
  go_ret
  exact ⟨rfl, _, World.drewN_drewN ..⟩

/-- A grid that was given. -/
def Gave (W H : Int) (n : Nat) (K : Nat → Nat → Int) (w : World) (e : Ending) (w' : World) : Prop :=
  ∃ b c, e = .returned (.agg #[.int .i64 W, .int .i64 H, .slice (some ⟨b, 0, none⟩) n c]) ∧ Row w' b n K ∧ w.heap.size + 1 ≤ b ∧ Below w.heap.size w w'
theorem three_ex {w5 : World} {r : Nat} {v0 v1 v2 : Value} : Ex (fun k => k = r) w5 (((w5.setCell ⟨r, 0, none⟩ v0).setCell ⟨r, 1, none⟩ v1).setCell ⟨r, 2, none⟩ v2) := by
  refine Ex.setCell (Ex.setCell (Ex.setCell (Ex.refl _ w5) ?_ _) ?_ _) ?_ _ <;> rfl
theorem gave_pass {W H : Int} {n b c r : Nat} {K : Nat → Nat → Int} {w w5 : World} {v0 v1 v2 : Value} (hr : Row w5 b n K) (hb : Below w.heap.size w w5) (h1 : w.heap.size ≤ r) (h2 : r < b) :
    Gave W H n K w (.returned (.agg #[.int .i64 W, .int .i64 H, .slice (some ⟨b, 0, none⟩) n c])) (((w5.setCell ⟨r, 0, none⟩ v0).setCell ⟨r, 1, none⟩ v1).setCell ⟨r, 2, none⟩ v2) :=
  ⟨b, c, rfl, hr.ex three_ex (by omega), by omega, hb.trans (three_ex.below hb.size (fun k hk => by omega))⟩
theorem Three.set {w : World} {B : Nat} {t : TypeId} {x y z v0 v1 v2 : Value} (h : Three w B t x y z) : Three (((w.setCell ⟨B, 0, none⟩ v0).setCell ⟨B, 1, none⟩ v1).setCell ⟨B, 2, none⟩ v2) B t v0 v1 v2 := by
  unfold Three at *
  simp only [World.setCell, Array.getElem?_modify, ↓reduceIte, h, Option.map_some]
  rfl
theorem Three.new0 (w : World) (t : TypeId) (x y z : Value) : Three (w.alloc (.cells #[x, y, z] t)) w.heap.size t x y z := World.alloc_heap_new w _

set_option maxHeartbeats 1000000 in
theorem blank_any (W H n : Nat) (w : World) (s : Sides W H n) : Calls Try.prog 67 #[.int .i64 W, .int .i64 H] w (Gave W H n (fun _ _ => 0) w) := by
  have hp : (W : Int) * (H : Int) = (n : Int) := by rw [s.n0, Int.natCast_mul]
  have hmk := fun wx => run_zeros n (by have := s.n1; omega) wx
  obtain ⟨h1, h2, h3, h4, h5, h6⟩ := s
  clear h5
  go_enter Try.func67, Try.ntmps67
  go_wp2
  refine bodyPost_ret (v := .agg #[.int .i64 W, .int .i64 H, .slice (some ⟨w.heap.size + 1, 0, none⟩) n n]) (by simp [results, Try.results67, go_sem, ↓IntWalk.iteOmega, *]) rfl ?_
  refine ⟨w.heap.size + 1, n, rfl, ?_, by omega, by (repeat' (first | (with_reducible exact Below.refl _ _) | (with_reducible refine Below.setCell ?_ (by first | omega | (simp; done) | (simp; omega)) _) | (with_reducible refine Below.alloc ?_ (by first | omega | (simp; done) | (simp; omega)) _) | (with_reducible refine Below.drew ?_) | (with_reducible refine below_drewN ?_ _) | (with_reducible refine Below.trans ?_ (Below.mono (by assumption) (by first | omega | (simp; done) | (simp; omega))))))⟩
  have := row_zeros (w.alloc (.cells #[.int .i64 W, .int .i64 H, .slice (some ⟨w.heap.size + 1, 0, none⟩) n n] 40)) n
  rwa [World.size_alloc] at this

theorem copy_end {W H : Int} {n g c : Nat} {K : Nat → Nat → Int} {w w5 : World} {v v0 v1 v2 : Value} (hr : Row w5 g n K) (hb : Below w.heap.size w w5) (h1 : w.heap.size + 3 ≤ g) :
    Gave W H n K w (.returned (.agg #[.int .i64 W, .int .i64 H, .slice (some ⟨g, 0, none⟩) n c])) ((((w5.setCell ⟨w.heap.size, 2, none⟩ v).setCell ⟨w.heap.size + 1, 0, none⟩ v0).setCell ⟨w.heap.size + 1, 1, none⟩ v1).setCell ⟨w.heap.size + 1, 2, none⟩ v2) := by
  have x : Ex (fun k => k = w.heap.size) w5 (w5.setCell ⟨w.heap.size, 2, none⟩ v) := by
    refine Ex.setCell (Ex.refl _ w5) ?_ _
    rfl
  exact gave_pass (hr.ex x (by omega)) (hb.trans (x.below hb.size (fun k hk => by omega))) (by omega) (by omega)

set_option maxRecDepth 100000 in
set_option maxHeartbeats 2000000 in
theorem rCopy_any (W H : Int) (b off n cap : Nat) (G : Nat → Nat → Int) (w : World) (h1 : 1 ≤ n) (h2 : n ≤ 100000) (hlt : b < w.heap.size) (hG : Grd w b off n G) :
    Calls Try.prog 74 #[.agg #[.int .i64 W, .int .i64 H, .slice (some ⟨b, off, none⟩) n cap]] w (Gave W H n G w) := by
  obtain ⟨i0, hi, hz0, hz1, hz2⟩ := info_parts info_cell
  have HH := Lib.hid (fun w' (hb : Below w.heap.size w w') => cellsL_at (hG.below hb hlt))
  clear hG
  go_enter Try.func74, Try.ntmps74
  go_wp2_with (at_builtin; refine wpList_append_grows _ rfl _ _ 38 rfl 23 i0 (.agg #[.int .i64 0, .int .i64 0, .int .i64 0, .int .i64 0]) 4 32 Try.underlying38 hi hz0 hz1 hz2 rfl (by omega) _ 0 0 [] rfl (by simp) rfl (by simp) ⟨b, off, none⟩ n cap (cellsL G n) rfl (cellsL_length G n) (HH.out _ (by (repeat' (first | (with_reducible exact Below.refl _ _) | (with_reducible refine Below.setCell ?_ (by first | omega | (simp; done) | (simp; omega)) _) | (with_reducible refine Below.alloc ?_ (by first | omega | (simp; done) | (simp; omega)) _) | (with_reducible refine Below.drew ?_) | (with_reducible refine below_drewN ?_ _) | (with_reducible refine Below.trans ?_ (Below.mono (by assumption) (by first | omega | (simp; done) | (simp; omega)))))))) (cellsL_one G n) (by omega) (by unfold maxLen; omega) (by omega) ?_; intro v' w1 hown hgrow; rw [Nat.zero_add, List.nil_append] at hown; obtain ⟨g, c, rfl, hr, hg, hcc, hm⟩ := row_of_owned hown h1; have hb := (Below.refl _ _).grown hgrow (Nat.le_refl _) (by simp); obtain ⟨hc, hf, hz⟩ := bcall hb; (try simp at hc hf hz))
  have HR := Lib.hid hr
  have HB := Lib.hid (show Below w.heap.size w w1 from by (repeat' (first | (with_reducible exact Below.refl _ _) | (with_reducible refine Below.setCell ?_ (by first | omega | (simp; done) | (simp; omega)) _) | (with_reducible refine Below.alloc ?_ (by first | omega | (simp; done) | (simp; omega)) _) | (with_reducible refine Below.drew ?_) | (with_reducible refine below_drewN ?_ _) | (with_reducible refine Below.trans ?_ (Below.mono (by assumption) (by first | omega | (simp; done) | (simp; omega)))))))
  clear hr
  have hg3 : w.heap.size + 3 ≤ g := by simp at hg; omega
  clear hown hgrow hg hb HH
  refine bodyPost_ret (v := .agg #[.int .i64 W, .int .i64 H, .slice (some ⟨g, 0, none⟩) n c]) (by simp [results, Try.results74, go_sem, ↓IntWalk.iteOmega, *]) rfl ?_
  exact copy_end HR.out HB.out hg3
end Go.Proofs.Ytnkehlankidlnaa
