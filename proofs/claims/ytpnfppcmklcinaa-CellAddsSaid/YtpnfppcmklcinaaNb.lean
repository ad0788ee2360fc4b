/- The places of neighbours, by the program. -/
import Derived.Test.YtpnfppcmklcinaaGrid1
import Derived.Test.YtpnfppcmklcinaaColl
import Derived.Deep.RegionHeld3
namespace Go.Proofs.Ytpnfppcmklcinaa
set_option linter.unusedSimpArgs false
set_option linter.unusedVariables false
open Go.RowKit

theorem tmod_pos {n m : Int} (h : 0 ≤ n) : n.tmod m = n % m := Int.tmod_eq_emod_of_nonneg h

set_option maxHeartbeats 400000 in
theorem around_any (n m : Int) (w : World) (h0 : -4000000000 ≤ n) (h1 : n ≤ 4000000000) (hm : 0 < m) (hm' : m ≤ 4000000000) :
    Calls Try.prog 200 #[.int .i64 n, .int .i64 m] w fun e w' => e = .returned (.int .i64 (n % m)) ∧ w = w' := by
  have q0 := Int.emod_nonneg n (show m ≠ 0 by omega)
  have q1 := Int.emod_lt_of_pos n hm
  by_cases hn : 0 ≤ n
  · go_enter Try.func200, Try.ntmps200
    go_wp2
    go_ret
    exact ⟨rfl, rfl⟩
  · rcases tmod_neg (n := n) (m := m) (by omega) hm with ⟨t0, t1⟩ | ⟨t0, t1⟩
    · have T := Lib.hid t1; clear t1
      have t2 : -4000000000 ≤ n.tmod m := by have := T.out; omega
      have t3 : n.tmod m + m ≤ 4000000000 := by have := T.out; omega
      go_enter Try.func200, Try.ntmps200
      go_wp2
      go_ret
      exact ⟨ret_i T.out, rfl⟩
    · have T := Lib.hid t1; clear t1
      have T0 := Lib.hid t0
      have t2 : 0 ≤ n.tmod m := by omega
      have t3 : n.tmod m ≤ 0 := by omega
      clear t0
      go_enter Try.func200, Try.ntmps200
      go_wp2
      go_ret
      exact ⟨ret_i (by rw [T.out, T0.out]), rfl⟩

/-- A place by its two coordinates. -/
def plc (W H x y : Int) : Int := x % W + W * (y % H)
theorem plc_bd {W H x y : Int} (h1 : 1 ≤ W) (h2 : W ≤ 64) (h3 : 1 ≤ H) (h4 : H ≤ 64) : 0 ≤ W * (y % H) ∧ W * (y % H) ≤ 4096 ∧ 0 ≤ plc W H x y ∧ plc W H x y ≤ 5000 := by
  have a0 := Int.emod_nonneg x (show W ≠ 0 by omega)
  have a1 := Int.emod_lt_of_pos x (show 0 < W by omega)
  have b0 := Int.emod_nonneg y (show H ≠ 0 by omega)
  have b1 := Int.emod_lt_of_pos y (show 0 < H by omega)
  have c0 : 0 ≤ W * (y % H) := Int.mul_nonneg (by omega) b0
  have c1 : W * (y % H) ≤ 64 * 64 := Int.mul_le_mul h2 (by omega) b0 (by omega)
  unfold plc
  omega

set_option maxHeartbeats 2000000 in
theorem neighbour0 (m : Nat) (W H x y way : Int) (w : World) (c0 : w.cell? ⟨m, 0, none⟩ = some (.int .i64 W)) (c1 : w.cell? ⟨m, 1, none⟩ = some (.int .i64 H)) (h1 : 1 ≤ W) (h2 : W ≤ 64) (h3 : 1 ≤ H) (h4 : H ≤ 64)
    (x0 : 0 ≤ x) (x1 : x ≤ 5000) (y0 : 0 ≤ y) (y1 : y ≤ 5000) (z0 : -1 ≤ way) (z1 : way ≤ 1) :
    Calls Try.prog 199 #[.pointer (some ⟨m, 0, none⟩), .int .i64 x, .int .i64 y, .int .i64 0, .int .i64 way] w fun e w' => e = .returned (.int .i64 (plc W H (x + way) y)) ∧ ∃ n, w' = w.drewN n := by
  obtain ⟨b0, b1, b2, b3⟩ := plc_bd (x := x + way) (y := y) h1 h2 h3 h4
  have s1 : IntKind.i64.wrap (W * (y % H)) = W * (y % H) := IntWalk.i64_in _ ⟨by omega, by omega⟩
  have s2 : IntKind.i64.wrap ((x + way) % W + W * (y % H)) = plc W H (x + way) y := IntWalk.i64_in _ (show _ ≤ plc W H (x + way) y ∧ plc W H (x + way) y ≤ _ from ⟨by omega, by omega⟩)
  clear b0 b1 b2 b3
  go_enter Try.func199, Try.ntmps199
  go_wp2
  go_quiet ((go_at_call 200; exact Calls.quiet_of_same ((around_any _ _ _ (by omega) (by omega) (by omega) (by omega)).mono fun _ _ h => ⟨h.1, h.2.symm⟩)))
  go_wp2
  go_ret
  exact ⟨rfl, _, rfl⟩

set_option maxHeartbeats 2000000 in
theorem neighbour1 (m : Nat) (W H x y way : Int) (w : World) (c0 : w.cell? ⟨m, 0, none⟩ = some (.int .i64 W)) (c1 : w.cell? ⟨m, 1, none⟩ = some (.int .i64 H)) (h1 : 1 ≤ W) (h2 : W ≤ 64) (h3 : 1 ≤ H) (h4 : H ≤ 64)
    (x0 : 0 ≤ x) (x1 : x ≤ 5000) (y0 : 0 ≤ y) (y1 : y ≤ 5000) (z0 : -1 ≤ way) (z1 : way ≤ 1) :
    Calls Try.prog 199 #[.pointer (some ⟨m, 0, none⟩), .int .i64 x, .int .i64 y, .int .i64 1, .int .i64 way] w fun e w' => e = .returned (.int .i64 (plc W H x (y + way))) ∧ ∃ n, w' = w.drewN n := by
  obtain ⟨b0, b1, b2, b3⟩ := plc_bd (x := x) (y := y + way) h1 h2 h3 h4
  have s1 : IntKind.i64.wrap (W * ((y + way) % H)) = W * ((y + way) % H) := IntWalk.i64_in _ ⟨by omega, by omega⟩
  have s2 : IntKind.i64.wrap (x % W + W * ((y + way) % H)) = plc W H x (y + way) := IntWalk.i64_in _ (show _ ≤ plc W H x (y + way) ∧ plc W H x (y + way) ≤ _ from ⟨by omega, by omega⟩)
  clear b0 b1 b2 b3
  go_enter Try.func199, Try.ntmps199
  go_wp2
  go_quiet ((go_at_call 200; exact Calls.quiet_of_same ((around_any _ _ _ (by omega) (by omega) (by omega) (by omega)).mono fun _ _ h => ⟨h.1, h.2.symm⟩)))
  go_wp2
  go_ret
  exact ⟨rfl, _, rfl⟩

set_option maxHeartbeats 2000000 in
theorem neighbour2 (m : Nat) (W H x y way : Int) (w : World) (c0 : w.cell? ⟨m, 0, none⟩ = some (.int .i64 W)) (c1 : w.cell? ⟨m, 1, none⟩ = some (.int .i64 H)) (h1 : 1 ≤ W) (h2 : W ≤ 64) (h3 : 1 ≤ H) (h4 : H ≤ 64)
    (x0 : 0 ≤ x) (x1 : x ≤ 5000) (y0 : 0 ≤ y) (y1 : y ≤ 5000) (z0 : -1 ≤ way) (z1 : way ≤ 1) :
    Calls Try.prog 199 #[.pointer (some ⟨m, 0, none⟩), .int .i64 x, .int .i64 y, .int .i64 2, .int .i64 way] w fun e w' => e = .returned (.int .i64 (plc W H (x - way) y)) ∧ ∃ n, w' = w.drewN n := by
  obtain ⟨b0, b1, b2, b3⟩ := plc_bd (x := x - way) (y := y) h1 h2 h3 h4
  have s1 : IntKind.i64.wrap (W * (y % H)) = W * (y % H) := IntWalk.i64_in _ ⟨by omega, by omega⟩
  have s2 : IntKind.i64.wrap ((x - way) % W + W * (y % H)) = plc W H (x - way) y := IntWalk.i64_in _ (show _ ≤ plc W H (x - way) y ∧ plc W H (x - way) y ≤ _ from ⟨by omega, by omega⟩)
  clear b0 b1 b2 b3
  go_enter Try.func199, Try.ntmps199
  go_wp2
  go_quiet ((go_at_call 200; exact Calls.quiet_of_same ((around_any _ _ _ (by omega) (by omega) (by omega) (by omega)).mono fun _ _ h => ⟨h.1, h.2.symm⟩)))
  go_wp2
  go_ret
  exact ⟨rfl, _, rfl⟩

set_option maxHeartbeats 2000000 in
theorem neighbour3 (m : Nat) (W H x y way : Int) (w : World) (c0 : w.cell? ⟨m, 0, none⟩ = some (.int .i64 W)) (c1 : w.cell? ⟨m, 1, none⟩ = some (.int .i64 H)) (h1 : 1 ≤ W) (h2 : W ≤ 64) (h3 : 1 ≤ H) (h4 : H ≤ 64)
    (x0 : 0 ≤ x) (x1 : x ≤ 5000) (y0 : 0 ≤ y) (y1 : y ≤ 5000) (z0 : -1 ≤ way) (z1 : way ≤ 1) :
    Calls Try.prog 199 #[.pointer (some ⟨m, 0, none⟩), .int .i64 x, .int .i64 y, .int .i64 3, .int .i64 way] w fun e w' => e = .returned (.int .i64 (plc W H x (y - way))) ∧ ∃ n, w' = w.drewN n := by
  obtain ⟨b0, b1, b2, b3⟩ := plc_bd (x := x) (y := y - way) h1 h2 h3 h4
  have s1 : IntKind.i64.wrap (W * ((y - way) % H)) = W * ((y - way) % H) := IntWalk.i64_in _ ⟨by omega, by omega⟩
  have s2 : IntKind.i64.wrap (x % W + W * ((y - way) % H)) = plc W H x (y - way) := IntWalk.i64_in _ (show _ ≤ plc W H x (y - way) ∧ plc W H x (y - way) ≤ _ from ⟨by omega, by omega⟩)
  clear b0 b1 b2 b3
  go_enter Try.func199, Try.ntmps199
  go_wp2
  go_quiet ((go_at_call 200; exact Calls.quiet_of_same ((around_any _ _ _ (by omega) (by omega) (by omega) (by omega)).mono fun _ _ h => ⟨h.1, h.2.symm⟩)))
  go_wp2
  go_ret
  exact ⟨rfl, _, rfl⟩
end Go.Proofs.Ytpnfppcmklcinaa
