/- One step of the machine, forward and back; a new machine: by the program. -/
import Derived.Test.YtmkhbkkhoemkoaaChange
import Derived.ArgAppend
namespace Go.Proofs.Ytmkhbkkhoemkoaa
set_option linter.unusedSimpArgs false
set_option linter.unusedVariables false
open Go.RowKit

/-- A machine that stands: the grid it has, and its spare row. -/
structure MchG (w : World) (m W H n : Nat) (rb ro len rc : Nat) (R : Nat → Int × Int) (G : Nat → Nat → Int) (B U : Nat) : Prop where
  ex : ∃ (b1 c1 b2 c2 : Nat) (K : Nat → Nat → Int), Mch w m W H n b1 c1 (.slice (some ⟨rb, ro, none⟩) len rc) b2 c2 ∧ Row w b1 n G ∧ Row w b2 n K ∧ m ≠ b1 ∧ m ≠ b2 ∧ b1 ≠ b2 ∧ B ≤ m ∧ B ≤ b1 ∧ B ≤ b2 ∧ m < U ∧ b1 < U ∧ b2 < U
  rules : RulesAt w rb ro len R
  below : rb < B
  low : B ≤ w.heap.size
  top : U ≤ w.heap.size

set_option maxHeartbeats 2000000 in
theorem step_any (m W H n rb ro len rc t B U : Nat) (R : Nat → Int × Int) (G : Nat → Nat → Int) (w : World) (h : MchG w m W H n rb ro len rc R G B U) (s : Sides W H n) (hG : OkG n G) (hk : OkRs len R) (ht : t ≤ 1000000) :
    Calls Try.prog 36 #[.pointer (some ⟨m, 0, none⟩), .int .i64 t] w fun e w' => e = .returned (.tuple #[]) ∧ MchG w' m W H n rb ro len rc R (pull W H 1 (colG (R (t % len)).1 (R (t % len)).2 G)) B U ∧ Ex (fun k => B ≤ k ∧ k < U) w w' := by
  obtain ⟨⟨b1, c1, b2, c2, K, hM, hr1, hr2, n1, n2, n3, q0, q1, q2, u0, u1, u2⟩, hR, hrb, hlow, htop⟩ := h
  have hrw : rb < w.heap.size := by omega
  have C := Lib.hid (change_col m W H n b1 c1 b2 c2 rb ro len rc t R G w hM hr1 s.n1 hG n1 hR hrw hk ht)
  have HM := Lib.hid hM
  have HR2 := Lib.hid hr2
  have HR := Lib.hid hR
  have HS := Lib.hid s
  clear hM hr1 hr2 hR s hk hG
  go_enter Try.func36, Try.ntmps36
  go_wp2_with fail
  go_at_call 55
  refine C.out.mono ?_
  rintro e w1 ⟨rfl, hr, hx⟩
  have D := Lib.hid (stream_any m W H n b1 c1 b2 c2 _ _ K 1 w1 HS.out (HM.out.ex hx n1) hr (HR2.out.ex hx (Ne.symm n3)) n1 n2 n3 (by omega) (by omega))
  have HX := Lib.hid hx
  clear hx hr
  go_wp2_with fail
  go_at_call 53
  refine D.out.mono ?_
  rintro e w2 ⟨rfl, hm, hrn, hro, hx2⟩
  have HX2 := Lib.hid hx2
  have HE := Lib.hid (show MchG w2 m W H n rb ro len rc R (pull W H 1 (colG (R (t % len)).1 (R (t % len)).2 G)) B U ∧ Ex (fun k => B ≤ k ∧ k < U) w w2 from
    ⟨⟨⟨b2, c2, b1, c1, _, hm, hrn, hro, n2, n1, Ne.symm n3, q0, q2, q1, u0, u2, u1⟩, (HR.out.ex HX.out hrw (by omega)).ex hx2 (Nat.lt_of_lt_of_le hrw HX.out.size) (by omega), hrb, Nat.le_trans hlow (Nat.le_trans HX.out.size hx2.size), Nat.le_trans htop (Nat.le_trans HX.out.size hx2.size)⟩,
      (HX.out.mono (fun k hk => by omega)).trans (hx2.mono (fun k hk => by omega))⟩)
  clear hm hrn hro hx2
  go_wp2
  go_end0
  exact ⟨rfl, HE.out⟩

/-- New memory leaves a machine as it is. -/
theorem MchG.ext {w w' : World} {m W H n rb ro len rc : Nat} {R : Nat → Int × Int} {G : Nat → Nat → Int} {B U : Nat} (h : MchG w m W H n rb ro len rc R G B U) (hb : Below w.heap.size w w') : MchG w' m W H n rb ro len rc R G B U := by
  have x : Ex (fun _ => False) w w' := Ex.of_below hb
  obtain ⟨⟨b1, c1, b2, c2, K, hM, hr1, hr2, n1, n2, n3, q⟩, hR, hrb, hlow, htop⟩ := h
  exact ⟨⟨b1, c1, b2, c2, K, hM.ex x (fun h => h), hr1.ex x (fun h => h), hr2.ex x (fun h => h), n1, n2, n3, q⟩, hR.ex x (by omega) (fun h => h), hrb, Nat.le_trans hlow hb.size, Nat.le_trans htop hb.size⟩
end Go.Proofs.Ytmkhbkkhoemkoaa
