/- The law FieldLoops: all cases. -/
import Derived.Test.YtmpfchgampiohaaDoorKLawFL2
import Derived.Test.YtmpfchgampiohaaDoorKEnds
namespace Go.Proofs.YtmpfchgampiohaaDoor
set_option linter.unusedSimpArgs false
set_option linter.unusedVariables false
open Go.RowKit Go.Shelf
attribute [local go_sem] Oper.semAt_some

theorem fieldLoops_any (W H : Int) (ao : Option Addr) (n cap : Nat) (G : Nat → Nat → Int) (a0 a1 b0 b1 sd : Int) (w : World) (hM : Mvs w) (_ : Wf W) (_ : Wf H) (_ : n ≤ cap) (_ : cap ≤ maxLen) (hC : CellsIn w ao n G) (_ : Wf sd) :
    Calls Tryd.prog 5 #[.agg #[.int .i64 W, .int .i64 H, .slice (ao) n cap], .agg #[.int .i64 a0, .int .i64 a1], .agg #[.int .i64 b0, .int .i64 b1], .int .i64 sd] w fun e w' => e = .returned (.bool true) ∧ Below w.heap.size w w' := by
  obtain ⟨bb, hbb, BG⟩ := fbig_any W H ao n cap w
  obtain ⟨x, y, z2, er2, VI, VR⟩ := vortex_both W H ao n cap G w hC sd
  cases bb with
  | true => exact fl_big W H a0 a1 b0 b1 sd ao n cap w hM BG
  | false =>
    by_cases hv : VG W H n G
    · by_cases hk : BlkOk W H a0 a1 b0 b1
      · obtain ⟨W', H', rfl, rfl, s, hG⟩ := Sides.vg hv
        obtain ⟨b, off, rfl, hlt, hGr⟩ := cells_of s hC
        obtain ⟨⟨⟨⟨k1, k2⟩, k3, k4⟩, ⟨k5, k6⟩, k7, k8⟩, k9, k10⟩ := hk
        obtain ⟨ax, rfl⟩ := Int.eq_ofNat_of_zero_le k1
        obtain ⟨ay, rfl⟩ := Int.eq_ofNat_of_zero_le k3
        obtain ⟨bx, rfl⟩ := Int.eq_ofNat_of_zero_le k5
        obtain ⟨yb, rfl⟩ := Int.eq_ofNat_of_zero_le k7
        have h1 : ax ≤ bx := by omega
        have h2 : bx < W' := by omega
        have h3 : ay ≤ yb := by omega
        have h4 : yb < H' := by omega
        have hn1 : 1 ≤ n := by
          rw [s.n0]
          have := Nat.mul_le_mul (show 1 ≤ W' by omega) (show 1 ≤ H' by omega)
          omega
        refine fl_ok W' H' n cap b off ax ay bx yb sd (cirS G W' ax ay bx yb) x y z2 er2 G w hM hlt hGr hG hn1 s.n1 BG
          (fun wx hb => fCirc_ok W' H' n cap b off G ax ay bx yb wx s hG (Nat.lt_of_lt_of_le hlt hb.size) (hGr.below hb hlt) h1 h2 h3 h4)
          (fun wx hb => rCirc_ok W' H' n cap b off ax ay bx yb G wx s hG (Nat.lt_of_lt_of_le hlt hb.size) (hGr.below hb hlt) h1 h2 h3 h4) VI VR ?_
        rintro K g c wx hK ⟨d0, d1, d2, d3, rfl⟩ lg hgK
        have h := fCirc_ok W' H' n c g 0 (cst d0 d1 d2 d3) ax ay bx yb wx s hK lg hgK h1 h2 h3 h4
        rw [cirS_const] at h
        exact h
      · exact fl_err W H a0 a1 b0 b1 sd ao n cap 7 x y z2 er2 (.inr rfl) w hM BG (fun wx hb => fCirc_rng W H ao n cap G a0 a1 b0 b1 wx (hC.below hb) hv hk) (fun wx hb => rCirc_rng W H ao n cap G a0 a1 b0 b1 wx (hC.below hb) hv hk) VI VR
    · exact fl_err W H a0 a1 b0 b1 sd ao n cap 1 x y z2 er2 (.inl rfl) w hM BG (fun wx hb => fCirc_bad W H ao n cap G a0 a1 b0 b1 wx (hC.below hb) hv) (fun wx hb => rCirc_bad W H ao n cap G a0 a1 b0 b1 wx (hC.below hb) hv) VI VR
end Go.Proofs.YtmpfchgampiohaaDoor
