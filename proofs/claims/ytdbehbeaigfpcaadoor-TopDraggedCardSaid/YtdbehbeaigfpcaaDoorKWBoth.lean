/- Steps and runs among walls: both sides as one form. -/
import Derived.Test.YtdbehbeaigfpcaaDoorKRefWRun
namespace Go.Proofs.YtdbehbeaigfpcaaDoor
set_option linter.unusedSimpArgs false
set_option linter.unusedVariables false
open Go.RowKit

/-- What lies in memory: a grid, a wall, rules, the walls' table. -/
def PreW (w : World) (ao : Option Addr) (n : Nat) (G : Nat → Nat → Int) (ak : Option Addr) (nk : Nat) (K : Nat → Int) (ab : Option Addr) (nb : Nat) (B : Nat → Int) (ro : Option Addr) (len : Nat) (R : Nat → Int × Int) : Prop :=
  Tbl w ∧ CellsIn w ao n G ∧ NumsIn w ak nk K ∧ NumsIn w ab nb B ∧ RulesIn w ro len R
theorem PreW.below {w w' : World} {ao : Option Addr} {n : Nat} {G : Nat → Nat → Int} {ak : Option Addr} {nk : Nat} {K : Nat → Int} {ab : Option Addr} {nb : Nat} {B : Nat → Int} {ro : Option Addr} {len : Nat} {R : Nat → Int × Int} (h : PreW w ao n G ak nk K ab nb B ro len R) (hb : Below w.heap.size w w') : PreW w' ao n G ak nk K ab nb B ro len R :=
  ⟨h.1.below hb, h.2.1.below hb, h.2.2.1.below hb, h.2.2.2.1.below hb, h.2.2.2.2.below hb⟩
theorem PreW.tbl {w : World} {ao : Option Addr} {n : Nat} {G : Nat → Nat → Int} {ak : Option Addr} {nk : Nat} {K : Nat → Int} {ab : Option Addr} {nb : Nat} {B : Nat → Int} {ro : Option Addr} {len : Nat} {R : Nat → Int × Int} (h : PreW w ao n G ak nk K ab nb B ro len R) : Tbl w := h.1
theorem rules_of1 {w : World} {ro : Option Addr} {len : Nat} {R : Nat → Int × Int} (hk : OkRs len R) (h : RulesIn w ro len R) : ∃ b off, ro = some ⟨b, off, none⟩ ∧ b < w.heap.size ∧ RulesAt w b off len R := by
  rcases h with h | h
  · have := hk.1
    omega
  · exact h

section
variable (W H n cap : Nat) (ao : Option Addr) (G : Nat → Nat → Int) (ak : Option Addr) (ck : Nat) (K : Nat → Int) (ab : Option Addr) (cb : Nat) (B : Nat → Int) (ro : Option Addr) (len rc : Nat) (R : Nat → Int × Int) (t c : Nat) (w : World)

theorem wok_of {W H : Nat} {n : Nat} {G : Nat → Nat → Int} {K B : Nat → Int} {len : Nat} {R : Nat → Int × Int} {t c : Nat} (s : Sides W H n) (hG : OkG n G) (hP : ∀ i, i < n → OkP (K i) (B i)) (hk : OkRs len R) (hr : RunOk t c) : WOk W H n G n K n B len R t c := ⟨⟨vg_of s hG, rfl, rfl, hP⟩, hk, hr⟩
theorem hm_of {len : Nat} {R : Nat → Int × Int} (hk : OkRs len R) : len ≤ 1000000000000 := Nat.le_trans hk.2.1 (by decide)

theorem wRun_ok (s : Sides W H n) (hG : OkG n G) (hP : ∀ i, i < n → OkP (K i) (B i)) (hk : OkRs len R) (hr : RunOk t c) (hp : PreW w ao n G ak n K ab n B ro len R) :
    Calls Tryd.prog 15 #[.agg #[.int .i64 W, .int .i64 H, .slice (ao) n cap], .agg #[.slice (ak) n ck, .slice (ab) n cb], .slice ro len rc, .int .i64 t, .int .i64 c] w (GZ W H n (runG (fwdW W H K len R) t c G) 0 w) := by
  obtain ⟨z, hz, e1⟩ := wcheck_prog W H ao n cap G ak n ck K ab n cb B ro len rc R t c (hm_of hk)
  obtain rfl := hz.2 (wok_of s hG hP hk hr)
  have hp' := hp
  obtain ⟨hT, hC, hN, hB, hR⟩ := hp
  obtain ⟨b, off, rfl, hlt, hC⟩ := cells_of1 s hC
  obtain ⟨bk, ok, rfl, hbk, hN⟩ := numsAt_of hN (by have := vg_pos (vg_of s hG); omega)
  obtain ⟨rb, rof, rfl, hrb, hR⟩ := rules_of1 hk hR
  exact (wrun_in W H n cap b off bk ok ck rb rof len rc t c ab n cb K R G w s hG hlt hC (okK_of hP) hbk hN hrb hR hk hT hr (fun wx hb => by have q := hp'.below hb; exact e1 wx q.2.1 q.2.2.1 q.2.2.2.1 q.2.2.2.2)).mono fun _ _ h => gz_made h
end

section
variable (W H : Int) (ao : Option Addr) (n cap : Nat) (G : Nat → Nat → Int) (ak : Option Addr) (nk ck : Nat) (K : Nat → Int) (ab : Option Addr) (nb cb : Nat) (B : Nat → Int) (ro : Option Addr) (len rc : Nat) (R : Nat → Int × Int)
/-- What a run among walls has, in naturals. -/
theorem wok_nat {t c : Int} (h : WOk W H n G nk K nb B len R t c) : ∃ W' H' t' c' : Nat, W = W' ∧ H = H' ∧ t = t' ∧ c = c' ∧ nk = n ∧ nb = n ∧ Sides W' H' n ∧ OkG n G ∧ (∀ i, i < n → OkP (K i) (B i)) ∧ OkRs len R ∧ RunOk t' c' := by
  obtain ⟨⟨hv, h1, h2, hP⟩, hk, hr⟩ := h
  obtain ⟨W', H', e1, e2, s, hG⟩ := Sides.vg hv
  obtain ⟨t', rfl⟩ := Int.eq_ofNat_of_zero_le hr.1
  obtain ⟨c', rfl⟩ := Int.eq_ofNat_of_zero_le hr.2.2.1
  exact ⟨W', H', t', c', e1, e2, rfl, rfl, h1, h2, s, hG, hP, hk, hr⟩

end
end Go.Proofs.YtdbehbeaigfpcaaDoor
