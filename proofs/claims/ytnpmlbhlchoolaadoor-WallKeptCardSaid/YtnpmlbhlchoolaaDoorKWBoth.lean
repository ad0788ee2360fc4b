/- Steps and runs among walls: both sides as one form. -/
import Derived.Test.YtnpmlbhlchoolaaDoorKRefWRun
namespace Go.Proofs.YtnpmlbhlchoolaaDoor
set_option linter.unusedSimpArgs false
set_option linter.unusedVariables false
open Go.RowKit

/-- What lies in memory: a grid, a wall, rules, the walls' table. -/
def PreW (w : World) (ao : Option Addr) (n : Nat) (G : Nat → Nat → Int) (ak : Option Addr) (nk : Nat) (K : Nat → Int) (ab : Option Addr) (nb : Nat) (B : Nat → Int) (ro : Option Addr) (len : Nat) (R : Nat → Int × Int) : Prop :=
  Tbl w ∧ CellsIn w ao n G ∧ NumsIn w ak nk K ∧ NumsIn w ab nb B ∧ RulesIn w ro len R
theorem PreW.below {w w' : World} {ao : Option Addr} {n : Nat} {G : Nat → Nat → Int} {ak : Option Addr} {nk : Nat} {K : Nat → Int} {ab : Option Addr} {nb : Nat} {B : Nat → Int} {ro : Option Addr} {len : Nat} {R : Nat → Int × Int} (h : PreW w ao n G ak nk K ab nb B ro len R) (hb : Below w.heap.size w w') : PreW w' ao n G ak nk K ab nb B ro len R :=
  ⟨h.1.below hb, h.2.1.below hb, h.2.2.1.below hb, h.2.2.2.1.below hb, h.2.2.2.2.below hb⟩
theorem PreW.tbl {w : World} {ao : Option Addr} {n : Nat} {G : Nat → Nat → Int} {ak : Option Addr} {nk : Nat} {K : Nat → Int} {ab : Option Addr} {nb : Nat} {B : Nat → Int} {ro : Option Addr} {len : Nat} {R : Nat → Int × Int} (h : PreW w ao n G ak nk K ab nb B ro len R) : Tbl w := h.1
theorem rules_of1 {w : World} {ro : Option Addr} {len : Nat} {R : Nat → Int × Int} (hk : OkRs len R) (h : RulesIn w ro len R) : ∃ b off, ro = some ⟨b, off, none⟩ ∧ b < w.heap.size ∧ RulesAt w b off len R := by
  rcases h with h | h
  · have := hk.1
    omega
  · exact h

section
variable (W H n cap : Nat) (ao : Option Addr) (G : Nat → Nat → Int) (ak : Option Addr) (ck : Nat) (K : Nat → Int) (ab : Option Addr) (cb : Nat) (B : Nat → Int) (ro : Option Addr) (len rc : Nat) (R : Nat → Int × Int) (t c : Nat) (w : World)

theorem wok_of {W H : Nat} {n : Nat} {G : Nat → Nat → Int} {K B : Nat → Int} {len : Nat} {R : Nat → Int × Int} {t c : Nat} (s : Sides W H n) (hG : OkG n G) (hP : ∀ i, i < n → OkP (K i) (B i)) (hk : OkRs len R) (hr : RunOk t c) : WOk W H n G n K n B len R t c := ⟨⟨vg_of s hG, rfl, rfl, hP⟩, hk, hr⟩
theorem hm_of {len : Nat} {R : Nat → Int × Int} (hk : OkRs len R) : len ≤ 1000000000000 := Nat.le_trans hk.2.1 (by decide)

theorem wRun_ok (s : Sides W H n) (hG : OkG n G) (hP : ∀ i, i < n → OkP (K i) (B i)) (hk : OkRs len R) (hr : RunOk t c) (hp : PreW w ao n G ak n K ab n B ro len R) :
    Calls Tryd.prog 16 #[.agg #[.int .i64 W, .int .i64 H, .slice (ao) n cap], .agg #[.slice (ak) n ck, .slice (ab) n cb], .slice ro len rc, .int .i64 t, .int .i64 c] w (GZ W H n (runG (fwdW W H K len R) t c G) 0 w) := by
  obtain ⟨z, hz, e1, _⟩ := wcheck_both W H ao n cap G ak n ck K ab n cb B ro len rc R t c (hm_of hk)
  obtain rfl := hz.2 (wok_of s hG hP hk hr)
  have hp' := hp
  obtain ⟨hT, hC, hN, hB, hR⟩ := hp
  obtain ⟨b, off, rfl, hlt, hC⟩ := cells_of1 s hC
  obtain ⟨bk, ok, rfl, hbk, hN⟩ := numsAt_of hN (by have := vg_pos (vg_of s hG); omega)
  obtain ⟨rb, rof, rfl, hrb, hR⟩ := rules_of1 hk hR
  exact (wrun_in W H n cap b off bk ok ck rb rof len rc t c ab n cb K R G w s hG hlt hC (okK_of hP) hbk hN hrb hR hk hT hr (fun wx hb => by have q := hp'.below hb; exact e1 wx q.2.1 q.2.2.1 q.2.2.2.1 q.2.2.2.2)).mono fun _ _ h => gz_made h
theorem wUndo_ok (s : Sides W H n) (hG : OkG n G) (hP : ∀ i, i < n → OkP (K i) (B i)) (hk : OkRs len R) (hr : RunOk t c) (hp : PreW w ao n G ak n K ab n B ro len R) :
    Calls Tryd.prog 18 #[.agg #[.int .i64 W, .int .i64 H, .slice (ao) n cap], .agg #[.slice (ak) n ck, .slice (ab) n cb], .slice ro len rc, .int .i64 t, .int .i64 c] w (GZ W H n (undoR (bwdW W H K len R) t c G) 0 w) := by
  obtain ⟨z, hz, e1, _⟩ := wcheck_both W H ao n cap G ak n ck K ab n cb B ro len rc R t c (hm_of hk)
  obtain rfl := hz.2 (wok_of s hG hP hk hr)
  have hp' := hp
  obtain ⟨hT, hC, hN, hB, hR⟩ := hp
  obtain ⟨b, off, rfl, hlt, hC⟩ := cells_of1 s hC
  obtain ⟨bk, ok, rfl, hbk, hN⟩ := numsAt_of hN (by have := vg_pos (vg_of s hG); omega)
  obtain ⟨rb, rof, rfl, hrb, hR⟩ := rules_of1 hk hR
  exact (wundo_in W H n cap b off bk ok ck rb rof len rc t c ab n cb K R G w s hG hlt hC (okK_of hP) hbk hN hrb hR hk hT hr (fun wx hb => by have q := hp'.below hb; exact e1 wx q.2.1 q.2.2.1 q.2.2.2.1 q.2.2.2.2)).mono fun _ _ h => gz_made h
theorem rwRun_ok (s : Sides W H n) (hG : OkG n G) (hP : ∀ i, i < n → OkP (K i) (B i)) (hk : OkRs len R) (hr : RunOk t c) (hp : PreW w ao n G ak n K ab n B ro len R) :
    Calls Tryd.prog 17 #[.agg #[.int .i64 W, .int .i64 H, .slice (ao) n cap], .agg #[.slice (ak) n ck, .slice (ab) n cb], .slice ro len rc, .int .i64 t, .int .i64 c] w (GZ W H n (runG (fwdW W H K len R) t c G) 0 w) := by
  obtain ⟨z, hz, _, e1⟩ := wcheck_both W H ao n cap G ak n ck K ab n cb B ro len rc R t c (hm_of hk)
  obtain rfl := hz.2 (wok_of s hG hP hk hr)
  have hp' := hp
  obtain ⟨hT, hC, hN, hB, hR⟩ := hp
  obtain ⟨b, off, rfl, hlt, hC⟩ := cells_of1 s hC
  obtain ⟨bk, ok, rfl, hbk, hN⟩ := numsAt_of hN (by have := vg_pos (vg_of s hG); omega)
  exact (rwrun_in W H n cap b off bk ok ck ro len rc ab n cb K R G t c w s hG hlt hC (okK_of hP) hbk hN hR hk hr (fun wx hb => by have q := hp'.below hb; exact e1 wx q.2.1 q.2.2.1 q.2.2.2.1 q.2.2.2.2)).mono fun _ _ h => gz_made h
theorem rwUndo_ok (s : Sides W H n) (hG : OkG n G) (hP : ∀ i, i < n → OkP (K i) (B i)) (hk : OkRs len R) (hr : RunOk t c) (hp : PreW w ao n G ak n K ab n B ro len R) :
    Calls Tryd.prog 19 #[.agg #[.int .i64 W, .int .i64 H, .slice (ao) n cap], .agg #[.slice (ak) n ck, .slice (ab) n cb], .slice ro len rc, .int .i64 t, .int .i64 c] w (GZ W H n (undoR (bwdW W H K len R) t c G) 0 w) := by
  obtain ⟨z, hz, _, e1⟩ := wcheck_both W H ao n cap G ak n ck K ab n cb B ro len rc R t c (hm_of hk)
  obtain rfl := hz.2 (wok_of s hG hP hk hr)
  have hp' := hp
  obtain ⟨hT, hC, hN, hB, hR⟩ := hp
  obtain ⟨b, off, rfl, hlt, hC⟩ := cells_of1 s hC
  obtain ⟨bk, ok, rfl, hbk, hN⟩ := numsAt_of hN (by have := vg_pos (vg_of s hG); omega)
  exact (rwundo_in W H n cap b off bk ok ck ro len rc ab n cb K R G t c w s hG hlt hC (okK_of hP) hbk hN hR hk hr (fun wx hb => by have q := hp'.below hb; exact e1 wx q.2.1 q.2.2.1 q.2.2.2.1 q.2.2.2.2)).mono fun _ _ h => gz_made h
theorem wStep_ok (s : Sides W H n) (hG : OkG n G) (hP : ∀ i, i < n → OkP (K i) (B i)) (hk : OkRs len R) (ht : t ≤ 1000000) (hp : PreW w ao n G ak n K ab n B ro len R) :
    Calls Tryd.prog 11 #[.agg #[.int .i64 W, .int .i64 H, .slice (ao) n cap], .agg #[.slice (ak) n ck, .slice (ab) n cb], .slice ro len rc, .int .i64 t] w (GZ W H n (fwdW W H K len R t G) 0 w) :=
  wstep_gz W H ao n cap ak n ck ab n cb ro len rc t w W H n _ 0 fun wx hb => wRun_ok W H n cap ao G ak ck K ab cb B ro len rc R t 1 wx s hG hP hk (by unfold RunOk; omega) (hp.below hb)
theorem wBack_ok (s : Sides W H n) (hG : OkG n G) (hP : ∀ i, i < n → OkP (K i) (B i)) (hk : OkRs len R) (ht : t ≤ 1000000) (hp : PreW w ao n G ak n K ab n B ro len R) :
    Calls Tryd.prog 14 #[.agg #[.int .i64 W, .int .i64 H, .slice (ao) n cap], .agg #[.slice (ak) n ck, .slice (ab) n cb], .slice ro len rc, .int .i64 t] w (GZ W H n (bwdW W H K len R t G) 0 w) :=
  wback_gz W H ao n cap ak n ck ab n cb ro len rc t w W H n _ 0 fun wx hb => wUndo_ok W H n cap ao G ak ck K ab cb B ro len rc R t 1 wx s hG hP hk (by unfold RunOk; omega) (hp.below hb)
theorem rwStepI_ok (s : Sides W H n) (hG : OkG n G) (hP : ∀ i, i < n → OkP (K i) (B i)) (hk : OkRs len R) (ht : t ≤ 1000000) (hp : PreW w ao n G ak n K ab n B ro len R) :
    Calls Tryd.prog 12 #[.agg #[.int .i64 W, .int .i64 H, .slice (ao) n cap], .agg #[.slice (ak) n ck, .slice (ab) n cb], .slice ro len rc, .int .i64 t] w (GZ W H n (fwdW W H K len R t G) 0 w) := by
  obtain ⟨z, hz, _, e1⟩ := wcheck_both W H ao n cap G ak n ck K ab n cb B ro len rc R t 1 (hm_of hk)
  obtain rfl := hz.2 (wok_of (c := 1) s hG hP hk (by unfold RunOk; omega))
  have hp' := hp
  obtain ⟨hT, hC, hN, hB, hR⟩ := hp
  obtain ⟨b, off, rfl, hlt, hC⟩ := cells_of1 s hC
  obtain ⟨bk, ok, rfl, hbk, hN⟩ := numsAt_of hN (by have := vg_pos (vg_of s hG); omega)
  exact (rwStep_ok W H n cap b off bk ok ck ro len rc ab n cb K R G t w s hG hlt hC (okK_of hP) hbk hN hR hk ht (fun wx hb => by have q := hp'.below hb; exact e1 wx q.2.1 q.2.2.1 q.2.2.2.1 q.2.2.2.2)).mono fun _ _ h => gz_made h
theorem rwBackI_ok (s : Sides W H n) (hG : OkG n G) (hP : ∀ i, i < n → OkP (K i) (B i)) (hk : OkRs len R) (ht : t ≤ 1000000) (hp : PreW w ao n G ak n K ab n B ro len R) :
    Calls Tryd.prog 15 #[.agg #[.int .i64 W, .int .i64 H, .slice (ao) n cap], .agg #[.slice (ak) n ck, .slice (ab) n cb], .slice ro len rc, .int .i64 t] w (GZ W H n (bwdW W H K len R t G) 0 w) := by
  obtain ⟨z, hz, _, e1⟩ := wcheck_both W H ao n cap G ak n ck K ab n cb B ro len rc R t 1 (hm_of hk)
  obtain rfl := hz.2 (wok_of (c := 1) s hG hP hk (by unfold RunOk; omega))
  have hp' := hp
  obtain ⟨hT, hC, hN, hB, hR⟩ := hp
  obtain ⟨b, off, rfl, hlt, hC⟩ := cells_of1 s hC
  obtain ⟨bk, ok, rfl, hbk, hN⟩ := numsAt_of hN (by have := vg_pos (vg_of s hG); omega)
  exact (rwBack_ok W H n cap b off bk ok ck ro len rc ab n cb K R G t w s hG hlt hC (okK_of hP) hbk hN hR hk ht (fun wx hb => by have q := hp'.below hb; exact e1 wx q.2.1 q.2.2.1 q.2.2.2.1 q.2.2.2.2)).mono fun _ _ h => gz_made h
end

section
variable (W H : Int) (ao : Option Addr) (n cap : Nat) (G : Nat → Nat → Int) (ak : Option Addr) (nk ck : Nat) (K : Nat → Int) (ab : Option Addr) (nb cb : Nat) (B : Nat → Int) (ro : Option Addr) (len rc : Nat) (R : Nat → Int × Int)
/-- What a run among walls has, in naturals. -/
theorem wok_nat {t c : Int} (h : WOk W H n G nk K nb B len R t c) : ∃ W' H' t' c' : Nat, W = W' ∧ H = H' ∧ t = t' ∧ c = c' ∧ nk = n ∧ nb = n ∧ Sides W' H' n ∧ OkG n G ∧ (∀ i, i < n → OkP (K i) (B i)) ∧ OkRs len R ∧ RunOk t' c' := by
  obtain ⟨⟨hv, h1, h2, hP⟩, hk, hr⟩ := h
  obtain ⟨W', H', e1, e2, s, hG⟩ := Sides.vg hv
  obtain ⟨t', rfl⟩ := Int.eq_ofNat_of_zero_le hr.1
  obtain ⟨c', rfl⟩ := Int.eq_ofNat_of_zero_le hr.2.2.1
  exact ⟨W', H', t', c', e1, e2, rfl, rfl, h1, h2, s, hG, hP, hk, hr⟩

theorem wsteps_both (t : Int) (hm : len ≤ 1000000000000) :
    ∃ (W1 H1 : Int) (n1 : Nat) (K1 : Nat → Nat → Int) (z : Int), n1 ≤ 1024 ∧ (∀ w, PreW w ao n G ak nk K ab nb B ro len R → Calls Tryd.prog 11 #[.agg #[.int .i64 W, .int .i64 H, .slice (ao) n cap], .agg #[.slice (ak) nk ck, .slice (ab) nb cb], .slice ro len rc, .int .i64 t] w (GZ W1 H1 n1 K1 z w)) ∧ (∀ w, PreW w ao n G ak nk K ab nb B ro len R → Calls Tryd.prog 12 #[.agg #[.int .i64 W, .int .i64 H, .slice (ao) n cap], .agg #[.slice (ak) nk ck, .slice (ab) nb cb], .slice ro len rc, .int .i64 t] w (GZ W1 H1 n1 K1 z w)) := by
  obtain ⟨z, hz, e1, e2⟩ := wcheck_both W H ao n cap G ak nk ck K ab nb cb B ro len rc R t 1 hm
  by_cases h : z = 0
  · subst h
    obtain ⟨W', H', t', c', rfl, rfl, rfl, _, rfl, rfl, s, hG, hP, hk, hr⟩ := wok_nat W H n G nk K nb B len R (hz.1 rfl)
    have ht : t' ≤ 1000000 := by unfold RunOk at hr; omega
    exact ⟨W', H', _, _, 0, s.n1, fun w hp => wStep_ok W' H' _ cap ao G ak ck K ab cb B ro len rc R t' w s hG hP hk ht hp, fun w hp => rwStepI_ok W' H' _ cap ao G ak ck K ab cb B ro len rc R t' w s hG hP hk ht hp⟩
  · exact ⟨0, 0, 0, G, z, by omega, fun w hp => wstep_gz W H ao n cap ak nk ck ab nb cb ro len rc t w 0 0 0 G z fun wx hb => (wrun_err W H ao n cap ak nk ck ab nb cb ro len rc t 1 z wx h (fun wy hy => by have q := (hp.below hb).below hy; exact e1 wy q.2.1 q.2.2.1 q.2.2.2.1 q.2.2.2.2)).mono fun _ _ h => gz_err h,
      fun w hp => (rwstep_err W H ao n cap ak nk ck ab nb cb ro len rc t z w h (fun wy hy => by have q := hp.below hy; exact e2 wy q.2.1 q.2.2.1 q.2.2.2.1 q.2.2.2.2)).mono fun _ _ h => gz_err h⟩
theorem wbacks_both (t : Int) (hm : len ≤ 1000000000000) :
    ∃ (W1 H1 : Int) (n1 : Nat) (K1 : Nat → Nat → Int) (z : Int), n1 ≤ 1024 ∧ (∀ w, PreW w ao n G ak nk K ab nb B ro len R → Calls Tryd.prog 14 #[.agg #[.int .i64 W, .int .i64 H, .slice (ao) n cap], .agg #[.slice (ak) nk ck, .slice (ab) nb cb], .slice ro len rc, .int .i64 t] w (GZ W1 H1 n1 K1 z w)) ∧ (∀ w, PreW w ao n G ak nk K ab nb B ro len R → Calls Tryd.prog 15 #[.agg #[.int .i64 W, .int .i64 H, .slice (ao) n cap], .agg #[.slice (ak) nk ck, .slice (ab) nb cb], .slice ro len rc, .int .i64 t] w (GZ W1 H1 n1 K1 z w)) := by
  obtain ⟨z, hz, e1, e2⟩ := wcheck_both W H ao n cap G ak nk ck K ab nb cb B ro len rc R t 1 hm
  by_cases h : z = 0
  · subst h
    obtain ⟨W', H', t', c', rfl, rfl, rfl, _, rfl, rfl, s, hG, hP, hk, hr⟩ := wok_nat W H n G nk K nb B len R (hz.1 rfl)
    have ht : t' ≤ 1000000 := by unfold RunOk at hr; omega
    exact ⟨W', H', _, _, 0, s.n1, fun w hp => wBack_ok W' H' _ cap ao G ak ck K ab cb B ro len rc R t' w s hG hP hk ht hp, fun w hp => rwBackI_ok W' H' _ cap ao G ak ck K ab cb B ro len rc R t' w s hG hP hk ht hp⟩
  · exact ⟨0, 0, 0, G, z, by omega, fun w hp => wback_gz W H ao n cap ak nk ck ab nb cb ro len rc t w 0 0 0 G z fun wx hb => (wundo_err W H ao n cap ak nk ck ab nb cb ro len rc t 1 z wx h (fun wy hy => by have q := (hp.below hb).below hy; exact e1 wy q.2.1 q.2.2.1 q.2.2.2.1 q.2.2.2.2)).mono fun _ _ h => gz_err h,
      fun w hp => (rwback_err W H ao n cap ak nk ck ab nb cb ro len rc t z w h (fun wy hy => by have q := hp.below hy; exact e2 wy q.2.1 q.2.2.1 q.2.2.2.1 q.2.2.2.2)).mono fun _ _ h => gz_err h⟩
end
end Go.Proofs.YtnpmlbhlchoolaaDoor
