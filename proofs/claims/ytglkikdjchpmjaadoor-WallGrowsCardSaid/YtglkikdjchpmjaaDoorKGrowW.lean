/- Discs in an open wall, and walls mirrored: by the program. -/
import Derived.Test.YtglkikdjchpmjaaDoorKShpZ
namespace Go.Proofs.YtglkikdjchpmjaaDoor
set_option linter.unusedSimpArgs false
set_option linter.unusedVariables false
open Go.RowKit

theorem numsIn_congr {w : World} {ao : Option Addr} {n : Nat} {K K' : Nat → Int} (h : NumsIn w ao n K) (e : ∀ i, i < n → K i = K' i) : NumsIn w ao n K' := by
  rcases h with h | ⟨b, off, rfl, hlt, hN⟩
  · exact .inl h
  · exact .inr ⟨b, off, rfl, hlt, fun i hi => by rw [← e i hi]; exact hN i hi⟩
theorem wz_congr {n : Nat} {K B K' B' : Nat → Int} {z : Int} {w : World} {e : Ending} {w' : World} (h : WZ n K B z w e w') (h1 : ∀ i, i < n → K i = K' i) (h2 : ∀ i, i < n → B i = B' i) : WZ n K' B' z w e w' := by
  obtain ⟨ak, ab, ck, cb, he, hN, hf, hb⟩ := h
  exact ⟨ak, ab, ck, cb, he, Lib.hid ⟨numsIn_congr hN.out.1 h1, numsIn_congr hN.out.2 h2⟩, hf, hb⟩
/-- The kinds and bodies of a disc in an open wall. -/
def dkK (W : Nat) (px py q : Int) (n : Nat) : Nat → Int := putK (shpS W (inD px py q) (fun _ _ => 1)) (fun _ => 0) n
def dkB (W : Nat) (px py q : Int) (n : Nat) : Nat → Int := putB (shpS W (inD px py q) (fun _ _ => 1)) (fun _ => 0) 1 n
def smK (W H : Nat) (px py q : Int) (n : Nat) : Nat → Int := putK (shpS W (inD px py q) (smoK W H (inD px py q))) (fun _ => 0) n
theorem smB (W H : Nat) (px py q : Int) (n : Nat) : putB (shpS W (inD px py q) (smoK W H (inD px py q))) (fun _ => 0) 1 n = dkB W px py q n := by
  unfold dkB
  exact (sup_putB fun i => (shpS_ne (fun _ _ => by simp) i).trans (shpS_ne (fun x y => by have := smoK_rng W H (inD px py q) x y; omega) i).symm).symm
theorem shpS_rng {W : Nat} {f : Int → Int → Bool} {kd : Int → Int → Int} (h : ∀ x y, 1 ≤ kd x y ∧ kd x y ≤ 3) (i : Nat) : 0 ≤ shpS W f kd i ∧ shpS W f kd i ≤ 3 := by
  unfold shpS
  split
  · have := h ((i % W : Nat) : Int) ((i / W : Nat) : Int); omega
  · omega
theorem dk_ok (W : Nat) (px py q : Int) (n : Nat) : ∀ i, i < n → OkP (dkK W px py q n i) (dkB W px py q n i) := put_okP ⟨by omega, by omega⟩ (fun i _ => shpS_rng (fun _ _ => ⟨by omega, by omega⟩) i) (fun i _ => .inl ⟨rfl, rfl⟩)
theorem sm_ok (W H : Nat) (px py q : Int) (n : Nat) : ∀ i, i < n → OkP (smK W H px py q n i) (dkB W px py q n i) := by
  rw [← smB W H]
  exact put_okP ⟨by omega, by omega⟩ (fun i _ => shpS_rng (fun x y => smoK_rng W H (inD px py q) x y) i) (fun i _ => .inl ⟨rfl, rfl⟩)
theorem dk_flip (W H : Nat) (px py q : Int) (h : 2 * px + 1 = (W : Int)) : (∀ i, i < W * H → miK W (dkK W px py q (W * H)) i = dkK W px py q (W * H) i) ∧ (∀ i, i < W * H → miB W (dkB W px py q (W * H)) i = dkB W px py q (W * H) i) :=
  put_flip 1 rfl (fun x y => inD_flip W px py q x y h) (fun _ _ => rfl)
theorem sm_flip (W H : Nat) (px py q : Int) (h : 2 * px + 1 = (W : Int)) : ∀ i, i < W * H → miK W (smK W H px py q (W * H)) i = smK W H px py q (W * H) i :=
  (put_flip 1 rfl (fun x y => inD_flip W px py q x y h) (fun x y => smoK_flip W H _ (fun x y => inD_flip W px py q x y h) x y)).1
theorem dk_grow (W : Nat) (px py q q' : Int) (n i : Nat) (hq : q ≤ q') (hi : i < n) (h : dkB W px py q n i = 1) : dkB W px py q' n i = 1 := by
  unfold dkB at *
  rw [put_openB _ _ _ _ hi] at *
  by_cases h1 : shpS W (inD px py q) (fun _ _ => 1) i ≠ 0
  · rw [if_pos ((shpS_ne (fun _ _ => by simp) i).2 (inD_mono hq ((shpS_ne (fun _ _ => by simp) i).1 h1)))]
  · rw [if_neg h1] at h
    omega

section
variable (W H n cap b off : Nat) (G : Nat → Nat → Int) (px py q : Int) (w : World) (s : Sides W H n) (hO : OkG n G)
include s hO
theorem discs_open (hp : OnG W H px py) (hq : 0 ≤ q ∧ q ≤ 10000) : ∀ wx (ak ab : Option Addr) (ck cb : Nat), b < wx.heap.size → Grd wx b off n G → NumsIn wx ak n (fun _ => 0) → NumsIn wx ab n (fun _ => 0) →
    Calls Tryd.prog 15 #[.agg #[.int .i64 W, .int .i64 H, .slice (some ⟨b, off, none⟩) n cap], .agg #[.slice (ak) n ck, .slice (ab) n cb], .agg #[.int .i64 px, .int .i64 py], .int .i64 q, .int .i64 1] wx (WZ n (dkK W px py q n) (dkB W px py q n) 0 wx) ∧
    Calls Tryd.prog 18 #[.agg #[.int .i64 W, .int .i64 H, .slice (some ⟨b, off, none⟩) n cap], .agg #[.slice (ak) n ck, .slice (ab) n cb], .agg #[.int .i64 px, .int .i64 py], .int .i64 q, .int .i64 1] wx (WZ n (smK W H px py q n) (dkB W px py q n) 0 wx) := fun wx ak ab ck cb lb hG hK hB => by
  have hn : 1 ≤ n := by rw [s.n0]; exact Nat.mul_le_mul s.w0 s.h0
  have hC : CellsIn wx (some ⟨b, off, none⟩) n G := .inr ⟨b, off, rfl, lb, hG⟩
  have hv : WV W H n G n (fun _ => 0) n (fun _ => 0) := ⟨vg_of s hO, rfl, rfl, fun i hi => .inl ⟨rfl, rfl⟩⟩
  have CS : ∀ wy, Below wx.heap.size wx wy → Calls Tryd.prog 67 #[.agg #[.int .i64 W, .int .i64 H, .slice (some ⟨b, off, none⟩) n cap], .agg #[.slice (ak) n ck, .slice (ab) n cb], .agg #[.int .i64 px, .int .i64 py], .int .i64 q, .int .i64 1] wy fun e w' => e = .returned (.int .i64 (dErr true 1 W H px py q)) ∧ Below wy.heap.size wy w' := fun wy hy =>
    checkDisc_any W H (some ⟨b, off, none⟩) n cap ak n ck ab n cb wy true 1 px py q (fun wz hz => wValid_yes W H (some ⟨b, off, none⟩) n cap G ak n ck (fun _ => 0) ab n cb (fun _ => 0) wz hv (hC.below (hy.trans (hz.mono hy.size))) (hK.below (hy.trans (hz.mono hy.size))) (hB.below (hy.trans (hz.mono hy.size))))
  have es : dErr true 1 W H px py q = 0 := by simp [dErr, sErr, bErr, hp, hq]
  rw [es] at CS
  obtain ⟨bk, ok, rfl, lk, hk⟩ := numsAt_of hK hn
  obtain ⟨bb, ob, rfl, lb', hb2⟩ := numsAt_of hB hn
  refine ⟨(wdisc_ok W H n cap (some ⟨b, off, none⟩) bk ok ck bb ob cb _ _ px py q 1 wx s hp lk hk lb' hb2 CS).mono fun _ _ h => wz_put h (free_open _ _ _), (wsmooth_ok W H n cap (some ⟨b, off, none⟩) bk ok ck bb ob cb _ _ px py q 1 wx s hp lk hk lb' hb2 CS).mono fun _ _ h => ?_⟩
  have := wz_put h (free_open _ _ _)
  rw [smB] at this
  exact this
theorem disc_open_bad (hb : ¬ (OnG W H px py ∧ 0 ≤ q ∧ q ≤ 10000)) : ∀ wx (ak ab : Option Addr) (ck cb : Nat), b < wx.heap.size → Grd wx b off n G → NumsIn wx ak n (fun _ => 0) → NumsIn wx ab n (fun _ => 0) →
    Calls Tryd.prog 15 #[.agg #[.int .i64 W, .int .i64 H, .slice (some ⟨b, off, none⟩) n cap], .agg #[.slice (ak) n ck, .slice (ab) n cb], .agg #[.int .i64 px, .int .i64 py], .int .i64 q, .int .i64 1] wx (WZ 0 (fun _ => 0) (fun _ => 0) 7 wx) := fun wx ak ab ck cb lb hG hK hB => by
  have hC : CellsIn wx (some ⟨b, off, none⟩) n G := .inr ⟨b, off, rfl, lb, hG⟩
  have hv : WV W H n G n (fun _ => 0) n (fun _ => 0) := ⟨vg_of s hO, rfl, rfl, fun i hi => .inl ⟨rfl, rfl⟩⟩
  have CS : ∀ wy, Below wx.heap.size wx wy → Calls Tryd.prog 67 #[.agg #[.int .i64 W, .int .i64 H, .slice (some ⟨b, off, none⟩) n cap], .agg #[.slice (ak) n ck, .slice (ab) n cb], .agg #[.int .i64 px, .int .i64 py], .int .i64 q, .int .i64 1] wy fun e w' => e = .returned (.int .i64 (dErr true 1 W H px py q)) ∧ Below wy.heap.size wy w' := fun wy hy =>
    checkDisc_any W H (some ⟨b, off, none⟩) n cap ak n ck ab n cb wy true 1 px py q (fun wz hz => wValid_yes W H (some ⟨b, off, none⟩) n cap G ak n ck (fun _ => 0) ab n cb (fun _ => 0) wz hv (hC.below (hy.trans (hz.mono hy.size))) (hK.below (hy.trans (hz.mono hy.size))) (hB.below (hy.trans (hz.mono hy.size))))
  have es : dErr true 1 W H px py q = 7 := by
    by_cases h8 : OnG W H px py
    · have h7 : ¬ (0 ≤ q ∧ q ≤ 10000) := fun h => hb ⟨h8, h⟩
      simp [dErr, sErr, bErr, h8, h7]
    · simp [dErr, sErr, bErr, h8]
  rw [es] at CS
  exact (wdisc_chk W H (some ⟨b, off, none⟩) n cap ak n ck ab n cb px py q 1 7 wx (by omega) CS).mono fun _ _ h => wz_nil h
theorem mir_open (K B : Nat → Int) (hP : ∀ i, i < n → OkP (K i) (B i)) : ∀ wx (ak ab : Option Addr) (ck cb : Nat), b < wx.heap.size → Grd wx b off n G → NumsIn wx ak n K → NumsIn wx ab n B →
    Calls Tryd.prog 26 #[.agg #[.int .i64 W, .int .i64 H, .slice (some ⟨b, off, none⟩) n cap], .agg #[.slice (ak) n ck, .slice (ab) n cb]] wx (WZ n (miK W K) (miB W B) 0 wx) := fun wx ak ab ck cb lb hG hK hB => by
  have hn : 1 ≤ n := by rw [s.n0]; exact Nat.mul_le_mul s.w0 s.h0
  obtain ⟨bk, ok, rfl, lk, hk⟩ := numsAt_of hK hn
  obtain ⟨bb, ob, rfl, lb', hb2⟩ := numsAt_of hB hn
  refine (wmir_in W H n b off cap bk ok ck bb ob cb K B G wx s hO lb hG hP lk hk lb' hb2).mono fun e w' h => ?_
  obtain ⟨gk, gb, c1, c2, he, hN, l0, l1, hy⟩ := h
  exact ⟨_, _, c1, c2, he, hN, ⟨fun p hp => (by cases hp; exact l0), fun p hp => (by cases hp; exact l1)⟩, hy⟩
end
end Go.Proofs.YtglkikdjchpmjaaDoor
