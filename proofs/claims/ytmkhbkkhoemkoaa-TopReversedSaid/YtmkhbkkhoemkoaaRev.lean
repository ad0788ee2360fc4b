/- The law TopReversed: the walk. -/
import Derived.Test.YtmkhbkkhoemkoaaTop5
import Derived.Test.YtmkhbkkhoemkoaaStepU
namespace Go.Proofs.Ytmkhbkkhoemkoaa
set_option linter.unusedSimpArgs false
set_option linter.unusedVariables false
open Go.RowKit

def stF (W H : Nat) (k y : Int) (G : Nat → Nat → Int) : Nat → Nat → Int := pull W H 1 (colG k y G)
def itF (W H : Nat) (k y : Int) : Nat → (Nat → Nat → Int) → (Nat → Nat → Int)
  | 0, G => G
  | c + 1, G => stF W H k y (itF W H k y c G)
theorem itF_run {W H : Nat} {k y : Int} {R : Nat → Int × Int} (hR : R 0 = (k, y)) (c : Nat) (G : Nat → Nat → Int) : runG (fwd W H 1 R) 0 c G = itF W H k y c G := by
  induction c with
  | zero => rfl
  | succ c ih =>
    show fwd W H 1 R (0 + c) (runG (fwd W H 1 R) 0 c G) = stF W H k y (itF W H k y c G)
    rw [ih]
    unfold fwd stF
    rw [Nat.mod_one, hR]
theorem itF_ok {W H n : Nat} {k y : Int} (hn : n = W * H) {G : Nat → Nat → Int} (h : OkG n G) (c : Nat) : OkG n (itF W H k y c G) := by
  induction c with
  | zero => exact h
  | succ c ih => exact okG_pull hn (okG_col ih)
theorem reG_reG {n : Nat} (G : Nat → Nat → Int) : EqG n (reG (reG G)) G := fun i _ d hd => by
  match d, hd with
  | 0, _ => rfl
  | 1, _ => rfl
  | 2, _ => rfl
  | 3, _ => rfl
theorem reG_eq {n : Nat} {G K : Nat → Nat → Int} (h : EqG n G K) : EqG n (reG G) (reG K) := fun i hi d _ => h i hi _ (Nat.mod_lt _ (by omega))
theorem col_reG {n : Nat} {k z : Int} (G : Nat → Nat → Int) : EqG n (colG k z (reG G)) (reG (colG k z G)) := fun i _ d hd => by
  have e : moreG k z (reG G) i = moreG k z G i := by
    unfold moreG more
    show turnTo k z (min (G i 2) (G i 0)) (min (G i 2) (G i 0) + min (G i 3) (G i 1)) - min (G i 2) (G i 0) = _
    rw [Int.min_comm (G i 2), Int.min_comm (G i 3)]
  match d, hd with
  | 0, _ => rw [colG0, e]; exact (colG2 k z G i).symm
  | 1, _ => rw [colG1, e]; exact (colG3 k z G i).symm
  | 2, _ => rw [colG2, e]; exact (colG0 k z G i).symm
  | 3, _ => rw [colG3, e]; exact (colG1 k z G i).symm
theorem rev_step {W H n : Nat} {k : Int} (hn : n = W * H) (hk : k = 0 ∨ k = 1) {X K : Nat → Nat → Int} (hX : OkG n X) (h : EqG n K (reG (stF W H k 0 X))) : EqG n (colG k 0 (pull W H 1 K)) (reG X) := by
  have h1 : EqG n (pull W H 1 K) (pull W H 1 (reG (stF W H k 0 X))) := h.pull hn
  have h2 : EqG n (pull W H 1 (reG (stF W H k 0 X))) (reG (pull W H (-1) (stF W H k 0 X))) := (reG_reG _).symm.trans (reG_eq (pull_reG (W := W) (H := H) (stF W H k 0 X)))
  have h3 : EqG n (pull W H (-1) (stF W H k 0 X)) (colG k 0 X) := pull_back (way := 1) hn
  have h4 : EqG n (pull W H 1 K) (reG (colG k 0 X)) := h1.trans (h2.trans (reG_eq h3))
  have c := col_back (k := k) (y := 0) (n := n) (G := X) (.inl ⟨hk, rfl⟩) hX
  rw [Int.neg_zero] at c
  exact (h4.col).trans ((col_reG _).trans (reG_eq c))

/-- The grid of a step back, in a block; what was there kept. -/
def RevH (B : Nat) (w0 : World) (W H n bb cc : Nat) (K : Nat → Nat → Int) (wr : World) : Prop :=
  Three wr B 24 (.int .i64 W) (.int .i64 H) (.slice (some ⟨bb, 0, none⟩) n cc) ∧ Grd wr bb 0 n K ∧ bb < wr.heap.size ∧ Below B w0 wr

set_option maxRecDepth 100000 in
set_option maxHeartbeats 8000000 in
theorem topReversed_ok (W H n cap c : Nat) (ao : Option Addr) (G : Nat → Nat → Int) (k : Int) (w : World) (s : Sides W H n) (hG : OkG n G) (hC : CellsIn w ao n G) (hk : k = 0 ∨ k = 1) (hc : c ≤ 12) (hn : n ≤ 100) :
    Calls Try.prog 5 #[.agg #[.int .i64 W, .int .i64 H, .slice (ao) n cap], .agg #[.int .i64 k, .int .i64 0], .int .i64 c] w fun e w' => e = .returned (.bool true) ∧ Below w.heap.size w w' := by
  obtain ⟨b, off, rfl, hlt, hGr⟩ := cells_of s hC
  have h1 := row_of s
  have hok : OkR k 0 := .inl ⟨hk, rfl⟩
  have hk2 : (k == (2 : Int)) = false := by simp; omega
  have RU := Lib.hid (show Calls Try.prog 17 #[.agg #[.int .i64 W, .int .i64 H, .slice (some ⟨b, off, none⟩) n cap], .slice (some ⟨w.heap.size + 1 + 1, 0, none⟩) 1 1, .int .i64 0, .int .i64 c] (((w.alloc (.cells #[.int .i64 W, .int .i64 H, .slice (some ⟨b, off, none⟩) n cap] 24)).alloc (.cells #[.int .i64 k, .int .i64 0] 36)).alloc (.cells #[.int .i64 k, .int .i64 0] 36)) (Made W H n (itF W H k 0 c G) (((w.alloc (.cells #[.int .i64 W, .int .i64 H, .slice (some ⟨b, off, none⟩) n cap] 24)).alloc (.cells #[.int .i64 k, .int .i64 0] 36)).alloc (.cells #[.int .i64 k, .int .i64 0] 36))) from by
    have hb : Below w.heap.size w (((w.alloc (.cells #[.int .i64 W, .int .i64 H, .slice (some ⟨b, off, none⟩) n cap] 24)).alloc (.cells #[.int .i64 k, .int .i64 0] 36)).alloc (.cells #[.int .i64 k, .int .i64 0] 36)) := by (repeat' (first | (with_reducible exact Below.refl _ _) | (with_reducible refine Below.setCell ?_ (by first | omega | (simp; done) | (simp; omega)) _) | (with_reducible refine Below.alloc ?_ (by first | omega | (simp; done) | (simp; omega)) _) | (with_reducible refine Below.drew ?_) | (with_reducible refine below_drewN ?_ _) | (with_reducible refine Below.trans ?_ (Below.mono (by assumption) (by first | omega | (simp; done) | (simp; omega))))))
    have := gRun_ok W H n cap (some ⟨b, off, none⟩) G (some ⟨w.heap.size + 1 + 1, 0, none⟩) 1 1 (fun _ => (k, 0)) 0 c (((w.alloc (.cells #[.int .i64 W, .int .i64 H, .slice (some ⟨b, off, none⟩) n cap] 24)).alloc (.cells #[.int .i64 k, .int .i64 0] 36)).alloc (.cells #[.int .i64 k, .int .i64 0] 36)) s hG (hC.below hb) (.inr ⟨w.heap.size + 1 + 1, 0, rfl, by simp, fun i hi => by
      obtain rfl : i = 0 := by omega
      exact ⟨by simp [go_sem], by simp [go_sem]⟩⟩) ⟨by omega, by omega, fun _ _ => hok⟩ (by unfold RunOk; omega)
    rw [itF_run (k := k) (y := 0) rfl] at this
    exact this)
  have OF := Lib.hid (fun j => itF_ok (k := k) (y := 0) s.n0 hG j)
  clear hC
  have HK := Lib.hid hk; clear hk
  have HOK := Lib.hid hok; clear hok
  have HS := Lib.hid s; clear s
  have HO := Lib.hid hG; clear hG
  have HG := Lib.hid hGr; clear hGr
  go_enter Try.func5, Try.ntmps5
  go_wp2_with fail
  (go_at_call 17; (with_reducible refine (RU.out).mono ?_); rintro e wa ⟨a, ca, rfl, ha, loa, hb⟩; have Ca := Lib.hid ha; clear ha loa; obtain ⟨hc, hf, hz⟩ := bcall hb; (try simp at hc hf hz))
  go_wp2_with fail
  have hA := And.intro hc (And.intro hf (And.intro hz hb))
  clear hc hf hz hb
  obtain ⟨hcA, hfA, hzA, hbA⟩ := hA
  (go_at_call 18; (with_reducible refine (gReversed_ok W H n ca (some ⟨a, 0, none⟩) (itF W H k 0 c G) _ HS.out (OF.out c) (Ca.out.below (by (repeat' (first | (with_reducible exact Below.refl _ _) | (with_reducible refine Below.setCell ?_ (by first | omega | (simp; done) | (simp; omega)) _) | (with_reducible refine Below.alloc ?_ (by first | omega | (simp; done) | (simp; omega)) _) | (with_reducible refine Below.drew ?_) | (with_reducible refine below_drewN ?_ _) | (with_reducible refine Below.trans ?_ (Below.mono (by assumption) (by first | omega | (simp; done) | (simp; omega))))))))).mono ?_); rintro e wp ⟨p, cp, rfl, hp, lop, hb⟩; have Cp := Lib.hid hp; clear hp lop; obtain ⟨hc, hf, hz⟩ := bcall hb; (try simp at hc hf hz))
  go_wp2_with fail
  have lw : w.heap.size + 2 < wp.heap.size := by omega
  have hpw := Lib.hid (show Below w.heap.size w wp from by (repeat' (first | (with_reducible exact Below.refl _ _) | (with_reducible refine Below.setCell ?_ (by first | omega | (simp; done) | (simp; omega)) _) | (with_reducible refine Below.alloc ?_ (by first | omega | (simp; done) | (simp; omega)) _) | (with_reducible refine Below.drew ?_) | (with_reducible refine below_drewN ?_ _) | (with_reducible refine Below.trans ?_ (Below.mono (by assumption) (by first | omega | (simp; done) | (simp; omega)))))))
  have g0 : wp.cell? ⟨w.heap.size, 0, none⟩ = some (.int .i64 W) := by simp [go_sem, ↓IntWalk.iteOmega, *]
  have g1 : wp.cell? ⟨w.heap.size, 1, none⟩ = some (.int .i64 H) := by simp [go_sem, ↓IntWalk.iteOmega, *]
  have g2 : wp.cell? ⟨w.heap.size, 2, none⟩ = some (.slice (some ⟨b, off, none⟩) n cap) := by simp [go_sem, ↓IntWalk.iteOmega, *]
  have q0 : wp.cell? ⟨w.heap.size + 1, 0, none⟩ = some (.int .i64 k) := by simp [go_sem, ↓IntWalk.iteOmega, *]
  have q1 : wp.cell? ⟨w.heap.size + 1, 1, none⟩ = some (.int .i64 0) := by simp [go_sem, ↓IntWalk.iteOmega, *]
  have HI := Lib.hid (show RevH wp.heap.size wp W H n p cp (reG (itF W H k 0 c G)) (wp.alloc (.cells #[.int .i64 W, .int .i64 H, .slice (some ⟨p, 0, none⟩) n cp] 24)) from by
    obtain ⟨p', o, e, l, hg⟩ := cells_of HS.out Cp.out
    cases e
    exact ⟨Three.new0 _ _ _ _ _, hg.below ((Below.refl _ _).alloc (Nat.le_refl _) _) l, by simp; omega, (Below.refl _ _).alloc (Nat.le_refl _) _⟩)
  clear hc hf hz hb hcA hfA hzA hbA Ca Cp
  go_loopw [11, 14] (fun i _ wr => ∃ (r bb cc : Nat) (K : Nat → Nat → Int), r ≤ c ∧ i = .int .i64 r ∧ Hid (RevH wp.heap.size wp W H n bb cc K wr ∧ EqG n K (reG (itF W H k 0 (c - r) G)) ∧ OkG n K)) (fun i _ _ => c - (intOf i).toNat)
  case atStart => exact ⟨0, p, cp, _, Nat.zero_le _, rfl, Lib.hid ⟨HI.out, EqG.refl _ _, okG_reG (OF.out c)⟩⟩
  case round =>
    obtain ⟨wo, hwo⟩ : ∃ wo, wo = wr := ⟨_, rfl⟩
    subst hwo
    obtain ⟨r, bb, cc, K, hr, rfl, HH⟩ := hrel
    have t3 := HH.out.1.1
    have l3 := t3.lt
    have hb := HH.out.1.2.2.2
    have hsr := hb.size
    have z0 := t3.c0
    have z1 := t3.c1
    have z2 := t3.c2
    have f0 := t3.free 0
    have f1 := t3.free 1
    have f2 := t3.free 2
    have g0' := (hb.cell (p := ⟨w.heap.size, 0, none⟩) (by simp; omega)).trans g0
    have g1' := (hb.cell (p := ⟨w.heap.size, 1, none⟩) (by simp; omega)).trans g1
    have g2' := (hb.cell (p := ⟨w.heap.size, 2, none⟩) (by simp; omega)).trans g2
    have q0' := (hb.cell (p := ⟨w.heap.size + 1, 0, none⟩) (by simp; omega)).trans q0
    have q1' := (hb.cell (p := ⟨w.heap.size + 1, 1, none⟩) (by simp; omega)).trans q1
    by_cases hlr : r < c
    · have SR := Lib.hid (gStreamR_ok W H bb 0 n cc K wo HS.out HH.out.2.2 HH.out.1.2.2.1 HH.out.1.2.1)
      clear t3 hb
      go_wp2_with fail
      (go_at_call 15; (with_reducible refine (SR.out).mono ?_); rintro e w5 ⟨d, cd, rfl, hrd, hld, hb⟩; have Rd := Lib.hid hrd; clear hrd)
      have ls := hb.size
      have x0 := (hb.cell (p := ⟨w.heap.size + 1, 0, none⟩) (by simp; omega)).trans q0'
      have x1 := (hb.cell (p := ⟨w.heap.size + 1, 1, none⟩) (by simp; omega)).trans q1'
      have x2 := (hb.cell (p := ⟨wp.heap.size, 0, none⟩) l3).trans z0
      have x3 := (hb.cell (p := ⟨wp.heap.size, 1, none⟩) l3).trans z1
      have x4 := (hb.cell (p := ⟨wp.heap.size, 2, none⟩) l3).trans z2
      have Hx := Lib.hid hb
      clear hb g0' g1' g2' q0' q1' z0 z1 z2
      go_wp2
      obtain ⟨P, hP⟩ : ∃ P, P = pull W H 1 K := ⟨_, rfl⟩
      have OP := Lib.hid (show OkG n P from hP ▸ okG_pull HS.out.n0 HH.out.2.2)
      rw [← hP] at Rd
      have HP := Lib.hid hP; clear hP
      have lC : w5.heap.size ≠ d := fun e => by have := Rd.out.1; omega
      have RP := Lib.hid (show RevH wp.heap.size wp W H n bb cc K wo from HH.out.1)
      obtain ⟨w6, hw6⟩ : ∃ w6, w6 = w5.alloc (.cells #[.int .i64 W, .int .i64 H, .slice (some ⟨d, 0, none⟩) n cd] 24) := ⟨_, rfl⟩
      have tC : Three w6 w5.heap.size 24 (.int .i64 W) (.int .i64 H) (.slice (some ⟨d, 0, none⟩) n cd) := by rw [hw6]; exact Three.new0 _ _ _ _ _
      have R6 : Row w6 d n P := by rw [hw6]; exact Rd.out.alloc _
      have B6 : Below wo.heap.size wo w6 := by rw [hw6]; exact Hx.out.alloc ls _
      have s6 : w6.heap.size = w5.heap.size + 1 := by rw [hw6]; simp
      rw [← hw6]
      clear hw6 x0 x1 x2 x3 x4
      have D6 := Lib.hid R6
      have TC := Lib.hid tC
      have E6 := Lib.hid B6
      clear R6 tC B6 SR
      go_loopw [14] (fun i wr => ∃ (j : Nat) (L : Nat → Nat → Int), j ≤ n ∧ i = .int .i64 j ∧ Hid (Ex (fun z => z = d) w6 wr ∧ Row wr d n L ∧ Half n j (colG k 0 P) P L)) (fun i _ => n - (intOf i).toNat)
      case atStart => exact ⟨0, P, Nat.zero_le _, rfl, Lib.hid ⟨Ex.refl _ _, D6.out, half_zero _ _ _⟩⟩
      case round =>
        obtain ⟨j, L, hj, rfl, QQ⟩ := hrel
        have tq := TC.out.ex QQ.out.1 lC
        have k0 := tq.c0
        have k1 := tq.c1
        have k2 := tq.c2
        have lCq := tq.lt
        have ldq := QQ.out.2.1.1
        have lwq := QQ.out.1.size
        have y0 : wr.cell? ⟨w.heap.size + 1, 0, none⟩ = some (.int .i64 k) := (QQ.out.1.cell (k := w.heap.size + 1) (by omega) (by omega)).trans ((E6.out.cell (p := ⟨w.heap.size + 1, 0, none⟩) (by simp; omega)).trans ((RP.out.2.2.2.cell (p := ⟨w.heap.size + 1, 0, none⟩) (by simp; omega)).trans q0))
        have y1 : wr.cell? ⟨w.heap.size + 1, 1, none⟩ = some (.int .i64 0) := (QQ.out.1.cell (k := w.heap.size + 1) (by omega) (by omega)).trans ((E6.out.cell (p := ⟨w.heap.size + 1, 1, none⟩) (by simp; omega)).trans ((RP.out.2.2.2.cell (p := ⟨w.heap.size + 1, 1, none⟩) (by simp; omega)).trans q1))
        clear tq
        by_cases hlj : j < n
        · obtain ⟨a0, a1, a2, a3⟩ := QQ.out.2.1.at4 hlj
          obtain ⟨h0, h1, h2, h3⟩ := QQ.out.2.1.free4 hlj
          rw [QQ.out.2.2.2 j (Nat.le_refl _) hlj 0 (by omega)] at a0
          rw [QQ.out.2.2.2 j (Nat.le_refl _) hlj 1 (by omega)] at a1
          rw [QQ.out.2.2.2 j (Nat.le_refl _) hlj 2 (by omega)] at a2
          rw [QQ.out.2.2.2 j (Nat.le_refl _) hlj 3 (by omega)] at a3
          have p0 : (0 : Int) ≤ (j : Int) := by omega
          have p1 : (j : Int) < (n : Int) := by omega
          have HKj := Lib.hid (OP.out.1 j hlj)
          go_wp2
          go_region_held3 (fun w' => w'.cell? ⟨w5.heap.size, 2, none⟩ = some (.slice (some ⟨d, 0, none⟩) n cd) ∧ w'.cell? ⟨w.heap.size + 1, 0, none⟩ = some (.int .i64 k) ∧ w'.cell? ⟨w.heap.size + 1, 1, none⟩ = some (.int .i64 0) ∧ w'.cell? ⟨d, j * 4, none⟩ = some (.int .i64 (P j 0)) ∧ w'.cell? ⟨d, j * 4 + 1, none⟩ = some (.int .i64 (P j 1)) ∧ w'.cell? ⟨d, j * 4 + 2, none⟩ = some (.int .i64 (P j 2)) ∧ w'.cell? ⟨d, j * 4 + 3, none⟩ = some (.int .i64 (P j 3))) (first | (go_split_ands; (try dsimp only); refine ⟨?_, ?_, ?_, ?_, ?_, ?_, ?_⟩ <;> (first | (with_reducible assumption) | (with_reducible exact keep_cell (by assumption) (by first | omega | (simp; done) | (simp; omega)) (by assumption)) | (with_reducible exact (World.cell?_alloc_past _ _ _ (by show _ < _; omega)).trans (by assumption)) | (with_reducible exact (World.cell?_alloc_past _ _ _ (by show _ < _; omega)).trans ((World.cell?_alloc_past _ _ _ (by show _ < _; omega)).symm.trans (by assumption))) | (simp [go_sem]; with_reducible assumption))) | (simp [go_sem, ↓IntWalk.iteOmega, *]; done)) ((go_at_call 14; (with_reducible refine (collideG P j k 0 _ HKj.out HOK.out).mono ?_); rintro e w1 ⟨rfl, hb⟩; obtain ⟨hc, hf, hz⟩ := bcall hb; (try simp at hc hf hz)))
          · rename_i hX; clear hX
            obtain ⟨X, eX⟩ : ∃ X, X = w1.alloc (.cells #[.int .i64 (colG k 0 P j 0), .int .i64 (colG k 0 P j 1), .int .i64 (colG k 0 P j 2), .int .i64 (colG k 0 P j 3)] 40) := ⟨_, rfl⟩
            have XB := Lib.hid (show Below wr.heap.size wr X from by rw [eX]; (repeat' (first | (with_reducible exact Below.refl _ _) | (with_reducible refine Below.setCell ?_ (by first | omega | (simp; done) | (simp; omega)) _) | (with_reducible refine Below.alloc ?_ (by first | omega | (simp; done) | (simp; omega)) _) | (with_reducible refine Below.drew ?_) | (with_reducible refine below_drewN ?_ _) | (with_reducible refine Below.trans ?_ (Below.mono (by assumption) (by first | omega | (simp; done) | (simp; omega)))))))
            have v0 : X.cell? ⟨w1.heap.size, 0, none⟩ = some (.int .i64 (colG k 0 P j 0)) := by rw [eX]; simp [go_sem, ↓IntWalk.iteOmega, hc, hz]
            have v1 : X.cell? ⟨w1.heap.size, 1, none⟩ = some (.int .i64 (colG k 0 P j 1)) := by rw [eX]; simp [go_sem, ↓IntWalk.iteOmega, hc, hz]
            have v2 : X.cell? ⟨w1.heap.size, 2, none⟩ = some (.int .i64 (colG k 0 P j 2)) := by rw [eX]; simp [go_sem, ↓IntWalk.iteOmega, hc, hz]
            have v3 : X.cell? ⟨w1.heap.size, 3, none⟩ = some (.int .i64 (colG k 0 P j 3)) := by rw [eX]; simp [go_sem, ↓IntWalk.iteOmega, hc, hz]
            have ls := XB.out.size
            have b0 := (XB.out.cell (p := ⟨d, j * 4, none⟩) ldq).trans a0
            have b1 := (XB.out.cell (p := ⟨d, j * 4 + 1, none⟩) ldq).trans a1
            have b2 := (XB.out.cell (p := ⟨d, j * 4 + 2, none⟩) ldq).trans a2
            have b3 := (XB.out.cell (p := ⟨d, j * 4 + 3, none⟩) ldq).trans a3
            have e0 := (XB.out.frozen (p := ⟨d, j * 4, none⟩) ldq).trans h0
            have e1 := (XB.out.frozen (p := ⟨d, j * 4 + 1, none⟩) ldq).trans h1
            have e2 := (XB.out.frozen (p := ⟨d, j * 4 + 2, none⟩) ldq).trans h2
            have e3 := (XB.out.frozen (p := ⟨d, j * 4 + 3, none⟩) ldq).trans h3
            have k2' := (XB.out.cell (p := ⟨w5.heap.size, 2, none⟩) lCq).trans k2
            rw [← eX]
            clear hc hf hz hb eX a0 a1 a2 a3 h0 h1 h2 h3 k0 k1 k2 y0 y1
            go_wp2
            go_roundw
            case rel =>
              obtain ⟨hx, hrw, hh⟩ := QQ.out
              have xx := Ex.of_below (S := fun _ => False) XB.out
              obtain ⟨c1, c2⟩ := chain1 (hrw.ex xx (fun h => h)) hlj (colG k 0 P j 0) (colG k 0 P j 1) (colG k 0 P j 2) (colG k 0 P j 3)
              exact ⟨j + 1, _, by omega, by go_num, Lib.hid ⟨(hx.trans (xx.mono (fun _ h => h.elim))).trans c1, c2, half_step hh hlj⟩⟩
            case measure => simp [intOf]; omega
          · rename_i hX; clear hX
            obtain ⟨X, eX⟩ : ∃ X, X = (((w1.setCell ⟨wr.heap.size, 0, none⟩ (.int .i64 (colG k 0 P j 0))).setCell ⟨wr.heap.size, 1, none⟩ (.int .i64 (colG k 0 P j 1))).setCell ⟨wr.heap.size, 2, none⟩ (.int .i64 (colG k 0 P j 2))).setCell ⟨wr.heap.size, 3, none⟩ (.int .i64 (colG k 0 P j 3)) := ⟨_, rfl⟩
            have XB := Lib.hid (show Below wr.heap.size wr X from by rw [eX]; (repeat' (first | (with_reducible exact Below.refl _ _) | (with_reducible refine Below.setCell ?_ (by first | omega | (simp; done) | (simp; omega)) _) | (with_reducible refine Below.alloc ?_ (by first | omega | (simp; done) | (simp; omega)) _) | (with_reducible refine Below.drew ?_) | (with_reducible refine below_drewN ?_ _) | (with_reducible refine Below.trans ?_ (Below.mono (by assumption) (by first | omega | (simp; done) | (simp; omega)))))))
            have v0 : X.cell? ⟨wr.heap.size, 0, none⟩ = some (.int .i64 (colG k 0 P j 0)) := by rw [eX]; simp [go_sem, ↓IntWalk.iteOmega, hc, hz]
            have v1 : X.cell? ⟨wr.heap.size, 1, none⟩ = some (.int .i64 (colG k 0 P j 1)) := by rw [eX]; simp [go_sem, ↓IntWalk.iteOmega, hc, hz]
            have v2 : X.cell? ⟨wr.heap.size, 2, none⟩ = some (.int .i64 (colG k 0 P j 2)) := by rw [eX]; simp [go_sem, ↓IntWalk.iteOmega, hc, hz]
            have v3 : X.cell? ⟨wr.heap.size, 3, none⟩ = some (.int .i64 (colG k 0 P j 3)) := by rw [eX]; simp [go_sem, ↓IntWalk.iteOmega, hc, hz]
            have ls := XB.out.size
            have b0 := (XB.out.cell (p := ⟨d, j * 4, none⟩) ldq).trans a0
            have b1 := (XB.out.cell (p := ⟨d, j * 4 + 1, none⟩) ldq).trans a1
            have b2 := (XB.out.cell (p := ⟨d, j * 4 + 2, none⟩) ldq).trans a2
            have b3 := (XB.out.cell (p := ⟨d, j * 4 + 3, none⟩) ldq).trans a3
            have e0 := (XB.out.frozen (p := ⟨d, j * 4, none⟩) ldq).trans h0
            have e1 := (XB.out.frozen (p := ⟨d, j * 4 + 1, none⟩) ldq).trans h1
            have e2 := (XB.out.frozen (p := ⟨d, j * 4 + 2, none⟩) ldq).trans h2
            have e3 := (XB.out.frozen (p := ⟨d, j * 4 + 3, none⟩) ldq).trans h3
            have k2' := (XB.out.cell (p := ⟨w5.heap.size, 2, none⟩) lCq).trans k2
            rw [← eX]
            clear hc hf hz hb eX a0 a1 a2 a3 h0 h1 h2 h3 k0 k1 k2 y0 y1
            go_wp2
            go_roundw
            case rel =>
              obtain ⟨hx, hrw, hh⟩ := QQ.out
              have xx := Ex.of_below (S := fun _ => False) XB.out
              obtain ⟨c1, c2⟩ := chain1 (hrw.ex xx (fun h => h)) hlj (colG k 0 P j 0) (colG k 0 P j 1) (colG k 0 P j 2) (colG k 0 P j 3)
              exact ⟨j + 1, _, by omega, by go_num, Lib.hid ⟨(hx.trans (xx.mono (fun _ h => h.elim))).trans c1, c2, half_step hh hlj⟩⟩
            case measure => simp [intOf]; omega

        · obtain rfl : n = j := by omega
          have tB : Three wr wp.heap.size 24 (.int .i64 W) (.int .i64 H) (.slice (some ⟨bb, 0, none⟩) n cc) := (RP.out.1.below E6.out l3).ex QQ.out.1 (by omega)
          have z0 := tB.c0
          have z1 := tB.c1
          have z2 := tB.c2
          have f0 := tB.free 0
          have f1 := tB.free 1
          have f2 := tB.free 2
          have lB := tB.lt
          have TB := Lib.hid tB; clear tB
          go_wp2
          go_roundw
          case rel =>
            obtain ⟨hx, hrw, hh⟩ := QQ.out
            have x3 : Ex (fun k => k = wp.heap.size) wr (((wr.setCell ⟨wp.heap.size, 0, none⟩ (.int .i64 W)).setCell ⟨wp.heap.size, 1, none⟩ (.int .i64 H)).setCell ⟨wp.heap.size, 2, none⟩ (.slice (some ⟨d, 0, none⟩) n cd)) := three_ex
            have r3 := (hrw.eqG (half_all hh)).ex x3 (by omega)
            have hbq : Below wp.heap.size wp wr := RP.out.2.2.2.trans ((E6.out.mono (by omega)).trans (hx.below (by omega) (fun _ h => by omega)))
            refine ⟨r + 1, d, cd, colG k 0 P, by omega, by go_num, Lib.hid ⟨⟨TB.out.set, r3.grd, r3.1, hbq.trans (x3.below hbq.size (fun _ h => by omega))⟩, ?_, okG_col OP.out⟩⟩
            rw [HP.out]
            refine rev_step HS.out.n0 HK.out (OF.out (c - (r + 1))) ?_
            have := HH.out.2.1
            rw [show c - r = c - (r + 1) + 1 from by omega] at this
            exact this
          case measure => simp [intOf]; omega
    · obtain rfl : c = r := by omega
      have hbw : Below w.heap.size w wo := hpw.out.trans (hb.mono (by omega))
      have RV := Lib.hid (fun wx (hx : Below wo.heap.size wo wx) => gReversed_ok W H n cc (some ⟨bb, 0, none⟩) K wx HS.out HH.out.2.2 (.inr ⟨bb, 0, rfl, Nat.lt_of_lt_of_le HH.out.1.2.2.1 hx.size, HH.out.1.2.1.below hx HH.out.1.2.2.1⟩))
      have HE := Lib.hid (show EqG n (reG K) G from by
        have := HH.out.2.1
        rw [Nat.sub_self] at this
        exact (reG_eq this).trans (reG_reG G))
      have Hbw := Lib.hid hbw
      have CG := Lib.hid (show CellsIn wo (some ⟨b, off, none⟩) n G from .inr ⟨b, off, rfl, Nat.lt_of_lt_of_le hlt hbw.size, HG.out.below hbw hlt⟩)
      clear hb hbw t3
      go_wp2_with fail
      (go_at_call 18; (with_reducible refine (RV.out _ (by (repeat' (first | (with_reducible exact Below.refl _ _) | (with_reducible refine Below.setCell ?_ (by first | omega | (simp; done) | (simp; omega)) _) | (with_reducible refine Below.alloc ?_ (by first | omega | (simp; done) | (simp; omega)) _) | (with_reducible refine Below.drew ?_) | (with_reducible refine below_drewN ?_ _) | (with_reducible refine Below.trans ?_ (Below.mono (by assumption) (by first | omega | (simp; done) | (simp; omega)))))))).mono ?_); rintro e wu ⟨u, cu, rfl, hu, lou, hb⟩; have Cu := Lib.hid hu; clear hu lou; obtain ⟨hc, hf, hz⟩ := bcall hb; (try simp at hc hf hz))
      go_wp2_with (first | (go_at_call 16; (with_reducible refine (gSame_yes W H (some ⟨u, 0, none⟩) (some ⟨b, off, none⟩) n cu cap _ _ _ (by omega) (Cu.out.below (by (repeat' (first | (with_reducible exact Below.refl _ _) | (with_reducible refine Below.setCell ?_ (by first | omega | (simp; done) | (simp; omega)) _) | (with_reducible refine Below.alloc ?_ (by first | omega | (simp; done) | (simp; omega)) _) | (with_reducible refine Below.drew ?_) | (with_reducible refine below_drewN ?_ _) | (with_reducible refine Below.trans ?_ (Below.mono (by assumption) (by first | omega | (simp; done) | (simp; omega)))))))) (CG.out.below (by (repeat' (first | (with_reducible exact Below.refl _ _) | (with_reducible refine Below.setCell ?_ (by first | omega | (simp; done) | (simp; omega)) _) | (with_reducible refine Below.alloc ?_ (by first | omega | (simp; done) | (simp; omega)) _) | (with_reducible refine Below.drew ?_) | (with_reducible refine below_drewN ?_ _) | (with_reducible refine Below.trans ?_ (Below.mono (by assumption) (by first | omega | (simp; done) | (simp; omega)))))))) HE.out).mono ?_); rintro e w1 ⟨rfl, hb⟩; obtain ⟨hc, hf, hz⟩ := bcall hb; (try simp at hc hf hz)) | (go_at_call 11; (with_reducible refine (awake5_any _).mono ?_); rintro e w1 ⟨rfl, hb⟩; obtain ⟨hc, hf, hz⟩ := bcall hb; (try simp at hc hf hz)))
      go_ret
      refine ⟨by simp, ?_⟩
      have hbw := Hbw.out
      (repeat' (first | (with_reducible exact Below.refl _ _) | (with_reducible refine Below.setCell ?_ (by first | omega | (simp; done) | (simp; omega)) _) | (with_reducible refine Below.alloc ?_ (by first | omega | (simp; done) | (simp; omega)) _) | (with_reducible refine Below.drew ?_) | (with_reducible refine below_drewN ?_ _) | (with_reducible refine Below.trans ?_ (Below.mono (by assumption) (by first | omega | (simp; done) | (simp; omega))))))

set_option maxRecDepth 100000 in
set_option maxHeartbeats 2000000 in
theorem topReversed_inv (W H : Int) (n cap : Nat) (ao : Option Addr) (G : Nat → Nat → Int) (k y c : Int) (w : World) (hC : CellsIn w ao n G) (hk : ¬ (VG W H n G ∧ OkR k y)) (h2 : ¬ k = 2) (c0 : 0 ≤ c) (hc : c ≤ 12) (hn : n ≤ 100) :
    Calls Try.prog 5 #[.agg #[.int .i64 W, .int .i64 H, .slice (ao) n cap], .agg #[.int .i64 k, .int .i64 y], .int .i64 c] w fun e w' => e = .returned (.bool true) ∧ Below w.heap.size w w' := by
  have hk2 : (k == (2 : Int)) = false := by simp; omega
  have RU := Lib.hid (show Calls Try.prog 17 #[.agg #[.int .i64 W, .int .i64 H, .slice (ao) n cap], .slice (some ⟨w.heap.size + 1 + 1, 0, none⟩) 1 1, .int .i64 0, .int .i64 c] (((w.alloc (.cells #[.int .i64 W, .int .i64 H, .slice ao n cap] 24)).alloc (.cells #[.int .i64 k, .int .i64 y] 36)).alloc (.cells #[.int .i64 k, .int .i64 y] 36)) (fun e w' => e = .returned (.tuple #[.agg #[.int .i64 0, .int .i64 0, .slice (none) 0 0], .int .i64 1]) ∧ Below (((w.alloc (.cells #[.int .i64 W, .int .i64 H, .slice ao n cap] 24)).alloc (.cells #[.int .i64 k, .int .i64 y] 36)).alloc (.cells #[.int .i64 k, .int .i64 y] 36)).heap.size (((w.alloc (.cells #[.int .i64 W, .int .i64 H, .slice ao n cap] 24)).alloc (.cells #[.int .i64 k, .int .i64 y] 36)).alloc (.cells #[.int .i64 k, .int .i64 y] 36)) w') from by
    have hb : Below w.heap.size w (((w.alloc (.cells #[.int .i64 W, .int .i64 H, .slice ao n cap] 24)).alloc (.cells #[.int .i64 k, .int .i64 y] 36)).alloc (.cells #[.int .i64 k, .int .i64 y] 36)) := by (repeat' (first | (with_reducible exact Below.refl _ _) | (with_reducible refine Below.setCell ?_ (by first | omega | (simp; done) | (simp; omega)) _) | (with_reducible refine Below.alloc ?_ (by first | omega | (simp; done) | (simp; omega)) _) | (with_reducible refine Below.drew ?_) | (with_reducible refine below_drewN ?_ _) | (with_reducible refine Below.trans ?_ (Below.mono (by assumption) (by first | omega | (simp; done) | (simp; omega))))))
    exact gRun_inv W H n cap ao G (some ⟨w.heap.size + 1 + 1, 0, none⟩) 1 1 (fun _ => (k, y)) 0 c _ (hC.below hb) (by omega) (.inr ⟨w.heap.size + 1 + 1, 0, rfl, by simp, fun i hi => by
      obtain rfl : i = 0 := by omega
      exact ⟨by simp [go_sem], by simp [go_sem]⟩⟩) (fun h => hk ⟨h.1, h.2.2.2 0 (by omega)⟩))
  clear hk hC
  go_enter Try.func5, Try.ntmps5
  go_wp2_with (first | (go_at_call 17; (with_reducible refine (RU.out).mono ?_); rintro e w1 ⟨rfl, hb⟩; obtain ⟨hc, hf, hz⟩ := bcall hb; (try simp at hc hf hz)) | (go_at_call 11; (with_reducible refine (awake5_any _).mono ?_); rintro e w1 ⟨rfl, hb⟩; obtain ⟨hc, hf, hz⟩ := bcall hb; (try simp at hc hf hz)))
  go_ret
  refine ⟨rfl, ?_⟩
  (repeat' (first | (with_reducible exact Below.refl _ _) | (with_reducible refine Below.setCell ?_ (by first | omega | (simp; done) | (simp; omega)) _) | (with_reducible refine Below.alloc ?_ (by first | omega | (simp; done) | (simp; omega)) _) | (with_reducible refine Below.drew ?_) | (with_reducible refine below_drewN ?_ _) | (with_reducible refine Below.trans ?_ (Below.mono (by assumption) (by first | omega | (simp; done) | (simp; omega))))))

set_option maxRecDepth 100000 in
set_option maxHeartbeats 2000000 in
theorem topReversed_big (W H : Int) (n cap : Nat) (ao : Option Addr) (k y c : Int) (w : World) (hn : n ≤ 9223372036854775807) (h : ¬ (n ≤ 100 ∧ 0 ≤ c ∧ c ≤ 12 ∧ ¬ k = 2)) :
    Calls Try.prog 5 #[.agg #[.int .i64 W, .int .i64 H, .slice (ao) n cap], .agg #[.int .i64 k, .int .i64 y], .int .i64 c] w fun e w' => e = .returned (.bool true) ∧ Below w.heap.size w w' := by
  by_cases h1 : n ≤ 100
  · by_cases h2 : 0 ≤ c
    · by_cases h3 : c ≤ 12
      · obtain rfl : k = 2 := by omega
        clear h
        go_enter Try.func5, Try.ntmps5
        go_wp2_with (go_at_call 11; (with_reducible refine (awake5_any _).mono ?_); rintro e w1 ⟨rfl, hb⟩; obtain ⟨hc, hf, hz⟩ := bcall hb; (try simp at hc hf hz))
        go_ret
        refine ⟨rfl, ?_⟩
        (repeat' (first | (with_reducible exact Below.refl _ _) | (with_reducible refine Below.setCell ?_ (by first | omega | (simp; done) | (simp; omega)) _) | (with_reducible refine Below.alloc ?_ (by first | omega | (simp; done) | (simp; omega)) _) | (with_reducible refine Below.drew ?_) | (with_reducible refine below_drewN ?_ _) | (with_reducible refine Below.trans ?_ (Below.mono (by assumption) (by first | omega | (simp; done) | (simp; omega))))))
      · clear h
        go_enter Try.func5, Try.ntmps5
        go_wp2_with (go_at_call 11; (with_reducible refine (awake5_any _).mono ?_); rintro e w1 ⟨rfl, hb⟩; obtain ⟨hc, hf, hz⟩ := bcall hb; (try simp at hc hf hz))
        go_ret
        refine ⟨rfl, ?_⟩
        (repeat' (first | (with_reducible exact Below.refl _ _) | (with_reducible refine Below.setCell ?_ (by first | omega | (simp; done) | (simp; omega)) _) | (with_reducible refine Below.alloc ?_ (by first | omega | (simp; done) | (simp; omega)) _) | (with_reducible refine Below.drew ?_) | (with_reducible refine below_drewN ?_ _) | (with_reducible refine Below.trans ?_ (Below.mono (by assumption) (by first | omega | (simp; done) | (simp; omega))))))
    · clear h
      go_enter Try.func5, Try.ntmps5
      go_wp2_with (go_at_call 11; (with_reducible refine (awake5_any _).mono ?_); rintro e w1 ⟨rfl, hb⟩; obtain ⟨hc, hf, hz⟩ := bcall hb; (try simp at hc hf hz))
      go_ret
      refine ⟨rfl, ?_⟩
      (repeat' (first | (with_reducible exact Below.refl _ _) | (with_reducible refine Below.setCell ?_ (by first | omega | (simp; done) | (simp; omega)) _) | (with_reducible refine Below.alloc ?_ (by first | omega | (simp; done) | (simp; omega)) _) | (with_reducible refine Below.drew ?_) | (with_reducible refine below_drewN ?_ _) | (with_reducible refine Below.trans ?_ (Below.mono (by assumption) (by first | omega | (simp; done) | (simp; omega))))))
  · clear h
    go_enter Try.func5, Try.ntmps5
    go_wp2_with (go_at_call 11; (with_reducible refine (awake5_any _).mono ?_); rintro e w1 ⟨rfl, hb⟩; obtain ⟨hc, hf, hz⟩ := bcall hb; (try simp at hc hf hz))
    go_ret
    refine ⟨rfl, ?_⟩
    (repeat' (first | (with_reducible exact Below.refl _ _) | (with_reducible refine Below.setCell ?_ (by first | omega | (simp; done) | (simp; omega)) _) | (with_reducible refine Below.alloc ?_ (by first | omega | (simp; done) | (simp; omega)) _) | (with_reducible refine Below.drew ?_) | (with_reducible refine below_drewN ?_ _) | (with_reducible refine Below.trans ?_ (Below.mono (by assumption) (by first | omega | (simp; done) | (simp; omega))))))

theorem topReversed_row (W H : Int) (ao : Option Addr) (n cap : Nat) (G : Nat → Nat → Int) (k y c : Int) (w : World) (_ : Wf W) (_ : Wf H) (hn : n ≤ cap) (hm : cap ≤ maxLen) (hC : CellsIn w ao n G) (_ : Wf c) :
    Calls Try.prog 5 #[.agg #[.int .i64 W, .int .i64 H, .slice (ao) n cap], .agg #[.int .i64 k, .int .i64 y], .int .i64 c] w fun e w' => e = .returned (.bool true) ∧ Below w.heap.size w w' := by
  unfold maxLen at hm
  by_cases hs : n ≤ 100 ∧ 0 ≤ c ∧ c ≤ 12 ∧ ¬ k = 2
  · obtain ⟨h1, h2, h3, h4⟩ := hs
    by_cases hk : VG W H n G ∧ OkR k y
    · obtain ⟨hv, hk⟩ := hk
      obtain ⟨W', H', rfl, rfl, s, hG⟩ := Sides.vg hv
      obtain ⟨c', rfl⟩ := Int.eq_ofNat_of_zero_le h2
      rcases hk with ⟨hk, rfl⟩ | ⟨hk, _⟩
      · exact topReversed_ok W' H' n cap c' ao G k w s hG hC hk (by omega) h1
      · exact absurd hk h4
    · exact topReversed_inv W H n cap ao G k y c w hC hk h4 h2 h3 h1
  · exact topReversed_big W H n cap ao k y c w (by omega) hs
end Go.Proofs.Ytmkhbkkhoemkoaa
