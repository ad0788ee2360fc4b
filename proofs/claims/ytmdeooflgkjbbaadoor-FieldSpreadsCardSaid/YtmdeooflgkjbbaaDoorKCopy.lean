/- Streaming in place, by the program. -/
import Derived.Test.YtmdeooflgkjbbaaDoorKMach
import Derived.Test.YtmdeooflgkjbbaaDoorKRef
import Derived.Test.YtmdeooflgkjbbaaDoorKRules
import Derived.ArgAppend
namespace Go.Proofs.YtmdeooflgkjbbaaDoor
set_option linter.unusedSimpArgs false
set_option linter.unusedVariables false
open Go.RowKit

/-- The sides of a valid grid. -/
structure Sides (W H n : Nat) : Prop where
  w0 : 1 ≤ W
  w1 : W ≤ 64
  h0 : 1 ≤ H
  h1 : H ≤ 64
  n0 : n = W * H
  n1 : n ≤ 1024
theorem Sides.vg {W H : Int} {n : Nat} {G : Nat → Nat → Int} (h : VG W H n G) : ∃ W' H' : Nat, W = W' ∧ H = H' ∧ Sides W' H' n ∧ OkG n G := by
  obtain ⟨hs, hn, ho⟩ := h
  have hb := hs.bd
  obtain ⟨a, b, c, d, e⟩ := hs
  obtain ⟨W', rfl⟩ := Int.eq_ofNat_of_zero_le (show 0 ≤ W by omega)
  obtain ⟨H', rfl⟩ := Int.eq_ofNat_of_zero_le (show 0 ≤ H by omega)
  refine ⟨W', H', rfl, rfl, ⟨by omega, by omega, by omega, by omega, ?_, by omega⟩, ho⟩
  have : (n : Int) = ((W' * H' : Nat) : Int) := by rw [hn]; simp
  exact Int.ofNat_inj.1 this

theorem nb_plc (W H : Nat) (way : Int) (i : Nat) (hW : 1 ≤ W) (hi : i < W * H) :
    plc W H (((i % W : Nat) : Int) + way) ((i / W : Nat) : Int) = (nb W H way i 0 : Int) ∧ plc W H ((i % W : Nat) : Int) (((i / W : Nat) : Int) + way) = (nb W H way i 1 : Int) ∧
    plc W H (((i % W : Nat) : Int) - way) ((i / W : Nat) : Int) = (nb W H way i 2 : Int) ∧ plc W H ((i % W : Nat) : Int) (((i / W : Nat) : Int) - way) = (nb W H way i 3 : Int) := by
  have hH := (sides_pos rfl hi).2
  have pos : ∀ x y : Int, 0 ≤ x % (W : Int) + (W : Int) * (y % (H : Int)) := fun x y => by
    have a0 := Int.emod_nonneg x (show (W : Int) ≠ 0 by omega)
    have b0 := Int.emod_nonneg y (show (H : Int) ≠ 0 by omega)
    have c0 : 0 ≤ (W : Int) * (y % (H : Int)) := Int.mul_nonneg (by omega) b0
    omega
  have e0 : dx 0 = 1 := rfl
  have e1 : dx 1 = 0 := rfl
  have e2 : dx 2 = -1 := rfl
  have e3 : dx 3 = 0 := rfl
  have f0 : dy 0 = 0 := rfl
  have f1 : dy 1 = 1 := rfl
  have f2 : dy 2 = 0 := rfl
  have f3 : dy 3 = -1 := rfl
  unfold nb plc
  simp only [e0, e1, e2, e3, f0, f1, f2, f3, Int.mul_one, Int.mul_zero, Int.add_zero, Int.mul_neg, ← Int.sub_eq_add_neg]
  refine ⟨?_, ?_, ?_, ?_⟩ <;> exact (Int.toNat_of_nonneg (pos _ _)).symm

theorem coords (W i : Nat) (h : i ≤ 5000) : 0 ≤ (i : Int) % (W : Int) ∧ (i : Int) % (W : Int) ≤ 5000 ∧ 0 ≤ (i : Int) / (W : Int) ∧ (i : Int) / (W : Int) ≤ 5000 := by
  have e1 : (i : Int) % (W : Int) = ((i % W : Nat) : Int) := (Int.natCast_emod _ _).symm
  have e2 : (i : Int) / (W : Int) = ((i / W : Nat) : Int) := (Int.natCast_ediv _ _).symm
  have hx : i % W ≤ i := Nat.mod_le _ _
  have hy : i / W ≤ i := Nat.div_le_self _ _
  rw [e1, e2]
  exact ⟨Int.natCast_nonneg _, Int.le_trans (Int.ofNat_le.2 hx) (by omega), Int.natCast_nonneg _, Int.le_trans (Int.ofNat_le.2 hy) (by omega)⟩
theorem nbr0 (m W H n i : Nat) (way : Int) (w : World) (s : Sides W H n) (hi : i < n) (c0 : w.cell? ⟨m, 0, none⟩ = some (.int .i64 W)) (c1 : w.cell? ⟨m, 1, none⟩ = some (.int .i64 H)) (z0 : -1 ≤ way) (z1 : way ≤ 1) :
    Calls Tryd.prog 203 #[.pointer (some ⟨m, 0, none⟩), .int .i64 ((i : Int) % (W : Int)), .int .i64 ((i : Int) / (W : Int)), .int .i64 0, .int .i64 way] w fun e w' => e = .returned (.int .i64 (nb W H way i 0)) ∧ ∃ k, w' = w.drewN k := by
  obtain ⟨a, b, c, d, e, f⟩ := s
  obtain ⟨x0, x1, y0, y1⟩ := coords W i (by omega)
  rw [← (nb_plc W H way i a (e ▸ hi)).1, Int.natCast_emod, Int.natCast_ediv]
  exact neighbour0 m W H _ _ way w c0 c1 (by omega) (by omega) (by omega) (by omega) x0 x1 y0 y1 z0 z1
theorem nbr1 (m W H n i : Nat) (way : Int) (w : World) (s : Sides W H n) (hi : i < n) (c0 : w.cell? ⟨m, 0, none⟩ = some (.int .i64 W)) (c1 : w.cell? ⟨m, 1, none⟩ = some (.int .i64 H)) (z0 : -1 ≤ way) (z1 : way ≤ 1) :
    Calls Tryd.prog 203 #[.pointer (some ⟨m, 0, none⟩), .int .i64 ((i : Int) % (W : Int)), .int .i64 ((i : Int) / (W : Int)), .int .i64 1, .int .i64 way] w fun e w' => e = .returned (.int .i64 (nb W H way i 1)) ∧ ∃ k, w' = w.drewN k := by
  obtain ⟨a, b, c, d, e, f⟩ := s
  obtain ⟨x0, x1, y0, y1⟩ := coords W i (by omega)
  rw [← (nb_plc W H way i a (e ▸ hi)).2.1, Int.natCast_emod, Int.natCast_ediv]
  exact neighbour1 m W H _ _ way w c0 c1 (by omega) (by omega) (by omega) (by omega) x0 x1 y0 y1 z0 z1
theorem nbr2 (m W H n i : Nat) (way : Int) (w : World) (s : Sides W H n) (hi : i < n) (c0 : w.cell? ⟨m, 0, none⟩ = some (.int .i64 W)) (c1 : w.cell? ⟨m, 1, none⟩ = some (.int .i64 H)) (z0 : -1 ≤ way) (z1 : way ≤ 1) :
    Calls Tryd.prog 203 #[.pointer (some ⟨m, 0, none⟩), .int .i64 ((i : Int) % (W : Int)), .int .i64 ((i : Int) / (W : Int)), .int .i64 2, .int .i64 way] w fun e w' => e = .returned (.int .i64 (nb W H way i 2)) ∧ ∃ k, w' = w.drewN k := by
  obtain ⟨a, b, c, d, e, f⟩ := s
  obtain ⟨x0, x1, y0, y1⟩ := coords W i (by omega)
  rw [← (nb_plc W H way i a (e ▸ hi)).2.2.1, Int.natCast_emod, Int.natCast_ediv]
  exact neighbour2 m W H _ _ way w c0 c1 (by omega) (by omega) (by omega) (by omega) x0 x1 y0 y1 z0 z1
theorem nbr3 (m W H n i : Nat) (way : Int) (w : World) (s : Sides W H n) (hi : i < n) (c0 : w.cell? ⟨m, 0, none⟩ = some (.int .i64 W)) (c1 : w.cell? ⟨m, 1, none⟩ = some (.int .i64 H)) (z0 : -1 ≤ way) (z1 : way ≤ 1) :
    Calls Tryd.prog 203 #[.pointer (some ⟨m, 0, none⟩), .int .i64 ((i : Int) % (W : Int)), .int .i64 ((i : Int) / (W : Int)), .int .i64 3, .int .i64 way] w fun e w' => e = .returned (.int .i64 (nb W H way i 3)) ∧ ∃ k, w' = w.drewN k := by
  obtain ⟨a, b, c, d, e, f⟩ := s
  obtain ⟨x0, x1, y0, y1⟩ := coords W i (by omega)
  rw [← (nb_plc W H way i a (e ▸ hi)).2.2.2, Int.natCast_emod, Int.natCast_ediv]
  exact neighbour3 m W H _ _ way w c0 c1 (by omega) (by omega) (by omega) (by omega) x0 x1 y0 y1 z0 z1

/-- What the spare row has when k cells are through. -/
def Through (W H : Nat) (way : Int) (G K : Nat → Nat → Int) (k : Nat) : Prop := ∀ j, j < k → ∀ d, d < 4 → K (nb W H way j d) d = G j d

theorem nb_inj {W H n : Nat} {way : Int} (hn : n = W * H) {i j d : Nat} (hi : i < n) (hj : j < n) (h : nb W H way i d = nb W H way j d) : i = j := by
  rw [← nb_back W H way i d (hn ▸ hi), ← nb_back W H way j d (hn ▸ hj), h]

/-- Four populations are moved. -/
def four (W H : Nat) (way : Int) (G K : Nat → Nat → Int) (k : Nat) : Nat → Nat → Int :=
  upd (upd (upd (upd K (nb W H way k 0) 0 (G k 0)) (nb W H way k 1) 1 (G k 1)) (nb W H way k 2) 2 (G k 2)) (nb W H way k 3) 3 (G k 3)
theorem four_at (W H : Nat) (way : Int) (G K : Nat → Nat → Int) (k p d : Nat) (hd : d < 4) : four W H way G K k p d = if p = nb W H way k d then G k d else K p d := by
  unfold four upd
  match d, hd with
  | 0, _ => simp
  | 1, _ => simp
  | 2, _ => simp
  | 3, _ => simp
theorem through_step {W H n : Nat} {way : Int} {G K : Nat → Nat → Int} {k : Nat} (hn : n = W * H) (hk : k < n) (h : Through W H way G K k) : Through W H way G (four W H way G K k) (k + 1) := by
  intro j hj d hd
  rw [four_at _ _ _ _ _ _ _ _ hd]
  by_cases e : j = k
  · subst e; rw [if_pos rfl]
  · rw [if_neg (fun e' => e (nb_inj hn (by omega) hk e'))]
    exact h j (by omega) d hd
theorem through_all {W H n : Nat} {way : Int} {G K : Nat → Nat → Int} (hn : n = W * H) (h : Through W H way G K n) : EqG n K (pull W H way G) := by
  intro i hi d hd
  have hj := nb_lt (way := -way) hn hi d
  have e := nb_back W H (-way) i d (hn ▸ hi)
  rw [Int.neg_neg] at e
  have := h (nb W H (-way) i d) hj d hd
  rw [e] at this
  exact this
theorem Row.drewN {w : World} {b n : Nat} {G : Nat → Nat → Int} (h : Row w b n G) (k : Nat) : Row (w.drewN k) b n G := h.ex (S := fun _ => False) ((Ex.refl _ w).drewN k) (fun x => x)
theorem Row.alloc {w : World} {b n : Nat} {G : Nat → Nat → Int} (h : Row w b n G) (o : Obj) : Row (w.alloc o) b n G := h.ex (S := fun _ => False) ((Ex.refl _ w).alloc o) (fun x => x)

theorem four_eq {W H : Nat} {way : Int} {G K : Nat → Nat → Int} {k q0 q1 q2 q3 : Nat} (h0 : q0 = nb W H way k 0) (h1 : q1 = nb W H way k 1) (h2 : q2 = nb W H way k 2) (h3 : q3 = nb W H way k 3) :
    four W H way G K k = upd (upd (upd (upd K q0 0 (G k 0)) q1 1 (G k 1)) q2 2 (G k 2)) q3 3 (G k 3) := by
  subst h0 h1 h2 h3
  rfl
/-- What four stores do. -/
theorem chain {w : World} {m b n : Nat} {K : Nat → Nat → Int} {q0 q1 q2 q3 : Nat} (h : Row w b n K) (l0 : q0 < n) (l1 : q1 < n) (l2 : q2 < n) (l3 : q3 < n) (o : Obj) (k0 k1 k2 k3 : Nat) (v0 v1 v2 v3 : Int) :
    Ex (fun k => k = m ∨ k = b) w (((((((((w.alloc o).drewN k0).setCell ⟨b, q0 * 4, none⟩ (.int .i64 v0)).drewN k1).setCell ⟨b, q1 * 4 + 1, none⟩ (.int .i64 v1)).drewN k2).setCell ⟨b, q2 * 4 + 2, none⟩ (.int .i64 v2)).drewN k3).setCell ⟨b, q3 * 4 + 3, none⟩ (.int .i64 v3)) ∧
    Ex (fun k => k = b) w (((((((((w.alloc o).drewN k0).setCell ⟨b, q0 * 4, none⟩ (.int .i64 v0)).drewN k1).setCell ⟨b, q1 * 4 + 1, none⟩ (.int .i64 v1)).drewN k2).setCell ⟨b, q2 * 4 + 2, none⟩ (.int .i64 v2)).drewN k3).setCell ⟨b, q3 * 4 + 3, none⟩ (.int .i64 v3)) ∧
    Row (((((((((w.alloc o).drewN k0).setCell ⟨b, q0 * 4, none⟩ (.int .i64 v0)).drewN k1).setCell ⟨b, q1 * 4 + 1, none⟩ (.int .i64 v1)).drewN k2).setCell ⟨b, q2 * 4 + 2, none⟩ (.int .i64 v2)).drewN k3).setCell ⟨b, q3 * 4 + 3, none⟩ (.int .i64 v3)) b n (upd (upd (upd (upd K q0 0 v0) q1 1 v1) q2 2 v2) q3 3 v3) := by
  have e : Ex (fun k => k = b) w (((((((((w.alloc o).drewN k0).setCell ⟨b, q0 * 4, none⟩ (.int .i64 v0)).drewN k1).setCell ⟨b, q1 * 4 + 1, none⟩ (.int .i64 v1)).drewN k2).setCell ⟨b, q2 * 4 + 2, none⟩ (.int .i64 v2)).drewN k3).setCell ⟨b, q3 * 4 + 3, none⟩ (.int .i64 v3)) := by
    refine Ex.setCell (Ex.drewN (Ex.setCell (Ex.drewN (Ex.setCell (Ex.drewN (Ex.setCell (Ex.drewN (Ex.alloc (Ex.refl _ w) o) k0) ?_ _) k1) ?_ _) k2) ?_ _) k3) ?_ _ <;> rfl
  refine ⟨e.mono (fun k hk => .inr hk), e, ?_⟩
  have r0 := ((h.alloc o).drewN k0).set l0 (show 0 < 4 by omega) v0 (o := q0 * 4) rfl
  have r1 := (r0.drewN k1).set l1 (show 1 < 4 by omega) v1 rfl
  have r2 := (r1.drewN k2).set l2 (show 2 < 4 by omega) v2 rfl
  exact (r2.drewN k3).set l3 (show 3 < 4 by omega) v3 rfl

theorem stream_end {w wr : World} {m W H n b1 c1 b2 c2 : Nat} {rv : Value} {G K P : Nat → Nat → Int} (hm : Mch wr m W H n b1 c1 rv b2 c2) (hx : Ex (fun k => k = m ∨ k = b2) w wr) (hr1 : Row wr b1 n G) (hr2 : Row wr b2 n K) (n1 : m ≠ b1) (n2 : m ≠ b2) (e : EqG n K P) :
    Mch ((wr.setCell ⟨m, 2, none⟩ (.slice (some ⟨b2, 0, none⟩) n c2)).setCell ⟨m, 4, none⟩ (.slice (some ⟨b1, 0, none⟩) n c1)).drew m W H n b2 c2 rv b1 c1 ∧ Row ((wr.setCell ⟨m, 2, none⟩ (.slice (some ⟨b2, 0, none⟩) n c2)).setCell ⟨m, 4, none⟩ (.slice (some ⟨b1, 0, none⟩) n c1)).drew b2 n P ∧
    Row ((wr.setCell ⟨m, 2, none⟩ (.slice (some ⟨b2, 0, none⟩) n c2)).setCell ⟨m, 4, none⟩ (.slice (some ⟨b1, 0, none⟩) n c1)).drew b1 n G ∧ Ex (fun k => k = m ∨ k = b2) w ((wr.setCell ⟨m, 2, none⟩ (.slice (some ⟨b2, 0, none⟩) n c2)).setCell ⟨m, 4, none⟩ (.slice (some ⟨b1, 0, none⟩) n c1)).drew := by
  have x : Ex (fun k => k = m) wr ((wr.setCell ⟨m, 2, none⟩ (.slice (some ⟨b2, 0, none⟩) n c2)).setCell ⟨m, 4, none⟩ (.slice (some ⟨b1, 0, none⟩) n c1)).drew :=
    (((Ex.refl (fun k => k = m) wr).setCell (p := ⟨m, 2, none⟩) rfl _).setCell (p := ⟨m, 4, none⟩) rfl _).drew
  exact ⟨hm.swap, (hr2.ex x (Ne.symm n2)).eqG e, hr1.ex x (Ne.symm n1), hx.trans (x.mono fun k hk => .inl hk)⟩

set_option maxRecDepth 100000 in
set_option maxHeartbeats 4000000 in
theorem stream_any (m W H n b1 c1 b2 c2 : Nat) (rv : Value) (G K0 : Nat → Nat → Int) (way : Int) (w : World) (s : Sides W H n) (hM : Mch w m W H n b1 c1 rv b2 c2) (hr1 : Row w b1 n G) (hr2 : Row w b2 n K0)
    (n1 : m ≠ b1) (n2 : m ≠ b2) (n3 : b1 ≠ b2) (z0 : -1 ≤ way) (z1 : way ≤ 1) :
    Calls Tryd.prog 176 #[.pointer (some ⟨m, 0, none⟩), .int .i64 way] w fun e w' => e = .returned (.tuple #[]) ∧ Mch w' m W H n b2 c2 rv b1 c1 ∧ Row w' b2 n (pull W H way G) ∧ Row w' b1 n G ∧ Ex (fun k => k = m ∨ k = b2) w w' := by
  have S := Lib.hid s
  have hn1 := s.n1
  have hw0 := s.w0
  clear s
  have k2 := hM.k2
  have HM := Lib.hid hM; clear hM
  have HR1 := Lib.hid hr1; clear hr1
  have HR2 := Lib.hid hr2; clear hr2
  go_enter Tryd.func176, Tryd.ntmps176
  go_wp2
  clear k2
  go_loopw [16] (fun i wr => ∃ (k : Nat) (K : Nat → Nat → Int), k ≤ n ∧ i = .int .i64 k ∧ Hid (Ex (fun k => k = m ∨ k = b2) w wr ∧ Mch wr m W H n b1 c1 rv b2 c2 ∧ Row wr b1 n G ∧ Row wr b2 n K ∧ Through W H way G K k)) (fun i _ => n - (intOf i).toNat)
  case atStart => exact ⟨0, K0, Nat.zero_le _, rfl, Lib.hid ⟨Ex.refl _ _, HM.out, HR1.out, HR2.out, fun j hj => by omega⟩⟩
  case round =>
    obtain ⟨k, K, hk, rfl, HH⟩ := hrel
    by_cases hlk : k < n
    · have hM1 := HH.out.2.1
      have hlm := hM1.lt
      have k0 := hM1.k0
      have k1 := hM1.k1
      have k4 := hM1.k4
      obtain ⟨a0, a1, a2, a3⟩ := HH.out.2.2.1.at4 hlk
      have hl1 := HH.out.2.2.1.1
      have hl2 := HH.out.2.2.2.1.1
      clear hM1
      obtain ⟨x0, x1, y0, y1⟩ := coords W k (by omega)
      have eq1 : IntKind.i64.wrap ((k : Int) / (W : Int)) = (k : Int) / (W : Int) := IntWalk.i64_in _ ⟨by omega, by omega⟩
      obtain ⟨q0, hq0⟩ : ∃ q, q = nb W H way k 0 := ⟨_, rfl⟩
      obtain ⟨q1, hq1⟩ : ∃ q, q = nb W H way k 1 := ⟨_, rfl⟩
      obtain ⟨q2, hq2⟩ : ∃ q, q = nb W H way k 2 := ⟨_, rfl⟩
      obtain ⟨q3, hq3⟩ : ∃ q, q = nb W H way k 3 := ⟨_, rfl⟩
      have l0 : q0 < n := by rw [hq0]; exact nb_lt S.out.n0 hlk 0
      have l1 : q1 < n := by rw [hq1]; exact nb_lt S.out.n0 hlk 1
      have l2 : q2 < n := by rw [hq2]; exact nb_lt S.out.n0 hlk 2
      have l3 : q3 < n := by rw [hq3]; exact nb_lt S.out.n0 hlk 3
      have t0 := (HH.out.2.2.2.1.at4 l0).1
      have t1 := (HH.out.2.2.2.1.at4 l1).2.1
      have t2 := (HH.out.2.2.2.1.at4 l2).2.2.1
      have t3 := (HH.out.2.2.2.1.at4 l3).2.2.2
      have f0 := (HH.out.2.2.2.1.free4 l0).1
      have f1 := (HH.out.2.2.2.1.free4 l1).2.1
      have f2 := (HH.out.2.2.2.1.free4 l2).2.2.1
      have f3 := (HH.out.2.2.2.1.free4 l3).2.2.2
      have r0 := Lib.hid (fun w' c0 c1 => hq0 ▸ nbr0 m W H n k way w' S.out hlk c0 c1 z0 z1)
      have r1 := Lib.hid (fun w' c0 c1 => hq1 ▸ nbr1 m W H n k way w' S.out hlk c0 c1 z0 z1)
      have r2 := Lib.hid (fun w' c0 c1 => hq2 ▸ nbr2 m W H n k way w' S.out hlk c0 c1 z0 z1)
      have r3 := Lib.hid (fun w' c0 c1 => hq3 ▸ nbr3 m W H n k way w' S.out hlk c0 c1 z0 z1)
      have HQ0 := Lib.hid hq0; have HQ1 := Lib.hid hq1; have HQ2 := Lib.hid hq2; have HQ3 := Lib.hid hq3
      clear hq0 hq1 hq2 hq3
      go_wp2
      go_quiet (fail)
      go_wp2
      refine wp_loop_rounds 5 ?_
      rw [rounds_succ]
      go_wp2
      go_region_held3 (fun w' => w'.cell? ⟨m, 4, none⟩ = some (.slice (some ⟨b2, 0, none⟩) n c2)) (first | (go_split_ands; (try dsimp only); (first | (with_reducible assumption) | (with_reducible exact keep_cell (by assumption) (by first | omega | (simp; done) | (simp; omega)) (by assumption)) | (with_reducible exact (World.cell?_alloc_past _ _ _ (by show _ < _; omega)).trans (by assumption)) | (with_reducible exact (World.cell?_alloc_past _ _ _ (by show _ < _; omega)).trans ((World.cell?_alloc_past _ _ _ (by show _ < _; omega)).symm.trans (by assumption))) | (simp [go_sem]; with_reducible assumption))) | (simp [go_sem, ↓IntWalk.iteOmega, *]; done)) ((go_at_call 203; refine (r0.out _ (by simp [go_sem, ↓IntWalk.iteOmega, *]) (by simp [go_sem, ↓IntWalk.iteOmega, *])).mono ?_; rintro e w1 ⟨rfl, nn0, rfl⟩))
      clear r0
      go_wp2
      rw [rounds_succ]
      go_wp2
      go_region_held3 (fun w' => w'.cell? ⟨m, 4, none⟩ = some (.slice (some ⟨b2, 0, none⟩) n c2)) (first | (go_split_ands; (try dsimp only); (first | (with_reducible assumption) | (with_reducible exact keep_cell (by assumption) (by first | omega | (simp; done) | (simp; omega)) (by assumption)) | (with_reducible exact (World.cell?_alloc_past _ _ _ (by show _ < _; omega)).trans (by assumption)) | (with_reducible exact (World.cell?_alloc_past _ _ _ (by show _ < _; omega)).trans ((World.cell?_alloc_past _ _ _ (by show _ < _; omega)).symm.trans (by assumption))) | (simp [go_sem]; with_reducible assumption))) | (simp [go_sem, ↓IntWalk.iteOmega, *]; done)) ((go_at_call 203; refine (r1.out _ (by simp [go_sem, ↓IntWalk.iteOmega, *]) (by simp [go_sem, ↓IntWalk.iteOmega, *])).mono ?_; rintro e w1 ⟨rfl, nn1, rfl⟩))
      clear r1
      go_wp2
      rw [rounds_succ]
      go_wp2
      go_region_held3 (fun w' => w'.cell? ⟨m, 4, none⟩ = some (.slice (some ⟨b2, 0, none⟩) n c2)) (first | (go_split_ands; (try dsimp only); (first | (with_reducible assumption) | (with_reducible exact keep_cell (by assumption) (by first | omega | (simp; done) | (simp; omega)) (by assumption)) | (with_reducible exact (World.cell?_alloc_past _ _ _ (by show _ < _; omega)).trans (by assumption)) | (with_reducible exact (World.cell?_alloc_past _ _ _ (by show _ < _; omega)).trans ((World.cell?_alloc_past _ _ _ (by show _ < _; omega)).symm.trans (by assumption))) | (simp [go_sem]; with_reducible assumption))) | (simp [go_sem, ↓IntWalk.iteOmega, *]; done)) ((go_at_call 203; refine (r2.out _ (by simp [go_sem, ↓IntWalk.iteOmega, *]) (by simp [go_sem, ↓IntWalk.iteOmega, *])).mono ?_; rintro e w1 ⟨rfl, nn2, rfl⟩))
      clear r2
      go_wp2
      rw [rounds_succ]
      go_wp2
      go_region_held3 (fun w' => w'.cell? ⟨m, 4, none⟩ = some (.slice (some ⟨b2, 0, none⟩) n c2)) (first | (go_split_ands; (try dsimp only); (first | (with_reducible assumption) | (with_reducible exact keep_cell (by assumption) (by first | omega | (simp; done) | (simp; omega)) (by assumption)) | (with_reducible exact (World.cell?_alloc_past _ _ _ (by show _ < _; omega)).trans (by assumption)) | (with_reducible exact (World.cell?_alloc_past _ _ _ (by show _ < _; omega)).trans ((World.cell?_alloc_past _ _ _ (by show _ < _; omega)).symm.trans (by assumption))) | (simp [go_sem]; with_reducible assumption))) | (simp [go_sem, ↓IntWalk.iteOmega, *]; done)) ((go_at_call 203; refine (r3.out _ (by simp [go_sem, ↓IntWalk.iteOmega, *]) (by simp [go_sem, ↓IntWalk.iteOmega, *])).mono ?_; rintro e w1 ⟨rfl, nn3, rfl⟩))
      clear r3
      go_wp2
      rw [rounds_succ]
      go_wp2
      go_roundw
      case rel =>
        obtain ⟨hx, hm, hr1, hr2, ht⟩ := HH.out
        have C := chain (w := wr) (m := m) (b := b2) hr2 l0 l1 l2 l3
        refine ⟨k + 1, four W H way G K k, by omega, by go_num, Lib.hid ?_⟩
        rw [four_eq HQ0.out HQ1.out HQ2.out HQ3.out]
        obtain ⟨c1, c2, c3⟩ := C (.cells #[.int .i64 (G k 0), .int .i64 (G k 1), .int .i64 (G k 2), .int .i64 (G k 3)] 62) (nq + 1 + nn0) (1 + nn1) (1 + nn2) (1 + nn3) (G k 0) (G k 1) (G k 2) (G k 3)
        exact ⟨hx.trans c1, hm.ex c2 n2, hr1.ex c2 n3, c3, by rw [← four_eq HQ0.out HQ1.out HQ2.out HQ3.out]; exact through_step S.out.n0 hlk ht⟩
      case measure => simp [intOf]; omega
    · obtain rfl : n = k := by omega
      have hM1 := HH.out.2.1
      have hlm := hM1.lt
      have k2 := hM1.k2
      have k4 := hM1.k4
      have g2 := hM1.free 2
      have g4 := hM1.free 4
      clear hM1
      go_wp2
      go_region
      go_wp2
      go_end0
      obtain ⟨hx, hm, hr1, hr2, ht⟩ := HH.out
      exact ⟨rfl, stream_end hm hx hr1 hr2 n1 n2 (through_all S.out.n0 ht)⟩
end Go.Proofs.YtmdeooflgkjbbaaDoor

/- All cells collide, or are undone, in place: by the program. -/



namespace Go.Proofs.YtmdeooflgkjbbaaDoor
set_option linter.unusedSimpArgs false
set_option linter.unusedVariables false
open Go.RowKit

theorem RulesAt.ex {S : Nat → Prop} {w w' : World} {b off n : Nat} {R : Nat → Int × Int} (h : RulesAt w b off n R) (hx : Ex S w w') (hb : b < w.heap.size) (hs : ¬ S b) : RulesAt w' b off n R :=
  fun i hi => ⟨(hx.cell hb hs).trans (h i hi).1, (hx.cell hb hs).trans (h i hi).2⟩

/-- The cells before k are new, the others old. -/
def Half (n k : Nat) (D G K : Nat → Nat → Int) : Prop := (∀ i, i < k → ∀ d, d < 4 → K i d = D i d) ∧ ∀ i, k ≤ i → i < n → ∀ d, d < 4 → K i d = G i d
theorem half_zero (n : Nat) (D G : Nat → Nat → Int) : Half n 0 D G G := ⟨fun i hi => by omega, fun _ _ _ _ _ => rfl⟩
theorem half_step {n k : Nat} {D G K : Nat → Nat → Int} (h : Half n k D G K) (hk : k < n) : Half n (k + 1) D G (upd (upd (upd (upd K k 0 (D k 0)) k 1 (D k 1)) k 2 (D k 2)) k 3 (D k 3)) := by
  have e : ∀ i d, d < 4 → upd (upd (upd (upd K k 0 (D k 0)) k 1 (D k 1)) k 2 (D k 2)) k 3 (D k 3) i d = if i = k then D k d else K i d := by
    intro i d hd
    unfold upd
    match d, hd with
    | 0, _ => simp
    | 1, _ => simp
    | 2, _ => simp
    | 3, _ => simp
  refine ⟨fun i hi d hd => ?_, fun i hi hn d hd => ?_⟩
  · rw [e i d hd]
    by_cases ei : i = k
    · subst ei; rw [if_pos rfl]
    · rw [if_neg ei]; exact h.1 i (by omega) d hd
  · rw [e i d hd, if_neg (by omega)]
    exact h.2 i (by omega) hn d hd
theorem half_all {n : Nat} {D G K : Nat → Nat → Int} (h : Half n n D G K) : EqG n K D := fun i hi d hd => h.1 i hi d hd

/-- What four stores into one cell do. -/
theorem chain1 {w : World} {b n : Nat} {K : Nat → Nat → Int} {q : Nat} (h : Row w b n K) (l : q < n) (v0 v1 v2 v3 : Int) :
    Ex (fun k => k = b) w ((((w.setCell ⟨b, q * 4, none⟩ (.int .i64 v0)).setCell ⟨b, q * 4 + 1, none⟩ (.int .i64 v1)).setCell ⟨b, q * 4 + 2, none⟩ (.int .i64 v2)).setCell ⟨b, q * 4 + 3, none⟩ (.int .i64 v3)) ∧
    Row ((((w.setCell ⟨b, q * 4, none⟩ (.int .i64 v0)).setCell ⟨b, q * 4 + 1, none⟩ (.int .i64 v1)).setCell ⟨b, q * 4 + 2, none⟩ (.int .i64 v2)).setCell ⟨b, q * 4 + 3, none⟩ (.int .i64 v3)) b n (upd (upd (upd (upd K q 0 v0) q 1 v1) q 2 v2) q 3 v3) := by
  refine ⟨?_, ?_⟩
  · refine Ex.setCell (Ex.setCell (Ex.setCell (Ex.setCell (Ex.refl _ w) ?_ _) ?_ _) ?_ _) ?_ _ <;> rfl
  · exact (((h.set l (show 0 < 4 by omega) v0 (o := q * 4) rfl).set l (show 1 < 4 by omega) v1 rfl).set l (show 2 < 4 by omega) v2 rfl).set l (show 3 < 4 by omega) v3 rfl

theorem collideG (G : Nat → Nat → Int) (i : Nat) (k y : Int) (w : World) (h : Ok4 (G i 0) (G i 1) (G i 2) (G i 3)) (hr : OkR k y) :
    Calls Tryd.prog 161 #[.agg #[.int .i64 (G i 0), .int .i64 (G i 1), .int .i64 (G i 2), .int .i64 (G i 3)], .agg #[.int .i64 k, .int .i64 y]] w fun e w' => e = .returned (.tuple #[.agg #[.int .i64 (colG k y G i 0), .int .i64 (colG k y G i 1), .int .i64 (colG k y G i 2), .int .i64 (colG k y G i 3)], .int .i64 0]) ∧ Below w.heap.size w w' := by
  rw [colG0, colG1, colG2, colG3]
  exact collide_ok _ _ _ _ k y w h hr
set_option maxRecDepth 100000 in
set_option maxHeartbeats 4000000 in
theorem change_col (m W H n b1 c1 b2 c2 rb ro len rc t : Nat) (R : Nat → Int × Int) (G : Nat → Nat → Int) (w : World) (hM : Mch w m W H n b1 c1 (.slice (some ⟨rb, ro, none⟩) len rc) b2 c2) (hr1 : Row w b1 n G) (hn : n ≤ 1024) (hG : OkG n G)
    (n1 : m ≠ b1) (hR : RulesAt w rb ro len R) (hrb : rb < w.heap.size) (hk : OkRs len R) (ht : t ≤ 1000000) :
    Calls Tryd.prog 175 #[.pointer (some ⟨m, 0, none⟩), .func (.func 161) #[] #[], .int .i64 t] w fun e w' => e = .returned (.tuple #[]) ∧ Row w' b1 n (colG (R (t % len)).1 (R (t % len)).2 G) ∧ Ex (fun k => k = b1) w w' := by
  obtain ⟨rk, ry, hrk⟩ : ∃ rk ry, (rk, ry) = R (t % len) := ⟨_, _, rfl⟩
  have hok : OkR rk ry := by
    have := hk.2.2 (t % len) (Nat.mod_lt _ hk.1)
    rw [← hrk] at this
    exact this
  have HA := Lib.hid (fun w' (hb : Below w.heap.size w w') => at_ok (some ⟨rb, ro, none⟩) len rc t R w' ((show RulesIn w (some ⟨rb, ro, none⟩) len R from .inr ⟨rb, ro, rfl, hrb, hR⟩).below hb) hk (by omega) (by omega))
  rw [Int.toNat_natCast, ← hrk] at HA
  rw [← hrk]
  have k3 := hM.k3
  have k2 := hM.k2
  have hlm := hM.lt
  have HM := Lib.hid hM; clear hM
  have HR1 := Lib.hid hr1; clear hr1
  have HG := Lib.hid hG; clear hG
  have HOK := Lib.hid hok
  clear hrk hR hk hok
  go_enter Tryd.func175, Tryd.ntmps175
  go_wp2_with (go_at_call 202; (with_reducible refine (HA.out _ (by (repeat' (first | (with_reducible exact Below.refl _ _) | (with_reducible refine Below.setCell ?_ (by first | omega | (simp; done) | (simp; omega)) _) | (with_reducible refine Below.alloc ?_ (by first | omega | (simp; done) | (simp; omega)) _) | (with_reducible refine Below.drew ?_) | (with_reducible refine below_drewN ?_ _) | (with_reducible refine Below.trans ?_ (Below.mono (by assumption) (by first | omega | (simp; done) | (simp; omega)))))))).mono ?_); rintro e w1 ⟨rfl, hb⟩; obtain ⟨hc, hf, hz⟩ := bcall hb; (try simp at hc hf hz))
  have hx0 : Ex (fun _ => False) w (w1.alloc (.cells #[.int .i64 rk, .int .i64 ry] 154)) := (Ex.of_below hb).alloc _
  have tR := Two.new w1 154 (.int .i64 rk) (.int .i64 ry)
  have hM0 := HM.out.ex hx0 (fun x => x)
  have hr0 := HR1.out.ex hx0 (fun x => x)
  have hne : m ≠ w1.heap.size := by omega
  have hne2 : b1 ≠ w1.heap.size := by have := HR1.out.1; omega
  obtain ⟨B, hB⟩ : ∃ B, B = w1.heap.size := ⟨_, rfl⟩
  obtain ⟨w0, hw0⟩ : ∃ w0, w0 = w1.alloc (.cells #[.int .i64 rk, .int .i64 ry] 154) := ⟨_, rfl⟩
  rw [← hB] at tR hne hne2 ⊢
  rw [← hw0] at hx0 tR hM0 hr0 ⊢
  clear hc hf hz hb hw0 hB k3 k2 HA HM HR1
  have HX := Lib.hid hx0; clear hx0
  have HT := Lib.hid tR; clear tR
  have HM := Lib.hid hM0; clear hM0
  have HR := Lib.hid hr0; clear hr0
  go_loopw [25] (fun i wr => ∃ (k : Nat) (K : Nat → Nat → Int), k ≤ n ∧ i = .int .i64 k ∧ Hid (Ex (fun k => k = b1) w0 wr ∧ Row wr b1 n K ∧ Half n k (colG rk ry G) G K)) (fun i _ => n - (intOf i).toNat)
  case atStart => exact ⟨0, G, Nat.zero_le _, rfl, Lib.hid ⟨Ex.refl _ _, HR.out, half_zero _ _ _⟩⟩
  case round =>
    obtain ⟨k, K, hk, rfl, HH⟩ := hrel
    by_cases hlk : k < n
    · have hM1 := HM.out.ex HH.out.1 n1
      have tR1 : Two _ B 154 (.int .i64 rk) (.int .i64 ry) := (HH.out.1.block B HT.out.lt (Ne.symm hne2)).trans HT.out
      have hlm1 := hM1.lt
      have hlB := tR1.lt
      have k2 := hM1.k2
      have d0 := tR1.c0
      have d1 := tR1.c1
      have hl1 := HH.out.2.1.1
      obtain ⟨a0, a1, a2, a3⟩ := HH.out.2.1.at4 hlk
      obtain ⟨f0, f1, f2, f3⟩ := HH.out.2.1.free4 hlk
      rw [HH.out.2.2.2 k (Nat.le_refl _) hlk 0 (by omega)] at a0
      rw [HH.out.2.2.2 k (Nat.le_refl _) hlk 1 (by omega)] at a1
      rw [HH.out.2.2.2 k (Nat.le_refl _) hlk 2 (by omega)] at a2
      rw [HH.out.2.2.2 k (Nat.le_refl _) hlk 3 (by omega)] at a3
      have HK := Lib.hid (HG.out.1 k hlk)
      clear hM1 tR1
      go_wp2
      go_region_held3 (fun w' => w'.cell? ⟨m, 2, none⟩ = some (.slice (some ⟨b1, 0, none⟩) n c1) ∧ w'.cell? ⟨wr.heap.size, 0, none⟩ = some (.int .i64 (G k 0)) ∧ w'.cell? ⟨wr.heap.size, 1, none⟩ = some (.int .i64 (G k 1)) ∧ w'.cell? ⟨wr.heap.size, 2, none⟩ = some (.int .i64 (G k 2)) ∧ w'.cell? ⟨wr.heap.size, 3, none⟩ = some (.int .i64 (G k 3)) ∧ w'.cell? ⟨B, 0, none⟩ = some (.int .i64 rk) ∧ w'.cell? ⟨B, 1, none⟩ = some (.int .i64 ry)) (first | (go_split_ands; (try dsimp only); refine ⟨?_, ?_, ?_, ?_, ?_, ?_, ?_⟩ <;> (first | (with_reducible assumption) | (with_reducible exact keep_cell (by assumption) (by first | omega | (simp; done) | (simp; omega)) (by assumption)) | (with_reducible exact (World.cell?_alloc_past _ _ _ (by show _ < _; omega)).trans (by assumption)) | (with_reducible exact (World.cell?_alloc_past _ _ _ (by show _ < _; omega)).trans ((World.cell?_alloc_past _ _ _ (by show _ < _; omega)).symm.trans (by assumption))) | (simp [go_sem]; with_reducible assumption))) | (simp [go_sem, ↓IntWalk.iteOmega, *]; done)) (first | (go_at_call 161; (with_reducible refine (collideG G k rk ry _ HK.out HOK.out).mono ?_); rintro e w1 ⟨rfl, hb⟩; obtain ⟨hc, hf, hz⟩ := bcall hb; (try simp at hc hf hz)))
      go_wp2
      have hx1 : Ex (fun _ => False) wr w1 := (((Ex.refl (fun _ => False) wr).alloc _).drew).trans (Ex.of_below hb)
      clear hc hf
      go_roundw
      case rel =>
        obtain ⟨hx, hr, hh⟩ := HH.out
        obtain ⟨c1, c2⟩ := chain1 (hr.ex hx1 (fun x => x)) hlk (colG rk ry G k 0) (colG rk ry G k 1) (colG rk ry G k 2) (colG rk ry G k 3)
        exact ⟨k + 1, _, by omega, by go_num, Lib.hid ⟨(hx.trans (hx1.mono (fun _ h => h.elim))).trans c1, c2, half_step hh hlk⟩⟩
      case measure => simp [intOf]; omega
    · obtain rfl : n = k := by omega
      go_wp2
      go_end0
      obtain ⟨hx, hr, hh⟩ := HH.out
      exact ⟨rfl, hr.eqG (half_all hh), (HX.out.mono (fun _ h => h.elim)).trans hx⟩

end Go.Proofs.YtmdeooflgkjbbaaDoor

/- One step of the machine, forward and back; a new machine: by the program. -/


namespace Go.Proofs.YtmdeooflgkjbbaaDoor
set_option linter.unusedSimpArgs false
set_option linter.unusedVariables false
open Go.RowKit

/-- A machine that stands: the grid it has, and its spare row. -/
structure MchG (w : World) (m W H n : Nat) (rb ro len rc : Nat) (R : Nat → Int × Int) (G : Nat → Nat → Int) (B U : Nat) : Prop where
  ex : ∃ (b1 c1 b2 c2 : Nat) (K : Nat → Nat → Int), Mch w m W H n b1 c1 (.slice (some ⟨rb, ro, none⟩) len rc) b2 c2 ∧ Row w b1 n G ∧ Row w b2 n K ∧ m ≠ b1 ∧ m ≠ b2 ∧ b1 ≠ b2 ∧ B ≤ m ∧ B ≤ b1 ∧ B ≤ b2 ∧ m < U ∧ b1 < U ∧ b2 < U
  rules : RulesAt w rb ro len R
  below : rb < B
  low : B ≤ w.heap.size
  top : U ≤ w.heap.size

set_option maxHeartbeats 2000000 in
theorem step_any (m W H n rb ro len rc t B U : Nat) (R : Nat → Int × Int) (G : Nat → Nat → Int) (w : World) (h : MchG w m W H n rb ro len rc R G B U) (s : Sides W H n) (hG : OkG n G) (hk : OkRs len R) (ht : t ≤ 1000000) :
    Calls Tryd.prog 144 #[.pointer (some ⟨m, 0, none⟩), .int .i64 t] w fun e w' => e = .returned (.tuple #[]) ∧ MchG w' m W H n rb ro len rc R (pull W H 1 (colG (R (t % len)).1 (R (t % len)).2 G)) B U ∧ Ex (fun k => B ≤ k ∧ k < U) w w' := by
  obtain ⟨⟨b1, c1, b2, c2, K, hM, hr1, hr2, n1, n2, n3, q0, q1, q2, u0, u1, u2⟩, hR, hrb, hlow, htop⟩ := h
  have hrw : rb < w.heap.size := by omega
  have C := Lib.hid (change_col m W H n b1 c1 b2 c2 rb ro len rc t R G w hM hr1 s.n1 hG n1 hR hrw hk ht)
  have HM := Lib.hid hM
  have HR2 := Lib.hid hr2
  have HR := Lib.hid hR
  have HS := Lib.hid s
  clear hM hr1 hr2 hR s hk hG
  go_enter Tryd.func144, Tryd.ntmps144
  go_wp2_with fail
  go_at_call 175
  refine C.out.mono ?_
  rintro e w1 ⟨rfl, hr, hx⟩
  have D := Lib.hid (stream_any m W H n b1 c1 b2 c2 _ _ K 1 w1 HS.out (HM.out.ex hx n1) hr (HR2.out.ex hx (Ne.symm n3)) n1 n2 n3 (by omega) (by omega))
  have HX := Lib.hid hx
  clear hx hr
  go_wp2_with fail
  go_at_call 176
  refine D.out.mono ?_
  rintro e w2 ⟨rfl, hm, hrn, hro, hx2⟩
  have HX2 := Lib.hid hx2
  have HE := Lib.hid (show MchG w2 m W H n rb ro len rc R (pull W H 1 (colG (R (t % len)).1 (R (t % len)).2 G)) B U ∧ Ex (fun k => B ≤ k ∧ k < U) w w2 from
    ⟨⟨⟨b2, c2, b1, c1, _, hm, hrn, hro, n2, n1, Ne.symm n3, q0, q2, q1, u0, u2, u1⟩, (HR.out.ex HX.out hrw (by omega)).ex hx2 (Nat.lt_of_lt_of_le hrw HX.out.size) (by omega), hrb, Nat.le_trans hlow (Nat.le_trans HX.out.size hx2.size), Nat.le_trans htop (Nat.le_trans HX.out.size hx2.size)⟩,
      (HX.out.mono (fun k hk => by omega)).trans (hx2.mono (fun k hk => by omega))⟩)
  clear hm hrn hro hx2
  go_wp2
  go_end0
  exact ⟨rfl, HE.out⟩

/-- New memory leaves a machine as it is. -/
theorem MchG.ext {w w' : World} {m W H n rb ro len rc : Nat} {R : Nat → Int × Int} {G : Nat → Nat → Int} {B U : Nat} (h : MchG w m W H n rb ro len rc R G B U) (hb : Below w.heap.size w w') : MchG w' m W H n rb ro len rc R G B U := by
  have x : Ex (fun _ => False) w w' := Ex.of_below hb
  obtain ⟨⟨b1, c1, b2, c2, K, hM, hr1, hr2, n1, n2, n3, q⟩, hR, hrb, hlow, htop⟩ := h
  exact ⟨⟨b1, c1, b2, c2, K, hM.ex x (fun h => h), hr1.ex x (fun h => h), hr2.ex x (fun h => h), n1, n2, n3, q⟩, hR.ex x (by omega) (fun h => h), hrb, Nat.le_trans hlow hb.size, Nat.le_trans htop hb.size⟩
end Go.Proofs.YtmdeooflgkjbbaaDoor

/- Cells in memory of their own, and a new machine: by the program. -/

namespace Go.Proofs.YtmdeooflgkjbbaaDoor
set_option linter.unusedSimpArgs false
set_option linter.unusedVariables false
open Go.RowKit

theorem info_cell : (Tryd.prog.info? 62).map (fun i => (i.zero, i.size, i.bytes)) = some (some (.agg #[.int .i64 0, .int .i64 0, .int .i64 0, .int .i64 0]), 4, 32) := by kernel_rfl

/-- The cells of a grid, one after another. -/
def cellsL (G : Nat → Nat → Int) (n : Nat) : List Value := (List.range (n * 4)).map fun j => .int .i64 (G (j / 4) (j % 4))
theorem cellsL_length (G : Nat → Nat → Int) (n : Nat) : (cellsL G n).length = n * 4 := by simp [cellsL]
theorem cellsL_get (G : Nat → Nat → Int) (n j : Nat) (h : j < n * 4) : (cellsL G n)[j]? = some (.int .i64 (G (j / 4) (j % 4))) := by simp [cellsL, h]
theorem cellsL_one (G : Nat → Nat → Int) (n : Nat) : ∀ u ∈ cellsL G n, u.oneCell' = true := by
  intro u hu
  simp only [cellsL, List.mem_map] at hu
  obtain ⟨j, _, rfl⟩ := hu
  rfl
theorem Grd.flat {w : World} {b off n : Nat} {G : Nat → Nat → Int} (h : Grd w b off n G) (j : Nat) (hj : j < n * 4) : w.cell? ⟨b, off + j, none⟩ = some (.int .i64 (G (j / 4) (j % 4))) := by
  obtain ⟨h0, h1, h2, h3⟩ := h (j / 4) (by omega)
  have hd : j % 4 < 4 := Nat.mod_lt _ (by omega)
  have e : j = j / 4 * 4 + j % 4 := by omega
  generalize j / 4 = i at *
  generalize j % 4 = d at *
  subst e
  match d, hd with
  | 0, _ => exact h0
  | 1, _ => rw [← Nat.add_assoc]; exact h1
  | 2, _ => rw [← Nat.add_assoc]; exact h2
  | 3, _ => rw [← Nat.add_assoc]; exact h3
theorem cellsL_at {w : World} {b off n : Nat} {G : Nat → Nat → Int} (h : Grd w b off n G) : ∀ (j : Nat) u, (cellsL G n)[j]? = some u → w.cell? ((⟨b, off, none⟩ : Addr).add j) = some u := by
  intro j u hu
  have hj : j < n * 4 := by
    have := (List.getElem?_eq_some_iff.1 hu).1
    rwa [cellsL_length] at this
  rw [cellsL_get G n j hj] at hu
  cases hu
  rw [Go.WideShapes.add_plain]
  exact h.flat j hj
theorem row_of_owned {w : World} {base n : Nat} {v : Value} {G : Nat → Nat → Int} (h : w.ownsRow base 62 4 v n (cellsL G n)) (hn : 1 ≤ n) : ∃ g c, v = .slice (some ⟨g, 0, none⟩) n c ∧ Row w g n G ∧ base ≤ g ∧ n ≤ c ∧ c ≤ maxLen := by
  rcases h.2 with ⟨_, h0⟩ | ⟨g, cap, cur, rfl, hg, hh, hc, hm, hs, ht⟩
  · omega
  · refine ⟨g, cap, rfl, ⟨(Array.getElem?_eq_some_iff.1 hh).1, fun j hj => ⟨?_, h.frozenAt j⟩⟩, hg, hc, hm⟩
    rw [h.cellAt j hj]
    exact cellsL_get G n j hj

/-- What a copy gives. -/
def Copied (n : Nat) (G : Nat → Nat → Int) (w : World) (e : Ending) (w' : World) : Prop := ∃ g c, e = .returned (.slice (some ⟨g, 0, none⟩) n c) ∧ Row w' g n G ∧ w.heap.size ≤ g ∧ n ≤ c ∧ c ≤ maxLen ∧ Below w.heap.size w w'

set_option maxRecDepth 100000 in
set_option maxHeartbeats 1000000 in
theorem copied_any (b off n cap : Nat) (G : Nat → Nat → Int) (w : World) (h1 : 1 ≤ n) (h2 : n ≤ 100000) (hG : Grd w b off n G) :
    Calls Tryd.prog 174 #[.slice (some ⟨b, off, none⟩) n cap] w (Copied n G w) := by
  obtain ⟨i0, hi, hz0, hz1, hz2⟩ := info_parts info_cell
  have hc := cellsL_at hG
  clear hG
  have H := Lib.hid hc; clear hc
  go_enter Tryd.func174, Tryd.ntmps174
  go_wp2_with (at_builtin; refine wpList_append_grows _ rfl _ _ 22 rfl 62 i0 (.agg #[.int .i64 0, .int .i64 0, .int .i64 0, .int .i64 0]) 4 32 Tryd.underlying22 hi hz0 hz1 hz2 rfl (by omega) (some ⟨b, off, none⟩) 0 0 [] rfl (by simp) rfl (by simp) ⟨b, off, none⟩ n cap (cellsL G n) rfl (cellsL_length G n) H.out (cellsL_one G n) (by omega) (by unfold maxLen; omega) (by omega) ?_; intro v' w1 hown hgrow)
  rw [Nat.zero_add, List.nil_append] at hown
  obtain ⟨g, c, rfl, hr, hg, hc, hm⟩ := row_of_owned hown h1
  go_ret
  exact ⟨g, c, rfl, hr, hg, hc, hm, (Below.refl _ _).grown hgrow (Nat.le_refl _) (by simp)⟩

/-- Cells without particles, one after another. -/
def zeros (n : Nat) : Array Value := madeCells (Value.cells (.agg #[.int .i64 0, .int .i64 0, .int .i64 0, .int .i64 0])) (n * 4)
theorem zeros_get (n j : Nat) (h : j < n * 4) : (zeros n)[j]? = some (.int .i64 0) := by
  unfold zeros madeCells
  have hs : (Value.cells (.agg #[.int .i64 0, .int .i64 0, .int .i64 0, .int .i64 0])) = #[.int .i64 0, .int .i64 0, .int .i64 0, .int .i64 0] := rfl
  rw [hs]
  have hd : j % 4 < 4 := Nat.mod_lt _ (by omega)
  simp only [Array.getElem?_map, Array.getElem?_range, h, ↓reduceIte, Option.map_some]
  show some ((#[.int .i64 0, .int .i64 0, .int .i64 0, .int .i64 0] : Array Value)[j % 4]!) = _
  match j % 4, hd with
  | 0, _ => rfl
  | 1, _ => rfl
  | 2, _ => rfl
  | 3, _ => rfl
theorem run_zeros (n : Nat) (hn : n ≤ 100000) (w : World) : (Instr.makeSlice 22 (.int .i64 n) (.int .i64 n)).run Tryd.prog w = .ok (.slice (some ⟨w.heap.size, 0, none⟩) n n) (w.alloc (.cells (zeros n) 62)) := by
  obtain ⟨i0, hi, hz0, hz1, hz2⟩ := info_parts info_cell
  have := run_make (P := Tryd.prog) (w := w) 22 62 i0 _ Tryd.underlying22 hi hz0 .i64 .i64 n n (by omega) (by omega) (by rw [hz2]; omega) (by omega)
  rw [hz1, Int.toNat_natCast] at this
  exact this
theorem row_zeros (w : World) (n : Nat) : Row (w.alloc (.cells (zeros n) 62)) w.heap.size n (fun _ _ => 0) := by
  have hh : (w.alloc (.cells (zeros n) 62)).heap[w.heap.size]? = some (.cells (zeros n) 62 (0, 0)) := World.alloc_heap_new w _
  refine ⟨(Array.getElem?_eq_some_iff.1 hh).1, fun j hj => ⟨?_, ?_⟩⟩
  · simp only [World.cell?, hh]
    exact zeros_get n j hj
  · exact frozen_of_row _ _ j _ _ hh

theorem mch_new {w1 : World} {W H n rb ro len rc g c B : Nat} {R : Nat → Int × Int} {G : Nat → Nat → Int} {wr : World} (hr : Row w1 g n G) (hg : B ≤ g) (hB : B ≤ w1.heap.size) (hrb : rb < B) (hR : RulesAt w1 rb ro len R)
    (hw : wr = ((w1.alloc (.cells (zeros n) 62)).alloc (.cells #[.int .i64 W, .int .i64 H, .slice (some ⟨g, 0, none⟩) n c, .slice (some ⟨rb, ro, none⟩) len rc, .slice (some ⟨w1.heap.size, 0, none⟩) n n] 177)).drew) :
    MchG wr (w1.heap.size + 1) W H n rb ro len rc R G B wr.heap.size := by
  subst hw
  have x : Ex (fun _ => False) w1 (((w1.alloc (.cells (zeros n) 62)).alloc (.cells #[.int .i64 W, .int .i64 H, .slice (some ⟨g, 0, none⟩) n c, .slice (some ⟨rb, ro, none⟩) len rc, .slice (some ⟨w1.heap.size, 0, none⟩) n n] 177)).drew) := (((Ex.refl _ w1).alloc _).alloc _).drew
  have hm : Mch (((w1.alloc (.cells (zeros n) 62)).alloc (.cells #[.int .i64 W, .int .i64 H, .slice (some ⟨g, 0, none⟩) n c, .slice (some ⟨rb, ro, none⟩) len rc, .slice (some ⟨w1.heap.size, 0, none⟩) n n] 177)).drew) (w1.heap.size + 1) W H n g c (.slice (some ⟨rb, ro, none⟩) len rc) w1.heap.size n := by
    have := World.alloc_heap_new (w1.alloc (.cells (zeros n) 62)) (.cells #[.int .i64 W, .int .i64 H, .slice (some ⟨g, 0, none⟩) n c, .slice (some ⟨rb, ro, none⟩) len rc, .slice (some ⟨w1.heap.size, 0, none⟩) n n] 177)
    rw [World.size_alloc] at this
    exact this
  have hlt := hr.1
  exact ⟨⟨g, c, w1.heap.size, n, _, hm, hr.ex x (fun h => h), ((row_zeros w1 n).alloc _).ex (S := fun _ => False) ((Ex.refl _ _).drew) (fun h => h), by omega, by omega, by omega, by omega, hg, hB, by simp [World.drew], by simp [World.drew]; omega, by simp [World.drew]; omega⟩, hR.ex x (by omega) (fun h => h), hrb, Nat.le_trans hB x.size, Nat.le_refl _⟩

set_option maxRecDepth 100000 in
set_option maxHeartbeats 2000000 in
theorem newMachine_any (W H b off n cap rb ro len rc : Nat) (R : Nat → Int × Int) (G : Nat → Nat → Int) (w : World) (s : Sides W H n) (hlt : b < w.heap.size) (hG : Grd w b off n G) (hrb : rb < w.heap.size) (hR : RulesAt w rb ro len R) :
    Calls Tryd.prog 142 #[.agg #[.int .i64 W, .int .i64 H, .slice (some ⟨b, off, none⟩) n cap], .slice (some ⟨rb, ro, none⟩) len rc] w fun e w' => ∃ m, e = .returned (.pointer (some ⟨m, 0, none⟩)) ∧ MchG w' m W H n rb ro len rc R G w.heap.size w'.heap.size ∧ Below w.heap.size w w' := by
  have hn : n ≤ 1024 := s.n1
  have h1 : 1 ≤ n := by
    rw [s.n0]
    exact Nat.mul_le_mul s.w0 s.h0
  have HG := Lib.hid hG; clear hG
  go_enter Tryd.func142, Tryd.ntmps142
  go_wp2_with fail
  go_at_call 174
  refine (copied_any b off n cap G _ h1 (by omega) (HG.out.below ((Below.refl _ w).alloc (Nat.le_refl _) _) hlt)).mono ?_
  rintro e w1 ⟨g, c, rfl, hr, hg, hc, hm, hb⟩
  have HRow := Lib.hid hr
  have HB := Lib.hid (show Below w.heap.size w w1 from ((Below.refl _ w).alloc (Nat.le_refl _) _).trans (hb.mono (by simp)))
  have b0 : w1.cell? ⟨w.heap.size, 0, none⟩ = some (.int .i64 W) := (hb.cell (p := ⟨w.heap.size, 0, none⟩) (by simp)).trans (by simp)
  have b1 : w1.cell? ⟨w.heap.size, 1, none⟩ = some (.int .i64 H) := (hb.cell (p := ⟨w.heap.size, 1, none⟩) (by simp)).trans (by simp)
  have hsz : w.heap.size < w1.heap.size := by have := hb.size; simp at this; omega
  have hg' : w.heap.size ≤ g := by simp at hg; omega
  have hmk := fun wx => run_zeros n (by omega) wx
  clear hb hr hg
  go_wp2_with fail
  go_region_held3 (fun w' => w'.cell? ⟨w.heap.size, 0, none⟩ = some (.int .i64 W) ∧ w'.cell? ⟨w.heap.size, 1, none⟩ = some (.int .i64 H)) (first | (go_split_ands; (try dsimp only); refine ⟨?_, ?_⟩ <;> (first | (with_reducible assumption) | (with_reducible exact keep_cell (by assumption) (by first | omega | (simp; done) | (simp; omega)) (by assumption)) | (with_reducible exact (World.cell?_alloc_past _ _ _ (by show _ < _; omega)).trans (by assumption)) | (with_reducible exact (World.cell?_alloc_past _ _ _ (by show _ < _; omega)).trans ((World.cell?_alloc_past _ _ _ (by show _ < _; omega)).symm.trans (by assumption))) | (simp [go_sem]; with_reducible assumption))) | (simp [go_sem, ↓IntWalk.iteOmega, *]; done)) (fail)
  go_wp2
  go_ret
  refine ⟨_, rfl, mch_new HRow.out hg' (by omega) hrb (fun i hi => ⟨(HB.out.cell (p := ⟨rb, ro + i * 2, none⟩) hrb).trans (hR i hi).1, (HB.out.cell (p := ⟨rb, ro + i * 2 + 1, none⟩) hrb).trans (hR i hi).2⟩) rfl, ((HB.out.alloc (by omega) _).alloc (by simp; omega) _).drew⟩
end Go.Proofs.YtmdeooflgkjbbaaDoor
