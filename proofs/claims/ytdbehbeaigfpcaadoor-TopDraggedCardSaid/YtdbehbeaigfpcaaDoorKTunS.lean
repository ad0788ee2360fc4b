/- A tunnel in memory: all its open cells collide or are undone, all others' particles are sent; steps: by the program. -/
import Derived.Test.YtdbehbeaigfpcaaDoorKWChk
import Derived.Test.YtdbehbeaigfpcaaDoorKStreamR
import Derived.Test.YtdbehbeaigfpcaaDoorKCloneC
namespace Go.Proofs.YtdbehbeaigfpcaaDoor
set_option linter.unusedSimpArgs false
set_option linter.unusedVariables false
open Go.RowKit

/-- The tunnel's block. -/
def Tun (w : World) (m : Nat) (W H : Int) (n b1 c1 : Nat) (kv bv rv : Value) : Prop :=
  w.heap[m]? = some (.cells #[.int .i64 W, .int .i64 H, .slice (some ⟨b1, 0, none⟩) n c1, kv, bv, rv] 73 (0, 0))
section
variable {w w' : World} {m n b1 c1 : Nat} {W H : Int} {kv bv rv : Value}
theorem Tun.lt (h : Tun w m W H n b1 c1 kv bv rv) : m < w.heap.size := (Array.getElem?_eq_some_iff.1 h).1
theorem Tun.k0 (h : Tun w m W H n b1 c1 kv bv rv) : w.cell? ⟨m, 0, none⟩ = some (.int .i64 W) := by simp [World.cell?, show w.heap[m]? = _ from h]
theorem Tun.k1 (h : Tun w m W H n b1 c1 kv bv rv) : w.cell? ⟨m, 1, none⟩ = some (.int .i64 H) := by simp [World.cell?, show w.heap[m]? = _ from h]
theorem Tun.k2 (h : Tun w m W H n b1 c1 kv bv rv) : w.cell? ⟨m, 2, none⟩ = some (.slice (some ⟨b1, 0, none⟩) n c1) := by simp [World.cell?, show w.heap[m]? = _ from h]
theorem Tun.k3 (h : Tun w m W H n b1 c1 kv bv rv) : w.cell? ⟨m, 3, none⟩ = some kv := by simp [World.cell?, show w.heap[m]? = _ from h]
theorem Tun.k4 (h : Tun w m W H n b1 c1 kv bv rv) : w.cell? ⟨m, 4, none⟩ = some bv := by simp [World.cell?, show w.heap[m]? = _ from h]
theorem Tun.k5 (h : Tun w m W H n b1 c1 kv bv rv) : w.cell? ⟨m, 5, none⟩ = some rv := by simp [World.cell?, show w.heap[m]? = _ from h]
theorem Tun.free (h : Tun w m W H n b1 c1 kv bv rv) (i : Nat) : w.frozen? ⟨m, i, none⟩ = false := by simp [World.frozen?, show w.heap[m]? = _ from h]
theorem Tun.ex {S : Nat → Prop} (h : Tun w m W H n b1 c1 kv bv rv) (hx : Ex S w w') (hs : ¬ S m) : Tun w' m W H n b1 c1 kv bv rv := (hx.block m h.lt hs).trans h
theorem Tun.below {k : Nat} (h : Tun w m W H n b1 c1 kv bv rv) (hb : Below k w w') (hk : m < k) : Tun w' m W H n b1 c1 kv bv rv := (hb.block m hk).trans h
theorem Tun.set3 (h : Tun w m W H n b1 c1 kv bv rv) (b2 c2 : Nat) : Tun (((w.setCell ⟨m, 0, none⟩ (.int .i64 W)).setCell ⟨m, 1, none⟩ (.int .i64 H)).setCell ⟨m, 2, none⟩ (.slice (some ⟨b2, 0, none⟩) n c2)) m W H n b2 c2 kv bv rv := by
  unfold Tun at *
  simp only [World.setCell, Array.getElem?_modify, ↓reduceIte, h, Option.map_some]
  rfl
end
theorem Tbl.ex {S : Nat → Prop} {w w' : World} (h : Tbl w) (x : Ex S w w') (hs : ¬ S 0) : Tbl w' := fun k hk d hd => (x.cell (block_lt (h k hk d hd)) hs).trans (h k hk d hd)
theorem Tbl.lt {w : World} (h : Tbl w) : 0 < w.heap.size := block_lt (h 0 (by decide) 0 (by decide))
theorem NumsAt.ex {S : Nat → Prop} {w w' : World} {b off n : Nat} {K : Nat → Int} (h : NumsAt w b off n K) (x : Ex S w w') (hl : b < w.heap.size) (hs : ¬ S b) : NumsAt w' b off n K := fun i hi => (x.cell hl hs).trans (h i hi)

theorem collideM (K : Nat → Int) (G : Nat → Nat → Int) (i : Nat) (k y : Int) (w : World) (h0 : K i = 0) (h : Ok4 (G i 0) (G i 1) (G i 2) (G i 3)) (hr : OkR k y) :
    Calls Tryd.prog 57 #[.agg #[.int .i64 (G i 0), .int .i64 (G i 1), .int .i64 (G i 2), .int .i64 (G i 3)], .agg #[.int .i64 k, .int .i64 y]] w fun e w' => e = .returned (.tuple #[.agg #[.int .i64 (metG K k y G i 0), .int .i64 (metG K k y G i 1), .int .i64 (metG K k y G i 2), .int .i64 (metG K k y G i 3)], .int .i64 0]) ∧ Below w.heap.size w w' := by
  rw [met_open h0, met_open h0, met_open h0, met_open h0]
  exact collideG G i k y w h hr
theorem sentM (K : Nat → Int) (G : Nat → Nat → Int) (i q : Nat) (k y : Int) (w : World) (hq : K i = q) (h1 : 1 ≤ q) (h2 : q < 4) (hT : Tbl w) :
    Calls Tryd.prog 41 #[.agg #[.int .i64 (G i 0), .int .i64 (G i 1), .int .i64 (G i 2), .int .i64 (G i 3)], .int .i64 q] w fun e w' => e = .returned (.agg #[.int .i64 (metG K k y G i 0), .int .i64 (metG K k y G i 1), .int .i64 (metG K k y G i 2), .int .i64 (metG K k y G i 3)]) ∧ Below w.heap.size w w' := by
  have h0 : K i ≠ 0 := by omega
  have e : (K i).toNat = q := by omega
  rw [met_shut h0, met_shut h0, met_shut h0, met_shut h0, e]
  exact wsent_any q _ _ _ _ w h2 hT

set_option maxRecDepth 100000 in
set_option maxHeartbeats 8000000 in
theorem change_met (m W H n b1 c1 bk ok ck rb ro len rc t : Nat) (bv : Value) (K : Nat → Int) (R : Nat → Int × Int) (G : Nat → Nat → Int) (w : World) (hM : Tun w m W H n b1 c1 (.slice (some ⟨bk, ok, none⟩) n ck) bv (.slice (some ⟨rb, ro, none⟩) len rc)) (hr1 : Row w b1 n G) (hn : n ≤ 1024) (hG : OkG n G) (hK : OkK n K)
    (n1 : m ≠ b1) (n2 : bk ≠ b1) (n3 : 0 ≠ b1) (hT : Tbl w) (hN : NumsAt w bk ok n K) (hbk : bk < w.heap.size) (hR : RulesAt w rb ro len R) (hrb : rb < w.heap.size) (hk : OkRs len R) (ht : t ≤ 1000000) :
    Calls Tryd.prog 56 #[.pointer (some ⟨m, 0, none⟩), .func (.func 57) #[] #[], .int .i64 t] w fun e w' => e = .returned (.tuple #[]) ∧ Row w' b1 n (metG K (R (t % len)).1 ((R (t % len)).2) G) ∧ Ex (fun k => k = b1) w w' := by
  obtain ⟨rk, ry, hrk⟩ : ∃ rk ry, (rk, ry) = R (t % len) := ⟨_, _, rfl⟩
  have hok : OkR rk ry := by
    have := hk.2.2 (t % len) (Nat.mod_lt _ hk.1)
    rw [← hrk] at this
    exact this
  have HA := Lib.hid (fun w' (hb : Below w.heap.size w w') => at_ok (some ⟨rb, ro, none⟩) len rc t R w' ((show RulesIn w (some ⟨rb, ro, none⟩) len R from .inr ⟨rb, ro, rfl, hrb, hR⟩).below hb) hk (by omega) (by omega))
  rw [Int.toNat_natCast, ← hrk] at HA
  rw [← hrk]
  have k5 := hM.k5
  have k2 := hM.k2
  have hlm := hM.lt
  have HM := Lib.hid hM; clear hM
  have HR1 := Lib.hid hr1; clear hr1
  have HG := Lib.hid hG; clear hG
  have HOK := Lib.hid hok
  have HN := Lib.hid hN; clear hN
  have HTB := Lib.hid hT; clear hT
  have HKK := Lib.hid hK; clear hK
  clear hrk hR hk hok
  go_enter Tryd.func56, Tryd.ntmps56
  go_wp2_with (go_at_call 72; (with_reducible refine (HA.out _ (by (repeat' (first | (with_reducible exact Below.refl _ _) | (with_reducible refine Below.setCell ?_ (by first | omega | (simp; done) | (simp; omega)) _) | (with_reducible refine Below.alloc ?_ (by first | omega | (simp; done) | (simp; omega)) _) | (with_reducible refine Below.drew ?_) | (with_reducible refine below_drewN ?_ _) | (with_reducible refine Below.trans ?_ (Below.mono (by assumption) (by first | omega | (simp; done) | (simp; omega)))))))).mono ?_); rintro e w1 ⟨rfl, hb⟩; obtain ⟨hc, hf, hz⟩ := bcall hb; (try simp at hc hf hz))
  have hx0 : Ex (fun _ => False) w (w1.alloc (.cells #[.int .i64 rk, .int .i64 ry] 109)) := (Ex.of_below hb).alloc _
  have tR := Two.new w1 109 (.int .i64 rk) (.int .i64 ry)
  have hM0 := HM.out.ex hx0 (fun x => x)
  have hr0 := HR1.out.ex hx0 (fun x => x)
  have hN0 := HN.out.ex hx0 hbk (fun x => x)
  have hT0 := HTB.out.ex hx0 (fun x => x)
  have hne : m ≠ w1.heap.size := by omega
  have hne2 : b1 ≠ w1.heap.size := by have := HR1.out.1; omega
  have hbk0 := Nat.lt_of_lt_of_le hbk hx0.size
  obtain ⟨B, hB⟩ : ∃ B, B = w1.heap.size := ⟨_, rfl⟩
  obtain ⟨w0, hw0⟩ : ∃ w0, w0 = w1.alloc (.cells #[.int .i64 rk, .int .i64 ry] 109) := ⟨_, rfl⟩
  rw [← hB] at tR hne hne2 ⊢
  rw [← hw0] at hx0 tR hM0 hr0 hN0 hT0 hbk0 ⊢
  clear hc hf hz hb hw0 hB k5 k2 HA HM HR1 HN HTB
  have HX := Lib.hid hx0; clear hx0
  have HT := Lib.hid tR; clear tR
  have HM := Lib.hid hM0; clear hM0
  have HR := Lib.hid hr0; clear hr0
  have HN := Lib.hid hN0; clear hN0
  have HTB := Lib.hid hT0; clear hT0
  go_loopw [25] (fun i wr => ∃ (k : Nat) (L : Nat → Nat → Int), k ≤ n ∧ i = .int .i64 k ∧ Hid (Ex (fun k => k = b1) w0 wr ∧ Row wr b1 n L ∧ Half n k (metG K rk (ry) G) G L)) (fun i _ => n - (intOf i).toNat)
  case atStart => exact ⟨0, G, Nat.zero_le _, rfl, Lib.hid ⟨Ex.refl _ _, HR.out, half_zero _ _ _⟩⟩
  case round =>
    obtain ⟨k, L, hk, rfl, HH⟩ := hrel
    by_cases hlk : k < n
    · have hM1 := HM.out.ex HH.out.1 n1
      have tR1 : Two _ B 109 (.int .i64 rk) (.int .i64 ry) := (HH.out.1.block B HT.out.lt (Ne.symm hne2)).trans HT.out
      have hlm1 := hM1.lt
      have hlB := tR1.lt
      have hlk1 := Nat.lt_of_lt_of_le hbk0 HH.out.1.size
      have k2 := hM1.k2
      have k3 := hM1.k3
      have d0 := tR1.c0
      have d1 := tR1.c1
      have hl1 := HH.out.2.1.1
      obtain ⟨a0, a1, a2, a3⟩ := HH.out.2.1.at4 hlk
      obtain ⟨f0, f1, f2, f3⟩ := HH.out.2.1.free4 hlk
      rw [HH.out.2.2.2 k (Nat.le_refl _) hlk 0 (by omega)] at a0
      rw [HH.out.2.2.2 k (Nat.le_refl _) hlk 1 (by omega)] at a1
      rw [HH.out.2.2.2 k (Nat.le_refl _) hlk 2 (by omega)] at a2
      rw [HH.out.2.2.2 k (Nat.le_refl _) hlk 3 (by omega)] at a3
      have HK := Lib.hid (HG.out.1 k hlk)
      have p0 : (0 : Int) ≤ (k : Int) := by omega
      have p1 : (k : Int) < (n : Int) := by omega
      have kk := (HN.out.ex HH.out.1 hbk0 n2) k hlk
      have TB := Lib.hid (HTB.out.ex HH.out.1 n3)
      obtain ⟨q, hq⟩ := Int.eq_ofNat_of_zero_le (HKK.out k hlk).1
      have hq3 : q < 4 := by have := (HKK.out k hlk).2; omega
      clear hM1 tR1
      by_cases hq0 : q = 0
      · subst hq0
        have h0 := Lib.hid (show K k = 0 from hq)
        rw [h0.out] at kk
        clear hq hq3
        go_wp2
        go_region_held3 (fun w' => w'.cell? ⟨m, 2, none⟩ = some (.slice (some ⟨b1, 0, none⟩) n c1) ∧ w'.cell? ⟨wr.heap.size, 0, none⟩ = some (.int .i64 (G k 0)) ∧ w'.cell? ⟨wr.heap.size, 1, none⟩ = some (.int .i64 (G k 1)) ∧ w'.cell? ⟨wr.heap.size, 2, none⟩ = some (.int .i64 (G k 2)) ∧ w'.cell? ⟨wr.heap.size, 3, none⟩ = some (.int .i64 (G k 3)) ∧ w'.cell? ⟨B, 0, none⟩ = some (.int .i64 rk) ∧ w'.cell? ⟨B, 1, none⟩ = some (.int .i64 ry)) (first | (go_split_ands; (try dsimp only); refine ⟨?_, ?_, ?_, ?_, ?_, ?_, ?_⟩ <;> (first | (with_reducible assumption) | (with_reducible exact keep_cell (by assumption) (by first | omega | (simp; done) | (simp; omega)) (by assumption)) | (with_reducible exact (World.cell?_alloc_past _ _ _ (by show _ < _; omega)).trans (by assumption)) | (with_reducible exact (World.cell?_alloc_past _ _ _ (by show _ < _; omega)).trans ((World.cell?_alloc_past _ _ _ (by show _ < _; omega)).symm.trans (by assumption))) | (simp [go_sem]; with_reducible assumption))) | (simp [go_sem, ↓IntWalk.iteOmega, *]; done)) (first | (go_at_call 57; (with_reducible refine (collideM K G k rk ry _ h0.out HK.out HOK.out).mono ?_); rintro e w1 ⟨rfl, hb⟩; obtain ⟨hc, hf, hz⟩ := bcall hb; (try simp at hc hf hz)))
        go_wp2
        have hx1 : Ex (fun _ => False) wr w1 := (((Ex.refl (fun _ => False) wr).alloc _).drew).trans (Ex.of_below hb)
        clear hc hf
        go_roundw
        case rel =>
          obtain ⟨hx, hr, hh⟩ := HH.out
          obtain ⟨c1, c2⟩ := chain1 (hr.ex hx1 (fun x => x)) hlk (metG K rk (ry) G k 0) (metG K rk (ry) G k 1) (metG K rk (ry) G k 2) (metG K rk (ry) G k 3)
          exact ⟨k + 1, _, by omega, by go_num, Lib.hid ⟨(hx.trans (hx1.mono (fun _ h => h.elim))).trans c1, c2, half_step hh hlk⟩⟩
        case measure => simp [intOf]; omega
      · have hq1 : 1 ≤ q := by omega
        rw [hq] at kk
        have HQ := Lib.hid hq
        have e0 : ((q : Int) == 0) = false := beq_eq_false_iff_ne.2 (by omega)
        clear hq hq0
        go_wp2
        go_region_held3 (fun w' => w'.cell? ⟨m, 2, none⟩ = some (.slice (some ⟨b1, 0, none⟩) n c1) ∧ w'.cell? ⟨m, 3, none⟩ = some (.slice (some ⟨bk, ok, none⟩) n ck) ∧ w'.cell? ⟨bk, ok + k, none⟩ = some (.int .i64 q) ∧ w'.cell? ⟨wr.heap.size, 0, none⟩ = some (.int .i64 (G k 0)) ∧ w'.cell? ⟨wr.heap.size, 1, none⟩ = some (.int .i64 (G k 1)) ∧ w'.cell? ⟨wr.heap.size, 2, none⟩ = some (.int .i64 (G k 2)) ∧ w'.cell? ⟨wr.heap.size, 3, none⟩ = some (.int .i64 (G k 3))) (first | (go_split_ands; (try dsimp only); refine ⟨?_, ?_, ?_, ?_, ?_, ?_, ?_⟩ <;> (first | (with_reducible assumption) | (with_reducible exact keep_cell (by assumption) (by first | omega | (simp; done) | (simp; omega)) (by assumption)) | (with_reducible exact (World.cell?_alloc_past _ _ _ (by show _ < _; omega)).trans (by assumption)) | (with_reducible exact (World.cell?_alloc_past _ _ _ (by show _ < _; omega)).trans ((World.cell?_alloc_past _ _ _ (by show _ < _; omega)).symm.trans (by assumption))) | (simp [go_sem]; with_reducible assumption))) | (simp [go_sem, ↓IntWalk.iteOmega, *]; done)) (first | (go_at_call 41; (with_reducible refine (sentM K G k q rk (ry) _ HQ.out hq1 hq3 (TB.out.below (by (repeat' (first | (with_reducible exact Below.refl _ _) | (with_reducible refine Below.setCell ?_ (by first | omega | (simp; done) | (simp; omega)) _) | (with_reducible refine Below.alloc ?_ (by first | omega | (simp; done) | (simp; omega)) _) | (with_reducible refine Below.drew ?_) | (with_reducible refine below_drewN ?_ _) | (with_reducible refine Below.trans ?_ (Below.mono (by assumption) (by first | omega | (simp; done) | (simp; omega))))))))).mono ?_); rintro e w1 ⟨rfl, hb⟩; obtain ⟨hc, hf, hz⟩ := bcall hb; (try simp at hc hf hz)))
        go_wp2
        have hx1 : Ex (fun _ => False) wr w1 := (((Ex.refl (fun _ => False) wr).alloc _).drew).trans (Ex.of_below hb)
        clear hc hf
        go_roundw
        case rel =>
          obtain ⟨hx, hr, hh⟩ := HH.out
          obtain ⟨c1, c2⟩ := chain1 (hr.ex hx1 (fun x => x)) hlk (metG K rk (ry) G k 0) (metG K rk (ry) G k 1) (metG K rk (ry) G k 2) (metG K rk (ry) G k 3)
          exact ⟨k + 1, _, by omega, by go_num, Lib.hid ⟨(hx.trans (hx1.mono (fun _ h => h.elim))).trans c1, c2, half_step hh hlk⟩⟩
        case measure => simp [intOf]; omega
    · obtain rfl : n = k := by omega
      go_wp2
      go_end0
      obtain ⟨hx, hr, hh⟩ := HH.out
      exact ⟨rfl, hr.eqG (half_all hh), (HX.out.mono (fun _ h => h.elim)).trans hx⟩

end Go.Proofs.YtdbehbeaigfpcaaDoor

/- A tunnel's steps, forward and back; a new tunnel; runs among walls and their undoing: by the program. -/



namespace Go.Proofs.YtdbehbeaigfpcaaDoor
set_option linter.unusedSimpArgs false
set_option linter.unusedVariables false
open Go.RowKit

/-- A tunnel that stands. -/
structure TunG (w : World) (m W H n : Nat) (bk ok ck : Nat) (bv : Value) (rb ro len rc : Nat) (K : Nat → Int) (R : Nat → Int × Int) (G : Nat → Nat → Int) (B : Nat) : Prop where
  ex : ∃ b1 c1 : Nat, Tun w m W H n b1 c1 (.slice (some ⟨bk, ok, none⟩) n ck) bv (.slice (some ⟨rb, ro, none⟩) len rc) ∧ Row w b1 n G ∧ m ≠ b1 ∧ B ≤ m ∧ B ≤ b1
  nums : NumsAt w bk ok n K
  rules : RulesAt w rb ro len R
  tbl : Tbl w
  lbk : bk < B
  lrb : rb < B
  ltb : 0 < B
  low : B ≤ w.heap.size
theorem RulesAt.below2 {w w' : World} {B rb ro len : Nat} {R : Nat → Int × Int} (h : RulesAt w rb ro len R) (hb : Below B w w') (hl : rb < B) : RulesAt w' rb ro len R := fun i hi => ⟨(hb.cell (p := ⟨rb, ro + i * 2, none⟩) hl).trans (h i hi).1, (hb.cell (p := ⟨rb, ro + i * 2 + 1, none⟩) hl).trans (h i hi).2⟩
theorem Tbl.below2 {w w' : World} {B : Nat} (h : Tbl w) (hb : Below B w w') (hl : 0 < B) : Tbl w' := fun k hk d hd => (hb.cell (p := ⟨0, k * 4 + d, none⟩) hl).trans (h k hk d hd)
theorem TunG.next {w w' : World} {m W H n bk ok ck : Nat} {bv : Value} {rb ro len rc : Nat} {K : Nat → Int} {R : Nat → Int × Int} {G G' : Nat → Nat → Int} {B b1 c1 : Nat} (h : TunG w m W H n bk ok ck bv rb ro len rc K R G B) (hb : Below B w w')
    (hM : Tun w' m W H n b1 c1 (.slice (some ⟨bk, ok, none⟩) n ck) bv (.slice (some ⟨rb, ro, none⟩) len rc)) (hr : Row w' b1 n G') (n1 : m ≠ b1) (q1 : B ≤ b1) : TunG w' m W H n bk ok ck bv rb ro len rc K R G' B := by
  obtain ⟨⟨_, _, _, _, _, q0, _⟩, hN, hR, hT, l1, l2, l3, lw⟩ := h
  exact ⟨⟨b1, c1, hM, hr, n1, q0, q1⟩, hN.below hb l1, hR.below2 hb l2, hT.below2 hb l3, l1, l2, l3, Nat.le_trans lw hb.size⟩

set_option maxRecDepth 100000 in
set_option maxHeartbeats 4000000 in
theorem tun_step (m W H n bk ok ck : Nat) (bv : Value) (rb ro len rc t : Nat) (K : Nat → Int) (R : Nat → Int × Int) (G : Nat → Nat → Int) (B : Nat) (w : World) (h : TunG w m W H n bk ok ck bv rb ro len rc K R G B) (s : Sides W H n) (hG : OkG n G) (hK : OkK n K) (hk : OkRs len R) (ht : t ≤ 1000000) :
    Calls Tryd.prog 35 #[.pointer (some ⟨m, 0, none⟩), .int .i64 t] w fun e w' => e = .returned (.tuple #[]) ∧ TunG w' m W H n bk ok ck bv rb ro len rc K R (fwdW W H K len R t G) B ∧ Below B w w' := by
  have HT := Lib.hid h
  obtain ⟨⟨b1, c1, hM, hr1, n1, q0, q1⟩, hN, hR, hT, lbk, lrb, ltb, low⟩ := h
  have C := Lib.hid (change_met m W H n b1 c1 bk ok ck rb ro len rc t bv K R G w hM hr1 s.n1 hG hK n1 (by omega) (by omega) hT hN (by omega) hR (by omega) hk ht)
  have HS := Lib.hid s
  have HG := Lib.hid (okG_met hK (k := (R (t % len)).1) (y := (R (t % len)).2) hG)
  have HM := Lib.hid hM
  clear hM hr1 hN hR hT s hG hK hk
  go_enter Tryd.func35, Tryd.ntmps35
  go_wp2_with fail
  go_at_call 56
  refine C.out.mono ?_
  rintro e w1 ⟨rfl, hr, hx⟩
  have hM1 := HM.out.ex hx n1
  have D := Lib.hid (gStreamR_ok W H b1 0 n c1 _ w1 HS.out HG.out hr.1 hr.grd)
  have k0 := hM1.k0
  have k1 := hM1.k1
  have k2 := hM1.k2
  have lm := hM1.lt
  have HX := Lib.hid (hx.below (B := B) low (fun k hk => by omega))
  have HM1 := Lib.hid hM1
  have ls := hx.size
  clear hM1 hx hr C HM
  go_wp2_with fail
  go_at_call 58
  refine D.out.mono ?_
  rintro e w2 ⟨b2, c2, rfl, hr2, lo2, hb2⟩
  have hM2 := HM1.out.below hb2 lm
  have k0 := hM2.k0
  have k1 := hM2.k1
  have k2 := hM2.k2
  have f0 := hM2.free 0
  have f1 := hM2.free 1
  have f2 := hM2.free 2
  have lm2 := hM2.lt
  have hB2 : Below B w w2 := HX.out.trans (hb2.mono (by omega))
  have HM2 := Lib.hid hM2
  have HR2 := Lib.hid hr2
  have HB2 := Lib.hid hB2
  clear hM2 hr2 hb2 hB2 D
  go_wp2
  go_end0
  have x : Ex (fun k => k = m) w2 (((w2.setCell ⟨m, 0, none⟩ (.int .i64 W)).setCell ⟨m, 1, none⟩ (.int .i64 H)).setCell ⟨m, 2, none⟩ (.slice (some ⟨b2, 0, none⟩) n c2)) := three_ex
  have hB := HB2.out.trans (x.below (Nat.le_trans low HB2.out.size) (fun k hk => by omega) : Below B w2 _)
  exact ⟨rfl, HT.out.next hB (HM2.out.set3 b2 c2) (HR2.out.ex x (by omega)) (by omega) (by omega), hB⟩

theorem tun_new {w0 w2 : World} {W H n bk ok ck rb ro len rc g c : Nat} {bv : Value} {K : Nat → Int} {R : Nat → Int × Int} {G : Nat → Nat → Int} (hb : Below w0.heap.size w0 w2) (hr : Row w2 g n G) (hg : w0.heap.size ≤ g) (hbk : bk < w0.heap.size) (hN : NumsAt w0 bk ok n K) (hrb : rb < w0.heap.size) (hR : RulesAt w0 rb ro len R) (hT : Tbl w0) :
    TunG (w2.alloc (.cells #[.int .i64 W, .int .i64 H, .slice (some ⟨g, 0, none⟩) n c, .slice (some ⟨bk, ok, none⟩) n ck, bv, .slice (some ⟨rb, ro, none⟩) len rc] 73)) w2.heap.size W H n bk ok ck bv rb ro len rc K R G w0.heap.size := by
  have x : Ex (fun _ => False) w2 (w2.alloc (.cells #[.int .i64 W, .int .i64 H, .slice (some ⟨g, 0, none⟩) n c, .slice (some ⟨bk, ok, none⟩) n ck, bv, .slice (some ⟨rb, ro, none⟩) len rc] 73)) := (Ex.refl _ w2).alloc _
  have hB : Below w0.heap.size w0 (w2.alloc (.cells #[.int .i64 W, .int .i64 H, .slice (some ⟨g, 0, none⟩) n c, .slice (some ⟨bk, ok, none⟩) n ck, bv, .slice (some ⟨rb, ro, none⟩) len rc] 73)) := hb.alloc hb.size _
  have hl := hr.1
  exact ⟨⟨g, c, World.alloc_heap_new w2 _, hr.ex x (fun h => h), by omega, hb.size, hg⟩, hN.below hB hbk, hR.below2 hB hrb, hT.below2 hB hT.lt, hbk, hrb, hT.lt, hB.size⟩

set_option maxRecDepth 100000 in
set_option maxHeartbeats 4000000 in
theorem newTunnel_any (W H b off n cap bk ok ck rb ro len rc : Nat) (ab : Option Addr) (nb cb : Nat) (K : Nat → Int) (R : Nat → Int × Int) (G : Nat → Nat → Int) (w : World) (s : Sides W H n) (hlt : b < w.heap.size) (hG : Grd w b off n G) (hbk : bk < w.heap.size) (hN : NumsAt w bk ok n K) (hrb : rb < w.heap.size) (hR : RulesAt w rb ro len R) (hT : Tbl w) :
    Calls Tryd.prog 21 #[.agg #[.int .i64 W, .int .i64 H, .slice (some ⟨b, off, none⟩) n cap], .agg #[.slice (some ⟨bk, ok, none⟩) n ck, .slice (ab) nb cb], .slice (some ⟨rb, ro, none⟩) len rc] w fun e w' => ∃ m, e = .returned (.pointer (some ⟨m, 0, none⟩)) ∧ Hid (TunG w' m W H n bk ok ck (.slice ab nb cb) rb ro len rc K R G w.heap.size) ∧ Below w.heap.size w w' := by
  have hn1 : n ≤ 1024 := s.n1
  have h1 : 1 ≤ n := by
    rw [s.n0]
    exact Nat.mul_le_mul s.w0 s.h0
  have D := Lib.hid (fun w' (hb : Below w.heap.size w w') => cloneC_any b off n cap G w' h1 (by omega) (Nat.lt_of_lt_of_le hlt hb.size) (hG.below hb hlt))
  have HN := Lib.hid hN; clear hN
  have HR := Lib.hid hR; clear hR
  have HT := Lib.hid hT; clear hT
  clear hG s
  go_enter Tryd.func21, Tryd.ntmps21
  go_wp2_with (go_at_call 42; (with_reducible refine (D.out _ (by (repeat' (first | (with_reducible exact Below.refl _ _) | (with_reducible refine Below.setCell ?_ (by first | omega | (simp; done) | (simp; omega)) _) | (with_reducible refine Below.alloc ?_ (by first | omega | (simp; done) | (simp; omega)) _) | (with_reducible refine Below.drew ?_) | (with_reducible refine below_drewN ?_ _) | (with_reducible refine Below.trans ?_ (Below.mono (by assumption) (by first | omega | (simp; done) | (simp; omega)))))))).mono ?_); rintro e w1 ⟨g, c, rfl, hr, hg, hc1, hm1, hb⟩; have HRo := Lib.hid hr; clear hr; obtain ⟨hc, hf, hz⟩ := bcall hb; (try simp at hc hf hz hg))
  go_ret
  have hl := HRo.out.1
  have hB : Below w.heap.size w (w1.setCell ⟨w.heap.size, 2, none⟩ (.slice (some ⟨g, 0, none⟩) n c)) := by (repeat' (first | (with_reducible exact Below.refl _ _) | (with_reducible refine Below.setCell ?_ (by first | omega | (simp; done) | (simp; omega)) _) | (with_reducible refine Below.alloc ?_ (by first | omega | (simp; done) | (simp; omega)) _) | (with_reducible refine Below.drew ?_) | (with_reducible refine below_drewN ?_ _) | (with_reducible refine Below.trans ?_ (Below.mono (by assumption) (by first | omega | (simp; done) | (simp; omega))))))
  have x : Ex (fun k => k = w.heap.size) w1 (w1.setCell ⟨w.heap.size, 2, none⟩ (.slice (some ⟨g, 0, none⟩) n c)) := by refine Ex.setCell (Ex.refl _ w1) ?_ _; rfl
  have q := tun_new (W := W) (H := H) (ck := ck) (rc := rc) (c := c) (bv := .slice ab nb cb) hB (HRo.out.ex x (by omega)) (by omega) hbk HN.out hrb HR.out HT.out
  rw [show (w1.setCell ⟨w.heap.size, 2, none⟩ (.slice (some ⟨g, 0, none⟩) n c)).heap.size = w1.heap.size from by simp] at q
  exact ⟨_, rfl, Lib.hid q, hB.alloc hB.size _⟩
end Go.Proofs.YtdbehbeaigfpcaaDoor
