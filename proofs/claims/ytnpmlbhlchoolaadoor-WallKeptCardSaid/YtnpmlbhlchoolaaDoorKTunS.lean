/- A tunnel's steps, forward and back; a new tunnel; runs among walls and their undoing: by the program. -/
import Derived.Test.YtnpmlbhlchoolaaDoorKTun
import Derived.Test.YtnpmlbhlchoolaaDoorKCloneC
import Derived.Test.YtnpmlbhlchoolaaDoorKWChk
namespace Go.Proofs.YtnpmlbhlchoolaaDoor
set_option linter.unusedSimpArgs false
set_option linter.unusedVariables false
open Go.RowKit

/-- A tunnel that stands. -/
structure TunG (w : World) (m W H n : Nat) (bk ok ck : Nat) (bv : Value) (rb ro len rc : Nat) (K : Nat → Int) (R : Nat → Int × Int) (G : Nat → Nat → Int) (B : Nat) : Prop where
  ex : ∃ b1 c1 : Nat, Tun w m W H n b1 c1 (.slice (some ⟨bk, ok, none⟩) n ck) bv (.slice (some ⟨rb, ro, none⟩) len rc) ∧ Row w b1 n G ∧ m ≠ b1 ∧ B ≤ m ∧ B ≤ b1
  nums : NumsAt w bk ok n K
  rules : RulesAt w rb ro len R
  tbl : Tbl w
  lbk : bk < B
  lrb : rb < B
  ltb : 0 < B
  low : B ≤ w.heap.size
theorem RulesAt.below2 {w w' : World} {B rb ro len : Nat} {R : Nat → Int × Int} (h : RulesAt w rb ro len R) (hb : Below B w w') (hl : rb < B) : RulesAt w' rb ro len R := fun i hi => ⟨(hb.cell (p := ⟨rb, ro + i * 2, none⟩) hl).trans (h i hi).1, (hb.cell (p := ⟨rb, ro + i * 2 + 1, none⟩) hl).trans (h i hi).2⟩
theorem Tbl.below2 {w w' : World} {B : Nat} (h : Tbl w) (hb : Below B w w') (hl : 0 < B) : Tbl w' := fun k hk d hd => (hb.cell (p := ⟨0, k * 4 + d, none⟩) hl).trans (h k hk d hd)
theorem TunG.next {w w' : World} {m W H n bk ok ck : Nat} {bv : Value} {rb ro len rc : Nat} {K : Nat → Int} {R : Nat → Int × Int} {G G' : Nat → Nat → Int} {B b1 c1 : Nat} (h : TunG w m W H n bk ok ck bv rb ro len rc K R G B) (hb : Below B w w')
    (hM : Tun w' m W H n b1 c1 (.slice (some ⟨bk, ok, none⟩) n ck) bv (.slice (some ⟨rb, ro, none⟩) len rc)) (hr : Row w' b1 n G') (n1 : m ≠ b1) (q1 : B ≤ b1) : TunG w' m W H n bk ok ck bv rb ro len rc K R G' B := by
  obtain ⟨⟨_, _, _, _, _, q0, _⟩, hN, hR, hT, l1, l2, l3, lw⟩ := h
  exact ⟨⟨b1, c1, hM, hr, n1, q0, q1⟩, hN.below hb l1, hR.below2 hb l2, hT.below2 hb l3, l1, l2, l3, Nat.le_trans lw hb.size⟩

set_option maxRecDepth 100000 in
set_option maxHeartbeats 4000000 in
theorem tun_step (m W H n bk ok ck : Nat) (bv : Value) (rb ro len rc t : Nat) (K : Nat → Int) (R : Nat → Int × Int) (G : Nat → Nat → Int) (B : Nat) (w : World) (h : TunG w m W H n bk ok ck bv rb ro len rc K R G B) (s : Sides W H n) (hG : OkG n G) (hK : OkK n K) (hk : OkRs len R) (ht : t ≤ 1000000) :
    Calls Tryd.prog 42 #[.pointer (some ⟨m, 0, none⟩), .int .i64 t] w fun e w' => e = .returned (.tuple #[]) ∧ TunG w' m W H n bk ok ck bv rb ro len rc K R (fwdW W H K len R t G) B ∧ Below B w w' := by
  have HT := Lib.hid h
  obtain ⟨⟨b1, c1, hM, hr1, n1, q0, q1⟩, hN, hR, hT, lbk, lrb, ltb, low⟩ := h
  have C := Lib.hid (change_met m W H n b1 c1 bk ok ck rb ro len rc t bv K R G w hM hr1 s.n1 hG hK n1 (by omega) (by omega) hT hN (by omega) hR (by omega) hk ht)
  have HS := Lib.hid s
  have HG := Lib.hid (okG_met hK (k := (R (t % len)).1) (y := (R (t % len)).2) hG)
  have HM := Lib.hid hM
  clear hM hr1 hN hR hT s hG hK hk
  go_enter Tryd.func42, Tryd.ntmps42
  go_wp2_with fail
  go_at_call 80
  refine C.out.mono ?_
  rintro e w1 ⟨rfl, hr, hx⟩
  have hM1 := HM.out.ex hx n1
  have D := Lib.hid (gStreamR_ok W H b1 0 n c1 _ w1 HS.out HG.out hr.1 hr.grd)
  have k0 := hM1.k0
  have k1 := hM1.k1
  have k2 := hM1.k2
  have lm := hM1.lt
  have HX := Lib.hid (hx.below (B := B) low (fun k hk => by omega))
  have HM1 := Lib.hid hM1
  have ls := hx.size
  clear hM1 hx hr C HM
  go_wp2_with fail
  go_at_call 82
  refine D.out.mono ?_
  rintro e w2 ⟨b2, c2, rfl, hr2, lo2, hb2⟩
  have hM2 := HM1.out.below hb2 lm
  have k0 := hM2.k0
  have k1 := hM2.k1
  have k2 := hM2.k2
  have f0 := hM2.free 0
  have f1 := hM2.free 1
  have f2 := hM2.free 2
  have lm2 := hM2.lt
  have hB2 : Below B w w2 := HX.out.trans (hb2.mono (by omega))
  have HM2 := Lib.hid hM2
  have HR2 := Lib.hid hr2
  have HB2 := Lib.hid hB2
  clear hM2 hr2 hb2 hB2 D
  go_wp2
  go_end0
  have x : Ex (fun k => k = m) w2 (((w2.setCell ⟨m, 0, none⟩ (.int .i64 W)).setCell ⟨m, 1, none⟩ (.int .i64 H)).setCell ⟨m, 2, none⟩ (.slice (some ⟨b2, 0, none⟩) n c2)) := three_ex
  have hB := HB2.out.trans (x.below (Nat.le_trans low HB2.out.size) (fun k hk => by omega) : Below B w2 _)
  exact ⟨rfl, HT.out.next hB (HM2.out.set3 b2 c2) (HR2.out.ex x (by omega)) (by omega) (by omega), hB⟩

set_option maxRecDepth 100000 in
set_option maxHeartbeats 4000000 in
theorem tun_back (m W H n bk ok ck : Nat) (bv : Value) (rb ro len rc t : Nat) (K : Nat → Int) (R : Nat → Int × Int) (G : Nat → Nat → Int) (B : Nat) (w : World) (h : TunG w m W H n bk ok ck bv rb ro len rc K R G B) (s : Sides W H n) (hG : OkG n G) (hK : OkK n K) (hk : OkRs len R) (ht : t ≤ 1000000) :
    Calls Tryd.prog 44 #[.pointer (some ⟨m, 0, none⟩), .int .i64 t] w fun e w' => e = .returned (.tuple #[]) ∧ TunG w' m W H n bk ok ck bv rb ro len rc K R (bwdW W H K len R t G) B ∧ Below B w w' := by
  have HT := Lib.hid h
  obtain ⟨⟨b1, c1, hM, hr1, n1, q0, q1⟩, hN, hR, hT, lbk, lrb, ltb, low⟩ := h
  have D := Lib.hid (gUnstreamR_ok W H b1 0 n c1 G w s hG hr1.1 hr1.grd)
  have HG := Lib.hid (okG_pull (way := -1) s.n0 hG)
  have HK := Lib.hid hK
  have HR := Lib.hid hk
  have hn1 := s.n1
  have HM := Lib.hid hM
  have k0 := hM.k0
  have k1 := hM.k1
  have k2 := hM.k2
  have lm := hM.lt
  clear hM hr1 hN hR hT s hG hK hk
  go_enter Tryd.func44, Tryd.ntmps44
  go_wp2_with fail
  go_at_call 83
  refine D.out.mono ?_
  rintro e w2 ⟨b2, c2, rfl, hr2, lo2, hb2⟩
  have hM2 := HM.out.below hb2 lm
  have k0 := hM2.k0
  have k1 := hM2.k1
  have k2 := hM2.k2
  have f0 := hM2.free 0
  have f1 := hM2.free 1
  have f2 := hM2.free 2
  have lm2 := hM2.lt
  have hB2 : Below B w w2 := hb2.mono (by omega)
  have HM2 := Lib.hid hM2
  have HR2 := Lib.hid hr2
  have HB2 := Lib.hid hB2
  have hs2 := hb2.size
  clear hM2 hr2 hb2 hB2 D HM
  go_wp2_with fail
  obtain ⟨w3, hw3⟩ : ∃ w3, w3 = ((w2.setCell ⟨m, 0, none⟩ (.int .i64 W)).setCell ⟨m, 1, none⟩ (.int .i64 H)).setCell ⟨m, 2, none⟩ (.slice (some ⟨b2, 0, none⟩) n c2) := ⟨_, rfl⟩
  have x : Ex (fun k => k = m) w2 w3 := by rw [hw3]; exact three_ex
  have hB3 : Below B w w3 := HB2.out.trans (x.below (Nat.le_trans low HB2.out.size) (fun k hk => by omega) : Below B w2 w3)
  have hM3 : Tun w3 m W H n b2 c2 (.slice (some ⟨bk, ok, none⟩) n ck) bv (.slice (some ⟨rb, ro, none⟩) len rc) := by rw [hw3]; exact HM2.out.set3 b2 c2
  have hr3 := HR2.out.ex x (by omega)
  have T3 := Lib.hid (HT.out.next hB3 hM3 hr3 (by omega) (by omega))
  have HB3 := Lib.hid hB3
  have HM3 := Lib.hid hM3
  have ls3 := x.size
  have hs3 := hB3.size
  have C := Lib.hid (change_unmet m W H n b2 c2 bk ok ck rb ro len rc t bv K R _ w3 hM3 hr3 hn1 HG.out HK.out (by omega) (by omega) (by omega) T3.out.tbl T3.out.nums (by omega) T3.out.rules (by omega) HR.out ht)
  rw [← hw3]
  clear hw3 x hB3 hM3 hr3 k0 k1 k2 f0 f1 f2
  go_at_call 80
  refine C.out.mono ?_
  rintro e w4 ⟨rfl, hr4, hx4⟩
  have HM4 := Lib.hid (HM3.out.ex hx4 (by omega))
  have HR4 := Lib.hid hr4
  have HB4 := Lib.hid (show Below B w3 w4 from hx4.below (by omega) (fun k hk => by omega))
  clear hr4 hx4 C
  go_wp2
  go_end0
  exact ⟨rfl, T3.out.next HB4.out HM4.out HR4.out (by omega) (by omega), HB3.out.trans HB4.out⟩

theorem tun_new {w0 w2 : World} {W H n bk ok ck rb ro len rc g c : Nat} {bv : Value} {K : Nat → Int} {R : Nat → Int × Int} {G : Nat → Nat → Int} (hb : Below w0.heap.size w0 w2) (hr : Row w2 g n G) (hg : w0.heap.size ≤ g) (hbk : bk < w0.heap.size) (hN : NumsAt w0 bk ok n K) (hrb : rb < w0.heap.size) (hR : RulesAt w0 rb ro len R) (hT : Tbl w0) :
    TunG (w2.alloc (.cells #[.int .i64 W, .int .i64 H, .slice (some ⟨g, 0, none⟩) n c, .slice (some ⟨bk, ok, none⟩) n ck, bv, .slice (some ⟨rb, ro, none⟩) len rc] 74)) w2.heap.size W H n bk ok ck bv rb ro len rc K R G w0.heap.size := by
  have x : Ex (fun _ => False) w2 (w2.alloc (.cells #[.int .i64 W, .int .i64 H, .slice (some ⟨g, 0, none⟩) n c, .slice (some ⟨bk, ok, none⟩) n ck, bv, .slice (some ⟨rb, ro, none⟩) len rc] 74)) := (Ex.refl _ w2).alloc _
  have hB : Below w0.heap.size w0 (w2.alloc (.cells #[.int .i64 W, .int .i64 H, .slice (some ⟨g, 0, none⟩) n c, .slice (some ⟨bk, ok, none⟩) n ck, bv, .slice (some ⟨rb, ro, none⟩) len rc] 74)) := hb.alloc hb.size _
  have hl := hr.1
  exact ⟨⟨g, c, World.alloc_heap_new w2 _, hr.ex x (fun h => h), by omega, hb.size, hg⟩, hN.below hB hbk, hR.below2 hB hrb, hT.below2 hB hT.lt, hbk, hrb, hT.lt, hB.size⟩

set_option maxRecDepth 100000 in
set_option maxHeartbeats 4000000 in
theorem newTunnel_any (W H b off n cap bk ok ck rb ro len rc : Nat) (ab : Option Addr) (nb cb : Nat) (K : Nat → Int) (R : Nat → Int × Int) (G : Nat → Nat → Int) (w : World) (s : Sides W H n) (hlt : b < w.heap.size) (hG : Grd w b off n G) (hbk : bk < w.heap.size) (hN : NumsAt w bk ok n K) (hrb : rb < w.heap.size) (hR : RulesAt w rb ro len R) (hT : Tbl w) :
    Calls Tryd.prog 41 #[.agg #[.int .i64 W, .int .i64 H, .slice (some ⟨b, off, none⟩) n cap], .agg #[.slice (some ⟨bk, ok, none⟩) n ck, .slice (ab) nb cb], .slice (some ⟨rb, ro, none⟩) len rc] w fun e w' => ∃ m, e = .returned (.pointer (some ⟨m, 0, none⟩)) ∧ Hid (TunG w' m W H n bk ok ck (.slice ab nb cb) rb ro len rc K R G w.heap.size) ∧ Below w.heap.size w w' := by
  have hn1 : n ≤ 1024 := s.n1
  have h1 : 1 ≤ n := by
    rw [s.n0]
    exact Nat.mul_le_mul s.w0 s.h0
  have D := Lib.hid (fun w' (hb : Below w.heap.size w w') => cloneC_any b off n cap G w' h1 (by omega) (Nat.lt_of_lt_of_le hlt hb.size) (hG.below hb hlt))
  have HN := Lib.hid hN; clear hN
  have HR := Lib.hid hR; clear hR
  have HT := Lib.hid hT; clear hT
  clear hG s
  go_enter Tryd.func41, Tryd.ntmps41
  go_wp2_with (go_at_call 79; (with_reducible refine (D.out _ (by (repeat' (first | (with_reducible exact Below.refl _ _) | (with_reducible refine Below.setCell ?_ (by first | omega | (simp; done) | (simp; omega)) _) | (with_reducible refine Below.alloc ?_ (by first | omega | (simp; done) | (simp; omega)) _) | (with_reducible refine Below.drew ?_) | (with_reducible refine below_drewN ?_ _) | (with_reducible refine Below.trans ?_ (Below.mono (by assumption) (by first | omega | (simp; done) | (simp; omega)))))))).mono ?_); rintro e w1 ⟨g, c, rfl, hr, hg, hc1, hm1, hb⟩; have HRo := Lib.hid hr; clear hr; obtain ⟨hc, hf, hz⟩ := bcall hb; (try simp at hc hf hz hg))
  go_ret
  have hl := HRo.out.1
  have hB : Below w.heap.size w (w1.setCell ⟨w.heap.size, 2, none⟩ (.slice (some ⟨g, 0, none⟩) n c)) := by (repeat' (first | (with_reducible exact Below.refl _ _) | (with_reducible refine Below.setCell ?_ (by first | omega | (simp; done) | (simp; omega)) _) | (with_reducible refine Below.alloc ?_ (by first | omega | (simp; done) | (simp; omega)) _) | (with_reducible refine Below.drew ?_) | (with_reducible refine below_drewN ?_ _) | (with_reducible refine Below.trans ?_ (Below.mono (by assumption) (by first | omega | (simp; done) | (simp; omega))))))
  have x : Ex (fun k => k = w.heap.size) w1 (w1.setCell ⟨w.heap.size, 2, none⟩ (.slice (some ⟨g, 0, none⟩) n c)) := by refine Ex.setCell (Ex.refl _ w1) ?_ _; rfl
  have q := tun_new (W := W) (H := H) (ck := ck) (rc := rc) (c := c) (bv := .slice ab nb cb) hB (HRo.out.ex x (by omega)) (by omega) hbk HN.out hrb HR.out HT.out
  rw [show (w1.setCell ⟨w.heap.size, 2, none⟩ (.slice (some ⟨g, 0, none⟩) n c)).heap.size = w1.heap.size from by simp] at q
  exact ⟨_, rfl, Lib.hid q, hB.alloc hB.size _⟩
end Go.Proofs.YtnpmlbhlchoolaaDoor
