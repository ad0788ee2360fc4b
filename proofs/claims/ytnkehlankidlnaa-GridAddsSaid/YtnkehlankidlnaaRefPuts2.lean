/- Put and Take: by the reference. -/
import Derived.Test.YtnkehlankidlnaaRefPuts
namespace Go.Proofs.Ytnkehlankidlnaa
set_option linter.unusedSimpArgs false
set_option linter.unusedVariables false
open Go.RowKit
attribute [local irreducible] wpStill

set_option maxRecDepth 100000 in
set_option maxHeartbeats 2000000 in
theorem weight2_any (b off n cap : Nat) (G : Nat → Nat → Int) (w : World) (hn : n ≤ 100000) (hok : ∀ i, i < n → 0 ≤ G i 0 ∧ G i 0 ≤ 2000000000 ∧ 0 ≤ G i 1 ∧ G i 1 ≤ 2000000000 ∧ 0 ≤ G i 2 ∧ G i 2 ≤ 2000000000 ∧ 0 ≤ G i 3 ∧ G i 3 ≤ 2000000000) (hlt : b < w.heap.size) (hG : Grd w b off n G) :
    Calls Try.prog 75 #[.slice (some ⟨b, off, none⟩) n cap] w fun e w' => e = .returned (.int .i64 (wt G n)) ∧ Below w.heap.size w w' := by
  have HO := Lib.hid hok; clear hok
  have HG := Lib.hid hG; clear hG
  go_enter Try.func75, Try.ntmps75
  go_wp2
  go_loopw [3, 4] (fun t i wr => ∃ k : Nat, k ≤ n ∧ i = .int .i64 k ∧ t = .int .i64 (wt G k) ∧ Below w.heap.size w wr) (fun _ i _ => n - (intOf i).toNat)
  case atStart => exact ⟨0, Nat.zero_le _, rfl, rfl, Below.refl _ _⟩
  case round =>
    obtain ⟨k, hk, rfl, rfl, hB⟩ := hrel
    by_cases hlk : k < n
    · obtain ⟨c0, c1, c2, c3⟩ := HG.out.get hB hlt hlk
      obtain ⟨x0, y0, x1, y1, x2, y2, x3, y3⟩ := HO.out k hlk
      obtain ⟨w10, w11⟩ := wt_bd2 HO.out k hk
      have p0 : (0 : Int) ≤ (k : Int) := by omega
      have p1 : (k : Int) < (n : Int) := by omega
      have s1 : IntKind.i64.wrap (wt G k + G k 0) = wt G k + G k 0 := IntWalk.i64_in _ ⟨by omega, by omega⟩
      have s2 : IntKind.i64.wrap (wt G k + G k 0 + G k 1) = wt G k + G k 0 + G k 1 := IntWalk.i64_in _ ⟨by omega, by omega⟩
      have s3 : IntKind.i64.wrap (wt G k + G k 0 + G k 1 + G k 2) = wt G k + G k 0 + G k 1 + G k 2 := IntWalk.i64_in _ ⟨by omega, by omega⟩
      have s4 : IntKind.i64.wrap (wt G k + G k 0 + G k 1 + G k 2 + G k 3) = wt G k + G k 0 + G k 1 + G k 2 + G k 3 := IntWalk.i64_in _ ⟨by omega, by omega⟩
      go_wp2
      go_quiet (fail)
      clear s1 s2 s3 s4
      go_wp2
      go_roundw
      case rel => exact ⟨k + 1, by omega, by go_num, congrArg (Value.int IntKind.i64) (show wt G k + G k 0 + G k 1 + G k 2 + G k 3 = wt G k + (G k 0 + G k 1 + G k 2 + G k 3) by omega), below_drewN hB _⟩
      case measure => simp [intOf]; omega
    · obtain rfl : n = k := by omega
      go_wp2
      go_ret
      exact ⟨rfl, hB⟩

theorem upd_bd {G : Nat → Nat → Int} {n q d : Nat} {v : Int} (hO : OkG n G) (hq : q < n) (hd : d < 4) (v0 : 0 ≤ v) (v1 : v ≤ 1000000000) : ∀ i, i < n → 0 ≤ upd G q d (G q d + v) i 0 ∧ upd G q d (G q d + v) i 0 ≤ 2000000000 ∧ 0 ≤ upd G q d (G q d + v) i 1 ∧ upd G q d (G q d + v) i 1 ≤ 2000000000 ∧ 0 ≤ upd G q d (G q d + v) i 2 ∧ upd G q d (G q d + v) i 2 ≤ 2000000000 ∧ 0 ≤ upd G q d (G q d + v) i 3 ∧ upd G q d (G q d + v) i 3 ≤ 2000000000 := by
  intro i hi
  have h2 := hO.2
  have each : ∀ e, e < 4 → 0 ≤ upd G q d (G q d + v) i e ∧ upd G q d (G q d + v) i e ≤ 2000000000 := by
    intro e he
    obtain ⟨a, b⟩ := pop_le hO hi he
    obtain ⟨a', b'⟩ := pop_le hO hq hd
    unfold upd
    split <;> omega
  exact ⟨(each 0 (by omega)).1, (each 0 (by omega)).2, (each 1 (by omega)).1, (each 1 (by omega)).2, (each 2 (by omega)).1, (each 2 (by omega)).2, (each 3 (by omega)).1, (each 3 (by omega)).2⟩
theorem wt_upd {G : Nat → Nat → Int} {n q d : Nat} {x : Int} (hq : q < n) (hd : d < 4) : wt (upd G q d x) n = wt G n + (x - G q d) := by
  have := wt_at (G := G) (K := upd G q d x) hq hd (fun j _ e _ h => upd_other G x h)
  rw [upd_same] at this
  exact this

/-- The world behind a copy that is stored over the argument. -/
theorem copied_world {w wo : World} {W H px py : Int} {b off n cap o co : Nat} (hb : Below (((w.alloc (.cells #[.int .i64 W, .int .i64 H, .slice (some ⟨b, off, none⟩) n cap] 40)).alloc (.cells #[.int .i64 px, .int .i64 py] 47)).alloc (.cells #[.int .i64 0, .int .i64 0, .slice none 0 0] 40)).heap.size (((w.alloc (.cells #[.int .i64 W, .int .i64 H, .slice (some ⟨b, off, none⟩) n cap] 40)).alloc (.cells #[.int .i64 px, .int .i64 py] 47)).alloc (.cells #[.int .i64 0, .int .i64 0, .slice none 0 0] 40)) wo)
    {w0 : World} (hw : w0 = ((wo.setCell ⟨w.heap.size, 0, none⟩ (.int .i64 W)).setCell ⟨w.heap.size, 1, none⟩ (.int .i64 H)).setCell ⟨w.heap.size, 2, none⟩ (.slice (some ⟨o, 0, none⟩) n co)) :
    Three w0 w.heap.size 40 (.int .i64 W) (.int .i64 H) (.slice (some ⟨o, 0, none⟩) n co) ∧ Two w0 (w.heap.size + 1) 47 (.int .i64 px) (.int .i64 py) ∧ Three w0 (w.heap.size + 2) 40 (.int .i64 0) (.int .i64 0) (.slice none 0 0) ∧ Ex (fun k => k = w.heap.size) wo w0 := by
  subst hw
  have x : Ex (fun k => k = w.heap.size) wo (((wo.setCell ⟨w.heap.size, 0, none⟩ (.int .i64 W)).setCell ⟨w.heap.size, 1, none⟩ (.int .i64 H)).setCell ⟨w.heap.size, 2, none⟩ (.slice (some ⟨o, 0, none⟩) n co)) := three_ex
  have t0 := (Three.new3 w 40 (.int .i64 W) (.int .i64 H) (.slice (some ⟨b, off, none⟩) n cap) (.cells #[.int .i64 px, .int .i64 py] 47) (.cells #[.int .i64 0, .int .i64 0, .slice none 0 0] 40)).below hb (by simp; omega)
  have t1 := Two.at (((Two.new (w.alloc (.cells #[.int .i64 W, .int .i64 H, .slice (some ⟨b, off, none⟩) n cap] 40)) 47 (.int .i64 px) (.int .i64 py)).alloc (.cells #[.int .i64 0, .int .i64 0, .slice none 0 0] 40)).below hb (by simp)) (show _ = w.heap.size + 1 by simp)
  have t2 := Three.at ((Three.new0 ((w.alloc (.cells #[.int .i64 W, .int .i64 H, .slice (some ⟨b, off, none⟩) n cap] 40)).alloc (.cells #[.int .i64 px, .int .i64 py] 47)) 40 (.int .i64 0) (.int .i64 0) (.slice none 0 0)).below hb (by simp)) (show _ = w.heap.size + 2 by simp)
  exact ⟨t0.set, (x.block _ t1.lt (by omega)).trans t1, t2.ex x (by omega), x⟩

set_option maxRecDepth 100000 in
set_option maxHeartbeats 8000000 in
theorem rPut_ok (W H n cap : Nat) (ao : Option Addr) (G : Nat → Nat → Int) (px py v : Int) (q d : Nat) (w : World) (s : Sides W H n) (hO : OkG n G) (hC : CellsIn w ao n G) (hp : Pop W H px py d) (hq : q < n) (hd : d < 4) (hpl : px + (W : Int) * py = q) (hv : Cnt v) (hl : wt G n + v ≤ 1000000000) :
    Calls Try.prog 28 #[.agg #[.int .i64 W, .int .i64 H, .slice (ao) n cap], .agg #[.int .i64 px, .int .i64 py], .int .i64 d, .int .i64 v] w (Made W H n (upd G q d (G q d + v)) w) := by
  obtain ⟨b, off, rfl, hlt, hG⟩ := cells_of s hC
  have hn1 := s.n1
  have hn0 := row_of s
  have E := Lib.hid (fun w' (hb : Below w.heap.size w w') => pErr_ok W H (some ⟨b, off, none⟩) n cap G px py d v w' (vg_of s hO) (hC.below hb) hp hv)
  have D := Lib.hid (fun w' (hb : Below w.heap.size w w') => rCopy_any W H b off n cap G w' hn0 (by omega) (Nat.lt_of_lt_of_le hlt hb.size) (hG.below hb hlt))
  have HU := Lib.hid (upd_bd hO hq hd hv.1 hv.2)
  have WU := Lib.hid (show wt (upd G q d (G q d + v)) n = wt G n + v by rw [wt_upd hq hd]; omega)
  obtain ⟨M, hM⟩ : ∃ M, (W : Int) * py = M := ⟨_, rfl⟩
  have m0 : 0 ≤ M := by rw [← hM]; exact Int.mul_nonneg (by omega) hp.2.2.1
  have x0 := hp.1
  rw [hM] at hpl
  have m1 : M ≤ 1024 := by omega
  have x1 : px ≤ 1024 := by omega
  have s1 : IntKind.i64.wrap M = M := IntWalk.i64_in _ ⟨by omega, by omega⟩
  have s2 : IntKind.i64.wrap (q : Int) = (q : Int) := IntWalk.i64_in _ ⟨by omega, by omega⟩
  obtain ⟨v0, v1⟩ := hv
  have g0 := (pop_le hO hq hd).1
  have g1 := (pop_le hO hq hd).2
  have g2 := hO.2
  have g3 : G q d ≤ 1000000000 := by omega
  have w0' := (wt_le hO.1 n (Nat.le_refl _)).1
  have sv : IntKind.i64.wrap (G q d + v) = G q d + v := IntWalk.i64_in _ ⟨by omega, by omega⟩
  have i0 : (0 : Int) ≤ (q : Int) := by omega
  have i1 : (q : Int) < (n : Int) := by omega
  have i2 : (0 : Int) ≤ (d : Int) := by omega
  have i3 : (d : Int) < 4 := by omega
  clear s hO hC hG hp
  go_enter Try.func28, Try.ntmps28
  go_wp2_with (go_at_call 73; (with_reducible refine (E.out _ (by (repeat' (first | (with_reducible exact Below.refl _ _) | (with_reducible refine Below.setCell ?_ (by first | omega | (simp; done) | (simp; omega)) _) | (with_reducible refine Below.alloc ?_ (by first | omega | (simp; done) | (simp; omega)) _) | (with_reducible refine Below.drew ?_) | (with_reducible refine below_drewN ?_ _) | (with_reducible refine Below.trans ?_ (Below.mono (by assumption) (by first | omega | (simp; done) | (simp; omega)))))))).mono ?_); rintro e w1 ⟨rfl, hb⟩; obtain ⟨hc, hf, hz⟩ := bcall hb; (try simp at hc hf hz))
  have hb1 := hb
  (go_at_call 74; (with_reducible refine (D.out _ (by (repeat' (first | (with_reducible exact Below.refl _ _) | (with_reducible refine Below.setCell ?_ (by first | omega | (simp; done) | (simp; omega)) _) | (with_reducible refine Below.alloc ?_ (by first | omega | (simp; done) | (simp; omega)) _) | (with_reducible refine Below.drew ?_) | (with_reducible refine below_drewN ?_ _) | (with_reducible refine Below.trans ?_ (Below.mono (by assumption) (by first | omega | (simp; done) | (simp; omega)))))))).mono ?_); rintro e wo ⟨o, co, rfl, ho, lo, hb2⟩)
  have hbo := hb1.trans (hb2.mono (by simp; omega))
  have HB0 := Lib.hid (show Below w.heap.size w wo from by (repeat' (first | (with_reducible exact Below.refl _ _) | (with_reducible refine Below.setCell ?_ (by first | omega | (simp; done) | (simp; omega)) _) | (with_reducible refine Below.alloc ?_ (by first | omega | (simp; done) | (simp; omega)) _) | (with_reducible refine Below.drew ?_) | (with_reducible refine below_drewN ?_ _) | (with_reducible refine Below.trans ?_ (Below.mono (by assumption) (by first | omega | (simp; done) | (simp; omega)))))))
  obtain ⟨w0, hw0'⟩ : ∃ w0, w0 = ((wo.setCell ⟨w.heap.size, 0, none⟩ (.int .i64 W)).setCell ⟨w.heap.size, 1, none⟩ (.int .i64 H)).setCell ⟨w.heap.size, 2, none⟩ (.slice (some ⟨o, 0, none⟩) n co) := ⟨_, rfl⟩
  obtain ⟨t0, t1, t2, x0'⟩ := copied_world hbo hw0'
  have hro := ho.ex x0' (by omega)
  have lo' : w.heap.size + 2 < o := by omega
  obtain ⟨hcO, hfO, hzO⟩ := bcall hb2
  clear hb hb1 hb2 hbo ho D E
  go_wp2
  rw [← hw0']
  have HB := Lib.hid (HB0.out.trans (x0'.below HB0.out.size (fun k hk => by omega)))
  clear hw0' x0' HB0 hcO hfO hzO hc hf
  have c0 := t0.c0
  have c2 := t0.c2
  have p0 := t1.c0
  have p1 := t1.c1
  have a0 := (hro.at hq hd).1
  have f0 := (hro.at hq hd).2
  have l0 := t0.lt
  have l1 := t1.lt
  have l2 := t2.lt
  have lr := hro.1
  have HT := Lib.hid t0
  have H2 := Lib.hid t2
  have HP := Lib.hid t1
  have HR := Lib.hid hro
  clear t0 t1 t2 hro hz
  have HW := Lib.hid (fun w' hlt' hG' => weight2_any o 0 n co (upd G q d (G q d + v)) w' (by omega) HU.out hlt' hG')
  rw [WU.out] at HW
  refine still_tail 18 (by kernel_rfl) (by kernel_rfl) ?_
  simp only [List.take_succ_cons, List.take_zero, List.drop_succ_cons, List.drop_zero]
  (iterate 18 still_step)
  refine wpStill_nil ?_
  have x5 : Ex (fun k => k = o) w0 (w0.setCell ⟨o, q * 4 + d, none⟩ (.int .i64 (G q d + v))).drew := (Ex.setCell (p := ⟨o, q * 4 + d, none⟩) (Ex.refl (fun k => k = o) w0) (show (fun k => k = o) o from rfl) _).drew
  have hr5 : Row (w0.setCell ⟨o, q * 4 + d, none⟩ (.int .i64 (G q d + v))).drew o n (upd G q d (G q d + v)) := (HR.out.set hq hd _ rfl).ex ((Ex.refl (fun _ => False) _).drew) (fun h => h)
  have HB5 := Lib.hid (HB.out.trans (x5.below HB.out.size (fun k hk => by omega)))
  have HR5 := Lib.hid hr5
  have q0 : w0.cell? ⟨w.heap.size + 1 + 1, 0, none⟩ = _ := H2.out.c0
  have q1 : w0.cell? ⟨w.heap.size + 1 + 1, 1, none⟩ = _ := H2.out.c1
  have q2 : w0.cell? ⟨w.heap.size + 1 + 1, 2, none⟩ = _ := H2.out.c2
  have r0 : w0.frozen? ⟨w.heap.size + 1 + 1, 0, none⟩ = _ := H2.out.free 0
  have r1 : w0.frozen? ⟨w.heap.size + 1 + 1, 1, none⟩ = _ := H2.out.free 1
  have r2 : w0.frozen? ⟨w.heap.size + 1 + 1, 2, none⟩ = _ := H2.out.free 2
  have c1 := HT.out.c1
  have l2' : w.heap.size + 1 + 1 < w0.heap.size := l2
  clear x5 hr5
  go_wp2_with fail
  go_at_call 75
  refine (HW.out _ HR5.out.1 HR5.out.grd).mono ?_
  rintro e w7 ⟨rfl, hb7⟩
  obtain ⟨hc7, hf7, hz7⟩ := bcall hb7
  (try simp at hc7 hf7 hz7)
  go_wp2
  refine bodyPost_ret (v := .tuple #[.agg #[.int .i64 W, .int .i64 H, .slice (some ⟨o, 0, none⟩) n co], .int .i64 0]) (by simp [results, Try.results28, go_sem, ↓IntWalk.iteOmega, *]) rfl ?_
  exact made_pass (HR5.out.cellsIn.below hb7) (HB5.out.trans (hb7.mono (HB5.out.size))) (by omega) (by omega)

set_option maxRecDepth 100000 in
set_option maxHeartbeats 8000000 in
theorem rPut_limit (W H n cap : Nat) (ao : Option Addr) (G : Nat → Nat → Int) (px py v : Int) (q d : Nat) (w : World) (s : Sides W H n) (hO : OkG n G) (hC : CellsIn w ao n G) (hp : Pop W H px py d) (hq : q < n) (hd : d < 4) (hpl : px + (W : Int) * py = q) (hv : Cnt v) (hl : ¬ wt G n + v ≤ 1000000000) :
    Calls Try.prog 28 #[.agg #[.int .i64 W, .int .i64 H, .slice (ao) n cap], .agg #[.int .i64 px, .int .i64 py], .int .i64 d, .int .i64 v] w fun e w' => e = .returned (.tuple #[.agg #[.int .i64 0, .int .i64 0, .slice (none) 0 0], .int .i64 4]) ∧ Below w.heap.size w w' := by
  obtain ⟨b, off, rfl, hlt, hG⟩ := cells_of s hC
  have hn1 := s.n1
  have hn0 := row_of s
  have E := Lib.hid (fun w' (hb : Below w.heap.size w w') => pErr_ok W H (some ⟨b, off, none⟩) n cap G px py d v w' (vg_of s hO) (hC.below hb) hp hv)
  have D := Lib.hid (fun w' (hb : Below w.heap.size w w') => rCopy_any W H b off n cap G w' hn0 (by omega) (Nat.lt_of_lt_of_le hlt hb.size) (hG.below hb hlt))
  have HU := Lib.hid (upd_bd hO hq hd hv.1 hv.2)
  have WU := Lib.hid (show wt (upd G q d (G q d + v)) n = wt G n + v by rw [wt_upd hq hd]; omega)
  obtain ⟨M, hM⟩ : ∃ M, (W : Int) * py = M := ⟨_, rfl⟩
  have m0 : 0 ≤ M := by rw [← hM]; exact Int.mul_nonneg (by omega) hp.2.2.1
  have x0 := hp.1
  rw [hM] at hpl
  have m1 : M ≤ 1024 := by omega
  have x1 : px ≤ 1024 := by omega
  have s1 : IntKind.i64.wrap M = M := IntWalk.i64_in _ ⟨by omega, by omega⟩
  have s2 : IntKind.i64.wrap (q : Int) = (q : Int) := IntWalk.i64_in _ ⟨by omega, by omega⟩
  obtain ⟨v0, v1⟩ := hv
  have g0 := (pop_le hO hq hd).1
  have g1 := (pop_le hO hq hd).2
  have g2 := hO.2
  have g3 : G q d ≤ 1000000000 := by omega
  have w0' := (wt_le hO.1 n (Nat.le_refl _)).1
  have sv : IntKind.i64.wrap (G q d + v) = G q d + v := IntWalk.i64_in _ ⟨by omega, by omega⟩
  have i0 : (0 : Int) ≤ (q : Int) := by omega
  have i1 : (q : Int) < (n : Int) := by omega
  have i2 : (0 : Int) ≤ (d : Int) := by omega
  have i3 : (d : Int) < 4 := by omega
  clear s hO hC hG hp
  go_enter Try.func28, Try.ntmps28
  go_wp2_with (go_at_call 73; (with_reducible refine (E.out _ (by (repeat' (first | (with_reducible exact Below.refl _ _) | (with_reducible refine Below.setCell ?_ (by first | omega | (simp; done) | (simp; omega)) _) | (with_reducible refine Below.alloc ?_ (by first | omega | (simp; done) | (simp; omega)) _) | (with_reducible refine Below.drew ?_) | (with_reducible refine below_drewN ?_ _) | (with_reducible refine Below.trans ?_ (Below.mono (by assumption) (by first | omega | (simp; done) | (simp; omega)))))))).mono ?_); rintro e w1 ⟨rfl, hb⟩; obtain ⟨hc, hf, hz⟩ := bcall hb; (try simp at hc hf hz))
  have hb1 := hb
  (go_at_call 74; (with_reducible refine (D.out _ (by (repeat' (first | (with_reducible exact Below.refl _ _) | (with_reducible refine Below.setCell ?_ (by first | omega | (simp; done) | (simp; omega)) _) | (with_reducible refine Below.alloc ?_ (by first | omega | (simp; done) | (simp; omega)) _) | (with_reducible refine Below.drew ?_) | (with_reducible refine below_drewN ?_ _) | (with_reducible refine Below.trans ?_ (Below.mono (by assumption) (by first | omega | (simp; done) | (simp; omega)))))))).mono ?_); rintro e wo ⟨o, co, rfl, ho, lo, hb2⟩)
  have hbo := hb1.trans (hb2.mono (by simp; omega))
  have HB0 := Lib.hid (show Below w.heap.size w wo from by (repeat' (first | (with_reducible exact Below.refl _ _) | (with_reducible refine Below.setCell ?_ (by first | omega | (simp; done) | (simp; omega)) _) | (with_reducible refine Below.alloc ?_ (by first | omega | (simp; done) | (simp; omega)) _) | (with_reducible refine Below.drew ?_) | (with_reducible refine below_drewN ?_ _) | (with_reducible refine Below.trans ?_ (Below.mono (by assumption) (by first | omega | (simp; done) | (simp; omega)))))))
  obtain ⟨w0, hw0'⟩ : ∃ w0, w0 = ((wo.setCell ⟨w.heap.size, 0, none⟩ (.int .i64 W)).setCell ⟨w.heap.size, 1, none⟩ (.int .i64 H)).setCell ⟨w.heap.size, 2, none⟩ (.slice (some ⟨o, 0, none⟩) n co) := ⟨_, rfl⟩
  obtain ⟨t0, t1, t2, x0'⟩ := copied_world hbo hw0'
  have hro := ho.ex x0' (by omega)
  have lo' : w.heap.size + 2 < o := by omega
  obtain ⟨hcO, hfO, hzO⟩ := bcall hb2
  clear hb hb1 hb2 hbo ho D E
  go_wp2
  rw [← hw0']
  have HB := Lib.hid (HB0.out.trans (x0'.below HB0.out.size (fun k hk => by omega)))
  clear hw0' x0' HB0 hcO hfO hzO hc hf
  have c0 := t0.c0
  have c2 := t0.c2
  have p0 := t1.c0
  have p1 := t1.c1
  have a0 := (hro.at hq hd).1
  have f0 := (hro.at hq hd).2
  have l0 := t0.lt
  have l1 := t1.lt
  have l2 := t2.lt
  have lr := hro.1
  have HT := Lib.hid t0
  have H2 := Lib.hid t2
  have HP := Lib.hid t1
  have HR := Lib.hid hro
  clear t0 t1 t2 hro hz
  have HW := Lib.hid (fun w' hlt' hG' => weight2_any o 0 n co (upd G q d (G q d + v)) w' (by omega) HU.out hlt' hG')
  rw [WU.out] at HW
  refine still_tail 18 (by kernel_rfl) (by kernel_rfl) ?_
  simp only [List.take_succ_cons, List.take_zero, List.drop_succ_cons, List.drop_zero]
  (iterate 18 still_step)
  refine wpStill_nil ?_
  have x5 : Ex (fun k => k = o) w0 (w0.setCell ⟨o, q * 4 + d, none⟩ (.int .i64 (G q d + v))).drew := (Ex.setCell (p := ⟨o, q * 4 + d, none⟩) (Ex.refl (fun k => k = o) w0) (show (fun k => k = o) o from rfl) _).drew
  have hr5 : Row (w0.setCell ⟨o, q * 4 + d, none⟩ (.int .i64 (G q d + v))).drew o n (upd G q d (G q d + v)) := (HR.out.set hq hd _ rfl).ex ((Ex.refl (fun _ => False) _).drew) (fun h => h)
  have HB5 := Lib.hid (HB.out.trans (x5.below HB.out.size (fun k hk => by omega)))
  have HR5 := Lib.hid hr5
  have q0 : w0.cell? ⟨w.heap.size + 1 + 1, 0, none⟩ = _ := H2.out.c0
  have q1 : w0.cell? ⟨w.heap.size + 1 + 1, 1, none⟩ = _ := H2.out.c1
  have q2 : w0.cell? ⟨w.heap.size + 1 + 1, 2, none⟩ = _ := H2.out.c2
  have r0 : w0.frozen? ⟨w.heap.size + 1 + 1, 0, none⟩ = _ := H2.out.free 0
  have r1 : w0.frozen? ⟨w.heap.size + 1 + 1, 1, none⟩ = _ := H2.out.free 1
  have r2 : w0.frozen? ⟨w.heap.size + 1 + 1, 2, none⟩ = _ := H2.out.free 2
  have c1 := HT.out.c1
  have l2' : w.heap.size + 1 + 1 < w0.heap.size := l2
  clear x5 hr5
  go_wp2_with fail
  go_at_call 75
  refine (HW.out _ HR5.out.1 HR5.out.grd).mono ?_
  rintro e w7 ⟨rfl, hb7⟩
  obtain ⟨hc7, hf7, hz7⟩ := bcall hb7
  (try simp at hc7 hf7 hz7)
  go_wp2
  refine bodyPost_ret (v := .tuple #[.agg #[.int .i64 0, .int .i64 0, .slice (none) 0 0], .int .i64 4]) (by simp [results, Try.results28, go_sem, ↓IntWalk.iteOmega, *]) rfl ⟨rfl, ?_⟩
  have hE := HB.out
  (repeat' (first | (with_reducible exact Below.refl _ _) | (with_reducible refine Below.setCell ?_ (by first | omega | (simp; done) | (simp; omega)) _) | (with_reducible refine Below.alloc ?_ (by first | omega | (simp; done) | (simp; omega)) _) | (with_reducible refine Below.drew ?_) | (with_reducible refine below_drewN ?_ _) | (with_reducible refine Below.trans ?_ (Below.mono (by assumption) (by first | omega | (simp; done) | (simp; omega))))))

set_option maxRecDepth 100000 in
set_option maxHeartbeats 8000000 in
theorem rTake_ok (W H n cap : Nat) (ao : Option Addr) (G : Nat → Nat → Int) (px py v : Int) (q d : Nat) (w : World) (s : Sides W H n) (hO : OkG n G) (hC : CellsIn w ao n G) (hp : Pop W H px py d) (hq : q < n) (hd : d < 4) (hpl : px + (W : Int) * py = q) (hv : Cnt v) (hl : v ≤ G q d) :
    Calls Try.prog 30 #[.agg #[.int .i64 W, .int .i64 H, .slice (ao) n cap], .agg #[.int .i64 px, .int .i64 py], .int .i64 d, .int .i64 v] w (Made W H n (upd G q d (G q d - v)) w) := by
  obtain ⟨b, off, rfl, hlt, hG⟩ := cells_of s hC
  have hn1 := s.n1
  have hn0 := row_of s
  have E := Lib.hid (fun w' (hb : Below w.heap.size w w') => pErr_ok W H (some ⟨b, off, none⟩) n cap G px py d v w' (vg_of s hO) (hC.below hb) hp hv)
  have D := Lib.hid (fun w' (hb : Below w.heap.size w w') => rCopy_any W H b off n cap G w' hn0 (by omega) (Nat.lt_of_lt_of_le hlt hb.size) (hG.below hb hlt))
  have HU := Lib.hid (upd_bd hO hq hd hv.1 hv.2)
  have WU := Lib.hid (show wt (upd G q d (G q d + v)) n = wt G n + v by rw [wt_upd hq hd]; omega)
  obtain ⟨M, hM⟩ : ∃ M, (W : Int) * py = M := ⟨_, rfl⟩
  have m0 : 0 ≤ M := by rw [← hM]; exact Int.mul_nonneg (by omega) hp.2.2.1
  have x0 := hp.1
  rw [hM] at hpl
  have m1 : M ≤ 1024 := by omega
  have x1 : px ≤ 1024 := by omega
  have s1 : IntKind.i64.wrap M = M := IntWalk.i64_in _ ⟨by omega, by omega⟩
  have s2 : IntKind.i64.wrap (q : Int) = (q : Int) := IntWalk.i64_in _ ⟨by omega, by omega⟩
  obtain ⟨v0, v1⟩ := hv
  have g0 := (pop_le hO hq hd).1
  have g1 := (pop_le hO hq hd).2
  have g2 := hO.2
  have g3 : G q d ≤ 1000000000 := by omega
  have w0' := (wt_le hO.1 n (Nat.le_refl _)).1
  have sv : IntKind.i64.wrap (G q d - v) = G q d - v := IntWalk.i64_in _ ⟨by omega, by omega⟩
  have i0 : (0 : Int) ≤ (q : Int) := by omega
  have i1 : (q : Int) < (n : Int) := by omega
  have i2 : (0 : Int) ≤ (d : Int) := by omega
  have i3 : (d : Int) < 4 := by omega
  clear s hO hC hG hp
  go_enter Try.func30, Try.ntmps30
  go_wp2_with (go_at_call 73; (with_reducible refine (E.out _ (by (repeat' (first | (with_reducible exact Below.refl _ _) | (with_reducible refine Below.setCell ?_ (by first | omega | (simp; done) | (simp; omega)) _) | (with_reducible refine Below.alloc ?_ (by first | omega | (simp; done) | (simp; omega)) _) | (with_reducible refine Below.drew ?_) | (with_reducible refine below_drewN ?_ _) | (with_reducible refine Below.trans ?_ (Below.mono (by assumption) (by first | omega | (simp; done) | (simp; omega)))))))).mono ?_); rintro e w1 ⟨rfl, hb⟩; obtain ⟨hc, hf, hz⟩ := bcall hb; (try simp at hc hf hz))
  have hb1 := hb
  (go_at_call 74; (with_reducible refine (D.out _ (by (repeat' (first | (with_reducible exact Below.refl _ _) | (with_reducible refine Below.setCell ?_ (by first | omega | (simp; done) | (simp; omega)) _) | (with_reducible refine Below.alloc ?_ (by first | omega | (simp; done) | (simp; omega)) _) | (with_reducible refine Below.drew ?_) | (with_reducible refine below_drewN ?_ _) | (with_reducible refine Below.trans ?_ (Below.mono (by assumption) (by first | omega | (simp; done) | (simp; omega)))))))).mono ?_); rintro e wo ⟨o, co, rfl, ho, lo, hb2⟩)
  have hbo := hb1.trans (hb2.mono (by simp; omega))
  have HB0 := Lib.hid (show Below w.heap.size w wo from by (repeat' (first | (with_reducible exact Below.refl _ _) | (with_reducible refine Below.setCell ?_ (by first | omega | (simp; done) | (simp; omega)) _) | (with_reducible refine Below.alloc ?_ (by first | omega | (simp; done) | (simp; omega)) _) | (with_reducible refine Below.drew ?_) | (with_reducible refine below_drewN ?_ _) | (with_reducible refine Below.trans ?_ (Below.mono (by assumption) (by first | omega | (simp; done) | (simp; omega)))))))
  obtain ⟨w0, hw0'⟩ : ∃ w0, w0 = ((wo.setCell ⟨w.heap.size, 0, none⟩ (.int .i64 W)).setCell ⟨w.heap.size, 1, none⟩ (.int .i64 H)).setCell ⟨w.heap.size, 2, none⟩ (.slice (some ⟨o, 0, none⟩) n co) := ⟨_, rfl⟩
  obtain ⟨t0, t1, t2, x0'⟩ := copied_world hbo hw0'
  have hro := ho.ex x0' (by omega)
  have lo' : w.heap.size + 2 < o := by omega
  obtain ⟨hcO, hfO, hzO⟩ := bcall hb2
  clear hb hb1 hb2 hbo ho D E
  go_wp2
  rw [← hw0']
  have HB := Lib.hid (HB0.out.trans (x0'.below HB0.out.size (fun k hk => by omega)))
  clear hw0' x0' HB0 hcO hfO hzO hc hf
  have c0 := t0.c0
  have c2 := t0.c2
  have p0 := t1.c0
  have p1 := t1.c1
  have a0 := (hro.at hq hd).1
  have f0 := (hro.at hq hd).2
  have l0 := t0.lt
  have l1 := t1.lt
  have l2 := t2.lt
  have lr := hro.1
  have HT := Lib.hid t0
  have H2 := Lib.hid t2
  have HP := Lib.hid t1
  have HR := Lib.hid hro
  clear t0 t1 t2 hro hz
  refine still_tail 18 (by kernel_rfl) (by kernel_rfl) ?_
  simp only [List.take_succ_cons, List.take_zero, List.drop_succ_cons, List.drop_zero]
  (iterate 18 still_step)
  refine wpStill_nil ?_
  have x5 : Ex (fun k => k = o) w0 (w0.setCell ⟨o, q * 4 + d, none⟩ (.int .i64 (G q d - v))).drew := (Ex.setCell (p := ⟨o, q * 4 + d, none⟩) (Ex.refl (fun k => k = o) w0) (show (fun k => k = o) o from rfl) _).drew
  have hr5 : Row (w0.setCell ⟨o, q * 4 + d, none⟩ (.int .i64 (G q d - v))).drew o n (upd G q d (G q d - v)) := (HR.out.set hq hd _ rfl).ex ((Ex.refl (fun _ => False) _).drew) (fun h => h)
  have HB5 := Lib.hid (HB.out.trans (x5.below HB.out.size (fun k hk => by omega)))
  have HR5 := Lib.hid hr5
  have q0 : w0.cell? ⟨w.heap.size + 1 + 1, 0, none⟩ = _ := H2.out.c0
  have q1 : w0.cell? ⟨w.heap.size + 1 + 1, 1, none⟩ = _ := H2.out.c1
  have q2 : w0.cell? ⟨w.heap.size + 1 + 1, 2, none⟩ = _ := H2.out.c2
  have r0 : w0.frozen? ⟨w.heap.size + 1 + 1, 0, none⟩ = _ := H2.out.free 0
  have r1 : w0.frozen? ⟨w.heap.size + 1 + 1, 1, none⟩ = _ := H2.out.free 1
  have r2 : w0.frozen? ⟨w.heap.size + 1 + 1, 2, none⟩ = _ := H2.out.free 2
  have c1 := HT.out.c1
  have l2' : w.heap.size + 1 + 1 < w0.heap.size := l2
  clear x5 hr5
  go_wp2
  refine bodyPost_ret (v := .tuple #[.agg #[.int .i64 W, .int .i64 H, .slice (some ⟨o, 0, none⟩) n co], .int .i64 0]) (by simp [results, Try.results30, go_sem, ↓IntWalk.iteOmega, *]) rfl ?_
  exact made_pass HR5.out.cellsIn HB5.out (by omega) (by omega)

set_option maxRecDepth 100000 in
set_option maxHeartbeats 8000000 in
theorem rTake_none (W H n cap : Nat) (ao : Option Addr) (G : Nat → Nat → Int) (px py v : Int) (q d : Nat) (w : World) (s : Sides W H n) (hO : OkG n G) (hC : CellsIn w ao n G) (hp : Pop W H px py d) (hq : q < n) (hd : d < 4) (hpl : px + (W : Int) * py = q) (hv : Cnt v) (hl : ¬ v ≤ G q d) :
    Calls Try.prog 30 #[.agg #[.int .i64 W, .int .i64 H, .slice (ao) n cap], .agg #[.int .i64 px, .int .i64 py], .int .i64 d, .int .i64 v] w fun e w' => e = .returned (.tuple #[.agg #[.int .i64 0, .int .i64 0, .slice (none) 0 0], .int .i64 8]) ∧ Below w.heap.size w w' := by
  obtain ⟨b, off, rfl, hlt, hG⟩ := cells_of s hC
  have hn1 := s.n1
  have hn0 := row_of s
  have E := Lib.hid (fun w' (hb : Below w.heap.size w w') => pErr_ok W H (some ⟨b, off, none⟩) n cap G px py d v w' (vg_of s hO) (hC.below hb) hp hv)
  have D := Lib.hid (fun w' (hb : Below w.heap.size w w') => rCopy_any W H b off n cap G w' hn0 (by omega) (Nat.lt_of_lt_of_le hlt hb.size) (hG.below hb hlt))
  have HU := Lib.hid (upd_bd hO hq hd hv.1 hv.2)
  have WU := Lib.hid (show wt (upd G q d (G q d + v)) n = wt G n + v by rw [wt_upd hq hd]; omega)
  obtain ⟨M, hM⟩ : ∃ M, (W : Int) * py = M := ⟨_, rfl⟩
  have m0 : 0 ≤ M := by rw [← hM]; exact Int.mul_nonneg (by omega) hp.2.2.1
  have x0 := hp.1
  rw [hM] at hpl
  have m1 : M ≤ 1024 := by omega
  have x1 : px ≤ 1024 := by omega
  have s1 : IntKind.i64.wrap M = M := IntWalk.i64_in _ ⟨by omega, by omega⟩
  have s2 : IntKind.i64.wrap (q : Int) = (q : Int) := IntWalk.i64_in _ ⟨by omega, by omega⟩
  obtain ⟨v0, v1⟩ := hv
  have g0 := (pop_le hO hq hd).1
  have g1 := (pop_le hO hq hd).2
  have g2 := hO.2
  have g3 : G q d ≤ 1000000000 := by omega
  have w0' := (wt_le hO.1 n (Nat.le_refl _)).1
  have sv : IntKind.i64.wrap (G q d - v) = G q d - v := IntWalk.i64_in _ ⟨by omega, by omega⟩
  have i0 : (0 : Int) ≤ (q : Int) := by omega
  have i1 : (q : Int) < (n : Int) := by omega
  have i2 : (0 : Int) ≤ (d : Int) := by omega
  have i3 : (d : Int) < 4 := by omega
  clear s hO hC hG hp
  go_enter Try.func30, Try.ntmps30
  go_wp2_with (go_at_call 73; (with_reducible refine (E.out _ (by (repeat' (first | (with_reducible exact Below.refl _ _) | (with_reducible refine Below.setCell ?_ (by first | omega | (simp; done) | (simp; omega)) _) | (with_reducible refine Below.alloc ?_ (by first | omega | (simp; done) | (simp; omega)) _) | (with_reducible refine Below.drew ?_) | (with_reducible refine below_drewN ?_ _) | (with_reducible refine Below.trans ?_ (Below.mono (by assumption) (by first | omega | (simp; done) | (simp; omega)))))))).mono ?_); rintro e w1 ⟨rfl, hb⟩; obtain ⟨hc, hf, hz⟩ := bcall hb; (try simp at hc hf hz))
  have hb1 := hb
  (go_at_call 74; (with_reducible refine (D.out _ (by (repeat' (first | (with_reducible exact Below.refl _ _) | (with_reducible refine Below.setCell ?_ (by first | omega | (simp; done) | (simp; omega)) _) | (with_reducible refine Below.alloc ?_ (by first | omega | (simp; done) | (simp; omega)) _) | (with_reducible refine Below.drew ?_) | (with_reducible refine below_drewN ?_ _) | (with_reducible refine Below.trans ?_ (Below.mono (by assumption) (by first | omega | (simp; done) | (simp; omega)))))))).mono ?_); rintro e wo ⟨o, co, rfl, ho, lo, hb2⟩)
  have hbo := hb1.trans (hb2.mono (by simp; omega))
  have HB0 := Lib.hid (show Below w.heap.size w wo from by (repeat' (first | (with_reducible exact Below.refl _ _) | (with_reducible refine Below.setCell ?_ (by first | omega | (simp; done) | (simp; omega)) _) | (with_reducible refine Below.alloc ?_ (by first | omega | (simp; done) | (simp; omega)) _) | (with_reducible refine Below.drew ?_) | (with_reducible refine below_drewN ?_ _) | (with_reducible refine Below.trans ?_ (Below.mono (by assumption) (by first | omega | (simp; done) | (simp; omega)))))))
  obtain ⟨w0, hw0'⟩ : ∃ w0, w0 = ((wo.setCell ⟨w.heap.size, 0, none⟩ (.int .i64 W)).setCell ⟨w.heap.size, 1, none⟩ (.int .i64 H)).setCell ⟨w.heap.size, 2, none⟩ (.slice (some ⟨o, 0, none⟩) n co) := ⟨_, rfl⟩
  obtain ⟨t0, t1, t2, x0'⟩ := copied_world hbo hw0'
  have hro := ho.ex x0' (by omega)
  have lo' : w.heap.size + 2 < o := by omega
  obtain ⟨hcO, hfO, hzO⟩ := bcall hb2
  clear hb hb1 hb2 hbo ho D E
  go_wp2
  rw [← hw0']
  have HB := Lib.hid (HB0.out.trans (x0'.below HB0.out.size (fun k hk => by omega)))
  clear hw0' x0' HB0 hcO hfO hzO hc hf
  have c0 := t0.c0
  have c2 := t0.c2
  have p0 := t1.c0
  have p1 := t1.c1
  have a0 := (hro.at hq hd).1
  have f0 := (hro.at hq hd).2
  have l0 := t0.lt
  have l1 := t1.lt
  have l2 := t2.lt
  have lr := hro.1
  have HT := Lib.hid t0
  have H2 := Lib.hid t2
  have HP := Lib.hid t1
  have HR := Lib.hid hro
  clear t0 t1 t2 hro hz
  refine still_tail 18 (by kernel_rfl) (by kernel_rfl) ?_
  simp only [List.take_succ_cons, List.take_zero, List.drop_succ_cons, List.drop_zero]
  (iterate 18 still_step)
  refine wpStill_nil ?_
  have x5 : Ex (fun k => k = o) w0 (w0.setCell ⟨o, q * 4 + d, none⟩ (.int .i64 (G q d - v))).drew := (Ex.setCell (p := ⟨o, q * 4 + d, none⟩) (Ex.refl (fun k => k = o) w0) (show (fun k => k = o) o from rfl) _).drew
  have hr5 : Row (w0.setCell ⟨o, q * 4 + d, none⟩ (.int .i64 (G q d - v))).drew o n (upd G q d (G q d - v)) := (HR.out.set hq hd _ rfl).ex ((Ex.refl (fun _ => False) _).drew) (fun h => h)
  have HB5 := Lib.hid (HB.out.trans (x5.below HB.out.size (fun k hk => by omega)))
  have HR5 := Lib.hid hr5
  have q0 : w0.cell? ⟨w.heap.size + 1 + 1, 0, none⟩ = _ := H2.out.c0
  have q1 : w0.cell? ⟨w.heap.size + 1 + 1, 1, none⟩ = _ := H2.out.c1
  have q2 : w0.cell? ⟨w.heap.size + 1 + 1, 2, none⟩ = _ := H2.out.c2
  have r0 : w0.frozen? ⟨w.heap.size + 1 + 1, 0, none⟩ = _ := H2.out.free 0
  have r1 : w0.frozen? ⟨w.heap.size + 1 + 1, 1, none⟩ = _ := H2.out.free 1
  have r2 : w0.frozen? ⟨w.heap.size + 1 + 1, 2, none⟩ = _ := H2.out.free 2
  have c1 := HT.out.c1
  have l2' : w.heap.size + 1 + 1 < w0.heap.size := l2
  clear x5 hr5
  go_wp2
  refine bodyPost_ret (v := .tuple #[.agg #[.int .i64 0, .int .i64 0, .slice (none) 0 0], .int .i64 8]) (by simp [results, Try.results30, go_sem, ↓IntWalk.iteOmega, *]) rfl ⟨rfl, ?_⟩
  have hE := HB.out
  (repeat' (first | (with_reducible exact Below.refl _ _) | (with_reducible refine Below.setCell ?_ (by first | omega | (simp; done) | (simp; omega)) _) | (with_reducible refine Below.alloc ?_ (by first | omega | (simp; done) | (simp; omega)) _) | (with_reducible refine Below.drew ?_) | (with_reducible refine below_drewN ?_ _) | (with_reducible refine Below.trans ?_ (Below.mono (by assumption) (by first | omega | (simp; done) | (simp; omega))))))

set_option maxHeartbeats 2000000 in
theorem rPut_range (W H : Int) (n cap : Nat) (ao : Option Addr) (G : Nat → Nat → Int) (px py d v : Int) (w : World) (hv : VG W H n G) (hC : CellsIn w ao n G) (hr : ¬ (Pop W H px py d ∧ Cnt v)) :
    Calls Try.prog 28 #[.agg #[.int .i64 W, .int .i64 H, .slice (ao) n cap], .agg #[.int .i64 px, .int .i64 py], .int .i64 d, .int .i64 v] w fun e w' => e = .returned (.tuple #[.agg #[.int .i64 0, .int .i64 0, .slice (none) 0 0], .int .i64 7]) ∧ Below w.heap.size w w' := by
  have HE := Lib.hid (fun w' (hb : Below w.heap.size w w') => pErr_range W H ao n cap G px py d v w' hv (hC.below hb) hr)
  clear hv hC hr
  go_enter Try.func28, Try.ntmps28
  go_wp2_with (go_at_call 73; (with_reducible refine (HE.out _ (by (repeat' (first | (with_reducible exact Below.refl _ _) | (with_reducible refine Below.setCell ?_ (by first | omega | (simp; done) | (simp; omega)) _) | (with_reducible refine Below.alloc ?_ (by first | omega | (simp; done) | (simp; omega)) _) | (with_reducible refine Below.drew ?_) | (with_reducible refine below_drewN ?_ _) | (with_reducible refine Below.trans ?_ (Below.mono (by assumption) (by first | omega | (simp; done) | (simp; omega)))))))).mono ?_); rintro e w1 ⟨rfl, hb⟩; obtain ⟨hc, hf, hz⟩ := bcall hb; (try simp at hc hf hz))
  refine bodyPost_ret (v := .tuple #[.agg #[.int .i64 0, .int .i64 0, .slice (none) 0 0], .int .i64 7]) (by simp [results, Try.results28, go_sem, ↓IntWalk.iteOmega, *]) rfl ⟨rfl, ?_⟩
  (repeat' (first | (with_reducible exact Below.refl _ _) | (with_reducible refine Below.setCell ?_ (by first | omega | (simp; done) | (simp; omega)) _) | (with_reducible refine Below.alloc ?_ (by first | omega | (simp; done) | (simp; omega)) _) | (with_reducible refine Below.drew ?_) | (with_reducible refine below_drewN ?_ _) | (with_reducible refine Below.trans ?_ (Below.mono (by assumption) (by first | omega | (simp; done) | (simp; omega))))))

set_option maxHeartbeats 2000000 in
theorem rPut_inv (W H : Int) (n cap : Nat) (ao : Option Addr) (G : Nat → Nat → Int) (px py d v : Int) (w : World) (hv : ¬ VG W H n G) (hC : CellsIn w ao n G) :
    Calls Try.prog 28 #[.agg #[.int .i64 W, .int .i64 H, .slice (ao) n cap], .agg #[.int .i64 px, .int .i64 py], .int .i64 d, .int .i64 v] w fun e w' => e = .returned (.tuple #[.agg #[.int .i64 0, .int .i64 0, .slice (none) 0 0], .int .i64 1]) ∧ Below w.heap.size w w' := by
  have HE := Lib.hid (fun w' (hb : Below w.heap.size w w') => pErr_inv W H ao n cap G px py d v w' hv (hC.below hb))
  clear hv hC
  go_enter Try.func28, Try.ntmps28
  go_wp2_with (go_at_call 73; (with_reducible refine (HE.out _ (by (repeat' (first | (with_reducible exact Below.refl _ _) | (with_reducible refine Below.setCell ?_ (by first | omega | (simp; done) | (simp; omega)) _) | (with_reducible refine Below.alloc ?_ (by first | omega | (simp; done) | (simp; omega)) _) | (with_reducible refine Below.drew ?_) | (with_reducible refine below_drewN ?_ _) | (with_reducible refine Below.trans ?_ (Below.mono (by assumption) (by first | omega | (simp; done) | (simp; omega)))))))).mono ?_); rintro e w1 ⟨rfl, hb⟩; obtain ⟨hc, hf, hz⟩ := bcall hb; (try simp at hc hf hz))
  refine bodyPost_ret (v := .tuple #[.agg #[.int .i64 0, .int .i64 0, .slice (none) 0 0], .int .i64 1]) (by simp [results, Try.results28, go_sem, ↓IntWalk.iteOmega, *]) rfl ⟨rfl, ?_⟩
  (repeat' (first | (with_reducible exact Below.refl _ _) | (with_reducible refine Below.setCell ?_ (by first | omega | (simp; done) | (simp; omega)) _) | (with_reducible refine Below.alloc ?_ (by first | omega | (simp; done) | (simp; omega)) _) | (with_reducible refine Below.drew ?_) | (with_reducible refine below_drewN ?_ _) | (with_reducible refine Below.trans ?_ (Below.mono (by assumption) (by first | omega | (simp; done) | (simp; omega))))))

set_option maxHeartbeats 2000000 in
theorem rTake_range (W H : Int) (n cap : Nat) (ao : Option Addr) (G : Nat → Nat → Int) (px py d v : Int) (w : World) (hv : VG W H n G) (hC : CellsIn w ao n G) (hr : ¬ (Pop W H px py d ∧ Cnt v)) :
    Calls Try.prog 30 #[.agg #[.int .i64 W, .int .i64 H, .slice (ao) n cap], .agg #[.int .i64 px, .int .i64 py], .int .i64 d, .int .i64 v] w fun e w' => e = .returned (.tuple #[.agg #[.int .i64 0, .int .i64 0, .slice (none) 0 0], .int .i64 7]) ∧ Below w.heap.size w w' := by
  have HE := Lib.hid (fun w' (hb : Below w.heap.size w w') => pErr_range W H ao n cap G px py d v w' hv (hC.below hb) hr)
  clear hv hC hr
  go_enter Try.func30, Try.ntmps30
  go_wp2_with (go_at_call 73; (with_reducible refine (HE.out _ (by (repeat' (first | (with_reducible exact Below.refl _ _) | (with_reducible refine Below.setCell ?_ (by first | omega | (simp; done) | (simp; omega)) _) | (with_reducible refine Below.alloc ?_ (by first | omega | (simp; done) | (simp; omega)) _) | (with_reducible refine Below.drew ?_) | (with_reducible refine below_drewN ?_ _) | (with_reducible refine Below.trans ?_ (Below.mono (by assumption) (by first | omega | (simp; done) | (simp; omega)))))))).mono ?_); rintro e w1 ⟨rfl, hb⟩; obtain ⟨hc, hf, hz⟩ := bcall hb; (try simp at hc hf hz))
  refine bodyPost_ret (v := .tuple #[.agg #[.int .i64 0, .int .i64 0, .slice (none) 0 0], .int .i64 7]) (by simp [results, Try.results30, go_sem, ↓IntWalk.iteOmega, *]) rfl ⟨rfl, ?_⟩
  (repeat' (first | (with_reducible exact Below.refl _ _) | (with_reducible refine Below.setCell ?_ (by first | omega | (simp; done) | (simp; omega)) _) | (with_reducible refine Below.alloc ?_ (by first | omega | (simp; done) | (simp; omega)) _) | (with_reducible refine Below.drew ?_) | (with_reducible refine below_drewN ?_ _) | (with_reducible refine Below.trans ?_ (Below.mono (by assumption) (by first | omega | (simp; done) | (simp; omega))))))

set_option maxHeartbeats 2000000 in
theorem rTake_inv (W H : Int) (n cap : Nat) (ao : Option Addr) (G : Nat → Nat → Int) (px py d v : Int) (w : World) (hv : ¬ VG W H n G) (hC : CellsIn w ao n G) :
    Calls Try.prog 30 #[.agg #[.int .i64 W, .int .i64 H, .slice (ao) n cap], .agg #[.int .i64 px, .int .i64 py], .int .i64 d, .int .i64 v] w fun e w' => e = .returned (.tuple #[.agg #[.int .i64 0, .int .i64 0, .slice (none) 0 0], .int .i64 1]) ∧ Below w.heap.size w w' := by
  have HE := Lib.hid (fun w' (hb : Below w.heap.size w w') => pErr_inv W H ao n cap G px py d v w' hv (hC.below hb))
  clear hv hC
  go_enter Try.func30, Try.ntmps30
  go_wp2_with (go_at_call 73; (with_reducible refine (HE.out _ (by (repeat' (first | (with_reducible exact Below.refl _ _) | (with_reducible refine Below.setCell ?_ (by first | omega | (simp; done) | (simp; omega)) _) | (with_reducible refine Below.alloc ?_ (by first | omega | (simp; done) | (simp; omega)) _) | (with_reducible refine Below.drew ?_) | (with_reducible refine below_drewN ?_ _) | (with_reducible refine Below.trans ?_ (Below.mono (by assumption) (by first | omega | (simp; done) | (simp; omega)))))))).mono ?_); rintro e w1 ⟨rfl, hb⟩; obtain ⟨hc, hf, hz⟩ := bcall hb; (try simp at hc hf hz))
  refine bodyPost_ret (v := .tuple #[.agg #[.int .i64 0, .int .i64 0, .slice (none) 0 0], .int .i64 1]) (by simp [results, Try.results30, go_sem, ↓IntWalk.iteOmega, *]) rfl ⟨rfl, ?_⟩
  (repeat' (first | (with_reducible exact Below.refl _ _) | (with_reducible refine Below.setCell ?_ (by first | omega | (simp; done) | (simp; omega)) _) | (with_reducible refine Below.alloc ?_ (by first | omega | (simp; done) | (simp; omega)) _) | (with_reducible refine Below.drew ?_) | (with_reducible refine below_drewN ?_ _) | (with_reducible refine Below.trans ?_ (Below.mono (by assumption) (by first | omega | (simp; done) | (simp; omega))))))
end Go.Proofs.Ytnkehlankidlnaa
