/- Stream and Unstream: by the program and by the reference. -/
import Derived.Test.YtglkikdjchpmjaaDoorKRunU
import Derived.Test.YtglkikdjchpmjaaDoorKRefG4
import Derived.Test.YtglkikdjchpmjaaDoorKGMath
import Derived.Laws.AppendOwn
namespace Go.Proofs.YtglkikdjchpmjaaDoor
set_option linter.unusedSimpArgs false
set_option linter.unusedVariables false
open Go.RowKit

theorem row_of {W H n : Nat} (s : Sides W H n) : 1 ≤ n := by
  rw [s.n0]
  exact Nat.mul_le_mul s.w0 s.h0
theorem cells_of {W H n : Nat} {w : World} {ao : Option Addr} {G : Nat → Nat → Int} (s : Sides W H n) (h : CellsIn w ao n G) : ∃ b off, ao = some ⟨b, off, none⟩ ∧ b < w.heap.size ∧ Grd w b off n G := by
  rcases h with h | h
  · have := row_of s
    omega
  · exact h

/-- A new machine, whatever its rules. -/
def NewM (w : World) (W H n : Nat) (rv : Value) (G : Nat → Nat → Int) (e : Ending) (w' : World) : Prop :=
  ∃ m b1 c1 b2 c2 K, e = .returned (.pointer (some ⟨m, 0, none⟩)) ∧ Mch w' m W H n b1 c1 rv b2 c2 ∧ Row w' b1 n G ∧ Row w' b2 n K ∧ m ≠ b1 ∧ m ≠ b2 ∧ b1 ≠ b2 ∧ w.heap.size ≤ m ∧ w.heap.size ≤ b1 ∧ w.heap.size ≤ b2 ∧ Below w.heap.size w w'
theorem newM_end {w w1 wr : World} {W H n g c : Nat} {rv : Value} {G : Nat → Nat → Int} (hr : Row w1 g n G) (hg : w.heap.size ≤ g) (hb : Below w.heap.size w w1)
    (hw : wr = ((w1.alloc (.cells (zeros n) 77)).alloc (.cells #[.int .i64 W, .int .i64 H, .slice (some ⟨g, 0, none⟩) n c, rv, .slice (some ⟨w1.heap.size, 0, none⟩) n n] 205)).drew) :
    NewM w W H n rv G (.returned (.pointer (some ⟨w1.heap.size + 1, 0, none⟩))) wr := by
  subst hw
  have x : Ex (fun _ => False) w1 (((w1.alloc (.cells (zeros n) 77)).alloc (.cells #[.int .i64 W, .int .i64 H, .slice (some ⟨g, 0, none⟩) n c, rv, .slice (some ⟨w1.heap.size, 0, none⟩) n n] 205)).drew) := (((Ex.refl _ w1).alloc _).alloc _).drew
  have hm : Mch (((w1.alloc (.cells (zeros n) 77)).alloc (.cells #[.int .i64 W, .int .i64 H, .slice (some ⟨g, 0, none⟩) n c, rv, .slice (some ⟨w1.heap.size, 0, none⟩) n n] 205)).drew) (w1.heap.size + 1) W H n g c rv w1.heap.size n := by
    have := World.alloc_heap_new (w1.alloc (.cells (zeros n) 77)) (.cells #[.int .i64 W, .int .i64 H, .slice (some ⟨g, 0, none⟩) n c, rv, .slice (some ⟨w1.heap.size, 0, none⟩) n n] 205)
    rw [World.size_alloc] at this
    exact this
  have hlt := hr.1
  have hs := hb.size
  exact ⟨_, g, c, w1.heap.size, n, _, rfl, hm, hr.ex x (fun h => h), ((row_zeros w1 n).alloc _).ex (S := fun _ => False) ((Ex.refl _ _).drew) (fun h => h), by omega, by omega, by omega, by omega, hg, hs, ((hb.alloc hs _).alloc (by simp; omega) _).drew⟩

set_option maxRecDepth 100000 in
set_option maxHeartbeats 2000000 in
theorem newMachine_nil (W H b off n cap : Nat) (G : Nat → Nat → Int) (w : World) (s : Sides W H n) (hlt : b < w.heap.size) (hG : Grd w b off n G) :
    Calls Tryd.prog 171 #[.agg #[.int .i64 W, .int .i64 H, .slice (some ⟨b, off, none⟩) n cap], .slice none 0 0] w (NewM w W H n (.slice none 0 0) G) := by
  have hn : n ≤ 1024 := s.n1
  have h1 : 1 ≤ n := row_of s
  have HG := Lib.hid hG; clear hG
  go_enter Tryd.func171, Tryd.ntmps171
  go_wp2_with fail
  go_at_call 196
  refine (copied_any b off n cap G _ h1 (by omega) (HG.out.below ((Below.refl _ w).alloc (Nat.le_refl _) _) hlt)).mono ?_
  rintro e w1 ⟨g, c, rfl, hr, hg, hc, hm, hb⟩
  have HRow := Lib.hid hr
  have HB := Lib.hid (show Below w.heap.size w w1 from ((Below.refl _ w).alloc (Nat.le_refl _) _).trans (hb.mono (by simp)))
  have b0 : w1.cell? ⟨w.heap.size, 0, none⟩ = some (.int .i64 W) := (hb.cell (p := ⟨w.heap.size, 0, none⟩) (by simp)).trans (by simp)
  have b1 : w1.cell? ⟨w.heap.size, 1, none⟩ = some (.int .i64 H) := (hb.cell (p := ⟨w.heap.size, 1, none⟩) (by simp)).trans (by simp)
  have hsz : w.heap.size < w1.heap.size := by have := hb.size; simp at this; omega
  have hg' : w.heap.size ≤ g := by simp at hg; omega
  have hmk := fun wx => run_zeros n (by omega) wx
  clear hb hr hg
  go_wp2_with fail
  go_region_held3 (fun w' => w'.cell? ⟨w.heap.size, 0, none⟩ = some (.int .i64 W) ∧ w'.cell? ⟨w.heap.size, 1, none⟩ = some (.int .i64 H)) (first | (go_split_ands; (try dsimp only); refine ⟨?_, ?_⟩ <;> (first | (with_reducible assumption) | (with_reducible exact keep_cell (by assumption) (by first | omega | (simp; done) | (simp; omega)) (by assumption)) | (with_reducible exact (World.cell?_alloc_past _ _ _ (by show _ < _; omega)).trans (by assumption)) | (with_reducible exact (World.cell?_alloc_past _ _ _ (by show _ < _; omega)).trans ((World.cell?_alloc_past _ _ _ (by show _ < _; omega)).symm.trans (by assumption))) | (simp [go_sem]; with_reducible assumption))) | (simp [go_sem, ↓IntWalk.iteOmega, *]; done)) (fail)
  go_wp2
  go_ret
  exact newM_end HRow.out hg' HB.out rfl

set_option maxRecDepth 100000 in
set_option maxHeartbeats 4000000 in
theorem streamed_in (W H b off n cap : Nat) (G : Nat → Nat → Int) (way : Int) (w : World) (s : Sides W H n) (hG : OkG n G) (hlt : b < w.heap.size) (hC : Grd w b off n G) (z0 : -1 ≤ way) (z1 : way ≤ 1) :
    Calls Tryd.prog 134 #[.agg #[.int .i64 W, .int .i64 H, .slice (some ⟨b, off, none⟩) n cap], .int .i64 way] w (Made W H n (pull W H way G) w) := by
  have HV := Lib.hid (fun w' (hb : Below w.heap.size w w') => gValid_ok W H (some ⟨b, off, none⟩) n cap G w' (vg_of s hG) ((show CellsIn w _ n G from .inr ⟨b, off, rfl, hlt, hC⟩).below hb))
  go_enter Tryd.func134, Tryd.ntmps134
  go_wp2_with (go_at_call 83; (with_reducible refine (HV.out _ (by (repeat' (first | (with_reducible exact Below.refl _ _) | (with_reducible refine Below.setCell ?_ (by first | omega | (simp; done) | (simp; omega)) _) | (with_reducible refine Below.alloc ?_ (by first | omega | (simp; done) | (simp; omega)) _) | (with_reducible refine Below.drew ?_) | (with_reducible refine below_drewN ?_ _) | (with_reducible refine Below.trans ?_ (Below.mono (by assumption) (by first | omega | (simp; done) | (simp; omega)))))))).mono ?_); rintro e w1 ⟨rfl, hb⟩; obtain ⟨hc, hf, hz⟩ := bcall hb; (try simp at hc hf hz))
  have hb0 : Below ((w.alloc (.cells #[.int .i64 W, .int .i64 H, .slice (some ⟨b, off, none⟩) n cap] 24)).alloc (.cells #[.int .i64 0, .int .i64 0, .slice none 0 0] 24)).heap.size ((w.alloc (.cells #[.int .i64 W, .int .i64 H, .slice (some ⟨b, off, none⟩) n cap] 24)).alloc (.cells #[.int .i64 0, .int .i64 0, .slice none 0 0] 24)) w1 := by (repeat' (first | (with_reducible exact Below.refl _ _) | (with_reducible refine Below.setCell ?_ (by first | omega | (simp; done) | (simp; omega)) _) | (with_reducible refine Below.alloc ?_ (by first | omega | (simp; done) | (simp; omega)) _) | (with_reducible refine Below.drew ?_) | (with_reducible refine below_drewN ?_ _) | (with_reducible refine Below.trans ?_ (Below.mono (by assumption) (by first | omega | (simp; done) | (simp; omega))))))
  have hbw : Below w.heap.size w w1 := by (repeat' (first | (with_reducible exact Below.refl _ _) | (with_reducible refine Below.setCell ?_ (by first | omega | (simp; done) | (simp; omega)) _) | (with_reducible refine Below.alloc ?_ (by first | omega | (simp; done) | (simp; omega)) _) | (with_reducible refine Below.drew ?_) | (with_reducible refine below_drewN ?_ _) | (with_reducible refine Below.trans ?_ (Below.mono (by assumption) (by first | omega | (simp; done) | (simp; omega))))))
  have t3 : Three w1 (w.heap.size + 1) 24 (.int .i64 0) (.int .i64 0) (.slice none 0 0) := (Three.new1 w _ _ _ _ _).below hb0 (by simp)
  have hGd : Grd w1 b off n G := hC.below hbw hlt
  have hsz : w.heap.size + 2 ≤ w1.heap.size := by omega
  clear hc hf hb hz hb0 HV
  go_at_call 171
  refine (newMachine_nil W H b off n cap G w1 s (by omega) hGd).mono ?_
  rintro e w3 ⟨m, b1, c1, b2, c2, K, rfl, hMm, hr1, hr2, n1, n2, n3, q0, q1, q2, hb3⟩
  have t3 := t3.below hb3 t3.lt
  have hbw : Below w.heap.size w w3 := hbw.trans (hb3.mono (by omega))
  have hs3 := hb3.size
  have HT := Lib.hid t3
  have HB := Lib.hid hbw
  have DS := Lib.hid (stream_any m W H n b1 c1 b2 c2 _ G K way w3 s hMm hr1 hr2 n1 n2 n3 z0 z1)
  clear hMm hr1 hr2 t3 hbw hb3 hGd hC
  go_wp2_with fail
  go_at_call 177
  refine DS.out.mono ?_
  rintro e w5 ⟨rfl, hm5, hr5, hr6, hx5⟩
  have t5 := HT.out.ex hx5 (by omega)
  have hB5 := Lib.hid (show Below w.heap.size w w5 from HB.out.trans (hx5.below (by omega) (fun k hk => by omega)))
  have hlm := hm5.lt
  have k0 := hm5.k0
  have k1 := hm5.k1
  have k2 := hm5.k2
  have g0 := t5.free 0
  have g1 := t5.free 1
  have g2 := t5.free 2
  have q0' := t5.c0
  have q1' := t5.c1
  have q2' := t5.c2
  have hne : w.heap.size + 1 < b2 := by omega
  have HRow := Lib.hid hr5
  clear hm5 hx5 DS t5 hr5 hr6 HT HB
  go_wp2
  refine bodyPost_ret (v := .tuple #[.agg #[.int .i64 W, .int .i64 H, .slice (some ⟨b2, 0, none⟩) n c2], .int .i64 0]) (by simp [results, Tryd.results134, go_sem, ↓IntWalk.iteOmega, *]) rfl ?_
  exact made_end HRow.out hB5.out hne

set_option maxHeartbeats 1000000 in
theorem streamed_bad (W H : Int) (n cap : Nat) (ao : Option Addr) (G : Nat → Nat → Int) (way : Int) (w : World) (hv : ¬ VG W H n G) (hC : CellsIn w ao n G) :
    Calls Tryd.prog 134 #[.agg #[.int .i64 W, .int .i64 H, .slice (ao) n cap], .int .i64 way] w fun e w' => e = .returned (.tuple #[.agg #[.int .i64 0, .int .i64 0, .slice (none) 0 0], .int .i64 1]) ∧ Below w.heap.size w w' := by
  have HV := Lib.hid hv; clear hv
  have HC := Lib.hid hC; clear hC
  go_enter Tryd.func134, Tryd.ntmps134
  go_wp2_with (go_at_call 83; (with_reducible refine (gValid_bad W H ao n cap G _ HV.out (HC.out.below (by (repeat' (first | (with_reducible exact Below.refl _ _) | (with_reducible refine Below.setCell ?_ (by first | omega | (simp; done) | (simp; omega)) _) | (with_reducible refine Below.alloc ?_ (by first | omega | (simp; done) | (simp; omega)) _) | (with_reducible refine Below.drew ?_) | (with_reducible refine below_drewN ?_ _) | (with_reducible refine Below.trans ?_ (Below.mono (by assumption) (by first | omega | (simp; done) | (simp; omega))))))))).mono ?_); rintro e w1 ⟨rfl, hb⟩; obtain ⟨hc, hf, hz⟩ := bcall hb; (try simp at hc hf hz))
  refine bodyPost_ret (v := .tuple #[.agg #[.int .i64 0, .int .i64 0, .slice (none) 0 0], .int .i64 1]) (by simp [results, Tryd.results134, go_sem, ↓IntWalk.iteOmega, *]) rfl ⟨rfl, ?_⟩
  (repeat' (first | (with_reducible exact Below.refl _ _) | (with_reducible refine Below.setCell ?_ (by first | omega | (simp; done) | (simp; omega)) _) | (with_reducible refine Below.alloc ?_ (by first | omega | (simp; done) | (simp; omega)) _) | (with_reducible refine Below.drew ?_) | (with_reducible refine below_drewN ?_ _) | (with_reducible refine Below.trans ?_ (Below.mono (by assumption) (by first | omega | (simp; done) | (simp; omega))))))

set_option maxHeartbeats 1000000 in
theorem gStream_ok (W H n cap : Nat) (ao : Option Addr) (G : Nat → Nat → Int) (w : World) (s : Sides W H n) (hG : OkG n G) (hC : CellsIn w ao n G) :
    Calls Tryd.prog 65 #[.agg #[.int .i64 W, .int .i64 H, .slice (ao) n cap]] w (Made W H n (pull W H 1 G) w) := by
  obtain ⟨b, off, rfl, hlt, hC⟩ := cells_of s hC
  have D := Lib.hid (fun w' (hb : Below w.heap.size w w') => streamed_in W H b off n cap G 1 w' s hG (Nat.lt_of_lt_of_le hlt hb.size) (hC.below hb hlt) (by omega) (by omega))
  clear hC
  go_enter Tryd.func65, Tryd.ntmps65
  go_wp2_with fail
  go_at_call 134
  refine (D.out _ (by (repeat' (first | (with_reducible exact Below.refl _ _) | (with_reducible refine Below.setCell ?_ (by first | omega | (simp; done) | (simp; omega)) _) | (with_reducible refine Below.alloc ?_ (by first | omega | (simp; done) | (simp; omega)) _) | (with_reducible refine Below.drew ?_) | (with_reducible refine below_drewN ?_ _) | (with_reducible refine Below.trans ?_ (Below.mono (by assumption) (by first | omega | (simp; done) | (simp; omega)))))))).mono ?_
  rintro e w1 ⟨b, c, rfl, hC, hlo, hb⟩
  have hlb : w.heap.size + 2 ≤ w1.heap.size := by have := hb.size; simp at this; omega
  have f0 : w1.frozen? ⟨w.heap.size + 1, 0, none⟩ = false := (hb.frozen (p := ⟨w.heap.size + 1, 0, none⟩) (by simp)).trans (by simp)
  have f1 : w1.frozen? ⟨w.heap.size + 1, 1, none⟩ = false := (hb.frozen (p := ⟨w.heap.size + 1, 1, none⟩) (by simp)).trans (by simp)
  have f2 : w1.frozen? ⟨w.heap.size + 1, 2, none⟩ = false := (hb.frozen (p := ⟨w.heap.size + 1, 2, none⟩) (by simp)).trans (by simp)
  have c0 : w1.cell? ⟨w.heap.size + 1, 0, none⟩ = some (.int .i64 0) := (hb.cell (p := ⟨w.heap.size + 1, 0, none⟩) (by simp)).trans (by simp)
  have c1 : w1.cell? ⟨w.heap.size + 1, 1, none⟩ = some (.int .i64 0) := (hb.cell (p := ⟨w.heap.size + 1, 1, none⟩) (by simp)).trans (by simp)
  have c2 : w1.cell? ⟨w.heap.size + 1, 2, none⟩ = some (.slice none 0 0) := (hb.cell (p := ⟨w.heap.size + 1, 2, none⟩) (by simp)).trans (by simp)
  have HC := Lib.hid hC
  have HB := Lib.hid (show Below w.heap.size w w1 from (((Below.refl _ w).alloc (Nat.le_refl _) _).alloc (by simp) _).trans (hb.mono (by simp; omega)))
  have hlo : w.heap.size + 1 < b := by simp at hlo; omega
  clear hC hb D
  go_wp2
  refine bodyPost_ret (v := .tuple #[.agg #[.int .i64 W, .int .i64 H, .slice (some ⟨b, 0, none⟩) n c], .int .i64 0]) (by simp [results, Tryd.results65, go_sem, ↓IntWalk.iteOmega, *]) rfl ?_
  exact made_pass HC.out HB.out (by omega) hlo

set_option maxHeartbeats 1000000 in
theorem gStream_bad (W H : Int) (n cap : Nat) (ao : Option Addr) (G : Nat → Nat → Int) (w : World) (hv : ¬ VG W H n G) (hC : CellsIn w ao n G) :
    Calls Tryd.prog 65 #[.agg #[.int .i64 W, .int .i64 H, .slice (ao) n cap]] w fun e w' => e = .returned (.tuple #[.agg #[.int .i64 0, .int .i64 0, .slice (none) 0 0], .int .i64 1]) ∧ Below w.heap.size w w' := by
  have HV := Lib.hid hv; clear hv
  have HC := Lib.hid hC; clear hC
  go_enter Tryd.func65, Tryd.ntmps65
  go_wp2_with (go_at_call 134; (with_reducible refine (streamed_bad W H n cap ao G 1 _ HV.out (HC.out.below (by (repeat' (first | (with_reducible exact Below.refl _ _) | (with_reducible refine Below.setCell ?_ (by first | omega | (simp; done) | (simp; omega)) _) | (with_reducible refine Below.alloc ?_ (by first | omega | (simp; done) | (simp; omega)) _) | (with_reducible refine Below.drew ?_) | (with_reducible refine below_drewN ?_ _) | (with_reducible refine Below.trans ?_ (Below.mono (by assumption) (by first | omega | (simp; done) | (simp; omega))))))))).mono ?_); rintro e w1 ⟨rfl, hb⟩; obtain ⟨hc, hf, hz⟩ := bcall hb; (try simp at hc hf hz))
  refine bodyPost_ret (v := .tuple #[.agg #[.int .i64 0, .int .i64 0, .slice (none) 0 0], .int .i64 1]) (by simp [results, Tryd.results65, go_sem, ↓IntWalk.iteOmega, *]) rfl ⟨rfl, ?_⟩
  (repeat' (first | (with_reducible exact Below.refl _ _) | (with_reducible refine Below.setCell ?_ (by first | omega | (simp; done) | (simp; omega)) _) | (with_reducible refine Below.alloc ?_ (by first | omega | (simp; done) | (simp; omega)) _) | (with_reducible refine Below.drew ?_) | (with_reducible refine below_drewN ?_ _) | (with_reducible refine Below.trans ?_ (Below.mono (by assumption) (by first | omega | (simp; done) | (simp; omega))))))

end Go.Proofs.YtglkikdjchpmjaaDoor

/- What the laws' walks share: cells behind stores into another block; empty grids. -/



namespace Go.Proofs.YtglkikdjchpmjaaDoor
set_option linter.unusedSimpArgs false
set_option linter.unusedVariables false
open Go.RowKit

theorem cells_3 {w : World} {r b n : Nat} {G : Nat → Nat → Int} {v0 v1 v2 : Value} (h : CellsIn w (some ⟨b, 0, none⟩) n G) (hne : r ≠ b) : CellsIn (((w.setCell ⟨r, 0, none⟩ v0).setCell ⟨r, 1, none⟩ v1).setCell ⟨r, 2, none⟩ v2) (some ⟨b, 0, none⟩) n G := by
  have x : Ex (fun k => k = r) w (((w.setCell ⟨r, 0, none⟩ v0).setCell ⟨r, 1, none⟩ v1).setCell ⟨r, 2, none⟩ v2) := three_ex
  rcases h with h | ⟨b', o, e, hlt, hG⟩
  · exact .inl h
  · cases e
    exact .inr ⟨b, 0, rfl, Nat.lt_of_lt_of_le hlt x.size, fun i hi => ⟨(x.cell hlt (by omega)).trans (hG i hi).1, (x.cell hlt (by omega)).trans (hG i hi).2.1, (x.cell hlt (by omega)).trans (hG i hi).2.2.1, (x.cell hlt (by omega)).trans (hG i hi).2.2.2⟩⟩

end Go.Proofs.YtglkikdjchpmjaaDoor

/- Lists of numbers of one's own; in which cells two grids differ. -/



namespace Go.Proofs.YtglkikdjchpmjaaDoor
set_option linter.unusedSimpArgs false
set_option linter.unusedVariables false
open Go.RowKit

theorem info_int : (Tryd.prog.info? 3).map (fun i => (i.zero, i.size, i.bytes)) = some (some (.int .i64 0), 1, 8) := by kernel_rfl

/-- Numbers, as values. -/
def nums (L : List Nat) : List Value := L.map fun (j : Nat) => .int .i64 ((j : Int))
theorem nums_len (L : List Nat) : (nums L).length = L.length := by simp [nums]
theorem nums_one (L : List Nat) : ∀ u ∈ nums L, u.oneCell' = true := by
  intro u hu
  simp only [nums, List.mem_map] at hu
  obtain ⟨j, _, rfl⟩ := hu
  rfl
/-- A slice of one's own numbers. -/
def OwnNums (w : World) (base : Nat) (v : Value) (L : List Nat) : Prop := w.ownsRow base 3 1 v L.length (nums L)
theorem OwnNums.nil (w : World) (base : Nat) : OwnNums w base (.slice none 0 0) [] := World.ownsRow_nil w base 3 1
theorem OwnNums.below {w w' : World} {base : Nat} {v : Value} {L : List Nat} (h : OwnNums w base v L) (hb : Below w.heap.size w w') : OwnNums w' base v L := by
  refine ⟨h.1, ?_⟩
  rcases h.2 with hn | ⟨g, cap, cur, rfl, hg, hgg, rest⟩
  · exact .inl hn
  · refine .inr ⟨g, cap, cur, rfl, hg, ?_, rest⟩
    rw [hb.block g (Array.getElem?_eq_some_iff.1 hgg).1]
    exact hgg
theorem OwnNums.form {w : World} {base : Nat} {v : Value} {L : List Nat} (h : OwnNums w base v L) : ∃ ao cap, v = .slice ao L.length cap ∧ (L ≠ [] → ∃ g, ao = some ⟨g, 0, none⟩ ∧ g < w.heap.size ∧ ∀ (j x : Nat), L[j]? = some x → w.cell? ⟨g, j, none⟩ = some (.int .i64 ((x : Int)))) := by
  rcases h.2 with ⟨rfl, hn⟩ | ⟨g, cap, cur, rfl, hg, hgg, hc, hm, hs, ht⟩
  · exact ⟨none, 0, by rw [hn], fun hne => absurd (List.length_eq_zero_iff.1 hn) hne⟩
  · refine ⟨_, cap, rfl, fun _ => ⟨g, rfl, (Array.getElem?_eq_some_iff.1 hgg).1, fun j x hx => ?_⟩⟩
    have hj : j < L.length := (List.getElem?_eq_some_iff.1 hx).1
    simp only [World.cell?, hgg]
    have e : (cur.toList.take (L.length * 1))[j]? = (nums L)[j]? := by rw [ht]
    rw [List.getElem?_take, if_pos (by omega)] at e
    rw [← Array.getElem?_toList, e]
    simp [nums, hx]

set_option maxHeartbeats 2000000 in
theorem sameInts_yes (ao ao' : Option Addr) (c c' : Nat) (L : List Nat) (w : World) (hl : L.length ≤ 1000000)
    (h : L ≠ [] → ∃ g, ao = some ⟨g, 0, none⟩ ∧ g < w.heap.size ∧ ∀ (j x : Nat), L[j]? = some x → w.cell? ⟨g, j, none⟩ = some (.int .i64 ((x : Int))))
    (h' : L ≠ [] → ∃ g, ao' = some ⟨g, 0, none⟩ ∧ g < w.heap.size ∧ ∀ (j x : Nat), L[j]? = some x → w.cell? ⟨g, j, none⟩ = some (.int .i64 ((x : Int)))) :
    Calls Tryd.prog 20 #[.slice ao L.length c, .slice ao' L.length c'] w fun e w' => e = .returned (.bool true) ∧ Below w.heap.size w w' := by
  by_cases hL : L = []
  · subst hL
    clear h h'
    go_enter Tryd.func20, Tryd.ntmps20
    go_wp2
    refine wp_loop_rounds 1 ?_
    rw [rounds_succ]
    go_wp2
    go_ret
    refine ⟨rfl, ?_⟩
    (repeat' (first | (with_reducible exact Below.refl _ _) | (with_reducible refine Below.setCell ?_ (by first | omega | (simp; done) | (simp; omega)) _) | (with_reducible refine Below.alloc ?_ (by first | omega | (simp; done) | (simp; omega)) _) | (with_reducible refine Below.drew ?_) | (with_reducible refine below_drewN ?_ _) | (with_reducible refine Below.trans ?_ (Below.mono (by assumption) (by first | omega | (simp; done) | (simp; omega))))))
  · obtain ⟨g, rfl, hg, hc⟩ := h hL
    obtain ⟨g', rfl, hg', hc'⟩ := h' hL
    have HC := Lib.hid hc
    have HC' := Lib.hid hc'
    clear h h' hc hc' hL
    obtain ⟨n, hn⟩ : ∃ n, n = L.length := ⟨_, rfl⟩
    rw [← hn]
    rw [← hn] at hl
    have HN := Lib.hid hn
    clear hn
    go_enter Tryd.func20, Tryd.ntmps20
    go_wp2
    go_loopw [5] (fun i wr => ∃ k : Nat, k ≤ n ∧ i = .int .i64 k ∧ Below w.heap.size w wr) (fun i _ => n - (intOf i).toNat)
    case atStart => exact ⟨0, Nat.zero_le _, rfl, Below.refl _ _⟩
    case round =>
      obtain ⟨k, hk, rfl, hB⟩ := hrel
      by_cases hlk : k < n
      · have hx : L[k]? = some (L[k]'(by rw [← HN.out]; exact hlk)) := List.getElem?_eq_getElem _
        obtain ⟨x, hxe⟩ : ∃ x, x = L[k]'(by rw [← HN.out]; exact hlk) := ⟨_, rfl⟩
        rw [← hxe] at hx
        have c0 := (hB.cell (p := ⟨g, k, none⟩) hg).trans (HC.out k x hx)
        have c1 := (hB.cell (p := ⟨g', k, none⟩) hg').trans (HC'.out k x hx)
        have p0 : (0 : Int) ≤ (k : Int) := by omega
        have p1 : (k : Int) < (n : Int) := by omega
        clear hx hxe
        go_wp2
        go_quiet (fail)
        go_wp2
        go_roundw
        case rel => exact ⟨k + 1, by omega, by go_num, below_drewN hB _⟩
        case measure => simp [intOf]; omega
      · obtain rfl : n = k := by omega
        go_wp2
        go_ret
        exact ⟨rfl, hB⟩

/-- The cells below k in which two grids differ. -/
def same4 (A B : Nat → Nat → Int) (k : Nat) : Prop := A k 0 = B k 0 ∧ A k 1 = B k 1 ∧ A k 2 = B k 2 ∧ A k 3 = B k 3
instance (A B : Nat → Nat → Int) (k : Nat) : Decidable (same4 A B k) := by unfold same4; exact inferInstance
def dfL (A B : Nat → Nat → Int) : Nat → List Nat
  | 0 => []
  | k + 1 => if same4 A B k then dfL A B k else dfL A B k ++ [k]
theorem dfL_len (A B : Nat → Nat → Int) (k : Nat) : (dfL A B k).length ≤ k := by
  induction k with
  | zero => simp [dfL]
  | succ k ih =>
    simp only [dfL]
    split
    · omega
    · simp; omega
theorem dfL_nil (A B : Nat → Nat → Int) (n : Nat) : dfL A B n = [] ↔ EqG n A B := by
  induction n with
  | zero => simp [dfL, EqG]
  | succ k ih =>
    simp only [dfL]
    by_cases h : same4 A B k
    · rw [if_pos h, ih]
      refine ⟨fun e i hi d hd => ?_, fun e i hi d hd => e i (by omega) d hd⟩
      by_cases ei : i = k
      · subst ei
        obtain ⟨h0, h1, h2, h3⟩ := h
        match d, hd with
        | 0, _ => exact h0
        | 1, _ => exact h1
        | 2, _ => exact h2
        | 3, _ => exact h3
      · exact e i (by omega) d hd
    · rw [if_neg h]
      refine ⟨fun e => by simp at e, fun e => absurd ⟨e k (by omega) 0 (by omega), e k (by omega) 1 (by omega), e k (by omega) 2 (by omega), e k (by omega) 3 (by omega)⟩ h⟩


end Go.Proofs.YtglkikdjchpmjaaDoor

/- Differ: by the program and by the reference. -/


namespace Go.Proofs.YtglkikdjchpmjaaDoor
set_option linter.unusedSimpArgs false
set_option linter.unusedVariables false
open Go.RowKit

theorem neq_cell (w : World) (a b c e a' b' c' e' : Int) : a = a' ∧ b = b' ∧ c = c' ∧ e = e' ∨ ¬ (a = a' ∧ b = b' ∧ c = c' ∧ e = e') := by
  by_cases h : a = a' ∧ b = b' ∧ c = c' ∧ e = e'
  · exact .inl h
  · exact .inr h
theorem beq4 (a b c e a' b' c' e' : Int) (h : ¬ (a = a' ∧ b = b' ∧ c = c' ∧ e = e')) : (a == a' && (b == b' && (c == c' && e == e'))) = false := by
  by_cases h0 : a = a' <;> by_cases h1 : b = b' <;> by_cases h2 : c = c' <;> by_cases h3 : e = e' <;> simp_all

set_option maxHeartbeats 1000000 in
theorem sides_ok (W H : Int) (n m c c' : Nat) (ao ao' : Option Addr) (A B : Nat → Nat → Int) (w : World) (ha : VG W H n A) (hb' : VG W H m B) (hA : CellsIn w ao n A) (hB : CellsIn w ao' m B) :
    Calls Tryd.prog 207 #[.agg #[.int .i64 W, .int .i64 H, .slice (ao) n c], .agg #[.int .i64 W, .int .i64 H, .slice (ao') m c']] w fun e w' => e = .returned (.int .i64 0) ∧ Below w.heap.size w w' := by
  have VA := Lib.hid (fun w' (hb : Below w.heap.size w w') => gValid_ok W H ao n c A w' ha (hA.below hb))
  have VB := Lib.hid (fun w' (hb : Below w.heap.size w w') => gValid_ok W H ao' m c' B w' hb' (hB.below hb))
  clear ha hb' hA hB
  go_enter Tryd.func207, Tryd.ntmps207
  go_wp2_with fail
  (go_at_call 83; (with_reducible refine (VA.out _ (by (repeat' (first | (with_reducible exact Below.refl _ _) | (with_reducible refine Below.setCell ?_ (by first | omega | (simp; done) | (simp; omega)) _) | (with_reducible refine Below.alloc ?_ (by first | omega | (simp; done) | (simp; omega)) _) | (with_reducible refine Below.drew ?_) | (with_reducible refine below_drewN ?_ _) | (with_reducible refine Below.trans ?_ (Below.mono (by assumption) (by first | omega | (simp; done) | (simp; omega)))))))).mono ?_); rintro e w1 ⟨rfl, hb⟩; obtain ⟨hc, hf, hz⟩ := bcall hb; (try simp at hc hf hz))
  go_wp2_with (go_at_call 83; (with_reducible refine (VB.out _ (by (repeat' (first | (with_reducible exact Below.refl _ _) | (with_reducible refine Below.setCell ?_ (by first | omega | (simp; done) | (simp; omega)) _) | (with_reducible refine Below.alloc ?_ (by first | omega | (simp; done) | (simp; omega)) _) | (with_reducible refine Below.drew ?_) | (with_reducible refine below_drewN ?_ _) | (with_reducible refine Below.trans ?_ (Below.mono (by assumption) (by first | omega | (simp; done) | (simp; omega)))))))).mono ?_); rintro e w1 ⟨rfl, hb⟩; obtain ⟨hc, hf, hz⟩ := bcall hb; (try simp at hc hf hz))
  go_ret
  refine ⟨by simp, ?_⟩
  (repeat' (first | (with_reducible exact Below.refl _ _) | (with_reducible refine Below.setCell ?_ (by first | omega | (simp; done) | (simp; omega)) _) | (with_reducible refine Below.alloc ?_ (by first | omega | (simp; done) | (simp; omega)) _) | (with_reducible refine Below.drew ?_) | (with_reducible refine below_drewN ?_ _) | (with_reducible refine Below.trans ?_ (Below.mono (by assumption) (by first | omega | (simp; done) | (simp; omega))))))
set_option maxHeartbeats 1000000 in
theorem sides_inv1 (W H W' H' : Int) (n m c c' : Nat) (ao ao' : Option Addr) (A : Nat → Nat → Int) (w : World) (ha : ¬ VG W H n A) (hA : CellsIn w ao n A) :
    Calls Tryd.prog 207 #[.agg #[.int .i64 W, .int .i64 H, .slice (ao) n c], .agg #[.int .i64 W', .int .i64 H', .slice (ao') m c']] w fun e w' => e = .returned (.int .i64 1) ∧ Below w.heap.size w w' := by
  have VA := Lib.hid (fun w' (hb : Below w.heap.size w w') => gValid_bad W H ao n c A w' ha (hA.below hb))
  clear ha hA
  go_enter Tryd.func207, Tryd.ntmps207
  go_wp2_with fail
  (go_at_call 83; (with_reducible refine (VA.out _ (by (repeat' (first | (with_reducible exact Below.refl _ _) | (with_reducible refine Below.setCell ?_ (by first | omega | (simp; done) | (simp; omega)) _) | (with_reducible refine Below.alloc ?_ (by first | omega | (simp; done) | (simp; omega)) _) | (with_reducible refine Below.drew ?_) | (with_reducible refine below_drewN ?_ _) | (with_reducible refine Below.trans ?_ (Below.mono (by assumption) (by first | omega | (simp; done) | (simp; omega)))))))).mono ?_); rintro e w1 ⟨rfl, hb⟩; obtain ⟨hc, hf, hz⟩ := bcall hb; (try simp at hc hf hz))
  go_wp2
  go_ret
  refine ⟨by simp, ?_⟩
  (repeat' (first | (with_reducible exact Below.refl _ _) | (with_reducible refine Below.setCell ?_ (by first | omega | (simp; done) | (simp; omega)) _) | (with_reducible refine Below.alloc ?_ (by first | omega | (simp; done) | (simp; omega)) _) | (with_reducible refine Below.drew ?_) | (with_reducible refine below_drewN ?_ _) | (with_reducible refine Below.trans ?_ (Below.mono (by assumption) (by first | omega | (simp; done) | (simp; omega))))))
set_option maxHeartbeats 1000000 in
theorem sides_inv2 (W H W' H' : Int) (n m c c' : Nat) (ao ao' : Option Addr) (A B : Nat → Nat → Int) (w : World) (ha : VG W H n A) (hb' : ¬ VG W' H' m B) (hA : CellsIn w ao n A) (hB : CellsIn w ao' m B) :
    Calls Tryd.prog 207 #[.agg #[.int .i64 W, .int .i64 H, .slice (ao) n c], .agg #[.int .i64 W', .int .i64 H', .slice (ao') m c']] w fun e w' => e = .returned (.int .i64 1) ∧ Below w.heap.size w w' := by
  have VA := Lib.hid (fun w' (hb : Below w.heap.size w w') => gValid_ok W H ao n c A w' ha (hA.below hb))
  have VB := Lib.hid (fun w' (hb : Below w.heap.size w w') => gValid_bad W' H' ao' m c' B w' hb' (hB.below hb))
  clear ha hb' hA hB
  go_enter Tryd.func207, Tryd.ntmps207
  go_wp2_with fail
  (go_at_call 83; (with_reducible refine (VA.out _ (by (repeat' (first | (with_reducible exact Below.refl _ _) | (with_reducible refine Below.setCell ?_ (by first | omega | (simp; done) | (simp; omega)) _) | (with_reducible refine Below.alloc ?_ (by first | omega | (simp; done) | (simp; omega)) _) | (with_reducible refine Below.drew ?_) | (with_reducible refine below_drewN ?_ _) | (with_reducible refine Below.trans ?_ (Below.mono (by assumption) (by first | omega | (simp; done) | (simp; omega)))))))).mono ?_); rintro e w1 ⟨rfl, hb⟩; obtain ⟨hc, hf, hz⟩ := bcall hb; (try simp at hc hf hz))
  go_wp2_with (go_at_call 83; (with_reducible refine (VB.out _ (by (repeat' (first | (with_reducible exact Below.refl _ _) | (with_reducible refine Below.setCell ?_ (by first | omega | (simp; done) | (simp; omega)) _) | (with_reducible refine Below.alloc ?_ (by first | omega | (simp; done) | (simp; omega)) _) | (with_reducible refine Below.drew ?_) | (with_reducible refine below_drewN ?_ _) | (with_reducible refine Below.trans ?_ (Below.mono (by assumption) (by first | omega | (simp; done) | (simp; omega)))))))).mono ?_); rintro e w1 ⟨rfl, hb⟩; obtain ⟨hc, hf, hz⟩ := bcall hb; (try simp at hc hf hz))
  go_ret
  refine ⟨by simp, ?_⟩
  (repeat' (first | (with_reducible exact Below.refl _ _) | (with_reducible refine Below.setCell ?_ (by first | omega | (simp; done) | (simp; omega)) _) | (with_reducible refine Below.alloc ?_ (by first | omega | (simp; done) | (simp; omega)) _) | (with_reducible refine Below.drew ?_) | (with_reducible refine below_drewN ?_ _) | (with_reducible refine Below.trans ?_ (Below.mono (by assumption) (by first | omega | (simp; done) | (simp; omega))))))
set_option maxHeartbeats 1000000 in
theorem sides_size (W H W' H' : Int) (n m c c' : Nat) (ao ao' : Option Addr) (A B : Nat → Nat → Int) (w : World) (ha : VG W H n A) (hb' : VG W' H' m B) (hA : CellsIn w ao n A) (hB : CellsIn w ao' m B) (hne : ¬ (W = W' ∧ H = H')) :
    Calls Tryd.prog 207 #[.agg #[.int .i64 W, .int .i64 H, .slice (ao) n c], .agg #[.int .i64 W', .int .i64 H', .slice (ao') m c']] w fun e w' => e = .returned (.int .i64 9) ∧ Below w.heap.size w w' := by
  have VA := Lib.hid (fun w' (hb : Below w.heap.size w w') => gValid_ok W H ao n c A w' ha (hA.below hb))
  have VB := Lib.hid (fun w' (hb : Below w.heap.size w w') => gValid_ok W' H' ao' m c' B w' hb' (hB.below hb))
  clear ha hb' hA hB
  by_cases hW : W = W'
  · have hH : ((H : Int) == H') = false := by simp; exact fun h => hne ⟨hW, h⟩
    have hH2 : ((H : Int) != H') = true := by simp [bne, hH]
    subst hW
    clear hne
    go_enter Tryd.func207, Tryd.ntmps207
    go_wp2_with fail
    (go_at_call 83; (with_reducible refine (VA.out _ (by (repeat' (first | (with_reducible exact Below.refl _ _) | (with_reducible refine Below.setCell ?_ (by first | omega | (simp; done) | (simp; omega)) _) | (with_reducible refine Below.alloc ?_ (by first | omega | (simp; done) | (simp; omega)) _) | (with_reducible refine Below.drew ?_) | (with_reducible refine below_drewN ?_ _) | (with_reducible refine Below.trans ?_ (Below.mono (by assumption) (by first | omega | (simp; done) | (simp; omega)))))))).mono ?_); rintro e w1 ⟨rfl, hb⟩; obtain ⟨hc, hf, hz⟩ := bcall hb; (try simp at hc hf hz))
    go_wp2_with (go_at_call 83; (with_reducible refine (VB.out _ (by (repeat' (first | (with_reducible exact Below.refl _ _) | (with_reducible refine Below.setCell ?_ (by first | omega | (simp; done) | (simp; omega)) _) | (with_reducible refine Below.alloc ?_ (by first | omega | (simp; done) | (simp; omega)) _) | (with_reducible refine Below.drew ?_) | (with_reducible refine below_drewN ?_ _) | (with_reducible refine Below.trans ?_ (Below.mono (by assumption) (by first | omega | (simp; done) | (simp; omega)))))))).mono ?_); rintro e w1 ⟨rfl, hb⟩; obtain ⟨hc, hf, hz⟩ := bcall hb; (try simp at hc hf hz))
    go_ret
    refine ⟨by simp, ?_⟩
    (repeat' (first | (with_reducible exact Below.refl _ _) | (with_reducible refine Below.setCell ?_ (by first | omega | (simp; done) | (simp; omega)) _) | (with_reducible refine Below.alloc ?_ (by first | omega | (simp; done) | (simp; omega)) _) | (with_reducible refine Below.drew ?_) | (with_reducible refine below_drewN ?_ _) | (with_reducible refine Below.trans ?_ (Below.mono (by assumption) (by first | omega | (simp; done) | (simp; omega))))))
  · have hH : ((W : Int) == W') = false := by simp [hW]
    have hH2 : ((W : Int) != W') = true := by simp [bne, hH]
    clear hne hW
    go_enter Tryd.func207, Tryd.ntmps207
    go_wp2_with fail
    (go_at_call 83; (with_reducible refine (VA.out _ (by (repeat' (first | (with_reducible exact Below.refl _ _) | (with_reducible refine Below.setCell ?_ (by first | omega | (simp; done) | (simp; omega)) _) | (with_reducible refine Below.alloc ?_ (by first | omega | (simp; done) | (simp; omega)) _) | (with_reducible refine Below.drew ?_) | (with_reducible refine below_drewN ?_ _) | (with_reducible refine Below.trans ?_ (Below.mono (by assumption) (by first | omega | (simp; done) | (simp; omega)))))))).mono ?_); rintro e w1 ⟨rfl, hb⟩; obtain ⟨hc, hf, hz⟩ := bcall hb; (try simp at hc hf hz))
    go_wp2_with (go_at_call 83; (with_reducible refine (VB.out _ (by (repeat' (first | (with_reducible exact Below.refl _ _) | (with_reducible refine Below.setCell ?_ (by first | omega | (simp; done) | (simp; omega)) _) | (with_reducible refine Below.alloc ?_ (by first | omega | (simp; done) | (simp; omega)) _) | (with_reducible refine Below.drew ?_) | (with_reducible refine below_drewN ?_ _) | (with_reducible refine Below.trans ?_ (Below.mono (by assumption) (by first | omega | (simp; done) | (simp; omega)))))))).mono ?_); rintro e w1 ⟨rfl, hb⟩; obtain ⟨hc, hf, hz⟩ := bcall hb; (try simp at hc hf hz))
    go_ret
    refine ⟨by simp, ?_⟩
    (repeat' (first | (with_reducible exact Below.refl _ _) | (with_reducible refine Below.setCell ?_ (by first | omega | (simp; done) | (simp; omega)) _) | (with_reducible refine Below.alloc ?_ (by first | omega | (simp; done) | (simp; omega)) _) | (with_reducible refine Below.drew ?_) | (with_reducible refine below_drewN ?_ _) | (with_reducible refine Below.trans ?_ (Below.mono (by assumption) (by first | omega | (simp; done) | (simp; omega))))))

theorem own_keep {w0 wr wr' : World} {v : Value} {L : List Nat} (h : OwnNums wr w0.heap.size v L ∧ Below w0.heap.size w0 wr) (hX : Below wr.heap.size wr wr') : OwnNums wr' w0.heap.size v L ∧ Below w0.heap.size w0 wr' :=
  ⟨h.1.below hX, h.2.trans (hX.mono h.2.size)⟩
theorem own_app {w0 wr X w6 : World} {v v' : Value} {L : List Nat} {k : Nat} (h : OwnNums wr w0.heap.size v L ∧ Below w0.heap.size w0 wr) (hX : Below wr.heap.size wr X) (hown : w6.ownsRow w0.heap.size 3 1 v' (L.length + 1) (nums L ++ [.int .i64 k])) (hgrow : X.grownBy w6 v.ownBlock) :
    OwnNums w6 w0.heap.size v' (L ++ [k]) ∧ Below w0.heap.size w0 w6 := by
  refine ⟨?_, ?_⟩
  · have e : nums (L ++ [k]) = nums L ++ [.int .i64 k] := by simp [nums]
    unfold OwnNums
    rw [e]
    simpa using hown
  · have b1 : Below w0.heap.size w0 X := h.2.trans (hX.mono h.2.size)
    exact b1.grown hgrow b1.size (fun j hj => ((h.1.below hX : OwnNums X w0.heap.size v L).lt j hj).1)
theorem own_low {w wr : World} {base : Nat} {v : Value} {L : List Nat} (h : OwnNums wr base v L) (hb : w.heap.size ≤ base) : OwnNums wr w.heap.size v L := by
  refine ⟨h.1, ?_⟩
  rcases h.2 with hn | ⟨g, cap, cur, rfl, hg, rest⟩
  · exact .inl hn
  · exact .inr ⟨g, cap, cur, rfl, Nat.le_trans hb hg, rest⟩

/-- What Differ gives. -/
def Dif (A B : Nat → Nat → Int) (n : Nat) (w : World) (e : Ending) (w' : World) : Prop := ∃ v, e = .returned (.tuple #[v, .int .i64 0]) ∧ OwnNums w' w.heap.size v (dfL A B n) ∧ Below w.heap.size w w'

/-- Two grids that are not both valid; two of other sides. -/
def Odd1 (W H W' H' : Int) (n m : Nat) (A B : Nat → Nat → Int) : Prop := ¬ (VG W H n A ∧ VG W' H' m B)
def Odd9 (W H W' H' : Int) (n m : Nat) (A B : Nat → Nat → Int) : Prop := (VG W H n A ∧ VG W' H' m B) ∧ ¬ (W = W' ∧ H = H')

theorem sides_err1 (W H W' H' : Int) (n m c c' : Nat) (ao ao' : Option Addr) (A B : Nat → Nat → Int) (w : World) (hA : CellsIn w ao n A) (hB : CellsIn w ao' m B) (h : Odd1 W H W' H' n m A B) : Calls Tryd.prog 207 #[.agg #[.int .i64 W, .int .i64 H, .slice (ao) n c], .agg #[.int .i64 W', .int .i64 H', .slice (ao') m c']] w fun e w' => e = .returned (.int .i64 1) ∧ Below w.heap.size w w' := by
  by_cases ha : VG W H n A
  · exact sides_inv2 W H W' H' n m c c' ao ao' A B w ha (fun k => h ⟨ha, k⟩) hA hB
  · exact sides_inv1 W H W' H' n m c c' ao ao' A w ha hA

set_option maxHeartbeats 1000000 in
theorem gAdded_err1 (W H W' H' : Int) (n m c c' : Nat) (ao ao' : Option Addr) (A B : Nat → Nat → Int) (w : World) (hA : CellsIn w ao n A) (hB : CellsIn w ao' m B) (h : Odd1 W H W' H' n m A B) : Calls Tryd.prog 186 #[.agg #[.int .i64 W, .int .i64 H, .slice (ao) n c], .agg #[.int .i64 W', .int .i64 H', .slice (ao') m c']] w fun e w' => e = .returned (.tuple #[.agg #[.int .i64 0, .int .i64 0, .slice (none) 0 0], .int .i64 1]) ∧ Below w.heap.size w w' := by
  have CS := Lib.hid (fun w' (hb : Below w.heap.size w w') => sides_err1 W H W' H' n m c c' ao ao' A B w' (hA.below hb) (hB.below hb) h)
  clear h hA hB
  go_enter Tryd.func186, Tryd.ntmps186
  go_wp2_with (go_at_call 207; (with_reducible refine (CS.out _ (by (repeat' (first | (with_reducible exact Below.refl _ _) | (with_reducible refine Below.setCell ?_ (by first | omega | (simp; done) | (simp; omega)) _) | (with_reducible refine Below.alloc ?_ (by first | omega | (simp; done) | (simp; omega)) _) | (with_reducible refine Below.drew ?_) | (with_reducible refine below_drewN ?_ _) | (with_reducible refine Below.trans ?_ (Below.mono (by assumption) (by first | omega | (simp; done) | (simp; omega)))))))).mono ?_); rintro e w1 ⟨rfl, hb⟩; obtain ⟨hc, hf, hz⟩ := bcall hb; (try simp at hc hf hz))
  refine bodyPost_ret (v := .tuple #[.agg #[.int .i64 0, .int .i64 0, .slice (none) 0 0], .int .i64 1]) (by simp [results, Tryd.results186, go_sem, ↓IntWalk.iteOmega, *]) rfl ⟨rfl, ?_⟩
  (repeat' (first | (with_reducible exact Below.refl _ _) | (with_reducible refine Below.setCell ?_ (by first | omega | (simp; done) | (simp; omega)) _) | (with_reducible refine Below.alloc ?_ (by first | omega | (simp; done) | (simp; omega)) _) | (with_reducible refine Below.drew ?_) | (with_reducible refine below_drewN ?_ _) | (with_reducible refine Below.trans ?_ (Below.mono (by assumption) (by first | omega | (simp; done) | (simp; omega))))))

theorem sides_err9 (W H W' H' : Int) (n m c c' : Nat) (ao ao' : Option Addr) (A B : Nat → Nat → Int) (w : World) (hA : CellsIn w ao n A) (hB : CellsIn w ao' m B) (h : Odd9 W H W' H' n m A B) : Calls Tryd.prog 207 #[.agg #[.int .i64 W, .int .i64 H, .slice (ao) n c], .agg #[.int .i64 W', .int .i64 H', .slice (ao') m c']] w fun e w' => e = .returned (.int .i64 9) ∧ Below w.heap.size w w' := by
  exact sides_size W H W' H' n m c c' ao ao' A B w h.1.1 h.1.2 hA hB h.2

set_option maxHeartbeats 1000000 in
theorem gAdded_err9 (W H W' H' : Int) (n m c c' : Nat) (ao ao' : Option Addr) (A B : Nat → Nat → Int) (w : World) (hA : CellsIn w ao n A) (hB : CellsIn w ao' m B) (h : Odd9 W H W' H' n m A B) : Calls Tryd.prog 186 #[.agg #[.int .i64 W, .int .i64 H, .slice (ao) n c], .agg #[.int .i64 W', .int .i64 H', .slice (ao') m c']] w fun e w' => e = .returned (.tuple #[.agg #[.int .i64 0, .int .i64 0, .slice (none) 0 0], .int .i64 9]) ∧ Below w.heap.size w w' := by
  have CS := Lib.hid (fun w' (hb : Below w.heap.size w w') => sides_err9 W H W' H' n m c c' ao ao' A B w' (hA.below hb) (hB.below hb) h)
  clear h hA hB
  go_enter Tryd.func186, Tryd.ntmps186
  go_wp2_with (go_at_call 207; (with_reducible refine (CS.out _ (by (repeat' (first | (with_reducible exact Below.refl _ _) | (with_reducible refine Below.setCell ?_ (by first | omega | (simp; done) | (simp; omega)) _) | (with_reducible refine Below.alloc ?_ (by first | omega | (simp; done) | (simp; omega)) _) | (with_reducible refine Below.drew ?_) | (with_reducible refine below_drewN ?_ _) | (with_reducible refine Below.trans ?_ (Below.mono (by assumption) (by first | omega | (simp; done) | (simp; omega)))))))).mono ?_); rintro e w1 ⟨rfl, hb⟩; obtain ⟨hc, hf, hz⟩ := bcall hb; (try simp at hc hf hz))
  refine bodyPost_ret (v := .tuple #[.agg #[.int .i64 0, .int .i64 0, .slice (none) 0 0], .int .i64 9]) (by simp [results, Tryd.results186, go_sem, ↓IntWalk.iteOmega, *]) rfl ⟨rfl, ?_⟩
  (repeat' (first | (with_reducible exact Below.refl _ _) | (with_reducible refine Below.setCell ?_ (by first | omega | (simp; done) | (simp; omega)) _) | (with_reducible refine Below.alloc ?_ (by first | omega | (simp; done) | (simp; omega)) _) | (with_reducible refine Below.drew ?_) | (with_reducible refine below_drewN ?_ _) | (with_reducible refine Below.trans ?_ (Below.mono (by assumption) (by first | omega | (simp; done) | (simp; omega))))))

end Go.Proofs.YtglkikdjchpmjaaDoor
