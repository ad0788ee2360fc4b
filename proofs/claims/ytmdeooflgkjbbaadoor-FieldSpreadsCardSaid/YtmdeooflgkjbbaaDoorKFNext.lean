/- The table of the moves; a cell's sign; the next cell of a path: by the program of the fields. -/
import Derived.Test.YtmdeooflgkjbbaaDoorKFMainP
import Derived.Test.YtmdeooflgkjbbaaDoorKFJoin
import Derived.Test.YtmdeooflgkjbbaaDoorKEnds
import Derived.LaidLaws
import Derived.LaidMore
import Derived.MakeChecks
import Derived.Deep.RegionHeld3
import Derived.BigQuiet
import Derived.Test.YtmdeooflgkjbbaaDoorKSeqW
namespace Go.Proofs.YtmdeooflgkjbbaaDoor
set_option linter.unusedSimpArgs false
set_option linter.unusedVariables false
open Go.ChangeShapes Go.WideShapes Go.ChangeAt Go.RowKit Go.Joins Go.Deep Go.Shelf
set_option maxRecDepth 100000

/-- A direction's sign. -/
def sgn (d : Nat) : Int := if d = 0 then 62 else if d = 1 then 94 else if d = 2 then 60 else 118
/-- The moves lie in their variable. -/
def Mvs (w : World) : Prop := ∀ d, d < 4 → w.cell? ⟨1, d * 3, none⟩ = some (.int .i64 (dx d)) ∧ w.cell? ⟨1, d * 3 + 1, none⟩ = some (.int .i64 (dy d)) ∧ w.cell? ⟨1, d * 3 + 2, none⟩ = some (.int .u8 (sgn d))
theorem gMvs : Tryd.prog.globalNamed "slipstream/field.moves" = some 1 := by kernel_rfl
theorem tMvs : (Tryd.prog.globals[1]?).map (·.type) = some 182 := by kernel_rfl
theorem cells_move : Tryd.prog.cellsOf 181 = 3 := by kernel_rfl
theorem cells_u8 : Tryd.prog.cellsOf 5 = 1 := by kernel_rfl
theorem row3F {H : Type} {enc : TypeId × Value → H} {W : World} {base : Nat} {sp : Nat → Bool} {held : Bool} {fuel : Nat} {L : List Value} {x : DataW H × List MemPlace} {q0 q1 q2 : Int} (hl : L.length = 3) (h : DataW.trod enc Tryd.prog W base sp held fuel 181 L = some x) (hx : x.1 = .agg [.lit (.int .i64 q0), .lit (.int .i64 q1), .lit (.int .u8 q2)]) : L = [.int .i64 q0, .int .i64 q1, .int .u8 q2] := by
  obtain ⟨c0, c1, c2, rfl⟩ := size3 L (by simpa using hl)
  obtain ⟨y0, y1, y2, m, rfl, _, h0, h1, h2⟩ := trod_struct3 Tryd.underlying181 h
  rw [cells_int] at h0 h1
  rw [cells_u8] at h2
  simp at h0 h1 h2
  obtain ⟨x0, e0, rfl, _⟩ := DataW.trod_int Tryd.underlying3 h0
  obtain ⟨x1, e1, rfl, _⟩ := DataW.trod_int Tryd.underlying3 h1
  obtain ⟨x2, e2, rfl, _⟩ := DataW.trod_int Tryd.underlying5 h2
  simp at e0 e1 e2 hx
  obtain ⟨a0, a1, a2⟩ := hx
  rw [e0, e1, e2, a0, a1, a2]
theorem mvs_trod {W : World} {H : Type} {enc : TypeId × Value → H} {base : Nat} {sp : Nat → Bool} {held : Bool} {fuel : Nat} {l : List Value} {x : DataW H × List MemPlace} (hd0 : DataW.trod enc Tryd.prog W base sp held fuel 182 l = some x) (hx1 : x.1 = Rows.laid_slipstream_field_moves) :
    ∀ d, d < 4 → l[d * 3]? = some (.int .i64 (dx d)) ∧ l[d * 3 + 1]? = some (.int .i64 (dy d)) ∧ l[d * 3 + 2]? = some (.int .u8 (sgn d)) := by
  obtain ⟨xs, m1, rfl, hx1', hlen, hn, hel⟩ := DataW.trod_array Tryd.underlying182 hd0
  rw [hx1'] at hx1
  rw [cells_move] at hel
  have hl : l.length = 12 := hlen.trans (by kernel_rfl)
  match xs, hn with
  | [r0, r1, r2, r3], _ =>
    simp only [Rows.laid_slipstream_field_moves, DataW.agg.injEq, List.map_cons, List.map_nil, List.cons.injEq, and_true] at hx1
    obtain ⟨g0, g1, g2, g3⟩ := hx1
    have u0 := row3F (by simp; omega) (hel 0 (by omega)) g0
    have u1 := row3F (by simp; omega) (hel 1 (by omega)) g1
    have u2 := row3F (by simp; omega) (hel 2 (by omega)) g2
    have u3 := row3F (by simp; omega) (hel 3 (by omega)) g3
    have key : ∀ k j, j < 3 → l[k * 3 + j]? = ((l.drop (k * 3)).take 3)[j]? := fun k j hj => by simp [List.getElem?_take, List.getElem?_drop, hj]
    have fin : ∀ k a b c, (l.drop (k * 3)).take 3 = [a, b, c] → l[k * 3]? = some a ∧ l[k * 3 + 1]? = some b ∧ l[k * 3 + 2]? = some c := fun k a b c e => by
      have k0 := key k 0 (by omega)
      have k1 := key k 1 (by omega)
      have k2 := key k 2 (by omega)
      rw [e] at k0 k1 k2
      exact ⟨k0, k1, k2⟩
    intro d hd
    match d, hd with
    | 0, _ => exact fin 0 _ _ _ u0
    | 1, _ => exact fin 1 _ _ _ u1
    | 2, _ => exact fin 2 _ _ _ u2
    | 3, _ => exact fin 3 _ _ _ u3
theorem mvs_of {W : World} (h : laidMetH Tryd.prog [("slipstream/field.moves", Rows.laid_slipstream_field_moves)] W) : Mvs W := by
  rw [MakeChecks.laidMetH_plain _ _ _ (by kernel_rfl)] at h
  obtain ⟨ps, ⟨g0, t0, cs0, f0, p0, q0, hg0, ht0, hv0, hd0, _, _⟩, _, _⟩ := h
  obtain rfl := Option.some.inj (gMvs.symm.trans hg0)
  obtain rfl := Option.some.inj (tMvs.symm.trans ht0)
  have row := mvs_trod hd0 rfl
  intro d hd
  obtain ⟨r0, r1, r2⟩ := row d hd
  refine ⟨?_, ?_, ?_⟩
  · rw [World.var?_cell hg0 hv0 (d * 3)]
    simpa using r0
  · rw [World.var?_cell hg0 hv0 (d * 3 + 1)]
    simpa using r1
  · rw [World.var?_cell hg0 hv0 (d * 3 + 2)]
    simpa using r2
theorem mvs_lt {w : World} (h : Mvs w) : 1 < w.heap.size := block_lt (h 0 (by decide)).1
theorem Mvs.below {w w' : World} (h : Mvs w) (hb : Below w.heap.size w w') : Mvs w' := fun d hd => ⟨(hb.cell (p := ⟨1, d * 3, none⟩) (mvs_lt h)).trans (h d hd).1, (hb.cell (p := ⟨1, d * 3 + 1, none⟩) (mvs_lt h)).trans (h d hd).2.1, (hb.cell (p := ⟨1, d * 3 + 2, none⟩) (mvs_lt h)).trans (h d hd).2.2⟩
theorem Mvs.kb {w w' : World} {S : Nat → Prop} (h : Mvs w) (hb : KB S w w') (hS : S 1) : Mvs w' := fun d hd => ⟨(hb.cell hS).trans (h d hd).1, (hb.cell hS).trans (h d hd).2.1, (hb.cell hS).trans (h d hd).2.2⟩

section
variable (a b c e : Int) (w : World)
set_option maxHeartbeats 4000000 in
theorem sign_empty : Calls Tryd.prog 97 #[.agg #[.int .i64 0, .int .i64 0, .int .i64 0, .int .i64 0]] w fun e' w' => e' = .returned (.int .u8 46) ∧ Below w.heap.size w w' := by
  go_enter Tryd.func97, Tryd.ntmps97
  go_wp2_with (go_at_call 149; (with_reducible refine (mainWay_empty _).mono ?_); rintro e w1 ⟨rfl, hb⟩; obtain ⟨hc, hf, hz⟩ := bcall hb; (try simp at hc hf hz))
  go_ret
  refine ⟨rfl, ?_⟩
  (repeat' (first | (with_reducible exact Below.refl _ _) | (with_reducible refine Below.setCell ?_ (by first | omega | (simp; done) | (simp; omega)) _) | (with_reducible refine Below.alloc ?_ (by first | omega | (simp; done) | (simp; omega)) _) | (with_reducible refine Below.drew ?_) | (with_reducible refine below_drewN ?_ _) | (with_reducible refine Below.trans ?_ (Below.mono (by assumption) (by first | omega | (simp; done) | (simp; omega))))))
set_option maxHeartbeats 4000000 in
theorem sign_in (d : Nat) (hd : d < 4) (h : ¬ (a = 0 ∧ b = 0 ∧ c = 0 ∧ e = 0)) (hm : mwy a b c e = (d : Int)) (hM : Mvs w) : Calls Tryd.prog 97 #[.agg #[.int .i64 a, .int .i64 b, .int .i64 c, .int .i64 e]] w fun e' w' => e' = .returned (.int .u8 (sgn d)) ∧ Below w.heap.size w w' := by
  have MW := Lib.hid (fun wx => (show Calls Tryd.prog 149 #[.agg #[.int .i64 a, .int .i64 b, .int .i64 c, .int .i64 e]] wx fun e w' => e = .returned (.tuple #[.int .i64 ((d : Int)), .bool true]) ∧ Below wx.heap.size wx w' from by rw [← hm]; exact mainWay_in a b c e wx h))
  have t2 := (hM d hd).2.2
  have lg := mvs_lt hM
  have d0 : (0 : Int) ≤ (d : Int) := by omega
  have d1 : (d : Int) < 4 := by omega
  clear h hm hM
  go_enter Tryd.func97, Tryd.ntmps97
  go_wp2_with (go_at_call 149; (with_reducible refine (MW.out _).mono ?_); rintro e w1 ⟨rfl, hb⟩; obtain ⟨hc, hf, hz⟩ := bcall hb; (try simp at hc hf hz))
  go_ret
  refine ⟨rfl, ?_⟩
  (repeat' (first | (with_reducible exact Below.refl _ _) | (with_reducible refine Below.setCell ?_ (by first | omega | (simp; done) | (simp; omega)) _) | (with_reducible refine Below.alloc ?_ (by first | omega | (simp; done) | (simp; omega)) _) | (with_reducible refine Below.drew ?_) | (with_reducible refine below_drewN ?_ _) | (with_reducible refine Below.trans ?_ (Below.mono (by assumption) (by first | omega | (simp; done) | (simp; omega))))))
end
end Go.Proofs.YtmdeooflgkjbbaaDoor

/- The next cell of a path: by the program of the fields. -/

namespace Go.Proofs.YtmdeooflgkjbbaaDoor
set_option linter.unusedSimpArgs false
set_option linter.unusedVariables false
open Go.RowKit Go.Shelf
attribute [local go_sem] Oper.semAt_some

theorem dx_bd (d : Nat) : -1 ≤ dx d ∧ dx d ≤ 1 := by unfold dx; split <;> (try split) <;> omega
theorem dy_bd (d : Nat) : -1 ≤ dy d ∧ dy d ≤ 1 := by unfold dy; split <;> (try split) <;> omega
/-- One step round a ring. -/
theorem ring_step {W : Nat} {x t : Int} (hW : 0 < W) (h0 : 0 ≤ x) (ht : -1 ≤ t) : Int.tmod (x + t + (W : Int)) (W : Int) = (x + t) % (W : Int) := by
  rw [Int.tmod_eq_emod_of_nonneg (by omega), show x + t + (W : Int) = x + t + (W : Int) * 1 by omega, Int.add_mul_emod_self_left]

set_option maxRecDepth 100000 in
set_option maxHeartbeats 16000000 in
theorem next_in (W H i n cap b off d : Nat) (G : Nat → Nat → Int) (w : World) (s : Sides W H n) (lb : b < w.heap.size) (hG : Grd w b off n G) (hi : i < n) (hd : d < 4)
    (hz : ¬ (G i 0 = 0 ∧ G i 1 = 0 ∧ G i 2 = 0 ∧ G i 3 = 0)) (hm : mwy (G i 0) (G i 1) (G i 2) (G i 3) = (d : Int)) (hM : Mvs w) :
    Calls Tryd.prog 169 #[.agg #[.int .i64 W, .int .i64 H, .slice (some ⟨b, off, none⟩) n cap], .int .i64 ((i : Int))] w fun e w' => e = .returned (.tuple #[.int .i64 (((nb W H 1 i d : Nat) : Int)), .bool true]) ∧ Below w.heap.size w w' := by
  have MW := Lib.hid (fun wx => (show Calls Tryd.prog 149 #[.agg #[.int .i64 (G i 0), .int .i64 (G i 1), .int .i64 (G i 2), .int .i64 (G i 3)]] wx fun e w' => e = .returned (.tuple #[.int .i64 ((d : Int)), .bool true]) ∧ Below wx.heap.size wx w' from by rw [← hm]; exact mainWay_in _ _ _ _ wx hz))
  have hW0 : 0 < W := s.w0
  have hH0 : 0 < H := s.h0
  have hW1 := s.w1
  have hH1 := s.h1
  have hn0 := s.n0
  have hn1 := s.n1
  have PT := Lib.hid (fun wx => fpoint_in W H i (some ⟨b, off, none⟩) n cap wx hW0 hW1 (by omega))
  obtain ⟨z0, z1, z2, z3⟩ := hG i hi
  obtain ⟨t0, t1, t2⟩ := hM d hd
  have lg := mvs_lt hM
  have d0 : (0 : Int) ≤ (d : Int) := by omega
  have d1 : (d : Int) < 4 := by omega
  have p0 : (0 : Int) ≤ (i : Int) := by omega
  have p1 : (i : Int) < (n : Int) := by omega
  obtain ⟨_, f1, f2⟩ := nb_parts W H 1 i d hW0 hH0
  have fd := Nat.mod_add_div (nb W H 1 i d) W
  have hx : i % W < W := Nat.mod_lt _ (by omega)
  have hy : i / W < H := by
    rw [Nat.div_lt_iff_lt_mul (by omega), Nat.mul_comm, ← hn0]
    exact hi
  obtain ⟨bx1, bx2⟩ := dx_bd d
  obtain ⟨by1, by2⟩ := dy_bd d
  have r1 := ring_step (W := W) (x := ((i % W : Nat) : Int)) (t := 1 * dx d) hW0 (Int.natCast_nonneg _) (by omega)
  have r2 := ring_step (W := H) (x := ((i / W : Nat) : Int)) (t := 1 * dy d) hH0 (Int.natCast_nonneg _) (by omega)
  rw [← f1, Int.one_mul] at r1
  rw [← f2, Int.one_mul] at r2
  have hX : nb W H 1 i d % W < W := Nat.mod_lt _ (by omega)
  have hY : nb W H 1 i d / W < H := by
    rw [Nat.div_lt_iff_lt_mul (by omega), Nat.mul_comm]
    exact (nb_parts W H 1 i d hW0 hH0).1
  obtain ⟨N, hN⟩ : ∃ N, N = nb W H 1 i d := ⟨_, rfl⟩
  rw [← hN] at fd r1 r2 hX hY ⊢
  obtain ⟨X, hX2⟩ : ∃ X, X = N % W := ⟨_, rfl⟩
  obtain ⟨Y, hY2⟩ : ∃ Y, Y = N / W := ⟨_, rfl⟩
  rw [← hX2] at fd r1 hX
  rw [← hY2] at fd r2 hY
  obtain ⟨x, hx2⟩ : ∃ x, x = i % W := ⟨_, rfl⟩
  obtain ⟨y, hy2⟩ : ∃ y, y = i / W := ⟨_, rfl⟩
  rw [← hx2] at hx r1 PT
  rw [← hy2] at hy r2 PT
  obtain ⟨u, hu⟩ : ∃ u, u = dx d := ⟨_, rfl⟩
  obtain ⟨v, hv⟩ : ∃ v, v = dy d := ⟨_, rfl⟩
  rw [← hu] at r1 bx1 bx2 t0
  rw [← hv] at r2 by1 by2 t1
  obtain ⟨p, hp⟩ : ∃ p, p = W * Y := ⟨_, rfl⟩
  have hpl : p ≤ 64 * 64 := by rw [hp]; exact Nat.mul_le_mul hW1 (by omega)
  rw [← hp] at fd
  have e1 : IntKind.i64.wrap ((x : Int) + u) = (x : Int) + u := IntWalk.i64_in _ ⟨by omega, by omega⟩
  have e2 : IntKind.i64.wrap ((x : Int) + u + (W : Int)) = (x : Int) + u + (W : Int) := IntWalk.i64_in _ ⟨by omega, by omega⟩
  have e3 : IntKind.i64.wrap ((y : Int) + v) = (y : Int) + v := IntWalk.i64_in _ ⟨by omega, by omega⟩
  have e4 : IntKind.i64.wrap ((y : Int) + v + (H : Int)) = (y : Int) + v + (H : Int) := IntWalk.i64_in _ ⟨by omega, by omega⟩
  have e5 : (W : Int) * (Y : Int) = (p : Int) := by rw [hp]; push_cast; rfl
  have e6 : IntKind.i64.wrap (p : Int) = (p : Int) := IntWalk.i64_in _ ⟨by omega, by omega⟩
  have e7 : IntKind.i64.wrap ((X : Int) + (p : Int)) = (N : Int) := by rw [show (X : Int) + (p : Int) = (N : Int) by omega]; exact IntWalk.i64_in _ ⟨by omega, by omega⟩
  have n0 : ¬ ((W : Int) = 0) := by omega
  have n1 : ¬ (W = 0) := by omega
  have n2 : ¬ ((H : Int) = 0) := by omega
  have n3 : ¬ (H = 0) := by omega
  obtain ⟨g0, hg0⟩ : ∃ g, g = G i 0 := ⟨_, rfl⟩
  obtain ⟨g1, hg1⟩ : ∃ g, g = G i 1 := ⟨_, rfl⟩
  obtain ⟨g2, hg2⟩ : ∃ g, g = G i 2 := ⟨_, rfl⟩
  obtain ⟨g3, hg3⟩ : ∃ g, g = G i 3 := ⟨_, rfl⟩
  rw [← hg0] at z0 MW
  rw [← hg1] at z1 MW
  rw [← hg2] at z2 MW
  rw [← hg3] at z3 MW
  clear hg0 hg1 hg2 hg3 hz hm hG hM s fd hp hpl hX hY hX2 hY2 hx2 hy2 hu hv hx hy f1 f2 bx1 bx2 by1 by2 hN hn0
  go_enter Tryd.func169, Tryd.ntmps169
  go_wp2_with (go_at_call 149; (with_reducible refine (MW.out _).mono ?_); rintro e w1 ⟨rfl, hb⟩; obtain ⟨hc, hf, hz⟩ := bcall hb; (try simp at hc hf hz))
  have HB1 := Lib.hid (show Below w.heap.size w w1 from by (repeat' (first | (with_reducible exact Below.refl _ _) | (with_reducible refine Below.setCell ?_ (by first | omega | (simp; done) | (simp; omega)) _) | (with_reducible refine Below.alloc ?_ (by first | omega | (simp; done) | (simp; omega)) _) | (with_reducible refine Below.drew ?_) | (with_reducible refine below_drewN ?_ _) | (with_reducible refine Below.trans ?_ (Below.mono (by assumption) (by first | omega | (simp; done) | (simp; omega)))))))
  have t0' := (HB1.out.cell (p := ⟨1, d * 3, none⟩) lg).trans t0
  have t1' := (HB1.out.cell (p := ⟨1, d * 3 + 1, none⟩) lg).trans t1
  have t2' := (HB1.out.cell (p := ⟨1, d * 3 + 2, none⟩) lg).trans t2
  have lg' : 1 < w1.heap.size := Nat.lt_of_lt_of_le lg HB1.out.size
  have t3 := (Three.new0 w 24 (.int .i64 W) (.int .i64 H) (.slice (some ⟨b, off, none⟩) n cap)).below hb (by simp)
  have q0 := t3.c0
  have q1 := t3.c1
  have q2 := t3.c2
  have lt2 : w.heap.size < w1.heap.size := t3.lt
  clear hc hf t3
  go_region_held3 (fun w' => w'.cell? ⟨w.heap.size, 0, none⟩ = some (.int .i64 W) ∧ w'.cell? ⟨w.heap.size, 1, none⟩ = some (.int .i64 H) ∧ w'.cell? ⟨w.heap.size, 2, none⟩ = some (.slice (some ⟨b, off, none⟩) n cap) ∧ w'.cell? ⟨1, d * 3, none⟩ = some (.int .i64 u) ∧ w'.cell? ⟨1, d * 3 + 1, none⟩ = some (.int .i64 v) ∧ w'.cell? ⟨1, d * 3 + 2, none⟩ = some (.int .u8 (sgn d))) (first | (go_split_ands; (try dsimp only); refine ⟨?_, ?_, ?_, ?_, ?_, ?_⟩ <;> (first | (with_reducible assumption) | (with_reducible exact keep_cell (by assumption) (by first | omega | (simp; done) | (simp; omega)) (by assumption)) | (with_reducible exact (World.cell?_alloc_past _ _ _ (by show _ < _; omega)).trans (by assumption)) | (with_reducible exact (World.cell?_alloc_past _ _ _ (by show _ < _; omega)).trans ((World.cell?_alloc_past _ _ _ (by show _ < _; omega)).symm.trans (by assumption))) | (simp [go_sem]; with_reducible assumption))) | (simp [go_sem, ↓IntWalk.iteOmega, *]; done)) ((go_at_call 88; (with_reducible refine (PT.out _).mono ?_); rintro e w2 ⟨rfl, hb2⟩; obtain ⟨hc2, hf2, hz2⟩ := bcall hb2; (try simp at hc2 hf2 hz2)))
  all_goals (rename_i hX; clear hX)
  all_goals
    have HB1 := HB1.out
    go_wp2
    go_quiet (fail)
    go_wp2
    go_ret2
    refine ⟨rfl, ?_⟩
    (repeat' (first | (with_reducible exact Below.refl _ _) | (with_reducible refine Below.setCell ?_ (by first | omega | (simp; done) | (simp; omega)) _) | (with_reducible refine Below.alloc ?_ (by first | omega | (simp; done) | (simp; omega)) _) | (with_reducible refine Below.drew ?_) | (with_reducible refine below_drewN ?_ _) | (with_reducible refine Below.trans ?_ (Below.mono (by assumption) (by first | omega | (simp; done) | (simp; omega))))))
end Go.Proofs.YtmdeooflgkjbbaaDoor

/- The cells along a path that ends, one after another: by the program of the fields. -/


namespace Go.Proofs.YtmdeooflgkjbbaaDoor
set_option linter.unusedSimpArgs false
set_option linter.unusedVariables false
open Go.RowKit Go.Shelf
attribute [local go_sem] Oper.semAt_some

theorem grown_of_below {w w' : World} (h : Below w.heap.size w w') : w.grownBy w' none :=
  ⟨h.os, h.tape, h.output, h.size, fun k hk _ => h.block k hk⟩
set_option maxRecDepth 100000 in
set_option maxHeartbeats 4000000 in
theorem next_empty (W H i n cap b off : Nat) (G : Nat → Nat → Int) (w : World) (lb : b < w.heap.size) (hG : Grd w b off n G) (hi : i < n)
    (hz : G i 0 = 0 ∧ G i 1 = 0 ∧ G i 2 = 0 ∧ G i 3 = 0) :
    Calls Tryd.prog 169 #[.agg #[.int .i64 W, .int .i64 H, .slice (some ⟨b, off, none⟩) n cap], .int .i64 ((i : Int))] w fun e w' => e = .returned (.tuple #[.int .i64 0, .bool false]) ∧ Below w.heap.size w w' := by
  obtain ⟨z0, z1, z2, z3⟩ := hG i hi
  obtain ⟨h0, h1, h2, h3⟩ := hz
  rw [h0] at z0
  rw [h1] at z1
  rw [h2] at z2
  rw [h3] at z3
  have p0 : (0 : Int) ≤ (i : Int) := by omega
  have p1 : (i : Int) < (n : Int) := by omega
  clear h0 h1 h2 h3 hG
  go_enter Tryd.func169, Tryd.ntmps169
  go_wp2_with (go_at_call 149; (with_reducible refine (mainWay_empty _).mono ?_); rintro e w1 ⟨rfl, hb⟩; obtain ⟨hc, hf, hz⟩ := bcall hb; (try simp at hc hf hz))
  go_ret2
  refine ⟨rfl, ?_⟩
  (repeat' (first | (with_reducible exact Below.refl _ _) | (with_reducible refine Below.setCell ?_ (by first | omega | (simp; done) | (simp; omega)) _) | (with_reducible refine Below.alloc ?_ (by first | omega | (simp; done) | (simp; omega)) _) | (with_reducible refine Below.drew ?_) | (with_reducible refine below_drewN ?_ _) | (with_reducible refine Below.trans ?_ (Below.mono (by assumption) (by first | omega | (simp; done) | (simp; omega))))))

/-- An empty cell; a path that ends in one. -/
def Emp (G : Nat → Nat → Int) (i : Nat) : Prop := G i 0 = 0 ∧ G i 1 = 0 ∧ G i 2 = 0 ∧ G i 3 = 0
structure Chn (W H n : Nat) (G : Nat → Nat → Int) (L : List Nat) : Prop where
  lt : ∀ (j i : Nat), L[j]? = some i → i < n
  go : ∀ (j i k : Nat), L[j]? = some i → L[j + 1]? = some k → ¬ Emp G i ∧ ∃ d : Nat, d < 4 ∧ mwy (G i 0) (G i 1) (G i 2) (G i 3) = (d : Int) ∧ k = nb W H 1 i d
  stop : ∀ (j i : Nat), L[j]? = some i → L[j + 1]? = none → Emp G i

def okOf : Value → Bool
  | .bool b => b
  | _ => false

set_option maxRecDepth 100000 in
set_option maxHeartbeats 16000000 in
theorem along1_in (n : Nat) (hn : 1 ≤ n) (l Bs Bg W H N cap b off : Nat) (G : Nat → Nat → Int) (L : List Nat) (S : Nat → Prop) (hSs : S Bs) (hSg : S Bg) (hSb : S b) (hSm : S 1) (s : Sides W H N) (hL : Chn W H N G L) (ps : Nat → Nat) (hps : ∀ (j i : Nat), L[j]? = some i → ps i = j) (st : Nat) (h1 : L[0]? = some st)
    (J Jx : List Nat → World → Prop) (w : World) (hSl : ∀ k, S k → k < w.heap.size)
    (hJb : ∀ L W1 W2, J L W1 → Below W1.heap.size W1 W2 → J L W2)
    (hY : ∀ (pre : List Nat) (x : Nat) W1, J pre W1 → pre.length < L.length → pre ++ [x] <+: L → YieldAt Fence.wide (n - 1) Tryd.prog l #[.int .i64 ((x : Int))] W1 fun e W' =>
      (e = .returned (.bool true) ∧ J (pre ++ [x]) W' ∧ KB S W1 W') ∨ (e = .returned (.bool false) ∧ Jx (pre ++ [x]) W'))
    (cs : w.cell? ⟨Bs, 0, none⟩ = some (.int .i64 ((st : Int)))) (c0 : w.cell? ⟨Bg, 0, none⟩ = some (.int .i64 W)) (c1 : w.cell? ⟨Bg, 1, none⟩ = some (.int .i64 H)) (c2 : w.cell? ⟨Bg, 2, none⟩ = some (.slice (some ⟨b, off, none⟩) N cap)) (hG : Grd w b off N G) (hM : Mvs w) (h0 : J [] w) :
    CallsIn Fence.wide n Tryd.prog 168 #[.func (.yield l) #[] #[], .pointer (some ⟨Bs, 0, none⟩), .pointer (some ⟨Bg, 0, none⟩)] w fun e W' => (∃ v, e = .returned v) ∧
      ((∃ ys, ys = L ∧ J ys W') ∨ (∃ pre, pre <+: L ∧ Jx pre W')) := by
  have HS := Lib.hid s
  have HL := Lib.hid hL
  have HG := Lib.hid hG
  have HM := Lib.hid hM
  have H1 := Lib.hid h1
  have hl1 : 0 < L.length := (List.getElem?_eq_some_iff.1 h1).1
  clear s hL hG hM h1
  refine callsIn_of_wp Tryd.func168 rfl trivial ?_ rfl
  simp only [Tryd.ntmps168, List.size_toArray, List.length_cons, List.length_nil, Nat.reduceAdd, Nat.reduceSub, Array.replicate_succ, Array.replicate_zero, List.push_toArray, List.append_toArray, List.nil_append, List.cons_append]
  gi_wp2
  have kb0 : KB S w w := ⟨Nat.le_refl _, fun _ _ => rfl⟩
  gi_loopw [4, 5] (fun i ok wr => ∃ k : Nat, k ≤ L.length ∧ Hid (J (L.take k) wr ∧ KB S w wr) ∧ ((∃ q, L[k]? = some q ∧ i = .int .i64 (q : Int) ∧ ok = .bool true) ∨ (k = L.length ∧ i = .int .i64 0 ∧ ok = .bool false))) (fun i ok _ => if okOf ok = true then L.length + 1 - ps (Go.RowKit.intOf i).toNat else 0)
  case atStart => exact ⟨0, Nat.zero_le _, Lib.hid ⟨h0, kb0⟩, .inl ⟨st, H1.out, rfl, rfl⟩⟩
  case round =>
    obtain ⟨k, hk, HJ, hst⟩ := hrel
    rcases hst with ⟨q, hq, rfl, rfl⟩ | ⟨rfl, rfl, rfl⟩
    · have hkb := HJ.out.2
      have hs0 := hkb.1
      have hlk : k < L.length := (List.getElem?_eq_some_iff.1 hq).1
      have htk : L.take (k + 1) = L.take k ++ [q] := by rw [List.take_add_one, hq]; rfl
      have hpre : L.take k ++ [q] <+: L := by rw [← htk]; exact List.take_prefix _ _
      have hlen : (L.take k).length < L.length := by rw [List.length_take]; omega
      obtain ⟨fn, tmps, assign, body, hyy, hRd⟩ := hY _ q wr HJ.out.1 hlen hpre
      have HPRE := Lib.hid hpre
      have HTK := Lib.hid htk
      have HQ := Lib.hid hq
      have hqn := HL.out.lt k q hq
      have hRd := hRd.mono (R' := RoundDone (fun W' => J (L.take k ++ [q]) W' ∧ KB S wr W') (Jx (L.take k ++ [q]))) (fun _ _ h => roundDone h)
      clear hpre htk hq
      gi_wp2
      refine hRd.mono ?_
      rintro e W3 ⟨bb, rfl, hh⟩
      rcases hh with ⟨rfl, hJ3, hk3⟩ | ⟨rfl, hx3⟩
      · have hkw := hkb.trans hk3
        have hs3 := hk3.1
        have d0 := (hkw.cell hSg).trans c0
        have d1 := (hkw.cell hSg).trans c1
        have d2 := (hkw.cell hSg).trans c2
        have lg3 : Bg < W3.heap.size := by have := hSl _ hSg; omega
        have lb3 : b < W3.heap.size := by have := hSl _ hSb; omega
        have hG3 : Grd W3 b off N G := fun i hi => ⟨(hkw.cell hSb).trans (HG.out i hi).1, (hkw.cell hSb).trans (HG.out i hi).2.1, (hkw.cell hSb).trans (HG.out i hi).2.2.1, (hkw.cell hSb).trans (HG.out i hi).2.2.2⟩
        have hM3 := HM.out.kb hkw hSm
        have HJ3 := Lib.hid hJ3
        have HKW := Lib.hid hkw
        cases hq1 : L[k + 1]? with
        | some k2 =>
          obtain ⟨hne, d, hd, hmw, hnb⟩ := HL.out.go k q k2 HQ.out hq1
          have NX := Lib.hid (next_in W H q N cap b off d G W3 HS.out lb3 hG3 hqn hd hne hmw hM3)
          rw [← hnb] at NX
          have HQ1 := Lib.hid hq1
          clear hJ3 hG3 hM3 hne hd hmw hnb hq1 hkw hk3
          gi_wp2_with (refine ⟨trivial, ?_⟩; gi_at_call 169; (with_reducible refine (callsIn_wide.2 (NX.out)).mono ?_); rintro e w1 ⟨rfl, hb⟩; obtain ⟨hc, hf, hz⟩ := bcall hb; (try simp at hc hf hz))
          go_roundw
          case rel => exact ⟨k + 1, by omega, Lib.hid ⟨by rw [HTK.out]; exact hJb _ _ _ HJ3.out hb, HKW.out.trans (KB.of_below hb (fun z hz => by have := hSl z hz; omega))⟩, .inl ⟨k2, HQ1.out, rfl, rfl⟩⟩
          case measure => have := hps _ _ HQ.out; have := hps _ _ HQ1.out; simp [Go.RowKit.intOf, okOf]; omega
        | none =>
          have hem := HL.out.stop k q HQ.out hq1
          have NX := Lib.hid (next_empty W H q N cap b off G W3 lb3 hG3 hqn hem)
          have hkl : k + 1 = L.length := by have := List.getElem?_eq_none_iff.1 hq1; omega
          clear hJ3 hG3 hM3 hem hq1 hkw hk3
          gi_wp2_with (refine ⟨trivial, ?_⟩; gi_at_call 169; (with_reducible refine (callsIn_wide.2 (NX.out)).mono ?_); rintro e w1 ⟨rfl, hb⟩; obtain ⟨hc, hf, hz⟩ := bcall hb; (try simp at hc hf hz))
          go_roundw
          case rel => exact ⟨k + 1, by omega, Lib.hid ⟨by rw [HTK.out]; exact hJb _ _ _ HJ3.out hb, HKW.out.trans (KB.of_below hb (fun z hz => by have := hSl z hz; omega))⟩, .inr ⟨hkl, rfl, rfl⟩⟩
          case measure => have := hps _ _ HQ.out; simp [Go.RowKit.intOf, okOf]; omega
      · gi_wp2
        go_end0
        exact ⟨⟨_, rfl⟩, .inr ⟨_, HPRE.out, hx3⟩⟩
    · have hJE := HJ.out.1
      rw [List.take_length] at hJE
      gi_wp2
      refine ⟨(fun f hf => nomatch hf), ?_⟩
      gi_wp2
      go_end0
      exact ⟨⟨_, rfl⟩, .inl ⟨_, rfl, hJE⟩⟩
end Go.Proofs.YtmdeooflgkjbbaaDoor
