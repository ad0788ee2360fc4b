/- The table of the walls: what the listed variable's cells hold; a grid with a wall, opened. -/
import Derived.Test.YtmdeooflgkjbbaaDoorKSameN
import Derived.LaidLaws
import Derived.LaidMore
import Derived.MakeChecks
namespace Go.Proofs.YtmdeooflgkjbbaaDoor
set_option linter.unusedSimpArgs false
set_option linter.unusedVariables false
open Go.ChangeShapes Go.WideShapes Go.ChangeAt Go.RowKit Go.Joins Go.Deep
set_option maxRecDepth 100000

/-- The direction that takes the place of each direction. -/
def exch (k d : Nat) : Nat := if k = 0 then d else if k = 1 then (d + 2) % 4 else if k = 2 then (if d = 0 then 1 else if d = 1 then 0 else if d = 2 then 3 else 2) else 3 - d
/-- The table lies in its variable. -/
def Tbl (w : World) : Prop := ∀ k, k < 4 → ∀ d, d < 4 → w.cell? ⟨2, k * 4 + d, none⟩ = some (.int .i64 (exch k d))
theorem gExch : Tryd.prog.globalNamed "slipstream/wall.exchanged" = some 2 := by kernel_rfl
theorem tExch : (Tryd.prog.globals[2]?).map (·.type) = some 207 := by kernel_rfl

theorem row4 {H : Type} {enc : TypeId × Value → H} {W : World} {base : Nat} {sp : Nat → Bool} {held : Bool} {fuel : Nat} {L : List Value} {x : DataW H × List MemPlace} {q0 q1 q2 q3 : Int} (hl : L.length = 4) (h : DataW.trod enc Tryd.prog W base sp held fuel 61 L = some x) (hx : x.1 = .agg [.lit (.int .i64 q0), .lit (.int .i64 q1), .lit (.int .i64 q2), .lit (.int .i64 q3)]) : L = [.int .i64 q0, .int .i64 q1, .int .i64 q2, .int .i64 q3] := by
  obtain ⟨c0, c1, c2, c3, rfl⟩ := size4 L (by simpa using hl)
  obtain ⟨y0, y1, y2, y3, m, rfl, hy0, hy1, hy2, hy3⟩ := trod_array4 Tryd.underlying61 cells_int h
  obtain ⟨x0, e0, rfl, w0⟩ := DataW.trod_int Tryd.underlying3 hy0
  obtain ⟨x1, e1, rfl, w1⟩ := DataW.trod_int Tryd.underlying3 hy1
  obtain ⟨x2, e2, rfl, w2⟩ := DataW.trod_int Tryd.underlying3 hy2
  obtain ⟨x3, e3, rfl, w3⟩ := DataW.trod_int Tryd.underlying3 hy3
  simp at e0 e1 e2 e3 hx
  obtain ⟨a0, a1, a2, a3⟩ := hx
  rw [e0, e1, e2, e3, a0, a1, a2, a3]
theorem tbl_of {W : World} (h : laidMetH Tryd.prog [("slipstream/wall.exchanged", Rows.laid_slipstream_wall_exchanged)] W) : Tbl W := by
  rw [MakeChecks.laidMetH_plain _ _ _ (by kernel_rfl)] at h
  obtain ⟨ps, ⟨g0, t0, cs0, f0, p0, q0, hg0, ht0, hv0, hd0, _, _⟩, _, _⟩ := h
  obtain rfl := Option.some.inj (gExch.symm.trans hg0)
  obtain rfl := Option.some.inj (tExch.symm.trans ht0)
  obtain ⟨xs, m1, rfl, hx1, hlen, hn, hel⟩ := DataW.trod_array Tryd.underlying207 hd0
  rw [cells_arr4] at hel
  have hl16 : cs0.toList.length = 16 := hlen.trans (by kernel_rfl)
  obtain ⟨l⟩ := cs0
  have row : ∀ k, k < 4 → ∀ d, d < 4 → l[k * 4 + d]? = some (.int .i64 (exch k d)) := by
    match xs, hn with
    | [r0, r1, r2, r3], _ =>
      simp only [Prod.mk.injEq, Rows.laid_slipstream_wall_exchanged, DataW.agg.injEq, List.map_cons, List.map_nil, List.cons.injEq, and_true] at hx1
      obtain ⟨⟨g0, g1, g2, g3⟩, _⟩ := hx1
      have hl : l.length = 16 := by simpa using hl16
      have u0 := row4 (by simp; omega) (hel 0 (by omega)) g0.symm
      have u1 := row4 (by simp; omega) (hel 1 (by omega)) g1.symm
      have u2 := row4 (by simp; omega) (hel 2 (by omega)) g2.symm
      have u3 := row4 (by simp; omega) (hel 3 (by omega)) g3.symm
      intro k hk d hd
      have key : ∀ k, l[k * 4 + d]? = ((l.drop (k * 4)).take 4)[d]? := fun k => by simp [List.getElem?_take, List.getElem?_drop, hd]
      rw [key]
      simp only [Nat.zero_mul, List.drop_zero] at u0
      match k, hk, d, hd with
      | 0, _, 0, _ => simp [u0, exch]
      | 0, _, 1, _ => simp [u0, exch]
      | 0, _, 2, _ => simp [u0, exch]
      | 0, _, 3, _ => simp [u0, exch]
      | 1, _, 0, _ => simp at u1; simp [u1, exch]
      | 1, _, 1, _ => simp at u1; simp [u1, exch]
      | 1, _, 2, _ => simp at u1; simp [u1, exch]
      | 1, _, 3, _ => simp at u1; simp [u1, exch]
      | 2, _, 0, _ => simp at u2; simp [u2, exch]
      | 2, _, 1, _ => simp at u2; simp [u2, exch]
      | 2, _, 2, _ => simp at u2; simp [u2, exch]
      | 2, _, 3, _ => simp at u2; simp [u2, exch]
      | 3, _, 0, _ => simp at u3; simp [u3, exch]
      | 3, _, 1, _ => simp at u3; simp [u3, exch]
      | 3, _, 2, _ => simp at u3; simp [u3, exch]
      | 3, _, 3, _ => simp at u3; simp [u3, exch]
  intro k hk d hd
  have := World.var?_cell hg0 hv0 (k * 4 + d)
  rw [this]
  simpa using row k hk d hd
theorem Tbl.below {w w' : World} (h : Tbl w) (hb : Below w.heap.size w w') : Tbl w' := fun k hk d hd => (hb.cell (p := ⟨2, k * 4 + d, none⟩) (block_lt (h k hk d hd))).trans (h k hk d hd)

section
variable {H : Type} {enc : TypeId × Value → H} {w : World}
theorem cells_walled : Tryd.prog.cellsOf 66 = 5 := by kernel_rfl
theorem cells_wall : Tryd.prog.cellsOf 64 = 2 := by kernel_rfl
theorem cells_nums : Tryd.prog.cellsOf 40 = 1 := by kernel_rfl
theorem cells_cells : Tryd.prog.cellsOf 22 = 1 := by kernel_rfl
theorem size5 {α : Type} (l : List α) (h : (⟨l⟩ : Array α).size = 5) : ∃ a b c d e, l = [a, b, c, d, e] := by
  match l, h with
  | [a, b, c, d, e], _ => exact ⟨a, b, c, d, e, rfl⟩
/-- A grid with a wall. -/
theorem open_walled {r : Reach} {base : Nat} {v : Value} {d : DataW H} {p : List MemPlace} (hv : Value.okWide Tryd.prog w r base 66 v) (h : DataW.Trod enc Tryd.prog w 0 (fun _ => true) true 66 v d p) :
    ∃ (W H : Int) (ao : Option Addr) (n cap : Nat) (G : Nat → Nat → Int) (ak : Option Addr) (nk ck : Nat) (K : Nat → Int) (ab : Option Addr) (nb cb : Nat) (B : Nat → Int), v = .agg #[.int .i64 W, .int .i64 H, .slice ao n cap, .slice ak nk ck, .slice ab nb cb] ∧ Wf W ∧ Wf H ∧ n ≤ cap ∧ cap ≤ maxLen ∧ CellsIn w ao n G ∧
      nk ≤ ck ∧ ck ≤ maxLen ∧ NumsIn w ak nk K ∧ (∀ i, i < nk → Wf (K i)) ∧ nb ≤ cb ∧ cb ≤ maxLen ∧ NumsIn w ab nb B ∧ (∀ i, i < nb → Wf (B i)) := by
  obtain ⟨cs, rfl, hsz⟩ := okWide_struct Tryd.underlying66 hv
  rw [cells_walled] at hsz
  obtain ⟨l⟩ := cs
  obtain ⟨c0, c1, c2, c3, c4, rfl⟩ := size5 l hsz
  obtain ⟨fuel, hf⟩ := h
  obtain ⟨y0, y1, k, _, _, e0, e1⟩ := trod_struct2 Tryd.underlying66 hf
  rw [cells_grid] at e0
  rw [cells_wall] at e1
  simp [Value.cells] at e0 e1
  obtain ⟨z0, z1, z2, k2, _, _, g0, g1, g2⟩ := trod_struct3 Tryd.underlying24 e0
  obtain ⟨u0, u1, k3, _, _, n0, n1⟩ := trod_struct2 Tryd.underlying64 e1
  rw [cells_int] at g0 g1
  rw [cells_cells] at g2
  rw [cells_nums] at n0 n1
  simp at g0 g1 g2 n0 n1
  obtain ⟨W, a0, _, w0⟩ := DataW.trod_int Tryd.underlying3 g0
  obtain ⟨H, a1, _, w1⟩ := DataW.trod_int Tryd.underlying3 g1
  obtain ⟨ao, n, cap, G, rfl, hl, hm, hG⟩ := open_cells g2
  obtain ⟨ak, nk, ck, K, rfl, hlk, hmk, hK, wK⟩ := open_nums n0
  obtain ⟨ab, nb, cb, B, rfl, hlb, hmb, hB, wB⟩ := open_nums n1
  simp at a0 a1
  subst a0 a1
  exact ⟨W, H, ao, n, cap, G, ak, nk, ck, K, ab, nb, cb, B, rfl, w0, w1, hl, hm, hG, hlk, hmk, hK, wK, hlb, hmb, hB, wB⟩
end
end Go.Proofs.YtmdeooflgkjbbaaDoor
