/- The frame of a law's row: arguments that are cells, rules and numbers; a call that keeps all that was there. -/
import Derived.Test.YtpnfppcmklcinaaBase
import Derived.ProofKit
import Derived.OpenShut
import Derived.Lib.SmallJoins
import Derived.Laws.IdiomArrays
namespace Go.Proofs.Ytpnfppcmklcinaa
set_option linter.unusedSimpArgs false
set_option linter.unusedVariables false
open Go.ChangeShapes Go.WideShapes Go.ChangeAt Go.RowKit Go.Joins
set_option maxRecDepth 100000

theorem own : ownKnob Try.prog.godebug = none := by kernel_rfl

section
variable {H : Type} {enc : TypeId × Value → H}

/-- A law's row asks: true; the arguments read as they did; what was there is as it was. -/
theorem law_post {f : Func} {s : ChangeSpec} {W W' : World} {args : Array Value} {v : Value} {ds gs : List (DataW H)} {before pa pv : List MemPlace}
    (hW : DataW.Whole enc Try.prog f.params.toList s.vars false W args.toList ds gs before)
    (hres : ∀ (b : Nat) (sp : Nat → Bool) (hd : Bool), DataW.TrodAll enc Try.prog W' b sp hd f.resultTypes.toList (v.resultList f.resultTypes.size) (s.fn H (ds ++ gs)).results [])
    (hargs : ∀ sp : Nat → Bool, (∀ p ∈ before, sp p.block = true) → DataW.TrodAll enc Try.prog W' 0 sp true f.params.toList args.toList (s.fn H (ds ++ gs)).args pa)
    (hvars : ∀ sp : Nat → Bool, (∀ p ∈ before, sp p.block = true) → DataW.TrodVars enc Try.prog W' sp s.vars (s.fn H (ds ++ gs)).vars pv)
    (hps : before = pa ++ pv) (hb : Below W.heap.size W W') :
    s.post enc Try.prog f false true false false W args v W' := by
  have hold : ∀ p ∈ before, (fun b => decide (b < W.heap.size)) p.block = true := fun p hp => by simpa using hW.lt p hp
  refine ⟨ds, gs, before, [], pa, pv, hW, hres _ _ _, hargs _ hold, hvars _ hold, World.keptBut_mono (fun p hp => ⟨hp, ?_⟩) (hb.frame (· ∈ before)), fun h => ?_⟩
  · rw [hps, List.mem_append] at hp
    exact Or.inr hp
  · cases h

variable {w : World} {base : Nat} {spare : Nat → Bool} {held : Bool}

theorem cells_int : Try.prog.cellsOf 3 = 1 := by kernel_rfl
theorem cells_cell : Try.prog.cellsOf 23 = 4 := by kernel_rfl
theorem cells_arr4 : Try.prog.cellsOf 22 = 4 := by kernel_rfl
theorem cells_rule : Try.prog.cellsOf 98 = 2 := by kernel_rfl

/-- Four numbers as data. -/
def d4 (x0 x1 x2 x3 : Int) : DataW H := .agg [.lit (.int .i64 x0), .lit (.int .i64 x1), .lit (.int .i64 x2), .lit (.int .i64 x3)]
def d2 (x0 x1 : Int) : DataW H := .agg [.lit (.int .i64 x0), .lit (.int .i64 x1)]
def Wf (x : Int) : Prop := (Lit.int .i64 x).wf = true
theorem Wf.bd {x : Int} (h : Wf x) : -9223372036854775808 ≤ x ∧ x ≤ 9223372036854775807 := by
  unfold Wf at h
  simp [Lit.wf, IntKind.min, IntKind.max, IntKind.signed, IntKind.bits] at h
  exact ⟨by omega, by omega⟩

theorem size4 {α : Type} (l : List α) (h : (⟨l⟩ : Array α).size = 4) : ∃ a b c d, l = [a, b, c, d] := by
  match l, h with
  | [a, b, c, d], _ => exact ⟨a, b, c, d, rfl⟩

theorem open_arr4 {t : TypeId} {r : Reach} {v : Value} {d : DataW H} {p : List MemPlace} (ht : Try.prog.underlying t = some (.array 4 3)) (hC : Try.prog.cellsOf t = 4)
    (hv : Value.okWide Try.prog w r base t v) (h : DataW.Trod enc Try.prog w 0 spare held t v d p) :
    ∃ x0 x1 x2 x3 : Int, v = .agg #[.int .i64 x0, .int .i64 x1, .int .i64 x2, .int .i64 x3] ∧ d = d4 x0 x1 x2 x3 ∧ p = [] ∧ Wf x0 ∧ Wf x1 ∧ Wf x2 ∧ Wf x3 := by
  obtain ⟨cs, rfl, hsz, _⟩ : ∃ cs, v = .agg cs ∧ cs.size = Try.prog.cellsOf t ∧ Row.okWide Try.prog w r base t cs := by
    simpa [Value.okWide, ht] using hv
  rw [hC] at hsz
  obtain ⟨l⟩ := cs
  obtain ⟨c0, c1, c2, c3, rfl⟩ := size4 l hsz
  obtain ⟨fuel, hf⟩ := h
  obtain ⟨y0, y1, y2, y3, m, hx, hy0, hy1, hy2, hy3⟩ := trod_array4 ht cells_int hf
  obtain ⟨x0, e0, rfl, w0⟩ := DataW.trod_int Try.underlying3 hy0
  obtain ⟨x1, e1, rfl, w1⟩ := DataW.trod_int Try.underlying3 hy1
  obtain ⟨x2, e2, rfl, w2⟩ := DataW.trod_int Try.underlying3 hy2
  obtain ⟨x3, e3, rfl, w3⟩ := DataW.trod_int Try.underlying3 hy3
  simp at e0 e1 e2 e3
  subst e0 e1 e2 e3
  simp only [Prod.mk.injEq] at hx
  exact ⟨x0, x1, x2, x3, rfl, hx.1, by simpa using hx.2, w0, w1, w2, w3⟩

theorem open_cell {r : Reach} {v : Value} {d : DataW H} {p : List MemPlace} (hv : Value.okWide Try.prog w r base 23 v) (h : DataW.Trod enc Try.prog w 0 spare held 23 v d p) :
    ∃ x0 x1 x2 x3 : Int, v = .agg #[.int .i64 x0, .int .i64 x1, .int .i64 x2, .int .i64 x3] ∧ d = d4 x0 x1 x2 x3 ∧ p = [] ∧ Wf x0 ∧ Wf x1 ∧ Wf x2 ∧ Wf x3 := open_arr4 Try.underlying23 cells_cell hv h

theorem shut_arr4 {t : TypeId} (ht : Try.prog.underlying t = some (.array 4 3)) (hC : Try.prog.cellsOf t = 4) {x0 x1 x2 x3 : Int} (w0 : Wf x0) (w1 : Wf x1) (w2 : Wf x2) (w3 : Wf x3) :
    DataW.Trod enc Try.prog w base spare held t (.agg #[.int .i64 x0, .int .i64 x1, .int .i64 x2, .int .i64 x3]) (d4 x0 x1 x2 x3) [] := by
  unfold Wf at *
  exact ⟨2, by simp [DataW.trod, Value.cells, ht, Try.underlying3, hC, cells_int, w0, w1, w2, w3, d4, show List.range 4 = [0, 1, 2, 3] from rfl]⟩
theorem shut_cell {x0 x1 x2 x3 : Int} (w0 : Wf x0) (w1 : Wf x1) (w2 : Wf x2) (w3 : Wf x3) :
    DataW.Trod enc Try.prog w base spare held 23 (.agg #[.int .i64 x0, .int .i64 x1, .int .i64 x2, .int .i64 x3]) (d4 x0 x1 x2 x3) [] := shut_arr4 Try.underlying23 cells_cell w0 w1 w2 w3

theorem open_rule {r : Reach} {v : Value} {d : DataW H} {p : List MemPlace} (hv : Value.okWide Try.prog w r base 98 v) (h : DataW.Trod enc Try.prog w 0 spare held 98 v d p) :
    ∃ x0 x1 : Int, v = .agg #[.int .i64 x0, .int .i64 x1] ∧ d = d2 x0 x1 ∧ p = [] ∧ Wf x0 ∧ Wf x1 := by
  obtain ⟨c0, c1, y0, y1, m, rfl, rfl, rfl, hy0, hy1⟩ := open_agg2 Try.underlying98 (by kernel_rfl) cells_rule hv h
  obtain ⟨x0, e0, rfl, w0⟩ := DataW.trod_int Try.underlying3 hy0
  obtain ⟨x1, e1, rfl, w1⟩ := DataW.trod_int Try.underlying3 hy1
  simp at e0 e1
  subst e0 e1
  exact ⟨x0, x1, rfl, rfl, rfl, w0, w1⟩
theorem shut_rule {x0 x1 : Int} (w0 : Wf x0) (w1 : Wf x1) :
    DataW.Trod enc Try.prog w base spare held 98 (.agg #[.int .i64 x0, .int .i64 x1]) (d2 x0 x1) [] :=
  shut_agg2 (y0 := (.lit (.int .i64 x0), [])) (y1 := (.lit (.int .i64 x1), [])) Try.underlying98 (by kernel_rfl) cells_rule ⟨1, by unfold Wf at w0; simp [DataW.trod, Try.underlying3, w0]⟩ ⟨1, by unfold Wf at w1; simp [DataW.trod, Try.underlying3, w1]⟩
end
end Go.Proofs.Ytpnfppcmklcinaa
