/- Two lists of rules, opened. -/
import Derived.Test.YtmkhbkkhoemkoaaGreatDoorKEnds
namespace Go.Proofs.YtmkhbkkhoemkoaaGreatDoor
set_option linter.unusedSimpArgs false
set_option linter.unusedVariables false
open Go.ChangeShapes Go.WideShapes Go.ChangeAt Go.RowKit Go.Joins Go.Deep
set_option maxRecDepth 100000

section
variable {H : Type} {enc : TypeId × Value → H} {w : World}
theorem open_ruls {fuel : Nat} {v : Value} {x : DataW H × List MemPlace} (hf : DataW.trod enc Tryz.prog w 0 (fun _ => true) true fuel 25 [v] = some x) :
    ∃ (ao : Option Addr) (len cap : Nat) (R : Nat → Int × Int), v = .slice ao len cap ∧ len ≤ cap ∧ cap ≤ maxLen ∧ RulesIn w ao len R := by
  rcases open_slice Tryz.underlying25 hf with ⟨hcs, _⟩ | ⟨a, len, cap, m, n, D, Pl, hcs, _, hl, hm, hmm, _, hi⟩
  · simp at hcs
    subst hcs
    exact ⟨none, 0, 0, fun _ => (0, 0), rfl, Nat.le_refl _, Nat.zero_le _, .inl rfl⟩
  · simp at hcs
    subst hcs
    have hlm : len ≤ m := by simp at hmm; omega
    rw [cells_rule] at hi
    have each : ∀ i, i < len → ∃ x : Int × Int, w.cell? (a.add (i * 2)) = some (.int .i64 x.1) ∧ w.cell? ((a.add (i * 2)).add 1) = some (.int .i64 x.2) := by
      intro i hil
      obtain ⟨cs, h1, h2⟩ := hi i (by omega)
      obtain ⟨_, hlen, hat⟩ := World.cells?_some h1
      obtain ⟨y0, y1, k, _, _, e0, e1⟩ := trod_struct2 Tryz.underlying44 h2
      match cs, hlen with
      | [c0, c1], _ =>
        have a0 := hat 0 (by omega)
        have a1 := hat 1 (by omega)
        rw [cells_int] at e0 e1
        simp at e0 e1 a0 a1
        obtain ⟨x0, f0, _, _⟩ := DataW.trod_int Tryz.underlying3 e0
        obtain ⟨x1, f1, _, _⟩ := DataW.trod_int Tryz.underlying3 e1
        simp at f0 f1
        subst f0 f1
        exact ⟨(x0, x1), by simpa [Addr.add] using a0, a1⟩
    obtain ⟨R, hR⟩ := choose_lt (α := Int × Int) each
    refine ⟨some a, len, cap, R, rfl, hl, hm, ?_⟩
    rcases Nat.eq_zero_or_pos len with h0 | hp
    · exact .inl h0
    · obtain ⟨b, off, spot⟩ := a
      have hspot : spot = none := by simpa [Addr.add] using World.cell?_spot (hR 0 hp).1
      subst hspot
      refine .inr ⟨b, off, rfl, ?_, fun i hil => ?_⟩
      · have := (hR 0 hp).1
        rw [add_plain] at this
        exact block_lt this
      · have := hR i hil
        rw [add_plain, add_plain] at this
        exact this

theorem cells_rules2 : Tryz.prog.cellsOf 27 = 2 := by kernel_rfl
/-- Two lists of rules. -/
theorem open_rules2 {r : Reach} {base : Nat} {v : Value} {d : DataW H} {p : List MemPlace} (hv : Value.okWide Tryz.prog w r base 27 v) (h : DataW.Trod enc Tryz.prog w 0 (fun _ => true) true 27 v d p) :
    ∃ (ao : Option Addr) (n cap : Nat) (R : Nat → Int × Int) (bo : Option Addr) (m c2 : Nat) (S : Nat → Int × Int), v = .agg #[.slice (ao) n cap, .slice (bo) m c2] ∧ n ≤ cap ∧ cap ≤ maxLen ∧ RulesIn w ao n R ∧ m ≤ c2 ∧ c2 ≤ maxLen ∧ RulesIn w bo m S := by
  obtain ⟨v0, v1, y0, y1, k, rfl, _, _, h0, h1⟩ := open_agg2 Tryz.underlying27 (by kernel_rfl) cells_rules2 hv h
  obtain ⟨ao, n, cap, R, rfl, hl, hm, hA⟩ := open_ruls h0
  obtain ⟨bo, m, c2, S, rfl, hl2, hm2, hB⟩ := open_ruls h1
  exact ⟨ao, n, cap, R, bo, m, c2, S, rfl, hl, hm, hA, hl2, hm2, hB⟩
end
end Go.Proofs.YtmkhbkkhoemkoaaGreatDoor
