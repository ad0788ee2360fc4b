/- A flow that stands; its deeds: by the program. -/
import Derived.Test.YtmkhbkkhoemkoaaGreatDoorKFlowC
import Derived.Test.YtmkhbkkhoemkoaaGreatDoorKFlowU
import Derived.Test.YtmkhbkkhoemkoaaGreatDoorKFlowX0
import Derived.Test.YtmkhbkkhoemkoaaGreatDoorKFlowX1
import Derived.Test.YtmkhbkkhoemkoaaGreatDoorKFlowS
import Derived.Test.YtmkhbkkhoemkoaaGreatDoorKRules
import Derived.Test.YtmkhbkkhoemkoaaGreatDoorKRunU
namespace Go.Proofs.YtmkhbkkhoemkoaaGreatDoor
set_option linter.unusedSimpArgs false
set_option linter.unusedVariables false
open Go.RowKit

theorem isCells_of {w : World} {b o : Nat} {v : Value} (h : w.cell? ⟨b, o, none⟩ = some v) : ∃ ob : Obj, w.heap[b]? = some ob ∧ ob.isCells = true := by
  cases hh : w.heap[b]? with
  | none => simp [World.cell?, hh] at h
  | some ob =>
    refine ⟨ob, rfl, ?_⟩
    cases ob <;> simp [World.cell?, hh, Obj.isCells] at h ⊢

/-- But for some blocks the world is as it was, and what is no cells is. -/
def KX (S : Nat → Prop) (w w' : World) : Prop := Ex S w w' ∧ ∀ (k : Nat) (o : Obj), w.heap[k]? = some o → o.isCells = false → w'.heap[k]? = some o
theorem KX.trans {S : Nat → Prop} {a b c : World} (h : KX S a b) (g : KX S b c) : KX S a c := ⟨h.1.trans g.1, fun k o hk ho => g.2 k o (h.2 k o hk ho) ho⟩
theorem KX.refl (S : Nat → Prop) (a : World) : KX S a a := ⟨Ex.refl _ _, fun _ _ hk _ => hk⟩
theorem KX.of {S S' : Nat → Prop} {w w' : World} (h : Ex S w w') (hs : ∀ k, S k → S' k ∧ ∃ ob : Obj, w.heap[k]? = some ob ∧ ob.isCells = true) : KX S' w w' :=
  ⟨h.mono (fun k hk => (hs k hk).1), fun k o hk ho => by
    refine (h.block k (Array.getElem?_eq_some_iff.1 hk).1 (fun x => ?_)).trans hk
    obtain ⟨_, ob, h1, h2⟩ := hs k x
    rw [hk] at h1
    cases h1
    rw [ho] at h2
    cases h2⟩
theorem KX.keeps {S : Nat → Prop} {w w' : World} (h : KX S w w') (N : Nat) : KeepsFrom N w w' := ⟨h.1.size, fun k o _ hk ho => h.2 k o hk ho⟩

/-- Which blocks a flow may write. -/
def FS (B V V' : Nat) (k : Nat) : Prop := B ≤ k ∧ (k < V ∨ V' ≤ k)
/-- A flow that stands: the mix that it has. -/
structure FlwG (w : World) (m W H n rb ro len rc sb so len2 sc : Nat) (R S : Nat → Int × Int) (P : MG) (B V V' : Nat) : Prop where
  ex : ∃ a ca b cb : Nat, Flw w m W H n a ca b cb (.slice (some ⟨rb, ro, none⟩) len rc) (.slice (some ⟨sb, so, none⟩) len2 sc) ∧ (Row w a n P.1 ∧ Row w b n P.2) ∧ (a ≠ b ∧ m ≠ a ∧ m ≠ b) ∧ FS B V V' a ∧ FS B V V' b
  rules : RulesAt w rb ro len R ∧ RulesAt w sb so len2 S
  below : rb < B ∧ sb < B ∧ 0 < B
  ends : Ends w
  mb : B ≤ m ∧ m < V
  top : V' ≤ w.heap.size ∧ V ≤ V'

section
variable {m W H n rb ro len rc sb so len2 sc B V V' : Nat} {R S : Nat → Int × Int} {P : MG} {w w' : World}
theorem FlwG.ext (h : FlwG w m W H n rb ro len rc sb so len2 sc R S P B V V') (hb : Below w.heap.size w w') : FlwG w' m W H n rb ro len rc sb so len2 sc R S P B V V' := by
  have x : Ex (fun _ => False) w w' := Ex.of_below hb
  obtain ⟨⟨a, ca, b, cb, hM, ⟨hA, hB⟩, n1, fa, fb⟩, ⟨r1, r2⟩, ⟨b1, b2, b3⟩, he, hm, t1, t2⟩ := h
  exact ⟨⟨a, ca, b, cb, hM.ex x (fun h => h), ⟨hA.ex x (fun h => h), hB.ex x (fun h => h)⟩, n1, fa, fb⟩, ⟨r1.ex x (by omega) (fun h => h), r2.ex x (by omega) (fun h => h)⟩, ⟨b1, b2, b3⟩, he.ex x (fun h => h), hm, Nat.le_trans t1 hb.size, t2⟩
/-- Both rows were written. -/
theorem FlwG.rows {a ca b cb : Nat} {Q : MG} (hM : Flw w m W H n a ca b cb (.slice (some ⟨rb, ro, none⟩) len rc) (.slice (some ⟨sb, so, none⟩) len2 sc)) (hA0 : Row w a n P.1) (hB0 : Row w b n P.2) (hn : 1 ≤ n) (ne : a ≠ b ∧ m ≠ a ∧ m ≠ b) (fa : FS B V V' a) (fb : FS B V V' b) (r : RulesAt w rb ro len R ∧ RulesAt w sb so len2 S) (hbe : rb < B ∧ sb < B ∧ 0 < B) (he : Ends w) (hm : B ≤ m ∧ m < V) (ht : V' ≤ w.heap.size ∧ V ≤ V')
    (hA : Row w' a n Q.1) (hB : Row w' b n Q.2) (x : Ex (fun k => k = a ∨ k = b) w w') : FlwG w' m W H n rb ro len rc sb so len2 sc R S Q B V V' ∧ KX (FS B V V') w w' := by
  obtain ⟨n1, n2, n3⟩ := ne
  obtain ⟨b1, b2, b3⟩ := hbe
  have ba := fa.1
  have bb := fb.1
  refine ⟨⟨⟨a, ca, b, cb, hM.ex x (by omega), ⟨hA, hB⟩, ⟨n1, n2, n3⟩, fa, fb⟩, ⟨r.1.ex x (by omega) (by omega), r.2.ex x (by omega) (by omega)⟩, ⟨b1, b2, b3⟩, he.ex x (by omega), hm, Nat.le_trans ht.1 x.size, ht.2⟩, KX.of x ?_⟩
  rintro k (rfl | rfl)
  · exact ⟨fa, isCells_of (hA0.at (show 0 < n by omega) (show 0 < 4 by omega)).1⟩
  · exact ⟨fb, isCells_of (hB0.at (show 0 < n by omega) (show 0 < 4 by omega)).1⟩
/-- The flow was given new rows. -/
theorem FlwG.new {a ca b cb a' ca' b' cb' : Nat} {Q : MG} (hM0 : Flw w m W H n a ca b cb (.slice (some ⟨rb, ro, none⟩) len rc) (.slice (some ⟨sb, so, none⟩) len2 sc)) (r : RulesAt w rb ro len R ∧ RulesAt w sb so len2 S) (hbe : rb < B ∧ sb < B ∧ 0 < B) (he : Ends w) (hm : B ≤ m ∧ m < V) (ht : V' ≤ w.heap.size ∧ V ≤ V')
    (hM : Flw w' m W H n a' ca' b' cb' (.slice (some ⟨rb, ro, none⟩) len rc) (.slice (some ⟨sb, so, none⟩) len2 sc)) (hA : Row w' a' n Q.1) (hB : Row w' b' n Q.2) (la : w.heap.size ≤ a') (lb : w.heap.size ≤ b') (ne : a' ≠ b') (x : Ex (fun k => k = m) w w') : FlwG w' m W H n rb ro len rc sb so len2 sc R S Q B V V' ∧ KX (FS B V V') w w' := by
  obtain ⟨b1, b2, b3⟩ := hbe
  have lm := hM0.lt
  refine ⟨⟨⟨a', ca', b', cb', hM, ⟨hA, hB⟩, ⟨ne, by omega, by omega⟩, ⟨by omega, .inr (by omega)⟩, ⟨by omega, .inr (by omega)⟩⟩, ⟨r.1.ex x (by omega) (by omega), r.2.ex x (by omega) (by omega)⟩, ⟨b1, b2, b3⟩, he.ex x (by omega), hm, Nat.le_trans ht.1 x.size, ht.2⟩, KX.of x ?_⟩
  rintro k rfl
  exact ⟨⟨hm.1, .inl hm.2⟩, isCells_of hM0.k0⟩
end
/-- What a deed at the step t makes. -/
def Deed (f : Nat) (m W H n rb ro len rc sb so len2 sc : Nat) (R S : Nat → Int × Int) (B V V' fb t : Nat) (P Q : MG) : Prop :=
  ∀ w, FlwG w m W H n rb ro len rc sb so len2 sc R S P B V V' → w.cell? ⟨fb, 0, none⟩ = some (.pointer (some ⟨m, 0, none⟩)) → Calls Tryz.prog f #[.int .i64 t, .pointer (some ⟨fb, 0, none⟩)] w fun e w' => e = .returned (.tuple #[]) ∧ FlwG w' m W H n rb ro len rc sb so len2 sc R S Q B V V' ∧ KX (FS B V V') w w'

set_option maxHeartbeats 1000000 in
theorem deed_col (m W H n rb ro len rc sb so len2 sc : Nat) (R S : Nat → Int × Int) (B V V' fb t : Nat) (P : MG) (s : Sides W H n) (hP : OkM n P) (hk : OkRs len R) (hk2 : OkRs len2 S) (ht : t ≤ 1000000) : Deed 35 m W H n rb ro len rc sb so len2 sc R S B V V' fb t P (colM (R (t % len)).1 (R (t % len)).2 P) := by
  intro w h hc0
  have lfb := block_lt hc0
  obtain ⟨⟨a, ca, b, cb, hM, ⟨hA, hB⟩, ne, fa, fb⟩, r, hbe, he, hm, htt⟩ := h
  have hrw : rb < w.heap.size := by omega
  have hsw : sb < w.heap.size := by omega
  have hea : 0 ≠ a := by have := fa.1; omega
  have heb : 0 ≠ b := by have := fb.1; omega
  have hn0 : 1 ≤ n := row_of s
  have C := Lib.hid (collide_col m n a ca b cb rb ro len rc t W H R _ P w hM hA hB s.n1 hP.1 ne.2.1 ne.2.2 ne.1 r.1 hrw hk ht)
  have HM := Lib.hid hM
  have HA := Lib.hid hA
  have HB := Lib.hid hB
  have HR := Lib.hid r
  have HE := Lib.hid he
  have HF := Lib.hid (show FS B V V' a ∧ FS B V V' b from ⟨fa, fb⟩)
  have HN := Lib.hid ne
  clear hM hA hB r he fa fb ne s hP hk hk2
  go_enter Tryz.func35, Tryz.ntmps35
  go_wp2_with fail
  go_at_call 36
  refine C.out.mono ?_
  rintro e w1 ⟨rfl, ⟨rA, rB⟩, x⟩
  have FIN := Lib.hid (FlwG.rows (Q := (colM (R (t % len)).1 (R (t % len)).2 P)) HM.out HA.out HB.out hn0 HN.out HF.out.1 HF.out.2 HR.out hbe HE.out hm htt rA rB x)
  clear rA rB x
  go_wp2
  go_end0
  exact ⟨rfl, FIN.out⟩

set_option maxHeartbeats 1000000 in
theorem deed_ucol (m W H n rb ro len rc sb so len2 sc : Nat) (R S : Nat → Int × Int) (B V V' fb t : Nat) (P : MG) (s : Sides W H n) (hP : OkM n P) (hk : OkRs len R) (hk2 : OkRs len2 S) (ht : t ≤ 1000000) : Deed 59 m W H n rb ro len rc sb so len2 sc R S B V V' fb t P (colM (R (t % len)).1 (-(R (t % len)).2) P) := by
  intro w h hc0
  have lfb := block_lt hc0
  obtain ⟨⟨a, ca, b, cb, hM, ⟨hA, hB⟩, ne, fa, fb⟩, r, hbe, he, hm, htt⟩ := h
  have hrw : rb < w.heap.size := by omega
  have hsw : sb < w.heap.size := by omega
  have hea : 0 ≠ a := by have := fa.1; omega
  have heb : 0 ≠ b := by have := fb.1; omega
  have hn0 : 1 ≤ n := row_of s
  have C := Lib.hid (collide_undo m n a ca b cb rb ro len rc t W H R _ P w hM hA hB s.n1 hP.1 ne.2.1 ne.2.2 ne.1 r.1 hrw hk ht)
  have HM := Lib.hid hM
  have HA := Lib.hid hA
  have HB := Lib.hid hB
  have HR := Lib.hid r
  have HE := Lib.hid he
  have HF := Lib.hid (show FS B V V' a ∧ FS B V V' b from ⟨fa, fb⟩)
  have HN := Lib.hid ne
  clear hM hA hB r he fa fb ne s hP hk hk2
  go_enter Tryz.func59, Tryz.ntmps59
  go_wp2_with fail
  go_at_call 36
  refine C.out.mono ?_
  rintro e w1 ⟨rfl, ⟨rA, rB⟩, x⟩
  have FIN := Lib.hid (FlwG.rows (Q := (colM (R (t % len)).1 (-(R (t % len)).2) P)) HM.out HA.out HB.out hn0 HN.out HF.out.1 HF.out.2 HR.out hbe HE.out hm htt rA rB x)
  clear rA rB x
  go_wp2
  go_end0
  exact ⟨rfl, FIN.out⟩

set_option maxHeartbeats 1000000 in
theorem deed_x0 (m W H n rb ro len rc sb so len2 sc : Nat) (R S : Nat → Int × Int) (B V V' fb t : Nat) (P : MG) (s : Sides W H n) (hP : OkM n P) (hk : OkRs len R) (hk2 : OkRs len2 S) (ht : t ≤ 1000000) : Deed 37 m W H n rb ro len rc sb so len2 sc R S B V V' fb t P (xM 0 (S (t % len2)).1 (S (t % len2)).2 P) := by
  intro w h hc0
  have lfb := block_lt hc0
  obtain ⟨⟨a, ca, b, cb, hM, ⟨hA, hB⟩, ne, fa, fb⟩, r, hbe, he, hm, htt⟩ := h
  have hrw : rb < w.heap.size := by omega
  have hsw : sb < w.heap.size := by omega
  have hea : 0 ≠ a := by have := fa.1; omega
  have heb : 0 ≠ b := by have := fb.1; omega
  have hn0 : 1 ≤ n := row_of s
  have C := Lib.hid (exch0_col m n a ca b cb sb so len2 sc t W H S _ P w he hM hA hB s.n1 hP ne.2.1 ne.2.2 ne.1 hea heb r.2 hsw hk2 ht)
  have HM := Lib.hid hM
  have HA := Lib.hid hA
  have HB := Lib.hid hB
  have HR := Lib.hid r
  have HE := Lib.hid he
  have HF := Lib.hid (show FS B V V' a ∧ FS B V V' b from ⟨fa, fb⟩)
  have HN := Lib.hid ne
  clear hM hA hB r he fa fb ne s hP hk hk2
  go_enter Tryz.func37, Tryz.ntmps37
  go_wp2_with fail
  go_at_call 38
  refine C.out.mono ?_
  rintro e w1 ⟨rfl, ⟨rA, rB⟩, x⟩
  have FIN := Lib.hid (FlwG.rows (Q := (xM 0 (S (t % len2)).1 (S (t % len2)).2 P)) HM.out HA.out HB.out hn0 HN.out HF.out.1 HF.out.2 HR.out hbe HE.out hm htt rA rB x)
  clear rA rB x
  go_wp2
  go_end0
  exact ⟨rfl, FIN.out⟩

set_option maxHeartbeats 1000000 in
theorem deed_x1 (m W H n rb ro len rc sb so len2 sc : Nat) (R S : Nat → Int × Int) (B V V' fb t : Nat) (P : MG) (s : Sides W H n) (hP : OkM n P) (hk : OkRs len R) (hk2 : OkRs len2 S) (ht : t ≤ 1000000) : Deed 39 m W H n rb ro len rc sb so len2 sc R S B V V' fb t P (xM 1 (S (t % len2)).1 (S (t % len2)).2 P) := by
  intro w h hc0
  have lfb := block_lt hc0
  obtain ⟨⟨a, ca, b, cb, hM, ⟨hA, hB⟩, ne, fa, fb⟩, r, hbe, he, hm, htt⟩ := h
  have hrw : rb < w.heap.size := by omega
  have hsw : sb < w.heap.size := by omega
  have hea : 0 ≠ a := by have := fa.1; omega
  have heb : 0 ≠ b := by have := fb.1; omega
  have hn0 : 1 ≤ n := row_of s
  have C := Lib.hid (exch1_col m n a ca b cb sb so len2 sc t W H S _ P w he hM hA hB s.n1 hP ne.2.1 ne.2.2 ne.1 hea heb r.2 hsw hk2 ht)
  have HM := Lib.hid hM
  have HA := Lib.hid hA
  have HB := Lib.hid hB
  have HR := Lib.hid r
  have HE := Lib.hid he
  have HF := Lib.hid (show FS B V V' a ∧ FS B V V' b from ⟨fa, fb⟩)
  have HN := Lib.hid ne
  clear hM hA hB r he fa fb ne s hP hk hk2
  go_enter Tryz.func39, Tryz.ntmps39
  go_wp2_with fail
  go_at_call 38
  refine C.out.mono ?_
  rintro e w1 ⟨rfl, ⟨rA, rB⟩, x⟩
  have FIN := Lib.hid (FlwG.rows (Q := (xM 1 (S (t % len2)).1 (S (t % len2)).2 P)) HM.out HA.out HB.out hn0 HN.out HF.out.1 HF.out.2 HR.out hbe HE.out hm htt rA rB x)
  clear rA rB x
  go_wp2
  go_end0
  exact ⟨rfl, FIN.out⟩

set_option maxHeartbeats 1000000 in
theorem deed_ux0 (m W H n rb ro len rc sb so len2 sc : Nat) (R S : Nat → Int × Int) (B V V' fb t : Nat) (P : MG) (s : Sides W H n) (hP : OkM n P) (hk : OkRs len R) (hk2 : OkRs len2 S) (ht : t ≤ 1000000) : Deed 58 m W H n rb ro len rc sb so len2 sc R S B V V' fb t P (xM 0 (S (t % len2)).1 (-(S (t % len2)).2) P) := by
  intro w h hc0
  have lfb := block_lt hc0
  obtain ⟨⟨a, ca, b, cb, hM, ⟨hA, hB⟩, ne, fa, fb⟩, r, hbe, he, hm, htt⟩ := h
  have hrw : rb < w.heap.size := by omega
  have hsw : sb < w.heap.size := by omega
  have hea : 0 ≠ a := by have := fa.1; omega
  have heb : 0 ≠ b := by have := fb.1; omega
  have hn0 : 1 ≤ n := row_of s
  have C := Lib.hid (exch0_undo m n a ca b cb sb so len2 sc t W H S _ P w he hM hA hB s.n1 hP ne.2.1 ne.2.2 ne.1 hea heb r.2 hsw hk2 ht)
  have HM := Lib.hid hM
  have HA := Lib.hid hA
  have HB := Lib.hid hB
  have HR := Lib.hid r
  have HE := Lib.hid he
  have HF := Lib.hid (show FS B V V' a ∧ FS B V V' b from ⟨fa, fb⟩)
  have HN := Lib.hid ne
  clear hM hA hB r he fa fb ne s hP hk hk2
  go_enter Tryz.func58, Tryz.ntmps58
  go_wp2_with fail
  go_at_call 38
  refine C.out.mono ?_
  rintro e w1 ⟨rfl, ⟨rA, rB⟩, x⟩
  have FIN := Lib.hid (FlwG.rows (Q := (xM 0 (S (t % len2)).1 (-(S (t % len2)).2) P)) HM.out HA.out HB.out hn0 HN.out HF.out.1 HF.out.2 HR.out hbe HE.out hm htt rA rB x)
  clear rA rB x
  go_wp2
  go_end0
  exact ⟨rfl, FIN.out⟩

set_option maxHeartbeats 1000000 in
theorem deed_ux1 (m W H n rb ro len rc sb so len2 sc : Nat) (R S : Nat → Int × Int) (B V V' fb t : Nat) (P : MG) (s : Sides W H n) (hP : OkM n P) (hk : OkRs len R) (hk2 : OkRs len2 S) (ht : t ≤ 1000000) : Deed 56 m W H n rb ro len rc sb so len2 sc R S B V V' fb t P (xM 1 (S (t % len2)).1 (-(S (t % len2)).2) P) := by
  intro w h hc0
  have lfb := block_lt hc0
  obtain ⟨⟨a, ca, b, cb, hM, ⟨hA, hB⟩, ne, fa, fb⟩, r, hbe, he, hm, htt⟩ := h
  have hrw : rb < w.heap.size := by omega
  have hsw : sb < w.heap.size := by omega
  have hea : 0 ≠ a := by have := fa.1; omega
  have heb : 0 ≠ b := by have := fb.1; omega
  have hn0 : 1 ≤ n := row_of s
  have C := Lib.hid (exch1_undo m n a ca b cb sb so len2 sc t W H S _ P w he hM hA hB s.n1 hP ne.2.1 ne.2.2 ne.1 hea heb r.2 hsw hk2 ht)
  have HM := Lib.hid hM
  have HA := Lib.hid hA
  have HB := Lib.hid hB
  have HR := Lib.hid r
  have HE := Lib.hid he
  have HF := Lib.hid (show FS B V V' a ∧ FS B V V' b from ⟨fa, fb⟩)
  have HN := Lib.hid ne
  clear hM hA hB r he fa fb ne s hP hk hk2
  go_enter Tryz.func56, Tryz.ntmps56
  go_wp2_with fail
  go_at_call 38
  refine C.out.mono ?_
  rintro e w1 ⟨rfl, ⟨rA, rB⟩, x⟩
  have FIN := Lib.hid (FlwG.rows (Q := (xM 1 (S (t % len2)).1 (-(S (t % len2)).2) P)) HM.out HA.out HB.out hn0 HN.out HF.out.1 HF.out.2 HR.out hbe HE.out hm htt rA rB x)
  clear rA rB x
  go_wp2
  go_end0
  exact ⟨rfl, FIN.out⟩

set_option maxHeartbeats 1000000 in
theorem deed_str (m W H n rb ro len rc sb so len2 sc : Nat) (R S : Nat → Int × Int) (B V V' fb t : Nat) (P : MG) (s : Sides W H n) (hP : OkM n P) (hk : OkRs len R) (hk2 : OkRs len2 S) (ht : t ≤ 1000000) : Deed 40 m W H n rb ro len rc sb so len2 sc R S B V V' fb t P (pullM W H 1 P) := by
  intro w h hc0
  have lfb := block_lt hc0
  obtain ⟨⟨a, ca, b, cb, hM, ⟨hA, hB⟩, ne, fa, fb⟩, r, hbe, he, hm, htt⟩ := h
  have hrw : rb < w.heap.size := by omega
  have hsw : sb < w.heap.size := by omega
  have hea : 0 ≠ a := by have := fa.1; omega
  have heb : 0 ≠ b := by have := fb.1; omega
  have hn0 : 1 ≤ n := row_of s
  have C := Lib.hid (flow_stream m n a ca b cb W H _ _ P w hM hA hB s hP.1)
  have HM := Lib.hid hM
  have HA := Lib.hid hA
  have HB := Lib.hid hB
  have HR := Lib.hid r
  have HE := Lib.hid he
  have HF := Lib.hid (show FS B V V' a ∧ FS B V V' b from ⟨fa, fb⟩)
  have HN := Lib.hid ne
  clear hM hA hB r he fa fb ne s hP hk hk2
  go_enter Tryz.func40, Tryz.ntmps40
  go_wp2_with fail
  go_at_call 41
  refine C.out.mono ?_
  rintro e w1 ⟨rfl, ⟨a', ca', b', cb', hM', rA, rB, la, lb, nab⟩, x⟩
  have FIN := Lib.hid (FlwG.new (Q := (pullM W H 1 P)) HM.out HR.out hbe HE.out hm htt hM' rA rB la lb nab x)
  clear hM' rA rB x
  go_wp2
  go_end0
  exact ⟨rfl, FIN.out⟩

set_option maxHeartbeats 1000000 in
theorem deed_ustr (m W H n rb ro len rc sb so len2 sc : Nat) (R S : Nat → Int × Int) (B V V' fb t : Nat) (P : MG) (s : Sides W H n) (hP : OkM n P) (hk : OkRs len R) (hk2 : OkRs len2 S) (ht : t ≤ 1000000) : Deed 54 m W H n rb ro len rc sb so len2 sc R S B V V' fb t P (pullM W H (-1) P) := by
  intro w h hc0
  have lfb := block_lt hc0
  obtain ⟨⟨a, ca, b, cb, hM, ⟨hA, hB⟩, ne, fa, fb⟩, r, hbe, he, hm, htt⟩ := h
  have hrw : rb < w.heap.size := by omega
  have hsw : sb < w.heap.size := by omega
  have hea : 0 ≠ a := by have := fa.1; omega
  have heb : 0 ≠ b := by have := fb.1; omega
  have hn0 : 1 ≤ n := row_of s
  have C := Lib.hid (flow_unstream m n a ca b cb W H _ _ P w hM hA hB s hP.1)
  have HM := Lib.hid hM
  have HA := Lib.hid hA
  have HB := Lib.hid hB
  have HR := Lib.hid r
  have HE := Lib.hid he
  have HF := Lib.hid (show FS B V V' a ∧ FS B V V' b from ⟨fa, fb⟩)
  have HN := Lib.hid ne
  clear hM hA hB r he fa fb ne s hP hk hk2
  go_enter Tryz.func54, Tryz.ntmps54
  go_wp2_with fail
  go_at_call 41
  refine C.out.mono ?_
  rintro e w1 ⟨rfl, ⟨a', ca', b', cb', hM', rA, rB, la, lb, nab⟩, x⟩
  have FIN := Lib.hid (FlwG.new (Q := (pullM W H (-1) P)) HM.out HR.out hbe HE.out hm htt hM' rA rB la lb nab x)
  clear hM' rA rB x
  go_wp2
  go_end0
  exact ⟨rfl, FIN.out⟩
end Go.Proofs.YtmkhbkkhoemkoaaGreatDoor

/- A flow's deeds at each number of a step: by the program. -/



namespace Go.Proofs.YtmkhbkkhoemkoaaGreatDoor
set_option linter.unusedSimpArgs false
set_option linter.unusedVariables false
open Go.RowKit Go.Shelf
attribute [local go_sem] Oper.semAt_some

theorem flwG_own {β : Type} (Bd m W H n rb ro len rc sb so len2 sc : Nat) (R S : Nat → Int × Int) (f : β → MG) (B V V' : Nat) : OwnFrom Bd (fun (s : β) w => FlwG w m W H n rb ro len rc sb so len2 sc R S (f s) B V V') := fun s X Y row hs hg hr => by
  obtain ⟨⟨a, ca, b, cb, hM, ⟨hA, hB⟩, n1, fa, fb⟩, ⟨r1, r2⟩, hbe, he, hm, t1, t2⟩ := hs
  have hr' : ∀ r, row = some r → ∃ o : Obj, X.heap[r]? = some o ∧ o.isCells = false := fun r e => (hr r e).2
  have rowk : ∀ b G, Row X b n G → Row Y b n G := fun b G h => ⟨Nat.lt_of_lt_of_le h.1 hg.size, fun j hj => ⟨cell_kept (h.2 j hj).1 hg hr', (frozen_kept (h.2 j hj).1 hg hr').trans (h.2 j hj).2⟩⟩
  refine ⟨⟨a, ca, b, cb, ?_, ⟨rowk _ _ hA, rowk _ _ hB⟩, n1, fa, fb⟩, ⟨fun i hi => ⟨cell_kept (r1 i hi).1 hg hr', cell_kept (r1 i hi).2 hg hr'⟩, fun i hi => ⟨cell_kept (r2 i hi).1 hg hr', cell_kept (r2 i hi).2 hg hr'⟩⟩, hbe, ⟨cell_kept he.1 hg hr', cell_kept he.2.1 hg hr', cell_kept he.2.2.1 hg hr', cell_kept he.2.2.2 hg hr'⟩, hm, Nat.le_trans t1 hg.size, t2⟩
  refine (hg.block m hM.lt (fun e => ?_)).trans hM
  obtain ⟨o, ho, hc⟩ := hr' m e.symm
  rw [show X.heap[m]? = _ from hM] at ho
  cases ho
  cases hc
theorem four_own {β : Type} (Bd B : Nat) (t : TypeId) (x y z v : Value) : OwnFrom Bd (fun (_ : β) W => Four W B t x y z v) := fun s X Y row hs hg hr => by
  refine (hg.block B hs.lt (fun e => ?_)).trans hs
  obtain ⟨o, ho, hc⟩ := (hr B e.symm).2
  rw [show X.heap[B]? = _ from hs] at ho
  cases ho
  cases hc

theorem index_deed0 (w : World) (a b c d : Value) : (Instr.index 52 (.agg #[a, b, c, d]) (.int .i64 0)).run Tryz.prog w = .ok a w := by kernel_rfl
theorem index_deed1 (w : World) (a b c d : Value) : (Instr.index 52 (.agg #[a, b, c, d]) (.int .i64 1)).run Tryz.prog w = .ok b w := by kernel_rfl
theorem index_deed2 (w : World) (a b c d : Value) : (Instr.index 52 (.agg #[a, b, c, d]) (.int .i64 2)).run Tryz.prog w = .ok c w := by kernel_rfl
theorem index_deed3 (w : World) (a b c d : Value) : (Instr.index 52 (.agg #[a, b, c, d]) (.int .i64 3)).run Tryz.prog w = .ok d w := by kernel_rfl
attribute [go_sem] index_deed0 index_deed1 index_deed2 index_deed3

/-- One step by the rules of collisions and of exchanges, and one step back. -/
def mfwd (W H len len2 : Nat) (R S : Nat → Int × Int) (t : Nat) (P : MG) : MG := fwdM W H (R (t % len)).1 (R (t % len)).2 (S (t % len2)).1 (S (t % len2)).2 P
def mbwd (W H len len2 : Nat) (R S : Nat → Int × Int) (t : Nat) (P : MG) : MG := bwdM W H (R (t % len)).1 (R (t % len)).2 (S (t % len2)).1 (S (t % len2)).2 P
def foldM (F : Nat → MG → MG) (l : List Stp) (P : MG) : MG := l.foldl (fun K t => F t.1 K) P
theorem foldM_snoc (F : Nat → MG → MG) (l : List Stp) (x : Stp) (P : MG) : foldM F (l ++ [x]) P = F x.1 (foldM F l P) := by simp [foldM]
theorem okM_fold {n : Nat} {F : Nat → MG → MG} (hF : ∀ t K, OkM n K → OkM n (F t K)) (l : List Stp) {P : MG} (h : OkM n P) : OkM n (foldM F l P) := by
  induction l generalizing P with
  | nil => exact h
  | cons x l ih => exact ih (hF _ _ h)
/-- What has come after some of four deeds. -/
def seq5 (a b c d e : MG) : Nat → MG
  | 0 => a
  | 1 => b
  | 2 => c
  | 3 => d
  | _ => e

set_option maxRecDepth 100000 in
set_option maxHeartbeats 8000000 in
theorem do_fo (m W H n rb ro len rc sb so len2 sc B V cnt s8 fb : Nat) (first by' : Int) (f : Nat → Stp) (R S : Nat → Int × Int) (P : MG) (w : World) (h : FlwG w m W H n rb ro len rc sb so len2 sc R S P B V w.heap.size) (s : Sides W H n) (hP : OkM n P) (hk : OkRs len R) (hk2 : OkRs len2 S)
    (hcnt : cnt ≤ 1000) (hf0 : -2000000 ≤ first) (hf1 : first ≤ 2000000) (hb0 : -1 ≤ by') (hb1 : by' ≤ 1) (hf : ∀ j, j < cnt → ((f j).1 : Int) = first + by' * j)
    (hU : V ≤ s8) (b0 : Boxed w s8 3 (.int .i64 first)) (b1 : Boxed w (s8 + 1) 3 (.int .i64 by')) (b2 : Boxed w (s8 + 1 + 1) 3 (.int .i64 cnt)) (hV : V ≤ fb) (bF : Boxed w fb 47 (.pointer (some ⟨m, 0, none⟩))) :
    CallsIn Fence.wide 6 Tryz.prog 21 #[.agg #[.func (.func 35) #[] #[.pointer (some ⟨fb, 0, none⟩)], .func (.func 37) #[] #[.pointer (some ⟨fb, 0, none⟩)], .func (.func 39) #[] #[.pointer (some ⟨fb, 0, none⟩)], .func (.func 40) #[] #[.pointer (some ⟨fb, 0, none⟩)]], .func (.func 43) #[] #[.pointer (some ⟨s8 + 1 + 1, 0, none⟩), .pointer (some ⟨s8, 0, none⟩), .pointer (some ⟨s8 + 1, 0, none⟩)]] w fun e w' =>
      e = .returned (.tuple #[]) ∧ FlwG w' m W H n rb ro len rc sb so len2 sc R S (foldM (mfwd W H len len2 R S) (upto f cnt) P) B V (w.heap.size + 1) ∧ Below B w w' := by
  refine callsIn_of_wp_marks Tryz.func21 rfl trivial ?_ rfl
  simp only [Tryz.ntmps21, List.size_toArray, List.length_cons, List.length_nil, Nat.reduceAdd, Nat.reduceSub, Array.replicate_succ, Array.replicate_zero, List.push_toArray, List.append_toArray, List.nil_append, List.cons_append]
  gi_wp2
  have l2 := b2.lt
  have lF := bF.lt
  have bD : Four (w.alloc (.cells #[.func (.func 35) #[] #[.pointer (some ⟨fb, 0, none⟩)], .func (.func 37) #[] #[.pointer (some ⟨fb, 0, none⟩)], .func (.func 39) #[] #[.pointer (some ⟨fb, 0, none⟩)], .func (.func 40) #[] #[.pointer (some ⟨fb, 0, none⟩)]] 52)) w.heap.size 52 (.func (.func 35) #[] #[.pointer (some ⟨fb, 0, none⟩)]) (.func (.func 37) #[] #[.pointer (some ⟨fb, 0, none⟩)]) (.func (.func 39) #[] #[.pointer (some ⟨fb, 0, none⟩)]) (.func (.func 40) #[] #[.pointer (some ⟨fb, 0, none⟩)]) := Four.new0 w _ _ _ _ _
  have x4 : Below w.heap.size w (w.alloc (.cells #[.func (.func 35) #[] #[.pointer (some ⟨fb, 0, none⟩)], .func (.func 37) #[] #[.pointer (some ⟨fb, 0, none⟩)], .func (.func 39) #[] #[.pointer (some ⟨fb, 0, none⟩)], .func (.func 40) #[] #[.pointer (some ⟨fb, 0, none⟩)]] 52)) := (Below.refl _ w).alloc (Nat.le_refl _) _
  have hsz : (w.alloc (.cells #[.func (.func 35) #[] #[.pointer (some ⟨fb, 0, none⟩)], .func (.func 37) #[] #[.pointer (some ⟨fb, 0, none⟩)], .func (.func 39) #[] #[.pointer (some ⟨fb, 0, none⟩)], .func (.func 40) #[] #[.pointer (some ⟨fb, 0, none⟩)]] 52)).heap.size = w.heap.size + 1 := by simp
  obtain ⟨w4, hw4⟩ : ∃ w4, w4 = w.alloc (.cells #[.func (.func 35) #[] #[.pointer (some ⟨fb, 0, none⟩)], .func (.func 37) #[] #[.pointer (some ⟨fb, 0, none⟩)], .func (.func 39) #[] #[.pointer (some ⟨fb, 0, none⟩)], .func (.func 40) #[] #[.pointer (some ⟨fb, 0, none⟩)]] 52) := ⟨_, rfl⟩
  rw [← hw4] at bD x4 hsz ⊢
  clear hw4
  have c0 : Boxed w4 s8 3 (.int .i64 first) := (x4.block _ b0.lt).trans b0
  have c1 : Boxed w4 (s8 + 1) 3 (.int .i64 by') := (x4.block _ b1.lt).trans b1
  have c2 : Boxed w4 (s8 + 1 + 1) 3 (.int .i64 cnt) := (x4.block _ l2).trans b2
  have cF : Boxed w4 fb 47 (.pointer (some ⟨m, 0, none⟩)) := (x4.block _ lF).trans bF
  have hBV : B ≤ V := by have := h.mb; omega
  have hM : FlwG w4 m W H n rb ro len rc sb so len2 sc R S P B V (w.heap.size + 1) := by
    obtain ⟨⟨a, ca, b, cb, hM, ⟨hA, hB⟩, n1, fa, fb⟩, r, hbe, he, hm, t1, t2⟩ := h.ext x4
    obtain ⟨⟨a0, ca0, b0', cb0, hM0, ⟨hA0, hB0⟩, _, fa0, fb0⟩, _⟩ := h
    have e1 := (show w4.heap[m]? = w.heap[m]? from x4.block m hM0.lt).symm.trans hM
    rw [show w.heap[m]? = _ from hM0] at e1
    simp at e1
    obtain ⟨⟨e2, _⟩, e3, _⟩ := e1
    subst e2 e3
    have := hA0.1
    have := hB0.1
    exact ⟨⟨a0, ca, b0', cb, hM, ⟨hA, hB⟩, n1, ⟨fa.1, .inl (by have := fa0.2; omega)⟩, ⟨fb.1, .inl (by have := fb0.2; omega)⟩⟩, r, hbe, he, hm, by omega, by omega⟩
  have htop := h.top
  refine wpIn_rangeFunc_ownH (α := Stp) rfl (by omega) (gf := 43) (lb := #[.pointer (some ⟨s8 + 1 + 1, 0, none⟩), .pointer (some ⟨s8, 0, none⟩), .pointer (some ⟨s8 + 1, 0, none⟩)]) rfl trivial (enters_of Tryz.func43 (by kernel_rfl) rfl)
    (numsP_stops 5 (by omega) cnt s8 first by' f w4 hcnt hf0 hf1 hb0 hb1 hf c0.cell c1.cell c2.cell (by omega))
    (fun h g => KB.trans h g) (kb_put (fun k hk => by rcases hk with rfl | rfl <;> omega)) (Below.refl _ _) (fun _ => rfl)
    (fun pre X => (FlwG X m W H n rb ro len rc sb so len2 sc R S (foldM (mfwd W H len len2 R S) pre P) B V (w.heap.size + 1) ∧ Boxed X fb 47 (.pointer (some ⟨m, 0, none⟩))) ∧ (Four X w.heap.size 52 (.func (.func 35) #[] #[.pointer (some ⟨fb, 0, none⟩)]) (.func (.func 37) #[] #[.pointer (some ⟨fb, 0, none⟩)]) (.func (.func 39) #[] #[.pointer (some ⟨fb, 0, none⟩)]) (.func (.func 40) #[] #[.pointer (some ⟨fb, 0, none⟩)]) ∧ Below B w X))
    (fun _ _ _ => False)
    (OwnFrom.and (OwnFrom.and (flwG_own _ m W H n rb ro len rc sb so len2 sc R S (fun pre => foldM (mfwd W H len len2 R S) pre P) B V (w.heap.size + 1)) (Own.from (boxed_own _ _ _) _)) (OwnFrom.and (four_own _ _ _ _ _ _ _) (ownFrom_below (by omega) (by omega))))
    (fun _ _ _ _ _ hs _ _ => hs)
    ⟨⟨hM, cF⟩, bD, x4.mono (by omega)⟩
    (fun x a' _ => a' = { tmps := #[.agg #[.func (.func 35) #[] #[.pointer (some ⟨fb, 0, none⟩)], .func (.func 37) #[] #[.pointer (some ⟨fb, 0, none⟩)], .func (.func 39) #[] #[.pointer (some ⟨fb, 0, none⟩)], .func (.func 40) #[] #[.pointer (some ⟨fb, 0, none⟩)]], .func (.func 43) #[] #[.pointer (some ⟨s8 + 1 + 1, 0, none⟩), .pointer (some ⟨s8, 0, none⟩), .pointer (some ⟨s8 + 1, 0, none⟩)], .pointer (some ⟨w.heap.size, 0, none⟩), undef, .int .i64 x.1, undef, undef, .func (.func 43) #[] #[.pointer (some ⟨s8 + 1 + 1, 0, none⟩), .pointer (some ⟨s8, 0, none⟩), .pointer (some ⟨s8 + 1, 0, none⟩)], .int .i64 x.1, undef, undef, undef, undef, undef, undef, undef, undef], defers := [] })
    (fun _ _ _ _ _ _ hs _ _ => hs)
    ?assign ?body ?done ?stop
  case assign =>
    rintro l pre x X K hI hK
    gi_wp2
    exact hK _ _ (KeepsFrom.refl _ _) (KB.refl _ _) hI rfl
  case body =>
    rintro l pre x a' X _ _ ⟨⟨hMx, bX⟩, bA, hbl⟩ rfl _
    obtain ⟨Q, hQe⟩ : ∃ Q, Q = foldM (mfwd W H len len2 R S) pre P := ⟨_, rfl⟩
    have hQ : OkM n Q := by rw [hQe]; exact okM_fold (fun t K h => okM_fwd s.n0 h _ _ _ _) pre hP
    rw [← hQe] at hMx
    have D0 := Lib.hid (deed_col m W H n rb ro len rc sb so len2 sc R S B V (w.heap.size + 1) fb x.1 Q s hQ hk hk2 x.2)
    have D1 := Lib.hid (deed_x0 m W H n rb ro len rc sb so len2 sc R S B V (w.heap.size + 1) fb x.1 (colM (R (x.1 % len)).1 (R (x.1 % len)).2 Q) s (okM_col hQ _ _) hk hk2 x.2)
    have D2 := Lib.hid (deed_x1 m W H n rb ro len rc sb so len2 sc R S B V (w.heap.size + 1) fb x.1 (xM 0 (S (x.1 % len2)).1 (S (x.1 % len2)).2 (colM (R (x.1 % len)).1 (R (x.1 % len)).2 Q)) s (okM_x (okM_col hQ _ _) 0 (by omega) _ _) hk hk2 x.2)
    have D3 := Lib.hid (deed_str m W H n rb ro len rc sb so len2 sc R S B V (w.heap.size + 1) fb x.1 (xM 1 (S (x.1 % len2)).1 (S (x.1 % len2)).2 (xM 0 (S (x.1 % len2)).1 (S (x.1 % len2)).2 (colM (R (x.1 % len)).1 (R (x.1 % len)).2 Q))) s (okM_x (okM_x (okM_col hQ _ _) 0 (by omega) _ _) 1 (by omega) _ _) hk hk2 x.2)
    have z0 := bA.c0
    have z1 := bA.c1
    have z2 := bA.c2
    have z3 := bA.c3
    have lX := bX.lt
    have lA := bA.lt
    have H0 := Lib.hid (show FlwG X m W H n rb ro len rc sb so len2 sc R S ((seq5 Q (colM (R (x.1 % len)).1 (R (x.1 % len)).2 Q) (xM 0 (S (x.1 % len2)).1 (S (x.1 % len2)).2 (colM (R (x.1 % len)).1 (R (x.1 % len)).2 Q)) (xM 1 (S (x.1 % len2)).1 (S (x.1 % len2)).2 (xM 0 (S (x.1 % len2)).1 (S (x.1 % len2)).2 (colM (R (x.1 % len)).1 (R (x.1 % len)).2 Q))) (pullM W H 1 (xM 1 (S (x.1 % len2)).1 (S (x.1 % len2)).2 (xM 0 (S (x.1 % len2)).1 (S (x.1 % len2)).2 (colM (R (x.1 % len)).1 (R (x.1 % len)).2 Q))))) 0) B V (w.heap.size + 1) ∧ KX (FS B V (w.heap.size + 1)) X X from ⟨hMx, KX.refl _ _⟩)
    have HX := Lib.hid bX
    have HA := Lib.hid bA
    have HBL := Lib.hid hbl
    have HQE := Lib.hid hQe
    clear hMx hQ bX bA hbl hQe hP hk hk2 hM h
    gi_wp2_with fail
    clear z0 z1 z2 z3
    gi_loopw [10] (fun i wr => ∃ k : Nat, k ≤ 4 ∧ i = .int .i64 k ∧ Hid (FlwG wr m W H n rb ro len rc sb so len2 sc R S ((seq5 Q (colM (R (x.1 % len)).1 (R (x.1 % len)).2 Q) (xM 0 (S (x.1 % len2)).1 (S (x.1 % len2)).2 (colM (R (x.1 % len)).1 (R (x.1 % len)).2 Q)) (xM 1 (S (x.1 % len2)).1 (S (x.1 % len2)).2 (xM 0 (S (x.1 % len2)).1 (S (x.1 % len2)).2 (colM (R (x.1 % len)).1 (R (x.1 % len)).2 Q))) (pullM W H 1 (xM 1 (S (x.1 % len2)).1 (S (x.1 % len2)).2 (xM 0 (S (x.1 % len2)).1 (S (x.1 % len2)).2 (colM (R (x.1 % len)).1 (R (x.1 % len)).2 Q))))) k) B V (w.heap.size + 1) ∧ KX (FS B V (w.heap.size + 1)) X wr)) (fun i _ => 4 - (intOf i).toNat)
    case atStart => exact ⟨0, by omega, rfl, H0⟩
    case round =>
      obtain ⟨k, hk, rfl, HH⟩ := hrel
      have cF : wr.cell? ⟨fb, 0, none⟩ = some (.pointer (some ⟨m, 0, none⟩)) := (HH.out.2.1.cell lX (by unfold FS; omega)).trans HX.out.cell
      rcases (show k = 0 ∨ k = 1 ∨ k = 2 ∨ k = 3 ∨ k = 4 by omega) with rfl | rfl | rfl | rfl | rfl
      · have C := D0.out wr HH.out.1 cF
        clear cF
        gi_wp2_with fail
        refine ⟨trivial, ?_⟩
        gi_at_call 35
        refine (CallsIn.inRound l (callsIn_wide.2 C)).mono ?_
        rintro e X2 ⟨rfl, hM2, hx2⟩
        have HE := Lib.hid (show FlwG X2 m W H n rb ro len rc sb so len2 sc R S ((seq5 Q (colM (R (x.1 % len)).1 (R (x.1 % len)).2 Q) (xM 0 (S (x.1 % len2)).1 (S (x.1 % len2)).2 (colM (R (x.1 % len)).1 (R (x.1 % len)).2 Q)) (xM 1 (S (x.1 % len2)).1 (S (x.1 % len2)).2 (xM 0 (S (x.1 % len2)).1 (S (x.1 % len2)).2 (colM (R (x.1 % len)).1 (R (x.1 % len)).2 Q))) (pullM W H 1 (xM 1 (S (x.1 % len2)).1 (S (x.1 % len2)).2 (xM 0 (S (x.1 % len2)).1 (S (x.1 % len2)).2 (colM (R (x.1 % len)).1 (R (x.1 % len)).2 Q))))) 1) B V (w.heap.size + 1) ∧ KX (FS B V (w.heap.size + 1)) X X2 from ⟨hM2, HH.out.2.trans hx2⟩)
        clear hM2 hx2 C
        gi_wp2
        go_roundw
        case rel => exact ⟨1, by omega, by simp, HE⟩
        case measure => simp [intOf]
      · have C := D1.out wr HH.out.1 cF
        clear cF
        gi_wp2_with fail
        refine ⟨trivial, ?_⟩
        gi_at_call 37
        refine (CallsIn.inRound l (callsIn_wide.2 C)).mono ?_
        rintro e X2 ⟨rfl, hM2, hx2⟩
        have HE := Lib.hid (show FlwG X2 m W H n rb ro len rc sb so len2 sc R S ((seq5 Q (colM (R (x.1 % len)).1 (R (x.1 % len)).2 Q) (xM 0 (S (x.1 % len2)).1 (S (x.1 % len2)).2 (colM (R (x.1 % len)).1 (R (x.1 % len)).2 Q)) (xM 1 (S (x.1 % len2)).1 (S (x.1 % len2)).2 (xM 0 (S (x.1 % len2)).1 (S (x.1 % len2)).2 (colM (R (x.1 % len)).1 (R (x.1 % len)).2 Q))) (pullM W H 1 (xM 1 (S (x.1 % len2)).1 (S (x.1 % len2)).2 (xM 0 (S (x.1 % len2)).1 (S (x.1 % len2)).2 (colM (R (x.1 % len)).1 (R (x.1 % len)).2 Q))))) 2) B V (w.heap.size + 1) ∧ KX (FS B V (w.heap.size + 1)) X X2 from ⟨hM2, HH.out.2.trans hx2⟩)
        clear hM2 hx2 C
        gi_wp2
        go_roundw
        case rel => exact ⟨2, by omega, by simp, HE⟩
        case measure => simp [intOf]
      · have C := D2.out wr HH.out.1 cF
        clear cF
        gi_wp2_with fail
        refine ⟨trivial, ?_⟩
        gi_at_call 39
        refine (CallsIn.inRound l (callsIn_wide.2 C)).mono ?_
        rintro e X2 ⟨rfl, hM2, hx2⟩
        have HE := Lib.hid (show FlwG X2 m W H n rb ro len rc sb so len2 sc R S ((seq5 Q (colM (R (x.1 % len)).1 (R (x.1 % len)).2 Q) (xM 0 (S (x.1 % len2)).1 (S (x.1 % len2)).2 (colM (R (x.1 % len)).1 (R (x.1 % len)).2 Q)) (xM 1 (S (x.1 % len2)).1 (S (x.1 % len2)).2 (xM 0 (S (x.1 % len2)).1 (S (x.1 % len2)).2 (colM (R (x.1 % len)).1 (R (x.1 % len)).2 Q))) (pullM W H 1 (xM 1 (S (x.1 % len2)).1 (S (x.1 % len2)).2 (xM 0 (S (x.1 % len2)).1 (S (x.1 % len2)).2 (colM (R (x.1 % len)).1 (R (x.1 % len)).2 Q))))) 3) B V (w.heap.size + 1) ∧ KX (FS B V (w.heap.size + 1)) X X2 from ⟨hM2, HH.out.2.trans hx2⟩)
        clear hM2 hx2 C
        gi_wp2
        go_roundw
        case rel => exact ⟨3, by omega, by simp, HE⟩
        case measure => simp [intOf]
      · have C := D3.out wr HH.out.1 cF
        clear cF
        gi_wp2_with fail
        refine ⟨trivial, ?_⟩
        gi_at_call 40
        refine (CallsIn.inRound l (callsIn_wide.2 C)).mono ?_
        rintro e X2 ⟨rfl, hM2, hx2⟩
        have HE := Lib.hid (show FlwG X2 m W H n rb ro len rc sb so len2 sc R S ((seq5 Q (colM (R (x.1 % len)).1 (R (x.1 % len)).2 Q) (xM 0 (S (x.1 % len2)).1 (S (x.1 % len2)).2 (colM (R (x.1 % len)).1 (R (x.1 % len)).2 Q)) (xM 1 (S (x.1 % len2)).1 (S (x.1 % len2)).2 (xM 0 (S (x.1 % len2)).1 (S (x.1 % len2)).2 (colM (R (x.1 % len)).1 (R (x.1 % len)).2 Q))) (pullM W H 1 (xM 1 (S (x.1 % len2)).1 (S (x.1 % len2)).2 (xM 0 (S (x.1 % len2)).1 (S (x.1 % len2)).2 (colM (R (x.1 % len)).1 (R (x.1 % len)).2 Q))))) 4) B V (w.heap.size + 1) ∧ KX (FS B V (w.heap.size + 1)) X X2 from ⟨hM2, HH.out.2.trans hx2⟩)
        clear hM2 hx2 C
        gi_wp2
        go_roundw
        case rel => exact ⟨4, by omega, by simp, HE⟩
        case measure => simp [intOf]
      · clear cF
        have hx := HH.out.2
        have HE := Lib.hid (show KeepsFrom w4.heap.size X wr ∧ KB (fun k => k = s8 ∨ k = s8 + 1) X wr ∧ (FlwG wr m W H n rb ro len rc sb so len2 sc R S (foldM (mfwd W H len len2 R S) (pre ++ [x]) P) B V (w.heap.size + 1) ∧ Boxed wr fb 47 (.pointer (some ⟨m, 0, none⟩))) ∧ (Four wr w.heap.size 52 (.func (.func 35) #[] #[.pointer (some ⟨fb, 0, none⟩)]) (.func (.func 37) #[] #[.pointer (some ⟨fb, 0, none⟩)]) (.func (.func 39) #[] #[.pointer (some ⟨fb, 0, none⟩)]) (.func (.func 40) #[] #[.pointer (some ⟨fb, 0, none⟩)]) ∧ Below B w wr) from
          ⟨hx.keeps _, kb_ex hx.1 (fun k hk => ⟨by rcases hk with rfl | rfl <;> omega, by unfold FS; rcases hk with rfl | rfl <;> omega⟩), ⟨by rw [foldM_snoc, ← HQE.out]; exact HH.out.1, (hx.1.block _ lX (by unfold FS; omega)).trans HX.out⟩, HA.out.ex hx.1 (by unfold FS; omega), HBL.out.trans (hx.1.below (by omega) (fun k hk => hk.1))⟩)
        clear hx
        gi_wp2
        exact HE.out
  case done =>
    rintro D ys X hD rfl ⟨⟨hMx, bX⟩, bA, hbl⟩ hK
    gi_wp2
    refine ⟨by simp, .inl ⟨_, _, rfl, run_takeDeferred hK, ?_⟩⟩
    have hg := grownBy_putObj' X D (.deferred none)
    have hr' : ∀ r, some D = some r → 0 ≤ r ∧ ∃ o : Obj, X.heap[r]? = some o ∧ o.isCells = false := fun r e => by cases e; exact ⟨Nat.zero_le _, _, hK, rfl⟩
    refine ⟨.tuple #[], by simp [results, Tryz.results21, go_sem], rfl, flwG_own 0 m W H n rb ro len rc sb so len2 sc R S (fun (_ : Unit) => foldM (mfwd W H len len2 R S) (upto f cnt) P) B V (w.heap.size + 1) () _ _ _ hMx hg hr', ownFrom_below (β := Unit) (B := w.heap.size) (by omega) (by omega) () _ _ _ hbl hg (fun r e => by cases e; exact ⟨by omega, _, hK, rfl⟩)⟩
  case stop =>
    rintro D c pre X _ _ h _
    exact h.elim

set_option maxRecDepth 100000 in
set_option maxHeartbeats 8000000 in
theorem do_ba (m W H n rb ro len rc sb so len2 sc B V cnt s8 fb : Nat) (first by' : Int) (f : Nat → Stp) (R S : Nat → Int × Int) (P : MG) (w : World) (h : FlwG w m W H n rb ro len rc sb so len2 sc R S P B V w.heap.size) (s : Sides W H n) (hP : OkM n P) (hk : OkRs len R) (hk2 : OkRs len2 S)
    (hcnt : cnt ≤ 1000) (hf0 : -2000000 ≤ first) (hf1 : first ≤ 2000000) (hb0 : -1 ≤ by') (hb1 : by' ≤ 1) (hf : ∀ j, j < cnt → ((f j).1 : Int) = first + by' * j)
    (hU : V ≤ s8) (b0 : Boxed w s8 3 (.int .i64 first)) (b1 : Boxed w (s8 + 1) 3 (.int .i64 by')) (b2 : Boxed w (s8 + 1 + 1) 3 (.int .i64 cnt)) (hV : V ≤ fb) (bF : Boxed w fb 47 (.pointer (some ⟨m, 0, none⟩))) :
    CallsIn Fence.wide 6 Tryz.prog 21 #[.agg #[.func (.func 54) #[] #[.pointer (some ⟨fb, 0, none⟩)], .func (.func 56) #[] #[.pointer (some ⟨fb, 0, none⟩)], .func (.func 58) #[] #[.pointer (some ⟨fb, 0, none⟩)], .func (.func 59) #[] #[.pointer (some ⟨fb, 0, none⟩)]], .func (.func 43) #[] #[.pointer (some ⟨s8 + 1 + 1, 0, none⟩), .pointer (some ⟨s8, 0, none⟩), .pointer (some ⟨s8 + 1, 0, none⟩)]] w fun e w' =>
      e = .returned (.tuple #[]) ∧ FlwG w' m W H n rb ro len rc sb so len2 sc R S (foldM (mbwd W H len len2 R S) (upto f cnt) P) B V (w.heap.size + 1) ∧ Below B w w' := by
  refine callsIn_of_wp_marks Tryz.func21 rfl trivial ?_ rfl
  simp only [Tryz.ntmps21, List.size_toArray, List.length_cons, List.length_nil, Nat.reduceAdd, Nat.reduceSub, Array.replicate_succ, Array.replicate_zero, List.push_toArray, List.append_toArray, List.nil_append, List.cons_append]
  gi_wp2
  have l2 := b2.lt
  have lF := bF.lt
  have bD : Four (w.alloc (.cells #[.func (.func 54) #[] #[.pointer (some ⟨fb, 0, none⟩)], .func (.func 56) #[] #[.pointer (some ⟨fb, 0, none⟩)], .func (.func 58) #[] #[.pointer (some ⟨fb, 0, none⟩)], .func (.func 59) #[] #[.pointer (some ⟨fb, 0, none⟩)]] 52)) w.heap.size 52 (.func (.func 54) #[] #[.pointer (some ⟨fb, 0, none⟩)]) (.func (.func 56) #[] #[.pointer (some ⟨fb, 0, none⟩)]) (.func (.func 58) #[] #[.pointer (some ⟨fb, 0, none⟩)]) (.func (.func 59) #[] #[.pointer (some ⟨fb, 0, none⟩)]) := Four.new0 w _ _ _ _ _
  have x4 : Below w.heap.size w (w.alloc (.cells #[.func (.func 54) #[] #[.pointer (some ⟨fb, 0, none⟩)], .func (.func 56) #[] #[.pointer (some ⟨fb, 0, none⟩)], .func (.func 58) #[] #[.pointer (some ⟨fb, 0, none⟩)], .func (.func 59) #[] #[.pointer (some ⟨fb, 0, none⟩)]] 52)) := (Below.refl _ w).alloc (Nat.le_refl _) _
  have hsz : (w.alloc (.cells #[.func (.func 54) #[] #[.pointer (some ⟨fb, 0, none⟩)], .func (.func 56) #[] #[.pointer (some ⟨fb, 0, none⟩)], .func (.func 58) #[] #[.pointer (some ⟨fb, 0, none⟩)], .func (.func 59) #[] #[.pointer (some ⟨fb, 0, none⟩)]] 52)).heap.size = w.heap.size + 1 := by simp
  obtain ⟨w4, hw4⟩ : ∃ w4, w4 = w.alloc (.cells #[.func (.func 54) #[] #[.pointer (some ⟨fb, 0, none⟩)], .func (.func 56) #[] #[.pointer (some ⟨fb, 0, none⟩)], .func (.func 58) #[] #[.pointer (some ⟨fb, 0, none⟩)], .func (.func 59) #[] #[.pointer (some ⟨fb, 0, none⟩)]] 52) := ⟨_, rfl⟩
  rw [← hw4] at bD x4 hsz ⊢
  clear hw4
  have c0 : Boxed w4 s8 3 (.int .i64 first) := (x4.block _ b0.lt).trans b0
  have c1 : Boxed w4 (s8 + 1) 3 (.int .i64 by') := (x4.block _ b1.lt).trans b1
  have c2 : Boxed w4 (s8 + 1 + 1) 3 (.int .i64 cnt) := (x4.block _ l2).trans b2
  have cF : Boxed w4 fb 47 (.pointer (some ⟨m, 0, none⟩)) := (x4.block _ lF).trans bF
  have hBV : B ≤ V := by have := h.mb; omega
  have hM : FlwG w4 m W H n rb ro len rc sb so len2 sc R S P B V (w.heap.size + 1) := by
    obtain ⟨⟨a, ca, b, cb, hM, ⟨hA, hB⟩, n1, fa, fb⟩, r, hbe, he, hm, t1, t2⟩ := h.ext x4
    obtain ⟨⟨a0, ca0, b0', cb0, hM0, ⟨hA0, hB0⟩, _, fa0, fb0⟩, _⟩ := h
    have e1 := (show w4.heap[m]? = w.heap[m]? from x4.block m hM0.lt).symm.trans hM
    rw [show w.heap[m]? = _ from hM0] at e1
    simp at e1
    obtain ⟨⟨e2, _⟩, e3, _⟩ := e1
    subst e2 e3
    have := hA0.1
    have := hB0.1
    exact ⟨⟨a0, ca, b0', cb, hM, ⟨hA, hB⟩, n1, ⟨fa.1, .inl (by have := fa0.2; omega)⟩, ⟨fb.1, .inl (by have := fb0.2; omega)⟩⟩, r, hbe, he, hm, by omega, by omega⟩
  have htop := h.top
  refine wpIn_rangeFunc_ownH (α := Stp) rfl (by omega) (gf := 43) (lb := #[.pointer (some ⟨s8 + 1 + 1, 0, none⟩), .pointer (some ⟨s8, 0, none⟩), .pointer (some ⟨s8 + 1, 0, none⟩)]) rfl trivial (enters_of Tryz.func43 (by kernel_rfl) rfl)
    (numsP_stops 5 (by omega) cnt s8 first by' f w4 hcnt hf0 hf1 hb0 hb1 hf c0.cell c1.cell c2.cell (by omega))
    (fun h g => KB.trans h g) (kb_put (fun k hk => by rcases hk with rfl | rfl <;> omega)) (Below.refl _ _) (fun _ => rfl)
    (fun pre X => (FlwG X m W H n rb ro len rc sb so len2 sc R S (foldM (mbwd W H len len2 R S) pre P) B V (w.heap.size + 1) ∧ Boxed X fb 47 (.pointer (some ⟨m, 0, none⟩))) ∧ (Four X w.heap.size 52 (.func (.func 54) #[] #[.pointer (some ⟨fb, 0, none⟩)]) (.func (.func 56) #[] #[.pointer (some ⟨fb, 0, none⟩)]) (.func (.func 58) #[] #[.pointer (some ⟨fb, 0, none⟩)]) (.func (.func 59) #[] #[.pointer (some ⟨fb, 0, none⟩)]) ∧ Below B w X))
    (fun _ _ _ => False)
    (OwnFrom.and (OwnFrom.and (flwG_own _ m W H n rb ro len rc sb so len2 sc R S (fun pre => foldM (mbwd W H len len2 R S) pre P) B V (w.heap.size + 1)) (Own.from (boxed_own _ _ _) _)) (OwnFrom.and (four_own _ _ _ _ _ _ _) (ownFrom_below (by omega) (by omega))))
    (fun _ _ _ _ _ hs _ _ => hs)
    ⟨⟨hM, cF⟩, bD, x4.mono (by omega)⟩
    (fun x a' _ => a' = { tmps := #[.agg #[.func (.func 54) #[] #[.pointer (some ⟨fb, 0, none⟩)], .func (.func 56) #[] #[.pointer (some ⟨fb, 0, none⟩)], .func (.func 58) #[] #[.pointer (some ⟨fb, 0, none⟩)], .func (.func 59) #[] #[.pointer (some ⟨fb, 0, none⟩)]], .func (.func 43) #[] #[.pointer (some ⟨s8 + 1 + 1, 0, none⟩), .pointer (some ⟨s8, 0, none⟩), .pointer (some ⟨s8 + 1, 0, none⟩)], .pointer (some ⟨w.heap.size, 0, none⟩), undef, .int .i64 x.1, undef, undef, .func (.func 43) #[] #[.pointer (some ⟨s8 + 1 + 1, 0, none⟩), .pointer (some ⟨s8, 0, none⟩), .pointer (some ⟨s8 + 1, 0, none⟩)], .int .i64 x.1, undef, undef, undef, undef, undef, undef, undef, undef], defers := [] })
    (fun _ _ _ _ _ _ hs _ _ => hs)
    ?assign ?body ?done ?stop
  case assign =>
    rintro l pre x X K hI hK
    gi_wp2
    exact hK _ _ (KeepsFrom.refl _ _) (KB.refl _ _) hI rfl
  case body =>
    rintro l pre x a' X _ _ ⟨⟨hMx, bX⟩, bA, hbl⟩ rfl _
    obtain ⟨Q, hQe⟩ : ∃ Q, Q = foldM (mbwd W H len len2 R S) pre P := ⟨_, rfl⟩
    have hQ : OkM n Q := by rw [hQe]; exact okM_fold (fun t K h => okM_bwd s.n0 h _ _ _ _) pre hP
    rw [← hQe] at hMx
    have D0 := Lib.hid (deed_ustr m W H n rb ro len rc sb so len2 sc R S B V (w.heap.size + 1) fb x.1 Q s hQ hk hk2 x.2)
    have D1 := Lib.hid (deed_ux1 m W H n rb ro len rc sb so len2 sc R S B V (w.heap.size + 1) fb x.1 (pullM W H (-1) Q) s (okM_pull s.n0 hQ _) hk hk2 x.2)
    have D2 := Lib.hid (deed_ux0 m W H n rb ro len rc sb so len2 sc R S B V (w.heap.size + 1) fb x.1 (xM 1 (S (x.1 % len2)).1 (-(S (x.1 % len2)).2) (pullM W H (-1) Q)) s (okM_x (okM_pull s.n0 hQ _) 1 (by omega) _ _) hk hk2 x.2)
    have D3 := Lib.hid (deed_ucol m W H n rb ro len rc sb so len2 sc R S B V (w.heap.size + 1) fb x.1 (xM 0 (S (x.1 % len2)).1 (-(S (x.1 % len2)).2) (xM 1 (S (x.1 % len2)).1 (-(S (x.1 % len2)).2) (pullM W H (-1) Q))) s (okM_x (okM_x (okM_pull s.n0 hQ _) 1 (by omega) _ _) 0 (by omega) _ _) hk hk2 x.2)
    have z0 := bA.c0
    have z1 := bA.c1
    have z2 := bA.c2
    have z3 := bA.c3
    have lX := bX.lt
    have lA := bA.lt
    have H0 := Lib.hid (show FlwG X m W H n rb ro len rc sb so len2 sc R S ((seq5 Q (pullM W H (-1) Q) (xM 1 (S (x.1 % len2)).1 (-(S (x.1 % len2)).2) (pullM W H (-1) Q)) (xM 0 (S (x.1 % len2)).1 (-(S (x.1 % len2)).2) (xM 1 (S (x.1 % len2)).1 (-(S (x.1 % len2)).2) (pullM W H (-1) Q))) (colM (R (x.1 % len)).1 (-(R (x.1 % len)).2) (xM 0 (S (x.1 % len2)).1 (-(S (x.1 % len2)).2) (xM 1 (S (x.1 % len2)).1 (-(S (x.1 % len2)).2) (pullM W H (-1) Q))))) 0) B V (w.heap.size + 1) ∧ KX (FS B V (w.heap.size + 1)) X X from ⟨hMx, KX.refl _ _⟩)
    have HX := Lib.hid bX
    have HA := Lib.hid bA
    have HBL := Lib.hid hbl
    have HQE := Lib.hid hQe
    clear hMx hQ bX bA hbl hQe hP hk hk2 hM h
    gi_wp2_with fail
    clear z0 z1 z2 z3
    gi_loopw [10] (fun i wr => ∃ k : Nat, k ≤ 4 ∧ i = .int .i64 k ∧ Hid (FlwG wr m W H n rb ro len rc sb so len2 sc R S ((seq5 Q (pullM W H (-1) Q) (xM 1 (S (x.1 % len2)).1 (-(S (x.1 % len2)).2) (pullM W H (-1) Q)) (xM 0 (S (x.1 % len2)).1 (-(S (x.1 % len2)).2) (xM 1 (S (x.1 % len2)).1 (-(S (x.1 % len2)).2) (pullM W H (-1) Q))) (colM (R (x.1 % len)).1 (-(R (x.1 % len)).2) (xM 0 (S (x.1 % len2)).1 (-(S (x.1 % len2)).2) (xM 1 (S (x.1 % len2)).1 (-(S (x.1 % len2)).2) (pullM W H (-1) Q))))) k) B V (w.heap.size + 1) ∧ KX (FS B V (w.heap.size + 1)) X wr)) (fun i _ => 4 - (intOf i).toNat)
    case atStart => exact ⟨0, by omega, rfl, H0⟩
    case round =>
      obtain ⟨k, hk, rfl, HH⟩ := hrel
      have cF : wr.cell? ⟨fb, 0, none⟩ = some (.pointer (some ⟨m, 0, none⟩)) := (HH.out.2.1.cell lX (by unfold FS; omega)).trans HX.out.cell
      rcases (show k = 0 ∨ k = 1 ∨ k = 2 ∨ k = 3 ∨ k = 4 by omega) with rfl | rfl | rfl | rfl | rfl
      · have C := D0.out wr HH.out.1 cF
        clear cF
        gi_wp2_with fail
        refine ⟨trivial, ?_⟩
        gi_at_call 54
        refine (CallsIn.inRound l (callsIn_wide.2 C)).mono ?_
        rintro e X2 ⟨rfl, hM2, hx2⟩
        have HE := Lib.hid (show FlwG X2 m W H n rb ro len rc sb so len2 sc R S ((seq5 Q (pullM W H (-1) Q) (xM 1 (S (x.1 % len2)).1 (-(S (x.1 % len2)).2) (pullM W H (-1) Q)) (xM 0 (S (x.1 % len2)).1 (-(S (x.1 % len2)).2) (xM 1 (S (x.1 % len2)).1 (-(S (x.1 % len2)).2) (pullM W H (-1) Q))) (colM (R (x.1 % len)).1 (-(R (x.1 % len)).2) (xM 0 (S (x.1 % len2)).1 (-(S (x.1 % len2)).2) (xM 1 (S (x.1 % len2)).1 (-(S (x.1 % len2)).2) (pullM W H (-1) Q))))) 1) B V (w.heap.size + 1) ∧ KX (FS B V (w.heap.size + 1)) X X2 from ⟨hM2, HH.out.2.trans hx2⟩)
        clear hM2 hx2 C
        gi_wp2
        go_roundw
        case rel => exact ⟨1, by omega, by simp, HE⟩
        case measure => simp [intOf]
      · have C := D1.out wr HH.out.1 cF
        clear cF
        gi_wp2_with fail
        refine ⟨trivial, ?_⟩
        gi_at_call 56
        refine (CallsIn.inRound l (callsIn_wide.2 C)).mono ?_
        rintro e X2 ⟨rfl, hM2, hx2⟩
        have HE := Lib.hid (show FlwG X2 m W H n rb ro len rc sb so len2 sc R S ((seq5 Q (pullM W H (-1) Q) (xM 1 (S (x.1 % len2)).1 (-(S (x.1 % len2)).2) (pullM W H (-1) Q)) (xM 0 (S (x.1 % len2)).1 (-(S (x.1 % len2)).2) (xM 1 (S (x.1 % len2)).1 (-(S (x.1 % len2)).2) (pullM W H (-1) Q))) (colM (R (x.1 % len)).1 (-(R (x.1 % len)).2) (xM 0 (S (x.1 % len2)).1 (-(S (x.1 % len2)).2) (xM 1 (S (x.1 % len2)).1 (-(S (x.1 % len2)).2) (pullM W H (-1) Q))))) 2) B V (w.heap.size + 1) ∧ KX (FS B V (w.heap.size + 1)) X X2 from ⟨hM2, HH.out.2.trans hx2⟩)
        clear hM2 hx2 C
        gi_wp2
        go_roundw
        case rel => exact ⟨2, by omega, by simp, HE⟩
        case measure => simp [intOf]
      · have C := D2.out wr HH.out.1 cF
        clear cF
        gi_wp2_with fail
        refine ⟨trivial, ?_⟩
        gi_at_call 58
        refine (CallsIn.inRound l (callsIn_wide.2 C)).mono ?_
        rintro e X2 ⟨rfl, hM2, hx2⟩
        have HE := Lib.hid (show FlwG X2 m W H n rb ro len rc sb so len2 sc R S ((seq5 Q (pullM W H (-1) Q) (xM 1 (S (x.1 % len2)).1 (-(S (x.1 % len2)).2) (pullM W H (-1) Q)) (xM 0 (S (x.1 % len2)).1 (-(S (x.1 % len2)).2) (xM 1 (S (x.1 % len2)).1 (-(S (x.1 % len2)).2) (pullM W H (-1) Q))) (colM (R (x.1 % len)).1 (-(R (x.1 % len)).2) (xM 0 (S (x.1 % len2)).1 (-(S (x.1 % len2)).2) (xM 1 (S (x.1 % len2)).1 (-(S (x.1 % len2)).2) (pullM W H (-1) Q))))) 3) B V (w.heap.size + 1) ∧ KX (FS B V (w.heap.size + 1)) X X2 from ⟨hM2, HH.out.2.trans hx2⟩)
        clear hM2 hx2 C
        gi_wp2
        go_roundw
        case rel => exact ⟨3, by omega, by simp, HE⟩
        case measure => simp [intOf]
      · have C := D3.out wr HH.out.1 cF
        clear cF
        gi_wp2_with fail
        refine ⟨trivial, ?_⟩
        gi_at_call 59
        refine (CallsIn.inRound l (callsIn_wide.2 C)).mono ?_
        rintro e X2 ⟨rfl, hM2, hx2⟩
        have HE := Lib.hid (show FlwG X2 m W H n rb ro len rc sb so len2 sc R S ((seq5 Q (pullM W H (-1) Q) (xM 1 (S (x.1 % len2)).1 (-(S (x.1 % len2)).2) (pullM W H (-1) Q)) (xM 0 (S (x.1 % len2)).1 (-(S (x.1 % len2)).2) (xM 1 (S (x.1 % len2)).1 (-(S (x.1 % len2)).2) (pullM W H (-1) Q))) (colM (R (x.1 % len)).1 (-(R (x.1 % len)).2) (xM 0 (S (x.1 % len2)).1 (-(S (x.1 % len2)).2) (xM 1 (S (x.1 % len2)).1 (-(S (x.1 % len2)).2) (pullM W H (-1) Q))))) 4) B V (w.heap.size + 1) ∧ KX (FS B V (w.heap.size + 1)) X X2 from ⟨hM2, HH.out.2.trans hx2⟩)
        clear hM2 hx2 C
        gi_wp2
        go_roundw
        case rel => exact ⟨4, by omega, by simp, HE⟩
        case measure => simp [intOf]
      · clear cF
        have hx := HH.out.2
        have HE := Lib.hid (show KeepsFrom w4.heap.size X wr ∧ KB (fun k => k = s8 ∨ k = s8 + 1) X wr ∧ (FlwG wr m W H n rb ro len rc sb so len2 sc R S (foldM (mbwd W H len len2 R S) (pre ++ [x]) P) B V (w.heap.size + 1) ∧ Boxed wr fb 47 (.pointer (some ⟨m, 0, none⟩))) ∧ (Four wr w.heap.size 52 (.func (.func 54) #[] #[.pointer (some ⟨fb, 0, none⟩)]) (.func (.func 56) #[] #[.pointer (some ⟨fb, 0, none⟩)]) (.func (.func 58) #[] #[.pointer (some ⟨fb, 0, none⟩)]) (.func (.func 59) #[] #[.pointer (some ⟨fb, 0, none⟩)]) ∧ Below B w wr) from
          ⟨hx.keeps _, kb_ex hx.1 (fun k hk => ⟨by rcases hk with rfl | rfl <;> omega, by unfold FS; rcases hk with rfl | rfl <;> omega⟩), ⟨by rw [foldM_snoc, ← HQE.out]; exact HH.out.1, (hx.1.block _ lX (by unfold FS; omega)).trans HX.out⟩, HA.out.ex hx.1 (by unfold FS; omega), HBL.out.trans (hx.1.below (by omega) (fun k hk => hk.1))⟩)
        clear hx
        gi_wp2
        exact HE.out
  case done =>
    rintro D ys X hD rfl ⟨⟨hMx, bX⟩, bA, hbl⟩ hK
    gi_wp2
    refine ⟨by simp, .inl ⟨_, _, rfl, run_takeDeferred hK, ?_⟩⟩
    have hg := grownBy_putObj' X D (.deferred none)
    have hr' : ∀ r, some D = some r → 0 ≤ r ∧ ∃ o : Obj, X.heap[r]? = some o ∧ o.isCells = false := fun r e => by cases e; exact ⟨Nat.zero_le _, _, hK, rfl⟩
    refine ⟨.tuple #[], by simp [results, Tryz.results21, go_sem], rfl, flwG_own 0 m W H n rb ro len rc sb so len2 sc R S (fun (_ : Unit) => foldM (mbwd W H len len2 R S) (upto f cnt) P) B V (w.heap.size + 1) () _ _ _ hMx hg hr', ownFrom_below (β := Unit) (B := w.heap.size) (by omega) (by omega) () _ _ _ hbl hg (fun r e => by cases e; exact ⟨by omega, _, hK, rfl⟩)⟩
  case stop =>
    rintro D c pre X _ _ h _
    exact h.elim
end Go.Proofs.YtmkhbkkhoemkoaaGreatDoor
