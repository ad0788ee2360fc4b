/- What the laws of phases share. -/
import Derived.Test.YtmkhbkkhoemkoaaGreatDoorKMixRun
import Derived.Test.YtmkhbkkhoemkoaaGreatDoorKLawExch
namespace Go.Proofs.YtmkhbkkhoemkoaaGreatDoor
set_option linter.unusedSimpArgs false
set_option linter.unusedVariables false
open Go.RowKit

theorem VM.ok {W H : Int} {n : Nat} {P : MG} (h : VM W H n P.1 n P.2) : OkM n P := ⟨⟨h.1.1.2.2, h.1.2.2.2⟩, h.2⟩
theorem VM.of {W H : Int} {n : Nat} {P Q : MG} (h : VM W H n P.1 n P.2) (q : OkM n Q) : VM W H n Q.1 n Q.2 := ⟨⟨⟨h.1.1.1, h.1.1.2.1, q.1.1⟩, ⟨h.1.1.1, h.1.1.2.1, q.1.2⟩⟩, q.2⟩
theorem MOk.of {W H : Int} {n len len2 : Nat} {P Q : MG} {R S : Nat → Int × Int} (h : MOk W H n P n len R len2 S) (q : OkM n Q) : MOk W H n Q n len R len2 S := ⟨⟨h.1.1.of q, h.1.2⟩, h.2⟩
theorem VM.sides {W H : Int} {n m : Nat} {A B : Nat → Nat → Int} (h : VM W H n A m B) : n = W.toNat * H.toNat := by
  obtain ⟨W', H', rfl, rfl, s, _⟩ := Sides.vg h.1.1
  exact s.n0
theorem VM.flip {W H : Int} {n : Nat} {A B : Nat → Nat → Int} (h : VM W H n A n B) : VM W H n B n A := ⟨⟨h.1.2, h.1.1⟩, by have := h.2; omega⟩
theorem OkRs.at {len : Nat} {R : Nat → Int × Int} (h : OkRs len R) (t : Nat) : OkR (R (t % len)).1 (R (t % len)).2 := h.2.2 _ (Nat.mod_lt _ h.1)
theorem okM_mfwd {W H n len len2 : Nat} {R S : Nat → Int × Int} {t : Nat} {P : MG} (hn : n = W * H) (h : OkM n P) : OkM n (mfwd W H len len2 R S t P) := okM_fwd hn h _ _ _ _
theorem okM_mbwd {W H n len len2 : Nat} {R S : Nat → Int × Int} {t : Nat} {P : MG} (hn : n = W * H) (h : OkM n P) : OkM n (mbwd W H len len2 R S t P) := okM_bwd hn h _ _ _ _

section
variable (W H : Int) (ao : Option Addr) (n c : Nat) (bo : Option Addr) (m d : Nat) (k : Int) (w : World)
theorem small4_yes (hn : n ≤ 9223372036854775807) (hm : m ≤ 9223372036854775807) (h1 : (n : Int) ≤ k) (h2 : (m : Int) ≤ k) : Calls Tryz.prog 5 #[.agg #[.int .i64 W, .int .i64 H, .slice (ao) n c, .slice (bo) m d], .int .i64 k] w fun e w' => e = .returned (.bool true) ∧ Below w.heap.size w w' := by
  go_enter Tryz.func5, Tryz.ntmps5
  go_wp2
  go_ret
  refine ⟨rfl, ?_⟩
  (repeat' (first | (with_reducible exact Below.refl _ _) | (with_reducible refine Below.setCell ?_ (by first | omega | (simp; done) | (simp; omega)) _) | (with_reducible refine Below.alloc ?_ (by first | omega | (simp; done) | (simp; omega)) _) | (with_reducible refine Below.drew ?_) | (with_reducible refine below_drewN ?_ _) | (with_reducible refine Below.trans ?_ (Below.mono (by assumption) (by first | omega | (simp; done) | (simp; omega))))))
theorem small4_no (hn : n ≤ 9223372036854775807) (hm : m ≤ 9223372036854775807) (h : ¬ ((n : Int) ≤ k ∧ (m : Int) ≤ k)) : Calls Tryz.prog 5 #[.agg #[.int .i64 W, .int .i64 H, .slice (ao) n c, .slice (bo) m d], .int .i64 k] w fun e w' => e = .returned (.bool false) ∧ Below w.heap.size w w' := by
  by_cases h1 : (n : Int) ≤ k
  · have h2 : k < (m : Int) := by omega
    clear h
    go_enter Tryz.func5, Tryz.ntmps5
    go_wp2
    go_ret
    refine ⟨by simp; omega, ?_⟩
    (repeat' (first | (with_reducible exact Below.refl _ _) | (with_reducible refine Below.setCell ?_ (by first | omega | (simp; done) | (simp; omega)) _) | (with_reducible refine Below.alloc ?_ (by first | omega | (simp; done) | (simp; omega)) _) | (with_reducible refine Below.drew ?_) | (with_reducible refine below_drewN ?_ _) | (with_reducible refine Below.trans ?_ (Below.mono (by assumption) (by first | omega | (simp; done) | (simp; omega))))))
  · clear h
    go_enter Tryz.func5, Tryz.ntmps5
    go_wp2
    go_ret
    refine ⟨rfl, ?_⟩
    (repeat' (first | (with_reducible exact Below.refl _ _) | (with_reducible refine Below.setCell ?_ (by first | omega | (simp; done) | (simp; omega)) _) | (with_reducible refine Below.alloc ?_ (by first | omega | (simp; done) | (simp; omega)) _) | (with_reducible refine Below.drew ?_) | (with_reducible refine below_drewN ?_ _) | (with_reducible refine Below.trans ?_ (Below.mono (by assumption) (by first | omega | (simp; done) | (simp; omega))))))
theorem few_yes (h1 : n ≤ 20) (h2 : m ≤ 20) : Calls Tryz.prog 6 #[.agg #[.slice (ao) n c, .slice (bo) m d]] w fun e w' => e = .returned (.bool true) ∧ Below w.heap.size w w' := by
  go_enter Tryz.func6, Tryz.ntmps6
  go_wp2
  go_ret
  refine ⟨by simp; omega, ?_⟩
  (repeat' (first | (with_reducible exact Below.refl _ _) | (with_reducible refine Below.setCell ?_ (by first | omega | (simp; done) | (simp; omega)) _) | (with_reducible refine Below.alloc ?_ (by first | omega | (simp; done) | (simp; omega)) _) | (with_reducible refine Below.drew ?_) | (with_reducible refine below_drewN ?_ _) | (with_reducible refine Below.trans ?_ (Below.mono (by assumption) (by first | omega | (simp; done) | (simp; omega))))))
theorem few_no (hn : n ≤ 9223372036854775807) (hm : m ≤ 9223372036854775807) (h : ¬ (n ≤ 20 ∧ m ≤ 20)) : Calls Tryz.prog 6 #[.agg #[.slice (ao) n c, .slice (bo) m d]] w fun e w' => e = .returned (.bool false) ∧ Below w.heap.size w w' := by
  by_cases h1 : n ≤ 20
  · have h2 : 20 < m := by omega
    clear h
    go_enter Tryz.func6, Tryz.ntmps6
    go_wp2
    go_ret
    refine ⟨by simp; omega, ?_⟩
    (repeat' (first | (with_reducible exact Below.refl _ _) | (with_reducible refine Below.setCell ?_ (by first | omega | (simp; done) | (simp; omega)) _) | (with_reducible refine Below.alloc ?_ (by first | omega | (simp; done) | (simp; omega)) _) | (with_reducible refine Below.drew ?_) | (with_reducible refine below_drewN ?_ _) | (with_reducible refine Below.trans ?_ (Below.mono (by assumption) (by first | omega | (simp; done) | (simp; omega))))))
  · clear h
    go_enter Tryz.func6, Tryz.ntmps6
    go_wp2
    go_ret
    refine ⟨rfl, ?_⟩
    (repeat' (first | (with_reducible exact Below.refl _ _) | (with_reducible refine Below.setCell ?_ (by first | omega | (simp; done) | (simp; omega)) _) | (with_reducible refine Below.alloc ?_ (by first | omega | (simp; done) | (simp; omega)) _) | (with_reducible refine Below.drew ?_) | (with_reducible refine below_drewN ?_ _) | (with_reducible refine Below.trans ?_ (Below.mono (by assumption) (by first | omega | (simp; done) | (simp; omega))))))
end

end Go.Proofs.YtmkhbkkhoemkoaaGreatDoor
