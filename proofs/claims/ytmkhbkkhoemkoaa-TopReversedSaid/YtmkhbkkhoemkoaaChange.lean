/- All cells collide, or are undone, in place: by the program. -/
import Derived.Test.YtmkhbkkhoemkoaaStream
import Derived.Test.YtmkhbkkhoemkoaaAt
import Derived.Test.YtmkhbkkhoemkoaaUndo
namespace Go.Proofs.Ytmkhbkkhoemkoaa
set_option linter.unusedSimpArgs false
set_option linter.unusedVariables false
open Go.RowKit

theorem RulesAt.ex {S : Nat → Prop} {w w' : World} {b off n : Nat} {R : Nat → Int × Int} (h : RulesAt w b off n R) (hx : Ex S w w') (hb : b < w.heap.size) (hs : ¬ S b) : RulesAt w' b off n R :=
  fun i hi => ⟨(hx.cell hb hs).trans (h i hi).1, (hx.cell hb hs).trans (h i hi).2⟩

/-- The cells before k are new, the others old. -/
def Half (n k : Nat) (D G K : Nat → Nat → Int) : Prop := (∀ i, i < k → ∀ d, d < 4 → K i d = D i d) ∧ ∀ i, k ≤ i → i < n → ∀ d, d < 4 → K i d = G i d
theorem half_zero (n : Nat) (D G : Nat → Nat → Int) : Half n 0 D G G := ⟨fun i hi => by omega, fun _ _ _ _ _ => rfl⟩
theorem half_step {n k : Nat} {D G K : Nat → Nat → Int} (h : Half n k D G K) (hk : k < n) : Half n (k + 1) D G (upd (upd (upd (upd K k 0 (D k 0)) k 1 (D k 1)) k 2 (D k 2)) k 3 (D k 3)) := by
  have e : ∀ i d, d < 4 → upd (upd (upd (upd K k 0 (D k 0)) k 1 (D k 1)) k 2 (D k 2)) k 3 (D k 3) i d = if i = k then D k d else K i d := by
    intro i d hd
    unfold upd
    match d, hd with
    | 0, _ => simp
    | 1, _ => simp
    | 2, _ => simp
    | 3, _ => simp
  refine ⟨fun i hi d hd => ?_, fun i hi hn d hd => ?_⟩
  · rw [e i d hd]
    by_cases ei : i = k
    · subst ei; rw [if_pos rfl]
    · rw [if_neg ei]; exact h.1 i (by omega) d hd
  · rw [e i d hd, if_neg (by omega)]
    exact h.2 i (by omega) hn d hd
theorem half_all {n : Nat} {D G K : Nat → Nat → Int} (h : Half n n D G K) : EqG n K D := fun i hi d hd => h.1 i hi d hd

/-- What four stores into one cell do. -/
theorem chain1 {w : World} {b n : Nat} {K : Nat → Nat → Int} {q : Nat} (h : Row w b n K) (l : q < n) (v0 v1 v2 v3 : Int) :
    Ex (fun k => k = b) w ((((w.setCell ⟨b, q * 4, none⟩ (.int .i64 v0)).setCell ⟨b, q * 4 + 1, none⟩ (.int .i64 v1)).setCell ⟨b, q * 4 + 2, none⟩ (.int .i64 v2)).setCell ⟨b, q * 4 + 3, none⟩ (.int .i64 v3)) ∧
    Row ((((w.setCell ⟨b, q * 4, none⟩ (.int .i64 v0)).setCell ⟨b, q * 4 + 1, none⟩ (.int .i64 v1)).setCell ⟨b, q * 4 + 2, none⟩ (.int .i64 v2)).setCell ⟨b, q * 4 + 3, none⟩ (.int .i64 v3)) b n (upd (upd (upd (upd K q 0 v0) q 1 v1) q 2 v2) q 3 v3) := by
  refine ⟨?_, ?_⟩
  · refine Ex.setCell (Ex.setCell (Ex.setCell (Ex.setCell (Ex.refl _ w) ?_ _) ?_ _) ?_ _) ?_ _ <;> rfl
  · exact (((h.set l (show 0 < 4 by omega) v0 (o := q * 4) rfl).set l (show 1 < 4 by omega) v1 rfl).set l (show 2 < 4 by omega) v2 rfl).set l (show 3 < 4 by omega) v3 rfl

theorem collideG (G : Nat → Nat → Int) (i : Nat) (k y : Int) (w : World) (h : Ok4 (G i 0) (G i 1) (G i 2) (G i 3)) (hr : OkR k y) :
    Calls Try.prog 14 #[.agg #[.int .i64 (G i 0), .int .i64 (G i 1), .int .i64 (G i 2), .int .i64 (G i 3)], .agg #[.int .i64 k, .int .i64 y]] w fun e w' => e = .returned (.tuple #[.agg #[.int .i64 (colG k y G i 0), .int .i64 (colG k y G i 1), .int .i64 (colG k y G i 2), .int .i64 (colG k y G i 3)], .int .i64 0]) ∧ Below w.heap.size w w' := by
  rw [colG0, colG1, colG2, colG3]
  exact collide_ok _ _ _ _ k y w h hr
set_option maxRecDepth 100000 in
set_option maxHeartbeats 4000000 in
theorem change_col (m W H n b1 c1 b2 c2 rb ro len rc t : Nat) (R : Nat → Int × Int) (G : Nat → Nat → Int) (w : World) (hM : Mch w m W H n b1 c1 (.slice (some ⟨rb, ro, none⟩) len rc) b2 c2) (hr1 : Row w b1 n G) (hn : n ≤ 1024) (hG : OkG n G)
    (n1 : m ≠ b1) (hR : RulesAt w rb ro len R) (hrb : rb < w.heap.size) (hk : OkRs len R) (ht : t ≤ 1000000) :
    Calls Try.prog 55 #[.pointer (some ⟨m, 0, none⟩), .func (.func 14) #[] #[], .int .i64 t] w fun e w' => e = .returned (.tuple #[]) ∧ Row w' b1 n (colG (R (t % len)).1 (R (t % len)).2 G) ∧ Ex (fun k => k = b1) w w' := by
  obtain ⟨rk, ry, hrk⟩ : ∃ rk ry, (rk, ry) = R (t % len) := ⟨_, _, rfl⟩
  have hok : OkR rk ry := by
    have := hk.2.2 (t % len) (Nat.mod_lt _ hk.1)
    rw [← hrk] at this
    exact this
  have HA := Lib.hid (fun w' (hb : Below w.heap.size w w') => at_ok (some ⟨rb, ro, none⟩) len rc t R w' ((show RulesIn w (some ⟨rb, ro, none⟩) len R from .inr ⟨rb, ro, rfl, hrb, hR⟩).below hb) hk (by omega) (by omega))
  rw [Int.toNat_natCast, ← hrk] at HA
  rw [← hrk]
  have k3 := hM.k3
  have k2 := hM.k2
  have hlm := hM.lt
  have HM := Lib.hid hM; clear hM
  have HR1 := Lib.hid hr1; clear hr1
  have HG := Lib.hid hG; clear hG
  have HOK := Lib.hid hok
  clear hrk hR hk hok
  go_enter Try.func55, Try.ntmps55
  go_wp2_with (go_at_call 13; (with_reducible refine (HA.out _ (by (repeat' (first | (with_reducible exact Below.refl _ _) | (with_reducible refine Below.setCell ?_ (by first | omega | (simp; done) | (simp; omega)) _) | (with_reducible refine Below.alloc ?_ (by first | omega | (simp; done) | (simp; omega)) _) | (with_reducible refine Below.drew ?_) | (with_reducible refine below_drewN ?_ _) | (with_reducible refine Below.trans ?_ (Below.mono (by assumption) (by first | omega | (simp; done) | (simp; omega)))))))).mono ?_); rintro e w1 ⟨rfl, hb⟩; obtain ⟨hc, hf, hz⟩ := bcall hb; (try simp at hc hf hz))
  have hx0 : Ex (fun _ => False) w (w1.alloc (.cells #[.int .i64 rk, .int .i64 ry] 36)) := (Ex.of_below hb).alloc _
  have tR := Two.new w1 36 (.int .i64 rk) (.int .i64 ry)
  have hM0 := HM.out.ex hx0 (fun x => x)
  have hr0 := HR1.out.ex hx0 (fun x => x)
  have hne : m ≠ w1.heap.size := by omega
  have hne2 : b1 ≠ w1.heap.size := by have := HR1.out.1; omega
  obtain ⟨B, hB⟩ : ∃ B, B = w1.heap.size := ⟨_, rfl⟩
  obtain ⟨w0, hw0⟩ : ∃ w0, w0 = w1.alloc (.cells #[.int .i64 rk, .int .i64 ry] 36) := ⟨_, rfl⟩
  rw [← hB] at tR hne hne2 ⊢
  rw [← hw0] at hx0 tR hM0 hr0 ⊢
  clear hc hf hz hb hw0 hB k3 k2 HA HM HR1
  have HX := Lib.hid hx0; clear hx0
  have HT := Lib.hid tR; clear tR
  have HM := Lib.hid hM0; clear hM0
  have HR := Lib.hid hr0; clear hr0
  go_loopw [25] (fun i wr => ∃ (k : Nat) (K : Nat → Nat → Int), k ≤ n ∧ i = .int .i64 k ∧ Hid (Ex (fun k => k = b1) w0 wr ∧ Row wr b1 n K ∧ Half n k (colG rk ry G) G K)) (fun i _ => n - (intOf i).toNat)
  case atStart => exact ⟨0, G, Nat.zero_le _, rfl, Lib.hid ⟨Ex.refl _ _, HR.out, half_zero _ _ _⟩⟩
  case round =>
    obtain ⟨k, K, hk, rfl, HH⟩ := hrel
    by_cases hlk : k < n
    · have hM1 := HM.out.ex HH.out.1 n1
      have tR1 : Two _ B 36 (.int .i64 rk) (.int .i64 ry) := (HH.out.1.block B HT.out.lt (Ne.symm hne2)).trans HT.out
      have hlm1 := hM1.lt
      have hlB := tR1.lt
      have k2 := hM1.k2
      have d0 := tR1.c0
      have d1 := tR1.c1
      have hl1 := HH.out.2.1.1
      obtain ⟨a0, a1, a2, a3⟩ := HH.out.2.1.at4 hlk
      obtain ⟨f0, f1, f2, f3⟩ := HH.out.2.1.free4 hlk
      rw [HH.out.2.2.2 k (Nat.le_refl _) hlk 0 (by omega)] at a0
      rw [HH.out.2.2.2 k (Nat.le_refl _) hlk 1 (by omega)] at a1
      rw [HH.out.2.2.2 k (Nat.le_refl _) hlk 2 (by omega)] at a2
      rw [HH.out.2.2.2 k (Nat.le_refl _) hlk 3 (by omega)] at a3
      have HK := Lib.hid (HG.out.1 k hlk)
      clear hM1 tR1
      go_wp2
      go_region_held3 (fun w' => w'.cell? ⟨m, 2, none⟩ = some (.slice (some ⟨b1, 0, none⟩) n c1) ∧ w'.cell? ⟨wr.heap.size, 0, none⟩ = some (.int .i64 (G k 0)) ∧ w'.cell? ⟨wr.heap.size, 1, none⟩ = some (.int .i64 (G k 1)) ∧ w'.cell? ⟨wr.heap.size, 2, none⟩ = some (.int .i64 (G k 2)) ∧ w'.cell? ⟨wr.heap.size, 3, none⟩ = some (.int .i64 (G k 3)) ∧ w'.cell? ⟨B, 0, none⟩ = some (.int .i64 rk) ∧ w'.cell? ⟨B, 1, none⟩ = some (.int .i64 ry)) (first | (go_split_ands; (try dsimp only); refine ⟨?_, ?_, ?_, ?_, ?_, ?_, ?_⟩ <;> (first | (with_reducible assumption) | (with_reducible exact keep_cell (by assumption) (by first | omega | (simp; done) | (simp; omega)) (by assumption)) | (with_reducible exact (World.cell?_alloc_past _ _ _ (by show _ < _; omega)).trans (by assumption)) | (with_reducible exact (World.cell?_alloc_past _ _ _ (by show _ < _; omega)).trans ((World.cell?_alloc_past _ _ _ (by show _ < _; omega)).symm.trans (by assumption))) | (simp [go_sem]; with_reducible assumption))) | (simp [go_sem, ↓IntWalk.iteOmega, *]; done)) (first | (go_at_call 14; (with_reducible refine (collideG G k rk ry _ HK.out HOK.out).mono ?_); rintro e w1 ⟨rfl, hb⟩; obtain ⟨hc, hf, hz⟩ := bcall hb; (try simp at hc hf hz)))
      go_wp2
      have hx1 : Ex (fun _ => False) wr w1 := (((Ex.refl (fun _ => False) wr).alloc _).drew).trans (Ex.of_below hb)
      clear hc hf
      go_roundw
      case rel =>
        obtain ⟨hx, hr, hh⟩ := HH.out
        obtain ⟨c1, c2⟩ := chain1 (hr.ex hx1 (fun x => x)) hlk (colG rk ry G k 0) (colG rk ry G k 1) (colG rk ry G k 2) (colG rk ry G k 3)
        exact ⟨k + 1, _, by omega, by go_num, Lib.hid ⟨(hx.trans (hx1.mono (fun _ h => h.elim))).trans c1, c2, half_step hh hlk⟩⟩
      case measure => simp [intOf]; omega
    · obtain rfl : n = k := by omega
      go_wp2
      go_end0
      obtain ⟨hx, hr, hh⟩ := HH.out
      exact ⟨rfl, hr.eqG (half_all hh), (HX.out.mono (fun _ h => h.elim)).trans hx⟩

end Go.Proofs.Ytmkhbkkhoemkoaa
