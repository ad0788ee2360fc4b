/- A map's chart: by the program. -/
import Derived.Test.YtmkhbkkhoemkoaaKChartD
import Derived.Test.YtmkhbkkhoemkoaaKWays
import Derived.Deep.AppendLies
import Derived.Deep.RegionLaw
import Derived.Deep.CutRange
namespace Go.Proofs.Ytmkhbkkhoemkoaa
set_option linter.unusedSimpArgs false
set_option linter.unusedVariables false
open Go.RowKit

/-- What chartOf gives: a chart. -/
def Charted (W H n : Nat) (ov : Value) (o : Nat → Nat) (w : World) (e : Ending) (w' : World) : Prop :=
  ∃ (C : Nat) (q : Nat → Value) (f cf t ct : Nat), e = .returned (.tuple #[.pointer (some ⟨C, 0, none⟩), .int .i64 0]) ∧ Hid (CB w' C ov q (.slice (some ⟨f, 0, none⟩) n cf) (.slice (some ⟨t, 0, none⟩) n ct) ∧ OwnF w' (w.heap.size) q (chL o n n 8) ∧ Row w' f n (pull W H 1 idG) ∧ Row w' t n (pull W H (-1) idG)) ∧ w.heap.size ≤ C ∧ Below w.heap.size w w'

set_option maxRecDepth 100000 in
set_option maxHeartbeats 8000000 in
theorem chartOf_ok (W H n cap : Nat) (ao : Option Addr) (G : Nat → Nat → Int) (b off oc : Nat) (K : Nat → Int) (o : Nat → Nat) (w : World) (s : Sides W H n) (hG : OkG n G) (hC : CellsIn w ao n G) (hb : b < w.heap.size) (hK : NumsAt w b off n K) (ho : ∀ i, i < n → K i = (o i : Int) ∧ o i < 8) :
    Calls Try.prog 23 #[.agg #[.int .i64 W, .int .i64 H, .slice (ao) n cap], .slice (some ⟨b, off, none⟩) n oc] w (Charted W H n (.slice (some ⟨b, off, none⟩) n oc) o w) := by
  have hn1 := s.n1
  have h1 := row_of s
  have GV := Lib.hid (fun w' (hb : Below w.heap.size w w') => gValid_ok W H ao n cap G w' (vg_of s hG) (hC.below hb))
  have HS := Lib.hid s; clear s
  have HK := Lib.hid hK; clear hK
  have HO := Lib.hid ho; clear ho
  obtain ⟨i0, hi, hz0, hz1, hz2⟩ := info_parts info_intA
  have hlb := hb
  clear hG hC hb
  go_enter Try.func23, Try.ntmps23
  go_wp2_with (go_at_call 20; (with_reducible refine (GV.out _ (by (repeat' (first | (with_reducible exact Below.refl _ _) | (with_reducible refine Below.setCell ?_ (by first | omega | (simp; done) | (simp; omega)) _) | (with_reducible refine Below.alloc ?_ (by first | omega | (simp; done) | (simp; omega)) _) | (with_reducible refine Below.drew ?_) | (with_reducible refine below_drewN ?_ _) | (with_reducible refine Below.trans ?_ (Below.mono (by assumption) (by first | omega | (simp; done) | (simp; omega)))))))).mono ?_); rintro e w1 ⟨rfl, hb⟩; obtain ⟨hc, hf, hz⟩ := bcall hb; (try simp at hc hf hz))
  have lw : w.heap.size < w1.heap.size := by omega
  have P2 : w1.cell? ⟨w.heap.size, 2, none⟩ = some (.slice ao n cap) := by simp [go_sem, ↓IntWalk.iteOmega, *]
  have P0 : w1.cell? ⟨w.heap.size, 0, none⟩ = some (.int .i64 W) := by simp [go_sem, ↓IntWalk.iteOmega, *]
  have P1 : w1.cell? ⟨w.heap.size, 1, none⟩ = some (.int .i64 H) := by simp [go_sem, ↓IntWalk.iteOmega, *]
  have B1 := Lib.hid (show Below w.heap.size w w1 from by (repeat' (first | (with_reducible exact Below.refl _ _) | (with_reducible refine Below.setCell ?_ (by first | omega | (simp; done) | (simp; omega)) _) | (with_reducible refine Below.alloc ?_ (by first | omega | (simp; done) | (simp; omega)) _) | (with_reducible refine Below.drew ?_) | (with_reducible refine below_drewN ?_ _) | (with_reducible refine Below.trans ?_ (Below.mono (by assumption) (by first | omega | (simp; done) | (simp; omega)))))))
  obtain ⟨ov, hov⟩ : ∃ ov : Value, ov = .slice (some ⟨b, off, none⟩) n oc := ⟨_, rfl⟩
  have HI := Lib.hid (show ChSt w1.heap.size w1 ov (fun _ => .slice none 0 0) (chL o 0 n 0) (w1.alloc (.cells #[.slice (some ⟨b, off, none⟩) n oc, .slice none 0 0, .slice none 0 0, .slice none 0 0, .slice none 0 0, .slice none 0 0, .slice none 0 0, .slice none 0 0, .slice none 0 0, .slice none 0 0, .slice none 0 0, .slice none 0 0, .slice none 0 0] 87)) from by
    refine ⟨?_, (OwnF.nil _ _).congr (fun j hj => ?_), (Below.refl _ w1).alloc (Nat.le_refl _) _⟩
    · rw [hov]; exact World.alloc_heap_new w1 _
    · unfold chL; split
      · rfl
      · split <;> rfl)
  clear hc hf hz hb GV
  go_loopw [27, 7, 8] (fun i _ _ wr => ∃ (k : Nat) (q : Nat → Value), k ≤ n ∧ i = .int .i64 k ∧ Hid (ChSt w1.heap.size w1 ov q (chL o k n 0) wr)) (fun i _ _ _ => n - (intOf i).toNat)
  case atStart => exact ⟨0, _, Nat.zero_le _, rfl, HI⟩
  case round =>
    obtain ⟨k, q, hk, rfl, HH⟩ := hrel
    have hb := HH.out.2.2
    have hcb := HH.out.1
    have l3 := hcb.lt
    have hsr := hb.size
    by_cases hlk : k < n
    · obtain ⟨v, hv⟩ : ∃ v, v = o k := ⟨_, rfl⟩
      have e0 : wr.cell? ⟨b, off + k, none⟩ = some (.int .i64 v) := by
        have := ((B1.out.trans (hb.mono (by omega))).cell (p := ⟨b, off + k, none⟩) hlb).trans (HK.out k hlk)
        rw [(HO.out k hlk).1, ← hv] at this
        exact this
      have hv8 : v < 8 := by rw [hv]; exact (HO.out k hlk).2
      have HV := Lib.hid hv; clear hv
      have j0 : (0 : Int) ≤ (v : Int) := by omega
      have j1 : (v : Int) < 8 := by omega
      have p0 : (0 : Int) ≤ (k : Int) := by omega
      have p1 : (k : Int) < (n : Int) := by omega
      have cP := hcb.place
      have cO := hcb.own hv8
      have fP := hcb.free 10
      have oP := HH.out.2.1.1 8 (by omega)
      have lP := plcL_len o k
      have oO := HH.out.2.1.1 v (by omega)
      obtain ⟨aP, dP, eP⟩ := owns_form oP
      obtain ⟨aO, dO, eO⟩ := owns_form oO
      have lO : (chL o k n 0 v).length ≤ k := by
        unfold chL; rw [if_pos hv8]; exact ownL_len o k v
      have lP8 : (chL o k n 0 8).length = k := lP
      have OP := Lib.hid oP
      have OO := Lib.hid oO
      clear oP oO lP
      rw [eO] at cO
      have lP9 : (chL o k n 0 8).length ≤ 1024 := by rw [lP8]; omega
      have LP := Lib.hid lP8; clear lP8
      obtain ⟨m, hm⟩ : ∃ m, m = (chL o k n 0 v).length := ⟨_, rfl⟩
      rw [← hm] at lO eO cO
      have HM := Lib.hid hm; clear hm
      have HP := Lib.hid eP
      rw [eP] at cP
      clear eP eO hb hcb
      go_upto_region 9 with fail
      go_cut [8] from 38 to 53 (fun s8 wy => s8 = .int .i64 v ∧ ∃ g cp, Hid (ChSt w1.heap.size w1 ov (fun j => if j = 8 then .slice (some ⟨g, 0, none⟩) ((chL o k n 0 8).length + 1) cp else q j) (fun j => if j = 8 then chL o k n 0 8 ++ [m] else chL o k n 0 j) wy))
      case first =>
        go_region_law ((refine step_append_lies _ (by rfl) _ _ _ (by rfl) (w1.heap.size + 1) 3 i0 (.int .i64 0) 1 8 Try.underlying25 hi hz0 hz1 hz2 rfl (by omega) (.slice aP (chL o k n 0 8).length dP) (chL o k n 0 8).length (numV (chL o k n 0 8)) (by rfl) (HP.out ▸ owns_below OP.out ((Below.refl _ wr).drew.alloc (by simp) _)) _ 1 1 [.int .i64 m] (by rfl) (by rfl) (World.news_of_block (cs := #[.int .i64 m]) (t := 3) (fr := (0, 0)) (heap_alloc_new _ _)) (by simp [Value.oneCell']) (by omega) (by unfold maxLen; omega) (by omega) (by simp; omega) (wr.heap.size + 1) (by simp) ?_; intro g cp w6 hown hgrow hat hlt; have C6 := HH.out.cb6 (i := 8) (by omega) HP.out ((Below.refl _ wr).drew.alloc (by simp) _) hgrow; have c6 := C6.place; have f6 := C6.free 10; rw [HP.out] at c6; clear C6))
        all_goals
          go_wp2_with fail
          go_meet
          refine ⟨rfl, g, cp, Lib.hid (HH.out.app8 (Nat.le_refl _) HP.out ((Below.refl _ wr).drew.alloc (by simp) _) hgrow hown (hat.imp id (fun e => by omega)))⟩
      case rest =>
      obtain ⟨rfl, g, cp, H8⟩ := hcut
      rename_i a9
      refine a9 _ _ ?_
      dsimp +zetaDelta only
      obtain ⟨wo, hwo⟩ : ∃ wo, wo = wc := ⟨_, rfl⟩
      subst hwo
      obtain ⟨q2, hq2⟩ : ∃ q2 : Nat → Value, q2 = fun j => if j = 8 then .slice (some ⟨g, 0, none⟩) ((chL o k n 0 8).length + 1) cp else q j := ⟨_, rfl⟩
      obtain ⟨L2, hL2⟩ : ∃ L2 : Nat → List Nat, L2 = fun j => if j = 8 then chL o k n 0 8 ++ [m] else chL o k n 0 j := ⟨_, rfl⟩
      rw [← hq2, ← hL2] at H8
      have HL2 := Lib.hid hL2
      have l2 : (L2 v).length ≤ 1024 := by
        rw [hL2]
        simp only [show ¬ v = 8 by omega, if_false]
        rw [← HM.out]; omega
      clear hq2 hL2 OO OP HP LP cP cO fP a9
      have hcb2 := H8.out.1
      have cO := hcb2.own hv8
      have fO := hcb2.free (2 + v)
      have lC2 := hcb2.lt
      have oO := H8.out.2.1.1 v (by omega)
      obtain ⟨aO, dO, eO⟩ := owns_form oO
      have OO := Lib.hid oO
      have HP := Lib.hid eO
      rw [eO] at cO
      clear oO eO hcb2 lP9
      go_upto_region 10 with fail
      go_region_law ((refine step_append_lies _ (by rfl) _ _ _ (by rfl) (w1.heap.size + 1) 3 i0 (.int .i64 0) 1 8 Try.underlying25 hi hz0 hz1 hz2 rfl (by omega) (.slice aO (L2 v).length dO) (L2 v).length (numV (L2 v)) (by rfl) (HP.out ▸ owns_below OO.out ((Below.refl _ wo).drew.alloc (by simp) _)) _ 1 1 [.int .i64 k] (by rfl) (by rfl) (World.news_of_block (cs := #[.int .i64 k]) (t := 3) (fr := (0, 0)) (heap_alloc_new _ _)) (by simp [Value.oneCell']) (by omega) (by unfold maxLen; omega) (by omega) (by simp; omega) (wo.heap.size + 1) (by simp) ?_; intro g cp w6 hown hgrow hat hlt; have C6 := H8.out.cb6 (i := v) (by omega) HP.out ((Below.refl _ wo).drew.alloc (by simp) _) hgrow; have c6 := C6.own hv8; have f6 := C6.free (2 + v); rw [HP.out] at c6; clear C6))
      all_goals
        have h9 := H8.out.appO (Nat.le_refl _) hv8 HP.out ((Below.refl _ wo).drew.alloc (by simp) _) hgrow hown (hat.imp id (fun e => by omega))
        have H9 := Lib.hid h9
        clear h9 hgrow hown hat cO fO OO
        go_wp2
        go_roundw
        case rel =>
          have h9 := H9.out
          refine ⟨k + 1, _, by omega, by go_num, Lib.hid ⟨h9.1, h9.2.1.congr (fun j hj => ?_), h9.2.2⟩⟩
          have hvo := HV.out
          (try dsimp only)
          rw [HL2.out, HM.out]
          subst hvo
          unfold chL
          by_cases e1 : j = o k
          · subst e1
            simp [hv8, show ¬ o k = 8 by omega, ownL_same]
          · by_cases e2 : j = 8
            · subst e2
              simp [hv8, plcL, Ne.symm e1, e1]
            · by_cases e3 : j < 8
              · simp [e1, e2, e3, ownL_other o k j (Ne.symm e1)]
              · simp [e1, e2, e3]
        case measure => simp [intOf]; omega
    · obtain rfl : n = k := by omega
      obtain ⟨wo, hwo⟩ : ∃ wo, wo = wr := ⟨_, rfl⟩
      subst hwo
      have o0 := hcb.own (v := 0) (by omega)
      have o1 := hcb.own (v := 1) (by omega)
      have o2 := hcb.own (v := 2) (by omega)
      have o3 := hcb.own (v := 3) (by omega)
      have o4 := hcb.own (v := 4) (by omega)
      have o5 := hcb.own (v := 5) (by omega)
      have o6 := hcb.own (v := 6) (by omega)
      have o7 := hcb.own (v := 7) (by omega)
      simp only [Nat.add_zero, Nat.reduceAdd] at o0 o1 o2 o3 o4 o5 o6 o7
      clear hb hcb
      go_wp2
      clear o0 o1 o2 o3 o4 o5 o6 o7
      go_loopw [73, 9, 10] (fun i _ _ wr => ∃ (v : Nat) (q' : Nat → Value), v ≤ 8 ∧ i = .int .i64 v ∧ Hid ((∀ j, j < 9 → q' j = q j) ∧ ChSt w1.heap.size w1 ov q' (chL o n n v) wr)) (fun i _ _ _ => 8 - (intOf i).toNat)
      case atStart => exact ⟨0, q, Nat.zero_le _, rfl, Lib.hid ⟨fun _ _ => rfl, HH.out⟩⟩
      case round =>
        obtain ⟨v, q', hv, rfl, QQ⟩ := hrel
        have hcb := QQ.out.2.1
        have lC := hcb.lt
        by_cases hlv : v < 8
        · have IX := fun w => index_own q v hlv w
          have j0 : (0 : Int) ≤ (v : Int) := by omega
          have j1 : (v : Int) < 8 := by omega
          obtain ⟨aO, dO, eO⟩ := owns_form (HH.out.2.1.1 v (by omega))
          have lO : (chL o n n 0 v).length ≤ n := by
            unfold chL; rw [if_pos hlv]; exact ownL_len o n v
          obtain ⟨m, hm⟩ : ∃ m, m = (chL o n n 0 v).length := ⟨_, rfl⟩
          rw [← hm] at lO eO
          have HM := Lib.hid (show m = (ownL o n v).length from by rw [hm]; unfold chL; rw [if_pos hlv])
          clear hm
          obtain ⟨a9, d9, e9⟩ := owns_form (QQ.out.2.2.1.1 9 (by omega))
          have l9 : (chL o n n v 9).length ≤ 8 := Nat.le_trans (ndsL_len o n v) (by omega)
          have HP := Lib.hid e9
          have cN := hcb.nodes
          have fN := hcb.free 1
          rw [e9] at cN
          clear e9 hcb
          by_cases hm0 : 0 < m
          · go_wp2_with (at_builtin; refine wpList_append_lies _ rfl _ _ _ rfl (w1.heap.size + 1) 3 i0 (.int .i64 0) 1 8 Try.underlying25 hi hz0 hz1 hz2 rfl (by omega) (.slice a9 (chL o n n v 9).length d9) (chL o n n v 9).length (numV (chL o n n v 9)) rfl (HP.out ▸ owns_below (QQ.out.2.2.1.1 9 (by omega)) ((Below.refl _ wr).alloc (Nat.le_refl _) _)) _ 1 1 [.int .i64 v] rfl rfl (World.news_of_block (cs := #[.int .i64 v]) (t := 3) (fr := (0, 0)) (heap_alloc_new _ _)) (by simp [Value.oneCell']) (by omega) (by unfold maxLen; omega) (by omega) (by simp; omega) (wr.heap.size + 1) (by simp) ?_; intro g cp w6 hown hgrow hat hlt; have C6 := QQ.out.2.cb6 (i := 9) (by omega) HP.out ((Below.refl _ wr).alloc (Nat.le_refl _) _) hgrow; have c6 := C6.nodes; have f6 := C6.free 1; rw [HP.out] at c6; clear C6)
            have h9 := QQ.out.2.app9 (Nat.le_refl _) HP.out ((Below.refl _ wr).alloc (Nat.le_refl _) _) hgrow hown (hat.imp id (fun e => by omega))
            have H9 := Lib.hid h9
            clear h9 hgrow hown hat c6 f6
            go_wp2
            go_roundw
            case rel =>
              have h9 := H9.out
              refine ⟨v + 1, _, by omega, by go_num, Lib.hid ⟨fun j hj => by simp only [show ¬ j = 9 by omega, if_false]; exact QQ.out.1 j hj, h9.1, h9.2.1.congr (fun j hj => ?_), h9.2.2⟩⟩
              rw [HM.out] at hm0
              unfold chL
              by_cases e1 : j = 9
              · subst e1
                simp [ndsL, hm0]
              · by_cases e3 : j < 8
                · simp [e1, e3]
                · have e2 : j = 8 := by omega
                  subst e2
                  simp
            case measure => simp [intOf]; omega
          · obtain rfl : m = 0 := by omega
            go_wp2
            go_roundw
            case rel =>
              have h9 := QQ.out
              refine ⟨v + 1, q', by omega, by go_num, Lib.hid ⟨h9.1, h9.2.1, h9.2.2.1.congr (fun j hj => ?_), h9.2.2.2⟩⟩
              have e0 : ¬ 0 < (ownL o n v).length := by rw [← HM.out]; omega
              unfold chL
              simp only [ndsL, if_neg e0]
            case measure => simp [intOf]; omega
        · obtain rfl : v = 8 := by omega
          have hb := QQ.out.2.2.2
          have p0 := (hb.cell (p := ⟨w.heap.size, 0, none⟩) (by first | omega | (simp; done) | (simp; omega))).trans P0
          have p1 := (hb.cell (p := ⟨w.heap.size, 1, none⟩) (by first | omega | (simp; done) | (simp; omega))).trans P1
          have p2 := (hb.cell (p := ⟨w.heap.size, 2, none⟩) (by first | omega | (simp; done) | (simp; omega))).trans P2
          have lsz := hb.size
          have cF := hcb.from_
          have cT := hcb.to_
          have fF := hcb.free 11
          have fT := hcb.free 12
          clear hb hcb
          go_wp2_with fail
          (go_at_call 46; (with_reducible refine (ways_any W H n cap ao _ HS.out).mono ?_); rintro e w6 ⟨f, cf, t, ct, rfl, RR, lf, lt, hb⟩; obtain ⟨hc, hf, hz⟩ := bcall hb; (try simp at hc hf hz))
          have HB6 := Lib.hid hb
          clear hb
          go_wp2
          go_ret2
          have hb6 := HB6.out
          have x2 : Ex (fun k => k = w1.heap.size) w6 ((w6.setCell ⟨w1.heap.size, 11, none⟩ (.slice (some ⟨f, 0, none⟩) n cf)).setCell ⟨w1.heap.size, 12, none⟩ (.slice (some ⟨t, 0, none⟩) n ct)) := Ex.setCell (S := fun k => k = w1.heap.size) (Ex.setCell (S := fun k => k = w1.heap.size) (Ex.refl _ _) (show w1.heap.size = w1.heap.size from rfl) _) (show w1.heap.size = w1.heap.size from rfl) _
          have hC := QQ.out.2
          have hbw : Below w.heap.size w w6 := B1.out.trans ((hC.2.2.trans (hb6.mono hC.2.2.size)).mono (by omega))
          refine ⟨w1.heap.size, q', f, cf, t, ct, rfl, Lib.hid ⟨hov ▸ (hC.1.below hb6 lC).putW _ _, ((hC.2.1.below hb6).ex x2 (by omega)).low (by omega), RR.out.1.ex x2 (by omega), RR.out.2.ex x2 (by omega)⟩, by omega, hbw.trans (x2.below hbw.size (fun k hk => by omega))⟩
end Go.Proofs.Ytmkhbkkhoemkoaa
