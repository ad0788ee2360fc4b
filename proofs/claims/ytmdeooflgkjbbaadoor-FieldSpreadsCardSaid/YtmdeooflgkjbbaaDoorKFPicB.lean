/- Spread: by the program of the fields, and by the reference. -/
import Derived.Test.YtmdeooflgkjbbaaDoorKFR8X
import Derived.Test.YtmdeooflgkjbbaaDoorKFPic
import Derived.BigQuiet
import Derived.Laws.IdiomStrings
import Derived.Test.YtmdeooflgkjbbaaDoorKFTab
namespace Go.Proofs.YtmdeooflgkjbbaaDoor
set_option linter.unusedSimpArgs false
set_option linter.unusedVariables false
open Go.RowKit Go.Shelf
attribute [local go_sem] Oper.semAt_some

/-- What the first k cells differ by from the mean, as many times as there are cells. -/
def spT (n : Nat) (G : Nat → Nat → Int) (k : Nat) : Int := sm k fun q => ((((n : Int) * msC G q - wt G n).natAbs : Nat) : Int)
theorem spT_succ (n : Nat) (G : Nat → Nat → Int) (k : Nat) : spT n G (k + 1) = spT n G k + ((((n : Int) * msC G k - wt G n).natAbs : Nat) : Int) := rfl
theorem sm_mono_nn {f : Nat → Int} {n : Nat} (h : ∀ i, i < n → 0 ≤ f i) : ∀ k, k ≤ n → sm k f ≤ sm n f := by
  intro k hk
  induction n with
  | zero => obtain rfl : k = 0 := by omega
            exact Int.le_refl _
  | succ n ih =>
    by_cases e : k = n + 1
    · subst e; exact Int.le_refl _
    · have := ih (fun i hi => h i (by omega)) (by omega)
      have := h n (by omega)
      simp only [sm]
      omega
theorem spT_bd {W H n : Nat} {G : Nat → Nat → Int} (s : Sides W H n) (hO : OkG n G) (k : Nat) (hk : k ≤ n) : 0 ≤ spT n G k ∧ spT n G k ≤ 2048000000000 := by
  have hnn : ∀ q, q < n → 0 ≤ msC G q := fun q hq => by
    obtain ⟨a0, a1, a2, a3, a4⟩ := hO.1 q hq
    show 0 ≤ G q 0 + G q 1 + G q 2 + G q 3
    omega
  have hM : 0 ≤ wt G n ∧ wt G n ≤ 1000000000 := ⟨(wt_le hO.1 n (Nat.le_refl _)).1, hO.2⟩
  have key : ∀ k, k ≤ n → 0 ≤ spT n G k ∧ spT n G k ≤ (n : Int) * sm k (msC G) + (k : Int) * wt G n := by
    intro k
    induction k with
    | zero => intro _; simp [spT, sm]
    | succ k ih =>
      intro hk
      have h1 := ih (by omega)
      have h2 := hnn k (by omega)
      have h3 : 0 ≤ (n : Int) * msC G k := Int.mul_nonneg (by omega) h2
      rw [spT_succ]
      simp only [sm]
      rw [Int.mul_add]
      push_cast
      rw [Int.add_mul, Int.one_mul]
      omega
  have h1 := key k hk
  have h2 : sm k (msC G) ≤ wt G n := by rw [← wt_ms]; exact sm_mono_nn hnn k hk
  have h3 : (n : Int) * sm k (msC G) ≤ (n : Int) * 1000000000 := Int.mul_le_mul_of_nonneg_left (by omega) (by omega)
  have h4 : (k : Int) * wt G n ≤ (k : Int) * 1000000000 := Int.mul_le_mul_of_nonneg_left hM.2 (by omega)
  have := s.n1
  omega
theorem sumT_range (tv : Nat → Int) (n : Nat) : sumT tv (List.range n) = sm n tv := by
  induction n with
  | zero => rfl
  | succ n ih => rw [List.range_succ, sumT_append, ih]; simp [sumT, sm]
set_option maxRecDepth 100000 in
set_option maxHeartbeats 4000000 in
theorem rsumsO_in (g off c n N : Nat) (G : Nat → Nat → Int) (L : List Nat) (w : World) (hl : L.length = n) (hn : n ≤ 5000) (lg : g < w.heap.size) (hO : OkG N G) (hLN : ∀ q ∈ L, q < N)
    (hc : ∀ i q, L[i]? = some q → ∀ d, d < 4 → w.cell? ⟨g, off + i * 4 + d, none⟩ = some (.int .i64 (G q d))) :
    Calls Tryd.prog 68 #[.slice (some ⟨g, off, none⟩) n c] w fun e w' => e = .returned (.tuple #[.int .i64 (sumT (msC G) L), .int .i64 (sumT (eaC G) L), .int .i64 (sumT (noC G) L)]) ∧ Below w.heap.size w w' := by
  have HC := Lib.hid hc
  have HO := Lib.hid hO
  have HL := Lib.hid hLN
  have HN := Lib.hid hl
  clear hc hO hLN hl
  go_enter Tryd.func68, Tryd.ntmps68
  go_wp2
  go_loopw [2, 3, 4, 5] (fun m e o i wr => ∃ k : Nat, k ≤ n ∧ i = .int .i64 k ∧ m = .int .i64 (sumT (msC G) (L.take k)) ∧ e = .int .i64 (sumT (eaC G) (L.take k)) ∧ o = .int .i64 (sumT (noC G) (L.take k)) ∧ Below w.heap.size w wr) (fun _ _ _ i _ => n - (Go.RowKit.intOf i).toNat)
  case atStart => exact ⟨0, Nat.zero_le _, rfl, rfl, rfl, rfl, Below.refl _ _⟩
  case round =>
    obtain ⟨k, hk, rfl, rfl, rfl, rfl, hB⟩ := hrel
    by_cases hlk : k < n
    · obtain ⟨q, hq⟩ : ∃ q, L[k]? = some q := ⟨L[k]'(by rw [HN.out]; exact hlk), List.getElem?_eq_getElem _⟩
      have hqN := HL.out q (List.mem_of_getElem? hq)
      have ok := HO.out.1 q hqN
      have b1 := sumT_bdL (tv := msC G) (L.take k) (fun r hr => (tells_bd HO.out).1 r (HL.out r (List.mem_of_mem_take hr)))
      have b2 := sumT_bdL (tv := eaC G) (L.take k) (fun r hr => (tells_bd HO.out).2.1 r (HL.out r (List.mem_of_mem_take hr)))
      have b3 := sumT_bdL (tv := noC G) (L.take k) (fun r hr => (tells_bd HO.out).2.2 r (HL.out r (List.mem_of_mem_take hr)))
      have hlt : (L.take k).length ≤ 5000 := by rw [List.length_take]; omega
      have t1 := sumT_take (tv := msC G) hq
      have t2 := sumT_take (tv := eaC G) hq
      have t3 := sumT_take (tv := noC G) hq
      rw [show msC G q = G q 0 + G q 1 + G q 2 + G q 3 from rfl] at t1
      rw [show eaC G q = G q 0 - G q 2 from rfl] at t2
      rw [show noC G q = G q 1 - G q 3 from rfl] at t3
      have c0 : w.cell? ⟨g, off + k * 4, none⟩ = _ := HC.out k q hq 0 (by omega)
      have c0 := (hB.cell (p := ⟨g, off + k * 4, none⟩) lg).trans c0
      have c1 := (hB.cell (p := ⟨g, off + k * 4 + 1, none⟩) lg).trans (HC.out k q hq 1 (by omega))
      have c2 := (hB.cell (p := ⟨g, off + k * 4 + 2, none⟩) lg).trans (HC.out k q hq 2 (by omega))
      have c3 := (hB.cell (p := ⟨g, off + k * 4 + 3, none⟩) lg).trans (HC.out k q hq 3 (by omega))
      have CM := Lib.hid (fun wx => cellMass8 (G q 0) (G q 1) (G q 2) (G q 3) wx ok)
      obtain ⟨d0, hd0⟩ : ∃ d, d = G q 0 := ⟨_, rfl⟩
      obtain ⟨d1, hd1⟩ : ∃ d, d = G q 1 := ⟨_, rfl⟩
      obtain ⟨d2, hd2⟩ : ∃ d, d = G q 2 := ⟨_, rfl⟩
      obtain ⟨d3, hd3⟩ : ∃ d, d = G q 3 := ⟨_, rfl⟩
      rw [← hd0] at c0 CM t1 t2 ok
      rw [← hd1] at c1 CM t1 t3 ok
      rw [← hd2] at c2 CM t1 t2 ok
      rw [← hd3] at c3 CM t1 t3 ok
      obtain ⟨m, hm⟩ : ∃ m, m = sumT (msC G) (L.take k) := ⟨_, rfl⟩
      obtain ⟨e, he⟩ : ∃ m, m = sumT (eaC G) (L.take k) := ⟨_, rfl⟩
      obtain ⟨o, ho⟩ : ∃ m, m = sumT (noC G) (L.take k) := ⟨_, rfl⟩
      rw [← hm] at b1 t1 ⊢
      rw [← he] at b2 t2 ⊢
      rw [← ho] at b3 t3 ⊢
      obtain ⟨o1, o2, o3, o4, o5⟩ := ok
      have x1 : IntKind.i64.wrap (m + (d0 + d1 + d2 + d3)) = m + (d0 + d1 + d2 + d3) := IntWalk.i64_in _ ⟨by omega, by omega⟩
      have x2 : IntKind.i64.wrap (d0 - d2) = d0 - d2 := IntWalk.i64_in _ ⟨by omega, by omega⟩
      have x3 : IntKind.i64.wrap (e + (d0 - d2)) = e + (d0 - d2) := IntWalk.i64_in _ ⟨by omega, by omega⟩
      have x4 : IntKind.i64.wrap (d1 - d3) = d1 - d3 := IntWalk.i64_in _ ⟨by omega, by omega⟩
      have x5 : IntKind.i64.wrap (o + (d1 - d3)) = o + (d1 - d3) := IntWalk.i64_in _ ⟨by omega, by omega⟩
      have T1 := Lib.hid t1
      have T2 := Lib.hid t2
      have T3 := Lib.hid t3
      have HB := Lib.hid hB
      have p0 : (0 : Int) ≤ (k : Int) := by omega
      have p1 : (k : Int) < (n : Int) := by omega
      have lg2 : g < wr.heap.size := Nat.lt_of_lt_of_le lg hB.size
      clear t1 t2 t3 b1 b2 b3 hlt hm he ho hd0 hd1 hd2 hd3 hq o1 o2 o3 o4 o5 hB
      go_wp2_with (go_at_call 39; (with_reducible refine (CM.out _).mono ?_); rintro e w1 ⟨rfl, hb⟩; obtain ⟨hc, hf, hz⟩ := bcall hb; (try simp at hc hf hz))
      have c0 := (hb.cell (p := ⟨g, off + k * 4, none⟩) lg2).trans c0
      have c1 := (hb.cell (p := ⟨g, off + k * 4 + 1, none⟩) lg2).trans c1
      have c2 := (hb.cell (p := ⟨g, off + k * 4 + 2, none⟩) lg2).trans c2
      have c3 := (hb.cell (p := ⟨g, off + k * 4 + 3, none⟩) lg2).trans c3
      have HB2 := Lib.hid (HB.out.trans (hb.mono HB.out.size))
      clear hc hf hb hz
      go_quiet (fail)
      go_wp2
      go_quiet (fail)
      go_wp2
      go_roundw
      case rel => exact ⟨k + 1, by omega, by go_num, by rw [T1.out], by rw [T2.out], by rw [T3.out], below_drewN HB2.out _⟩
      case measure => simp [Go.RowKit.intOf]; omega
    · obtain rfl : k = n := by omega
      have e : L.take k = L := List.take_of_length_le (by rw [HN.out]; exact Nat.le_refl _)
      rw [e]
      go_wp2
      go_ret3
      exact ⟨rfl, hB⟩
set_option maxRecDepth 100000 in
set_option maxHeartbeats 16000000 in
theorem fSpr_ok (W H n cap b off : Nat) (G : Nat → Nat → Int) (w : World) (s : Sides W H n) (hO : OkG n G) (lb : b < w.heap.size) (hG : Grd w b off n G) :
    Calls Tryd.prog 35 #[.agg #[.int .i64 W, .int .i64 H, .slice (some ⟨b, off, none⟩) n cap]] w fun e w' => e = .returned (.tuple #[.agg #[.int .i64 (ltN (spT n G n) (n * n)), .int .i64 (((ltD (spT n G n) (n * n) : Nat) : Int))], .int .i64 0]) ∧ Below w.heap.size w w' := by
  have hC : CellsIn w (some ⟨b, off, none⟩) n G := .inr ⟨b, off, rfl, lb, hG⟩
  have MS := Lib.hid (fun wx (hb : Below w.heap.size w wx) => gMass_ok W H (some ⟨b, off, none⟩) n cap G wx (vg_of s hO) (hC.below hb))
  have HM := Lib.hid (fun q (hq : q < n) => (show 0 ≤ msC G q ∧ msC G q ≤ 1000000000 from by obtain ⟨a0, a1, a2, a3, a4⟩ := hO.1 q hq; exact ⟨by show 0 ≤ G q 0 + G q 1 + G q 2 + G q 3; omega, a4⟩))
  have HB := Lib.hid (fun k (hk : k ≤ n) => spT_bd (W := W) (H := H) s hO k hk)
  have HO := Lib.hid hO
  have HG := Lib.hid hG
  have hn1 := s.n1
  have hn0 : 1 ≤ n := by
    have := Nat.mul_le_mul s.w0 s.h0
    rw [← s.n0] at this
    omega
  have hwt : 0 ≤ wt G n ∧ wt G n ≤ 1000000000 := ⟨(wt_le hO.1 n (Nat.le_refl _)).1, hO.2⟩
  have HS := Lib.hid (fun k => spT_succ n G k)
  obtain ⟨M, hM⟩ : ∃ z, z = wt G n := ⟨_, rfl⟩
  rw [← hM] at MS hwt
  simp only [← hM] at HS
  clear hM hC hO hG s
  have t0 := (Three.new0 w 24 (.int .i64 W) (.int .i64 H) (.slice (some ⟨b, off, none⟩) n cap)).below ((Below.refl _ _).alloc (Nat.le_refl _) (.cells #[.int .i64 0, .int .i64 0] 33)) (Three.new0 w 24 (.int .i64 W) (.int .i64 H) (.slice (some ⟨b, off, none⟩) n cap)).lt
  have r0 := Two.new (w.alloc (.cells #[.int .i64 W, .int .i64 H, .slice (some ⟨b, off, none⟩) n cap] 24)) 33 (.int .i64 0) (.int .i64 0)
  simp only [World.size_alloc] at r0
  go_enter Tryd.func35, Tryd.ntmps35
  go_wp2_with (go_at_call 24; (with_reducible refine (MS.out _ (by (repeat' (first | (with_reducible exact Below.refl _ _) | (with_reducible refine Below.setCell ?_ (by first | omega | (simp; done) | (simp; omega)) _) | (with_reducible refine Below.alloc ?_ (by first | omega | (simp; done) | (simp; omega)) _) | (with_reducible refine Below.drew ?_) | (with_reducible refine below_drewN ?_ _) | (with_reducible refine Below.trans ?_ (Below.mono (by assumption) (by first | omega | (simp; done) | (simp; omega)))))))).mono ?_); rintro e w1 ⟨rfl, hb⟩; obtain ⟨hc, hf, hz⟩ := bcall hb; (try simp at hc hf hz))
  have u0 : Three w1 w.heap.size 24 (.int .i64 W) (.int .i64 H) (.slice (some ⟨b, off, none⟩) n cap) := t0.below hb t0.lt
  have v0 : Two w1 (w.heap.size + 1) 33 (.int .i64 0) (.int .i64 0) := r0.below hb r0.lt
  have hbw : Below w.heap.size w w1 := by (repeat' (first | (with_reducible exact Below.refl _ _) | (with_reducible refine Below.setCell ?_ (by first | omega | (simp; done) | (simp; omega)) _) | (with_reducible refine Below.alloc ?_ (by first | omega | (simp; done) | (simp; omega)) _) | (with_reducible refine Below.drew ?_) | (with_reducible refine below_drewN ?_ _) | (with_reducible refine Below.trans ?_ (Below.mono (by assumption) (by first | omega | (simp; done) | (simp; omega))))))
  obtain ⟨wa, hwa⟩ : ∃ wa, wa = w1 := ⟨_, rfl⟩
  subst hwa
  clear hb hc hf hz t0 r0
  have s1 := hbw.size
  have l0 := u0.lt
  have l1 := v0.lt
  go_loopw [7, 25] (fun e i wr => ∃ k : Nat, k ≤ n ∧ i = .int .i64 (k : Int) ∧ e = .int .i64 (spT n G k) ∧ Below wa.heap.size wa wr) (fun _ i _ => n - (Go.RowKit.intOf i).toNat)
  case atStart => exact ⟨0, Nat.zero_le _, rfl, rfl, Below.refl _ _⟩
  case round =>
    obtain ⟨k, hk, rfl, rfl, hB⟩ := hrel
    have hbd := HB.out k hk
    by_cases hlk : k < n
    · have hmk := HM.out k hlk
      obtain ⟨z0, z1, z2, z3⟩ := HG.out.below (hbw.trans (hB.mono s1)) lb k hlk
      have x0 := u0.below hB l0
      have g2 := x0.c2
      have lr := x0.lt
      have lbr : b < wr.heap.size := Nat.lt_of_lt_of_le lb (hbw.trans (hB.mono s1)).size
      have MO := Lib.hid (fun wx => massOf_in (G k 0) (G k 1) (G k 2) (G k 3) wx (HO.out.1 k hlk))
      have HD := Lib.hid (HS.out k)
      obtain ⟨m, hm⟩ : ∃ m, m = msC G k := ⟨_, rfl⟩
      have hm2 : m = G k 0 + G k 1 + G k 2 + G k 3 := hm
      rw [← hm2] at MO
      rw [← hm] at HD hmk
      have hz2 : (n : Int) * m ≤ (n : Int) * 1000000000 := Int.mul_le_mul_of_nonneg_left hmk.2 (by omega)
      have hz3 : 0 ≤ (n : Int) * m := Int.mul_nonneg (by omega) hmk.1
      obtain ⟨z, hz⟩ : ∃ z, z = (n : Int) * m := ⟨_, rfl⟩
      rw [← hz] at HD hz2 hz3
      have e0 := hz.symm
      have e1 : IntKind.i64.wrap z = z := IntWalk.i64_in _ ⟨by omega, by omega⟩
      have e2 : IntKind.i64.wrap (z - M) = z - M := IntWalk.i64_in _ ⟨by omega, by omega⟩
      have MG := Lib.hid (fun wx => fMagn_big (z - M) wx ⟨by omega, by omega⟩)
      have ha : ((z - M).natAbs : Int) ≤ 2000000000000 := by omega
      obtain ⟨a, haa⟩ : ∃ a : Int, a = ((z - M).natAbs : Int) := ⟨_, rfl⟩
      have ha0 : 0 ≤ a := by omega
      rw [← haa] at HD MG ha
      obtain ⟨sp, hsp⟩ : ∃ t, t = spT n G k := ⟨_, rfl⟩
      rw [← hsp] at HD hbd ⊢
      obtain ⟨d0, hd0⟩ : ∃ d, d = G k 0 := ⟨_, rfl⟩
      obtain ⟨d1, hd1⟩ : ∃ d, d = G k 1 := ⟨_, rfl⟩
      obtain ⟨d2, hd2⟩ : ∃ d, d = G k 2 := ⟨_, rfl⟩
      obtain ⟨d3, hd3⟩ : ∃ d, d = G k 3 := ⟨_, rfl⟩
      rw [← hd0, ← hd1, ← hd2, ← hd3] at MO
      rw [← hd0] at z0
      rw [← hd1] at z1
      rw [← hd2] at z2
      rw [← hd3] at z3
      have e5 : IntKind.i64.wrap (sp + a) = sp + a := IntWalk.i64_in _ ⟨by omega, by omega⟩
      have p0 : (0 : Int) ≤ (k : Int) := by omega
      have p1 : (k : Int) < (n : Int) := by omega
      have HBB := Lib.hid hB
      have sB := hB.size
      clear hm hm2 hz hz2 hz3 haa ha ha0 hsp hd0 hd1 hd2 hd3 hbd hmk hB x0
      go_wp2_with (first | (go_at_call 67; (with_reducible refine (MO.out _).mono ?_); rintro e w1 ⟨rfl, hb⟩; obtain ⟨hc, hf, hz⟩ := bcall hb; (try simp at hc hf hz)) | (go_at_call 92; (with_reducible refine (MG.out _).mono ?_); rintro e w1 ⟨rfl, hb⟩; obtain ⟨hc, hf, hz⟩ := bcall hb; (try simp at hc hf hz)))
      go_roundw
      case rel => exact ⟨k + 1, by omega, by go_num, by rw [HD.out], by have := HBB.out; (repeat' (first | (with_reducible exact Below.refl _ _) | (with_reducible refine Below.setCell ?_ (by first | omega | (simp; done) | (simp; omega)) _) | (with_reducible refine Below.alloc ?_ (by first | omega | (simp; done) | (simp; omega)) _) | (with_reducible refine Below.drew ?_) | (with_reducible refine below_drewN ?_ _) | (with_reducible refine Below.trans ?_ (Below.mono (by assumption) (by first | omega | (simp; done) | (simp; omega))))))⟩
      case measure => simp [Go.RowKit.intOf]; omega
    · obtain rfl : k = n := by omega
      have hdd : k * k ≤ 1024 * 1024 := Nat.mul_le_mul (by omega) (by omega)
      have hd1 : 1 * 1 ≤ k * k := Nat.mul_le_mul hn0 hn0
      have RA := Lib.hid (fun wx => fRatio_lt (spT k G k) (k * k) wx (by omega) (by omega) (by omega))
      obtain ⟨kN, hkN⟩ : ∃ t, t = ltN (spT k G k) (k * k) := ⟨_, rfl⟩
      obtain ⟨kD, hkD⟩ : ∃ t : Int, t = ((ltD (spT k G k) (k * k) : Nat) : Int) := ⟨_, rfl⟩
      rw [← hkN, ← hkD] at RA
      have HK := Lib.hid (And.intro hkN hkD)
      obtain ⟨sp, hsp⟩ : ∃ t, t = spT k G k := ⟨_, rfl⟩
      rw [← hsp] at RA hbd ⊢
      obtain ⟨dd, hdq⟩ : ∃ d : Nat, d = k * k := ⟨_, rfl⟩
      rw [← hdq] at RA hdd hd1
      have e1 : (k : Int) * (k : Int) = (dd : Int) := by rw [hdq]; push_cast; rfl
      have e2 : IntKind.i64.wrap (dd : Int) = (dd : Int) := IntWalk.i64_in _ ⟨by omega, by omega⟩
      have y0 := v0.below hB l1
      have k0 := y0.c0
      have k1 := y0.c1
      have f0 := y0.f0 0
      have f1 := y0.f0 1
      have l2 := y0.lt
      have p1 : ¬ (k : Int) < (k : Int) := by omega
      have HBW := hbw.trans (hB.mono s1)
      have HBS := HBW.size
      clear hkN hkD hsp hdq hdd hd1 hbd y0 hbw hB
      go_wp2_with (go_at_call 65; (with_reducible refine (RA.out _).mono ?_); rintro e w1 ⟨rfl, hb⟩; obtain ⟨hc, hf, hz⟩ := bcall hb; (try simp at hc hf hz))
      refine bodyPost_ret (v := .tuple #[.agg #[.int .i64 kN, .int .i64 kD], .int .i64 0]) (by simp [results, Tryd.results35, go_sem, ↓IntWalk.iteOmega, *]) rfl ⟨by rw [HK.out.1, HK.out.2], ?_⟩
      (repeat' (first | (with_reducible exact Below.refl _ _) | (with_reducible refine Below.setCell ?_ (by first | omega | (simp; done) | (simp; omega)) _) | (with_reducible refine Below.alloc ?_ (by first | omega | (simp; done) | (simp; omega)) _) | (with_reducible refine Below.drew ?_) | (with_reducible refine below_drewN ?_ _) | (with_reducible refine Below.trans ?_ (Below.mono (by assumption) (by first | omega | (simp; done) | (simp; omega))))))
set_option maxRecDepth 100000 in
set_option maxHeartbeats 16000000 in
theorem rSpr_ok (W H n cap b off : Nat) (G : Nat → Nat → Int) (w : World) (s : Sides W H n) (hO : OkG n G) (lb : b < w.heap.size) (hG : Grd w b off n G) :
    Calls Tryd.prog 36 #[.agg #[.int .i64 W, .int .i64 H, .slice (some ⟨b, off, none⟩) n cap]] w fun e w' => e = .returned (.tuple #[.agg #[.int .i64 (ltN (spT n G n) (n * n)), .int .i64 (((ltD (spT n G n) (n * n) : Nat) : Int))], .int .i64 0]) ∧ Below w.heap.size w w' := by
  have hC : CellsIn w (some ⟨b, off, none⟩) n G := .inr ⟨b, off, rfl, lb, hG⟩
  have VA := Lib.hid (fun wx (hb : Below w.heap.size w wx) => rValid_ok W H (some ⟨b, off, none⟩) n cap G wx (vg_of s hO) (hC.below hb))
  have SU := Lib.hid (fun wx (hb : Below w.heap.size w wx) => (show Calls Tryd.prog 68 #[.slice (some ⟨b, off, none⟩) n cap] wx fun e w' => (∃ p q, e = .returned (.tuple #[.int .i64 (wt G n), .int .i64 p, .int .i64 q])) ∧ Below wx.heap.size wx w' from by
    refine (rsumsO_in b off cap n n G (List.range n) wx (by simp) (by have := s.n1; omega) (Nat.lt_of_lt_of_le lb hb.size) hO (fun q hq => List.mem_range.1 hq) (fun i q hq d hd => ?_)).mono ?_
    · have hi : i < n := by have := (List.getElem?_eq_some_iff.1 hq).1; simpa using this
      have e : q = i := by rw [List.getElem?_range hi] at hq; exact (Option.some.inj hq).symm
      subst e
      obtain ⟨z0, z1, z2, z3⟩ := hG.below hb lb q hi
      match d, hd with
      | 0, _ => exact z0
      | 1, _ => exact z1
      | 2, _ => exact z2
      | 3, _ => exact z3
    · rintro e w' ⟨rfl, hb'⟩
      rw [sumT_range, wt_ms]
      exact ⟨⟨_, _, rfl⟩, hb'⟩))
  have HM := Lib.hid (fun q (hq : q < n) => (show 0 ≤ msC G q ∧ msC G q ≤ 1000000000 from by obtain ⟨a0, a1, a2, a3, a4⟩ := hO.1 q hq; exact ⟨by show 0 ≤ G q 0 + G q 1 + G q 2 + G q 3; omega, a4⟩))
  have HB := Lib.hid (fun k (hk : k ≤ n) => spT_bd (W := W) (H := H) s hO k hk)
  have HO := Lib.hid hO
  have HG := Lib.hid hG
  have hn1 := s.n1
  have hn0 : 1 ≤ n := by
    have := Nat.mul_le_mul s.w0 s.h0
    rw [← s.n0] at this
    omega
  have hwt : 0 ≤ wt G n ∧ wt G n ≤ 1000000000 := ⟨(wt_le hO.1 n (Nat.le_refl _)).1, hO.2⟩
  have HS := Lib.hid (fun k => spT_succ n G k)
  obtain ⟨M, hM⟩ : ∃ z, z = wt G n := ⟨_, rfl⟩
  rw [← hM] at SU hwt
  simp only [← hM] at HS
  clear hM hC hO hG s
  have t0 := (Three.new0 w 24 (.int .i64 W) (.int .i64 H) (.slice (some ⟨b, off, none⟩) n cap)).below ((Below.refl _ _).alloc (Nat.le_refl _) (.cells #[.int .i64 0, .int .i64 0] 33)) (Three.new0 w 24 (.int .i64 W) (.int .i64 H) (.slice (some ⟨b, off, none⟩) n cap)).lt
  have r0 := Two.new (w.alloc (.cells #[.int .i64 W, .int .i64 H, .slice (some ⟨b, off, none⟩) n cap] 24)) 33 (.int .i64 0) (.int .i64 0)
  simp only [World.size_alloc] at r0
  go_enter Tryd.func36, Tryd.ntmps36
  go_wp2_with (go_at_call 87; (with_reducible refine (VA.out _ (by (repeat' (first | (with_reducible exact Below.refl _ _) | (with_reducible refine Below.setCell ?_ (by first | omega | (simp; done) | (simp; omega)) _) | (with_reducible refine Below.alloc ?_ (by first | omega | (simp; done) | (simp; omega)) _) | (with_reducible refine Below.drew ?_) | (with_reducible refine below_drewN ?_ _) | (with_reducible refine Below.trans ?_ (Below.mono (by assumption) (by first | omega | (simp; done) | (simp; omega)))))))).mono ?_); rintro e w1 ⟨rfl, hb⟩; obtain ⟨hc, hf, hz⟩ := bcall hb; (try simp at hc hf hz))
  (go_at_call 68; (refine (SU.out _ (by (repeat' (first | (with_reducible exact Below.refl _ _) | (with_reducible refine Below.setCell ?_ (by first | omega | (simp; done) | (simp; omega)) _) | (with_reducible refine Below.alloc ?_ (by first | omega | (simp; done) | (simp; omega)) _) | (with_reducible refine Below.drew ?_) | (with_reducible refine below_drewN ?_ _) | (with_reducible refine Below.trans ?_ (Below.mono (by assumption) (by first | omega | (simp; done) | (simp; omega)))))))).mono ?_); rintro e w9 ⟨⟨sp1, sp2, rfl⟩, hb9⟩)
  have hb8 := hb
  have hb := (show Below (((w.alloc (.cells #[.int .i64 W, .int .i64 H, .slice (some ⟨b, off, none⟩) n cap] 24)).alloc (.cells #[.int .i64 0, .int .i64 0] 33)).heap.size) ((w.alloc (.cells #[.int .i64 W, .int .i64 H, .slice (some ⟨b, off, none⟩) n cap] 24)).alloc (.cells #[.int .i64 0, .int .i64 0] 33)) w9 from hb8.trans (hb9.mono hb8.size))
  clear hb9
  obtain ⟨w1, hw1⟩ : ∃ w1, w1 = w9 := ⟨_, rfl⟩
  subst hw1
  have u0 : Three w1 w.heap.size 24 (.int .i64 W) (.int .i64 H) (.slice (some ⟨b, off, none⟩) n cap) := t0.below hb t0.lt
  have v0 : Two w1 (w.heap.size + 1) 33 (.int .i64 0) (.int .i64 0) := r0.below hb r0.lt
  have hbw : Below w.heap.size w w1 := by (repeat' (first | (with_reducible exact Below.refl _ _) | (with_reducible refine Below.setCell ?_ (by first | omega | (simp; done) | (simp; omega)) _) | (with_reducible refine Below.alloc ?_ (by first | omega | (simp; done) | (simp; omega)) _) | (with_reducible refine Below.drew ?_) | (with_reducible refine below_drewN ?_ _) | (with_reducible refine Below.trans ?_ (Below.mono (by assumption) (by first | omega | (simp; done) | (simp; omega))))))
  obtain ⟨wa, hwa⟩ : ∃ wa, wa = w1 := ⟨_, rfl⟩
  subst hwa
  clear hb hb8 hc hf hz t0 r0
  have s1 := hbw.size
  have l0 := u0.lt
  have l1 := v0.lt
  have g2 := u0.c2
  go_wp2_with fail
  go_loopw [8, 9] (fun e i wr => ∃ k : Nat, k ≤ n ∧ i = .int .i64 (k : Int) ∧ e = .int .i64 (spT n G k) ∧ Below wa.heap.size wa wr) (fun _ i _ => n - (Go.RowKit.intOf i).toNat)
  case atStart => exact ⟨0, Nat.zero_le _, rfl, rfl, Below.refl _ _⟩
  case round =>
    obtain ⟨k, hk, rfl, rfl, hB⟩ := hrel
    have hbd := HB.out k hk
    by_cases hlk : k < n
    · have hmk := HM.out k hlk
      obtain ⟨z0, z1, z2, z3⟩ := HG.out.below (hbw.trans (hB.mono s1)) lb k hlk
      have x0 := u0.below hB l0
      have g2 := x0.c2
      have lr := x0.lt
      have lbr : b < wr.heap.size := Nat.lt_of_lt_of_le lb (hbw.trans (hB.mono s1)).size
      have MO := Lib.hid (fun wx => cellMass8 (G k 0) (G k 1) (G k 2) (G k 3) wx (HO.out.1 k hlk))
      have HD := Lib.hid (HS.out k)
      obtain ⟨m, hm⟩ : ∃ m, m = msC G k := ⟨_, rfl⟩
      have hm2 : m = G k 0 + G k 1 + G k 2 + G k 3 := hm
      rw [← hm2] at MO
      rw [← hm] at HD hmk
      have hz2 : (n : Int) * m ≤ (n : Int) * 1000000000 := Int.mul_le_mul_of_nonneg_left hmk.2 (by omega)
      have hz3 : 0 ≤ (n : Int) * m := Int.mul_nonneg (by omega) hmk.1
      obtain ⟨z, hz⟩ : ∃ z, z = (n : Int) * m := ⟨_, rfl⟩
      rw [← hz] at HD hz2 hz3
      have e0 := hz.symm
      have e1 : IntKind.i64.wrap z = z := IntWalk.i64_in _ ⟨by omega, by omega⟩
      have e2 : IntKind.i64.wrap (z - M) = z - M := IntWalk.i64_in _ ⟨by omega, by omega⟩
      have MG := Lib.hid (fun wx => rsize_in (z - M) wx ⟨by omega, by omega⟩)
      have ha : ((z - M).natAbs : Int) ≤ 2000000000000 := by omega
      obtain ⟨a, haa⟩ : ∃ a : Int, a = ((z - M).natAbs : Int) := ⟨_, rfl⟩
      have ha0 : 0 ≤ a := by omega
      rw [← haa] at HD MG ha
      obtain ⟨sp, hsp⟩ : ∃ t, t = spT n G k := ⟨_, rfl⟩
      rw [← hsp] at HD hbd ⊢
      obtain ⟨d0, hd0⟩ : ∃ d, d = G k 0 := ⟨_, rfl⟩
      obtain ⟨d1, hd1⟩ : ∃ d, d = G k 1 := ⟨_, rfl⟩
      obtain ⟨d2, hd2⟩ : ∃ d, d = G k 2 := ⟨_, rfl⟩
      obtain ⟨d3, hd3⟩ : ∃ d, d = G k 3 := ⟨_, rfl⟩
      rw [← hd0, ← hd1, ← hd2, ← hd3] at MO
      rw [← hd0] at z0
      rw [← hd1] at z1
      rw [← hd2] at z2
      rw [← hd3] at z3
      have e5 : IntKind.i64.wrap (sp + a) = sp + a := IntWalk.i64_in _ ⟨by omega, by omega⟩
      have p0 : (0 : Int) ≤ (k : Int) := by omega
      have p1 : (k : Int) < (n : Int) := by omega
      have HBB := Lib.hid hB
      have sB := hB.size
      clear hm hm2 hz hz2 hz3 haa ha ha0 hsp hd0 hd1 hd2 hd3 hbd hmk hB x0
      go_wp2_with (first | (go_at_call 39; (with_reducible refine (MO.out _).mono ?_); rintro e w1 ⟨rfl, hb⟩; obtain ⟨hc, hf, hz⟩ := bcall hb; (try simp at hc hf hz)) | (go_at_call 93; (with_reducible refine (MG.out _).mono ?_); rintro e w1 ⟨rfl, hb⟩; obtain ⟨hc, hf, hz⟩ := bcall hb; (try simp at hc hf hz)))
      go_roundw
      case rel => exact ⟨k + 1, by omega, by go_num, by rw [HD.out], by have := HBB.out; (repeat' (first | (with_reducible exact Below.refl _ _) | (with_reducible refine Below.setCell ?_ (by first | omega | (simp; done) | (simp; omega)) _) | (with_reducible refine Below.alloc ?_ (by first | omega | (simp; done) | (simp; omega)) _) | (with_reducible refine Below.drew ?_) | (with_reducible refine below_drewN ?_ _) | (with_reducible refine Below.trans ?_ (Below.mono (by assumption) (by first | omega | (simp; done) | (simp; omega))))))⟩
      case measure => simp [Go.RowKit.intOf]; omega
    · obtain rfl : k = n := by omega
      have hdd : k * k ≤ 1024 * 1024 := Nat.mul_le_mul (by omega) (by omega)
      have hd1 : 1 * 1 ≤ k * k := Nat.mul_le_mul hn0 hn0
      have RA := Lib.hid (fun wx => rRatio_lt (spT k G k) (k * k) wx (by omega) (by omega) (by omega))
      obtain ⟨kN, hkN⟩ : ∃ t, t = ltN (spT k G k) (k * k) := ⟨_, rfl⟩
      obtain ⟨kD, hkD⟩ : ∃ t : Int, t = ((ltD (spT k G k) (k * k) : Nat) : Int) := ⟨_, rfl⟩
      rw [← hkN, ← hkD] at RA
      have HK := Lib.hid (And.intro hkN hkD)
      obtain ⟨sp, hsp⟩ : ∃ t, t = spT k G k := ⟨_, rfl⟩
      rw [← hsp] at RA hbd ⊢
      obtain ⟨dd, hdq⟩ : ∃ d : Nat, d = k * k := ⟨_, rfl⟩
      rw [← hdq] at RA hdd hd1
      have e1 : (k : Int) * (k : Int) = (dd : Int) := by rw [hdq]; push_cast; rfl
      have e2 : IntKind.i64.wrap (dd : Int) = (dd : Int) := IntWalk.i64_in _ ⟨by omega, by omega⟩
      have y0 := v0.below hB l1
      have k0 := y0.c0
      have k1 := y0.c1
      have f0 := y0.f0 0
      have f1 := y0.f0 1
      have l2 := y0.lt
      have p1 : ¬ (k : Int) < (k : Int) := by omega
      have HBW := hbw.trans (hB.mono s1)
      have HBS := HBW.size
      clear hkN hkD hsp hdq hdd hd1 hbd y0 hbw hB
      go_wp2_with (go_at_call 69; (with_reducible refine (RA.out _).mono ?_); rintro e w1 ⟨rfl, hb⟩; obtain ⟨hc, hf, hz⟩ := bcall hb; (try simp at hc hf hz))
      refine bodyPost_ret (v := .tuple #[.agg #[.int .i64 kN, .int .i64 kD], .int .i64 0]) (by simp [results, Tryd.results36, go_sem, ↓IntWalk.iteOmega, *]) rfl ⟨by rw [HK.out.1, HK.out.2], ?_⟩
      (repeat' (first | (with_reducible exact Below.refl _ _) | (with_reducible refine Below.setCell ?_ (by first | omega | (simp; done) | (simp; omega)) _) | (with_reducible refine Below.alloc ?_ (by first | omega | (simp; done) | (simp; omega)) _) | (with_reducible refine Below.drew ?_) | (with_reducible refine below_drewN ?_ _) | (with_reducible refine Below.trans ?_ (Below.mono (by assumption) (by first | omega | (simp; done) | (simp; omega))))))
section
variable (W H : Int) (ao : Option Addr) (n cap : Nat) (G : Nat → Nat → Int) (w : World) (hG : CellsIn w ao n G)
include hG
set_option maxRecDepth 100000 in
set_option maxHeartbeats 16000000 in
theorem fSpr_bad (hv : ¬ VG W H n G) : Calls Tryd.prog 35 #[.agg #[.int .i64 W, .int .i64 H, .slice (ao) n cap]] w fun e w' => e = .returned (.tuple #[.agg #[.int .i64 0, .int .i64 0], .int .i64 1]) ∧ Below w.heap.size w w' := by
  have CS := Lib.hid (fun wx (hb : Below w.heap.size w wx) => gMass_bad W H ao n cap G wx hv (hG.below hb))
  clear hv hG
  go_enter Tryd.func35, Tryd.ntmps35
  go_wp2_with (go_at_call 24; (with_reducible refine (CS.out _ (by (repeat' (first | (with_reducible exact Below.refl _ _) | (with_reducible refine Below.setCell ?_ (by first | omega | (simp; done) | (simp; omega)) _) | (with_reducible refine Below.alloc ?_ (by first | omega | (simp; done) | (simp; omega)) _) | (with_reducible refine Below.drew ?_) | (with_reducible refine below_drewN ?_ _) | (with_reducible refine Below.trans ?_ (Below.mono (by assumption) (by first | omega | (simp; done) | (simp; omega)))))))).mono ?_); rintro e w1 ⟨rfl, hb⟩; obtain ⟨hc, hf, hz⟩ := bcall hb; (try simp at hc hf hz))
  refine bodyPost_ret (v := .tuple #[.agg #[.int .i64 0, .int .i64 0], .int .i64 1]) (by simp [results, Tryd.results35, go_sem, ↓IntWalk.iteOmega, *]) rfl ⟨rfl, ?_⟩
  (repeat' (first | (with_reducible exact Below.refl _ _) | (with_reducible refine Below.setCell ?_ (by first | omega | (simp; done) | (simp; omega)) _) | (with_reducible refine Below.alloc ?_ (by first | omega | (simp; done) | (simp; omega)) _) | (with_reducible refine Below.drew ?_) | (with_reducible refine below_drewN ?_ _) | (with_reducible refine Below.trans ?_ (Below.mono (by assumption) (by first | omega | (simp; done) | (simp; omega))))))
set_option maxRecDepth 100000 in
set_option maxHeartbeats 16000000 in
theorem rSpr_bad (hv : ¬ VG W H n G) : Calls Tryd.prog 36 #[.agg #[.int .i64 W, .int .i64 H, .slice (ao) n cap]] w fun e w' => e = .returned (.tuple #[.agg #[.int .i64 0, .int .i64 0], .int .i64 1]) ∧ Below w.heap.size w w' := by
  have CS := Lib.hid (fun wx (hb : Below w.heap.size w wx) => rValid_bad W H ao n cap G wx hv (hG.below hb))
  clear hv hG
  go_enter Tryd.func36, Tryd.ntmps36
  go_wp2_with (go_at_call 87; (with_reducible refine (CS.out _ (by (repeat' (first | (with_reducible exact Below.refl _ _) | (with_reducible refine Below.setCell ?_ (by first | omega | (simp; done) | (simp; omega)) _) | (with_reducible refine Below.alloc ?_ (by first | omega | (simp; done) | (simp; omega)) _) | (with_reducible refine Below.drew ?_) | (with_reducible refine below_drewN ?_ _) | (with_reducible refine Below.trans ?_ (Below.mono (by assumption) (by first | omega | (simp; done) | (simp; omega)))))))).mono ?_); rintro e w1 ⟨rfl, hb⟩; obtain ⟨hc, hf, hz⟩ := bcall hb; (try simp at hc hf hz))
  refine bodyPost_ret (v := .tuple #[.agg #[.int .i64 0, .int .i64 0], .int .i64 1]) (by simp [results, Tryd.results36, go_sem, ↓IntWalk.iteOmega, *]) rfl ⟨rfl, ?_⟩
  (repeat' (first | (with_reducible exact Below.refl _ _) | (with_reducible refine Below.setCell ?_ (by first | omega | (simp; done) | (simp; omega)) _) | (with_reducible refine Below.alloc ?_ (by first | omega | (simp; done) | (simp; omega)) _) | (with_reducible refine Below.drew ?_) | (with_reducible refine below_drewN ?_ _) | (with_reducible refine Below.trans ?_ (Below.mono (by assumption) (by first | omega | (simp; done) | (simp; omega))))))
end
end Go.Proofs.YtmdeooflgkjbbaaDoor

/- The main way of a cell: by the reference of the fields. -/


namespace Go.Proofs.YtmdeooflgkjbbaaDoor
set_option linter.unusedSimpArgs false
set_option linter.unusedVariables false
open Go.RowKit Go.Shelf
attribute [local go_sem] Oper.semAt_some

/-- The populations by their direction. -/
def pkN (a b c d : Int) (k : Nat) : Int := if k = 0 then a else if k = 1 then b else if k = 2 then c else d
/-- The best direction among the first k, none yet. -/
def wyO (a b c d : Int) : Nat → Option Nat
  | 0 => none
  | k + 1 => match wyO a b c d k with
    | none => if 0 < pkN a b c d k then some k else none
    | some j => if 0 < pkN a b c d k ∧ pkN a b c d j < pkN a b c d k then some k else some j
def wyI : Option Nat → Int
  | none => -1
  | some j => (j : Int)
theorem wyO_lt (a b c d : Int) (k j : Nat) (h : wyO a b c d k = some j) : j < k := by
  induction k generalizing j with
  | zero => cases h
  | succ k ih =>
    unfold wyO at h
    split at h
    · split at h
      · cases h; omega
      · cases h
    · rename_i i hi
      split at h
      · cases h; omega
      · cases h
        have := ih _ hi
        omega
theorem wyO_four (a b c d : Int) (h : 0 ≤ a ∧ 0 ≤ b ∧ 0 ≤ c ∧ 0 ≤ d) : wyI (wyO a b c d 4) = if a = 0 ∧ b = 0 ∧ c = 0 ∧ d = 0 then -1 else mwy a b c d := by
  obtain ⟨ha, hb, hc, hd⟩ := h
  unfold mwy bst
  simp only [List.foldl_cons, List.foldl_nil, stp, pk4, wyO, pkN]
  by_cases a0 : 0 < a <;> by_cases b0 : 0 < b <;> by_cases c0 : 0 < c <;> by_cases d0 : 0 < d <;> by_cases ab : a < b <;> by_cases ac : a < c <;> by_cases ad : a < d <;> by_cases bc : b < c <;> by_cases bd : b < d <;> by_cases cd : c < d <;> first | (exfalso; omega) | (simp [*, wyI]; try omega)
set_option maxRecDepth 100000 in
set_option maxHeartbeats 16000000 in
theorem rWay_in (a b c d : Int) (w : World) : Calls Tryd.prog 99 #[.agg #[.int .i64 a, .int .i64 b, .int .i64 c, .int .i64 d]] w fun e w' => e = .returned (.int .i64 (wyI (wyO a b c d 4))) ∧ Below w.heap.size w w' := by
  have q0 : Quad (w.alloc (.cells #[.int .i64 a, .int .i64 b, .int .i64 c, .int .i64 d] 62)) w.heap.size a b c d := World.alloc_heap_new w _
  have b0 : Below w.heap.size w (w.alloc (.cells #[.int .i64 a, .int .i64 b, .int .i64 c, .int .i64 d] 62)) := by (repeat' (first | (with_reducible exact Below.refl _ _) | (with_reducible refine Below.setCell ?_ (by first | omega | (simp; done) | (simp; omega)) _) | (with_reducible refine Below.alloc ?_ (by first | omega | (simp; done) | (simp; omega)) _) | (with_reducible refine Below.drew ?_) | (with_reducible refine below_drewN ?_ _) | (with_reducible refine Below.trans ?_ (Below.mono (by assumption) (by first | omega | (simp; done) | (simp; omega))))))
  obtain ⟨wa, hwa⟩ : ∃ wa, wa = w.alloc (.cells #[.int .i64 a, .int .i64 b, .int .i64 c, .int .i64 d] 62) := ⟨_, rfl⟩
  rw [← hwa] at q0 b0
  have HC := Lib.hid (fun wr (hb : Below wa.heap.size wa wr) k (hk : k < 4) => (show wr.cell? ⟨w.heap.size, k, none⟩ = some (.int .i64 (pkN a b c d k)) from by
    have h : Quad wr w.heap.size a b c d := (hb.block _ q0.lt).trans q0
    match k, hk with
    | 0, _ => exact h.c0
    | 1, _ => exact h.c1
    | 2, _ => exact h.c2
    | 3, _ => exact h.c3))
  have HW := Lib.hid (fun k => (show wyO a b c d (k + 1) = (match wyO a b c d k with
    | none => if 0 < pkN a b c d k then some k else none
    | some j => if 0 < pkN a b c d k ∧ pkN a b c d j < pkN a b c d k then some k else some j) from rfl))
  go_enter Tryd.func99, Tryd.ntmps99
  go_wp2_with fail
  rw [← hwa]
  have l0 := q0.lt
  clear hwa q0
  have s0 := b0.size
  go_loopw [3, 4] (fun e i wr => ∃ k : Nat, k ≤ 4 ∧ i = .int .i64 (k : Int) ∧ e = .int .i64 (wyI (wyO a b c d k)) ∧ Below wa.heap.size wa wr) (fun _ i _ => 4 - (Go.RowKit.intOf i).toNat)
  case atStart => exact ⟨0, Nat.zero_le _, rfl, rfl, Below.refl _ _⟩
  case round =>
    obtain ⟨k, hk, rfl, rfl, hB⟩ := hrel
    have HB := Lib.hid hB
    have sB := hB.size
    by_cases hlk : k < 4
    · have p0 : (0 : Int) ≤ (k : Int) := by omega
      have p1 : (k : Int) < 4 := by omega
      have ck := HC.out wr hB k hlk
      have hn := HW.out k
      have lr : w.heap.size < wr.heap.size := by omega
      cases hj : wyO a b c d k with
      | none =>
        rw [hj] at hn
        simp only at hn
        obtain ⟨v, hv⟩ : ∃ v, v = pkN a b c d k := ⟨_, rfl⟩
        rw [← hv] at ck hn
        show Code.wp _ _ _ _ _
        by_cases h0 : 0 < v
        · rw [if_pos h0] at hn
          have HN := Lib.hid hn
          have d1 : decide (0 < v) = true := decide_eq_true h0
          clear hn hv hB
          dsimp only [wyI]
          go_wp2
          go_quiet (fail)
          go_wp2
          go_roundw
          case rel => exact ⟨k + 1, by omega, by go_num, by rw [HN.out], below_drewN HB.out _⟩
          case measure => simp [Go.RowKit.intOf]; omega
        · rw [if_neg h0] at hn
          have HN := Lib.hid hn
          have d1 : decide (0 < v) = false := decide_eq_false h0
          clear hn hv hB
          dsimp only [wyI]
          go_wp2
          go_quiet (fail)
          go_wp2
          go_roundw
          case rel => exact ⟨k + 1, by omega, by go_num, by rw [HN.out], below_drewN HB.out _⟩
          case measure => simp [Go.RowKit.intOf]; omega
      | some j =>
        rw [hj] at hn
        simp only at hn
        have hj4 := wyO_lt a b c d k j hj
        have cj := HC.out wr hB j (by omega)
        obtain ⟨v, hv⟩ : ∃ v, v = pkN a b c d k := ⟨_, rfl⟩
        obtain ⟨u, hu⟩ : ∃ u, u = pkN a b c d j := ⟨_, rfl⟩
        rw [← hv] at ck hn
        rw [← hu] at cj hn
        have p2 : (0 : Int) ≤ (j : Int) := by omega
        have p3 : (j : Int) < 4 := by omega
        have d2 : decide ((j : Int) < 0) = false := decide_eq_false (by omega)
        have d4 : ¬ (j : Int) < 0 := by omega
        show Code.wp _ _ _ _ _
        by_cases h0 : 0 < v
        · have d1 : decide (0 < v) = true := decide_eq_true h0
          by_cases h1 : u < v
          · rw [if_pos ⟨h0, h1⟩] at hn
            have HN := Lib.hid hn
            have d3 : decide (u < v) = true := decide_eq_true h1
            clear hn hv hu hB hj
            dsimp only [wyI]
            go_wp2
            go_quiet (fail)
            go_wp2
            go_roundw
            case rel => exact ⟨k + 1, by omega, by go_num, by rw [HN.out], below_drewN HB.out _⟩
            case measure => simp [Go.RowKit.intOf]; omega
          · rw [if_neg (fun h => h1 h.2)] at hn
            have HN := Lib.hid hn
            have d3 : decide (u < v) = false := decide_eq_false h1
            clear hn hv hu hB hj
            dsimp only [wyI]
            go_wp2
            go_quiet (fail)
            go_wp2
            go_roundw
            case rel => exact ⟨k + 1, by omega, by go_num, by rw [HN.out], below_drewN HB.out _⟩
            case measure => simp [Go.RowKit.intOf]; omega
        · rw [if_neg (fun h => h0 h.1)] at hn
          have HN := Lib.hid hn
          have d1 : decide (0 < v) = false := decide_eq_false h0
          clear hn hv hu hB hj
          dsimp only [wyI]
          go_wp2
          go_quiet (fail)
          go_wp2
          go_roundw
          case rel => exact ⟨k + 1, by omega, by go_num, by rw [HN.out], below_drewN HB.out _⟩
          case measure => simp [Go.RowKit.intOf]; omega
    · obtain rfl : k = 4 := by omega
      have HBB := Lib.hid (b0.trans (hB.mono s0))
      obtain ⟨z, hz⟩ : ∃ z, z = wyI (wyO a b c d 4) := ⟨_, rfl⟩
      rw [← hz]
      go_wp2
      go_ret
      exact ⟨by rw [hz]; rfl, HBB.out⟩
end Go.Proofs.YtmdeooflgkjbbaaDoor

/- Picture: by the reference of the fields. -/



namespace Go.Proofs.YtmdeooflgkjbbaaDoor
set_option linter.unusedSimpArgs false
set_option linter.unusedVariables false
open Go.RowKit Go.Shelf
attribute [local go_sem] Oper.semAt_some

theorem byteCells_app (L : List UInt8) (k : UInt8) : Lib.byteCells (L ++ [k]) = Lib.byteCells L ++ [.int .u8 (k.toNat : Int)] := by simp [Lib.byteCells]
theorem byteCells_len (L : List UInt8) : (Lib.byteCells L).length = L.length := by simp [Lib.byteCells]
theorem bytes_appF {w0 wr X w6 : World} {v v' : Value} {L : List UInt8} {k : UInt8} {z : Int} (hz : z = (k.toNat : Int)) (h : wr.ownsRow w0.heap.size 5 1 v L.length (Lib.byteCells L) ∧ Below w0.heap.size w0 wr) (hX : Below wr.heap.size wr X) (hown : w6.ownsRow w0.heap.size 5 1 v' (L.length + 1) (Lib.byteCells L ++ [.int .u8 z])) (hgrow : X.grownBy w6 v.ownBlock) :
    w6.ownsRow w0.heap.size 5 1 v' (L ++ [k]).length (Lib.byteCells (L ++ [k])) ∧ Below w0.heap.size w0 w6 := by
  subst hz
  refine ⟨?_, ?_⟩
  · rw [byteCells_app]
    simpa using hown
  · have b1 : Below w0.heap.size w0 X := h.2.trans (hX.mono h.2.size)
    refine b1.grown hgrow b1.size (fun j hj => ?_)
    rcases h.1.2 with ⟨rfl, _⟩ | ⟨g, cap, cur, rfl, hg, hh, _⟩
    · cases hj
    · cases hj
      exact hg
/-- A cell's way and its sign. -/
theorem way_sign {n : Nat} {G : Nat → Nat → Int} (hO : OkG n G) {q : Nat} (hq : q < n) : (wyI (wyO (G q 0) (G q 1) (G q 2) (G q 3) 4) = -1 ∧ sgU G q = 46) ∨ (wyI (wyO (G q 0) (G q 1) (G q 2) (G q 3) 4) = 0 ∧ sgU G q = 62) ∨ (wyI (wyO (G q 0) (G q 1) (G q 2) (G q 3) 4) = 1 ∧ sgU G q = 94) ∨ (wyI (wyO (G q 0) (G q 1) (G q 2) (G q 3) 4) = 2 ∧ sgU G q = 60) ∨ (wyI (wyO (G q 0) (G q 1) (G q 2) (G q 3) 4) = 3 ∧ sgU G q = 118) := by
  obtain ⟨a0, a1, a2, a3, _⟩ := hO.1 q hq
  rw [wyO_four _ _ _ _ ⟨a0, a1, a2, a3⟩]
  unfold sgU
  by_cases h : G q 0 = 0 ∧ G q 1 = 0 ∧ G q 2 = 0 ∧ G q 3 = 0
  · rw [if_pos h, if_pos h]; exact .inl ⟨rfl, rfl⟩
  · rw [if_neg h, if_neg h]
    rcases mwy_four (G q 0) (G q 1) (G q 2) (G q 3) with e | e | e | e
    · rw [e]; exact .inr (.inl ⟨rfl, rfl⟩)
    · rw [e]; exact .inr (.inr (.inl ⟨rfl, rfl⟩))
    · rw [e]; exact .inr (.inr (.inr (.inl ⟨rfl, rfl⟩)))
    · rw [e]; exact .inr (.inr (.inr (.inr ⟨rfl, rfl⟩)))
section
variable (W H : Int) (ao : Option Addr) (n cap : Nat) (G : Nat → Nat → Int) (w : World) (hG : CellsIn w ao n G)
include hG
set_option maxRecDepth 100000 in
set_option maxHeartbeats 4000000 in
theorem rPic_bad (hv : ¬ VG W H n G) : Calls Tryd.prog 38 #[.agg #[.int .i64 W, .int .i64 H, .slice (ao) n cap]] w fun e w' => e = .returned (.string ⟨#[]⟩) ∧ Below w.heap.size w w' := by
  have CS := Lib.hid (fun wx (hb : Below w.heap.size w wx) => rValid_bad W H ao n cap G wx hv (hG.below hb))
  clear hv hG
  go_enter Tryd.func38, Tryd.ntmps38
  go_wp2_with (go_at_call 87; (with_reducible refine (CS.out _ (by (repeat' (first | (with_reducible exact Below.refl _ _) | (with_reducible refine Below.setCell ?_ (by first | omega | (simp; done) | (simp; omega)) _) | (with_reducible refine Below.alloc ?_ (by first | omega | (simp; done) | (simp; omega)) _) | (with_reducible refine Below.drew ?_) | (with_reducible refine below_drewN ?_ _) | (with_reducible refine Below.trans ?_ (Below.mono (by assumption) (by first | omega | (simp; done) | (simp; omega)))))))).mono ?_); rintro e w1 ⟨rfl, hb⟩; obtain ⟨hc, hf, hz⟩ := bcall hb; (try simp at hc hf hz))
  go_ret
  refine ⟨rfl, ?_⟩
  (repeat' (first | (with_reducible exact Below.refl _ _) | (with_reducible refine Below.setCell ?_ (by first | omega | (simp; done) | (simp; omega)) _) | (with_reducible refine Below.alloc ?_ (by first | omega | (simp; done) | (simp; omega)) _) | (with_reducible refine Below.drew ?_) | (with_reducible refine below_drewN ?_ _) | (with_reducible refine Below.trans ?_ (Below.mono (by assumption) (by first | omega | (simp; done) | (simp; omega))))))
end
set_option maxRecDepth 100000 in
set_option maxHeartbeats 32000000 in
theorem rPic_ok (W H n cap b off : Nat) (G : Nat → Nat → Int) (w : World) (s : Sides W H n) (hO : OkG n G) (lb : b < w.heap.size) (hG : Grd w b off n G) :
    Calls Tryd.prog 38 #[.agg #[.int .i64 W, .int .i64 H, .slice (some ⟨b, off, none⟩) n cap]] w fun e w' => e = .returned (.string ⟨(txU G W (dnL H H)).toArray⟩) ∧ Below w.heap.size w w' := by
  obtain ⟨i0, hif, hz0, hz1, hz2⟩ := info_parts info_u8
  have hC : CellsIn w (some ⟨b, off, none⟩) n G := .inr ⟨b, off, rfl, lb, hG⟩
  have VA := Lib.hid (fun wx (hb : Below w.heap.size w wx) => rValid_ok W H (some ⟨b, off, none⟩) n cap G wx (vg_of s hO) (hC.below hb))
  have HWS := Lib.hid (fun q (hq : q < n) => way_sign hO hq)
  have HG := Lib.hid hG
  have HS := Lib.hid s
  have hW0 := s.w0
  have hH0 := s.h0
  have hW1 := s.w1
  have hH1 := s.h1
  have hn1 := s.n1
  have eh : IntKind.i64.wrap ((H : Int) - 1) = (H : Int) - 1 := IntWalk.i64_in _ ⟨by omega, by omega⟩
  have HTL := Lib.hid (fun k (hk : k ≤ H) => (show (txU G W (dnL H k)).length ≤ 65 * 64 from by
    rw [txU_len, dnL_len]
    exact Nat.mul_le_mul (by omega) (by omega)))
  clear hC hO hG s
  have t0 := Three.new0 w 24 (.int .i64 W) (.int .i64 H) (.slice (some ⟨b, off, none⟩) n cap)
  go_enter Tryd.func38, Tryd.ntmps38
  go_wp2_with (go_at_call 87; (with_reducible refine (VA.out _ (by (repeat' (first | (with_reducible exact Below.refl _ _) | (with_reducible refine Below.setCell ?_ (by first | omega | (simp; done) | (simp; omega)) _) | (with_reducible refine Below.alloc ?_ (by first | omega | (simp; done) | (simp; omega)) _) | (with_reducible refine Below.drew ?_) | (with_reducible refine below_drewN ?_ _) | (with_reducible refine Below.trans ?_ (Below.mono (by assumption) (by first | omega | (simp; done) | (simp; omega)))))))).mono ?_); rintro e w1 ⟨rfl, hb⟩; obtain ⟨hc, hf, hz⟩ := bcall hb; (try simp at hc hf hz))
  have u0 : Three w1 w.heap.size 24 (.int .i64 W) (.int .i64 H) (.slice (some ⟨b, off, none⟩) n cap) := t0.below hb t0.lt
  have hbw : Below w.heap.size w w1 := by (repeat' (first | (with_reducible exact Below.refl _ _) | (with_reducible refine Below.setCell ?_ (by first | omega | (simp; done) | (simp; omega)) _) | (with_reducible refine Below.alloc ?_ (by first | omega | (simp; done) | (simp; omega)) _) | (with_reducible refine Below.drew ?_) | (with_reducible refine below_drewN ?_ _) | (with_reducible refine Below.trans ?_ (Below.mono (by assumption) (by first | omega | (simp; done) | (simp; omega))))))
  obtain ⟨wa, hwa⟩ : ∃ wa, wa = w1 := ⟨_, rfl⟩
  subst hwa
  have g1 := u0.c1
  clear hb hc hf hz t0
  have sw := hbw.size
  have l0 := u0.lt
  go_wp2_with fail
  clear g1
  go_loopw [3, 4, 5, 6] (fun o y _ _ wr => ∃ k : Nat, k ≤ H ∧ y = .int .i64 ((H : Int) - 1 - (k : Int)) ∧ Hid (wr.ownsRow wa.heap.size 5 1 o (txU G W (dnL H k)).length (Lib.byteCells (txU G W (dnL H k))) ∧ Below wa.heap.size wa wr)) (fun _ y _ _ _ => ((Go.RowKit.intOf y) + 1).toNat)
  case atStart => exact ⟨0, Nat.zero_le _, by simp, Lib.hid ⟨World.ownsRow_nil _ _ _ _, Below.refl _ _⟩⟩
  case round =>
    obtain ⟨k, hk, rfl, HH⟩ := hrel
    have hBr := HH.out.2
    by_cases hlk : k < H
    · obtain ⟨Y, hY⟩ : ∃ Y : Nat, Y = H - 1 - k := ⟨_, rfl⟩
      have hYk : (H : Int) - 1 - (k : Int) = (Y : Int) := by omega
      have hYH : Y < H := by omega
      rw [hYk]
      have HY := Lib.hid (And.intro hY hYk)
      have q0 : (0 : Int) ≤ (Y : Int) := by omega
      have ey : IntKind.i64.wrap ((Y : Int) - 1) = (Y : Int) - 1 := IntWalk.i64_in _ ⟨by omega, by omega⟩
      have hlen0 := HTL.out k hk
      clear hY hYk
      go_wp2
      obtain ⟨wo, hwo⟩ : ∃ wo, wo = wr := ⟨_, rfl⟩
      subst hwo
      go_loopw [3, 5, 6] (fun o x _ wr => ∃ j : Nat, j ≤ W ∧ x = .int .i64 (j : Int) ∧ Hid (wr.ownsRow wa.heap.size 5 1 o (txU G W (dnL H k) ++ (rowN W 0 Y j).map (sgU G)).length (Lib.byteCells (txU G W (dnL H k) ++ (rowN W 0 Y j).map (sgU G))) ∧ Below wa.heap.size wa wr)) (fun _ x _ _ => W - (Go.RowKit.intOf x).toNat)
      case atStart => exact ⟨0, Nat.zero_le _, rfl, by rw [show rowN W 0 Y 0 = [] from rfl, List.map_nil, List.append_nil]; exact HH⟩
      case round =>
        obtain ⟨j, hj, rfl, HJ⟩ := hrel
        have hBj := HJ.out.2
        have v0 := u0.below hBj l0
        have g0 := v0.c0
        have g1 := v0.c1
        have g2 := v0.c2
        have szr := hBj.size
        have hlen : (txU G W (dnL H k) ++ (rowN W 0 Y j).map (sgU G)).length ≤ 5000 := by
          rw [List.length_append, List.length_map, rowN_len]
          omega
        by_cases hlj : j < W
        · have hq := xy_lt2 (W := W) (H := H) (x := j) (y := Y) hlj hYH
          rw [← HS.out.n0] at hq
          have hRN := Lib.hid (show txU G W (dnL H k) ++ (rowN W 0 Y (j + 1)).map (sgU G) = (txU G W (dnL H k) ++ (rowN W 0 Y j).map (sgU G)) ++ [sgU G (j + W * Y)] from by simp only [rowN]; rw [List.map_append, Nat.zero_add, List.append_assoc]; rfl)
          have hws := HWS.out _ hq
          obtain ⟨q, hq2⟩ : ∃ q, q = j + W * Y := ⟨_, rfl⟩
          rw [← hq2] at hq hRN hws
          obtain ⟨pp, hpp⟩ : ∃ pp, pp = W * Y := ⟨_, rfl⟩
          have e1 : (W : Int) * (Y : Int) = (pp : Int) := by rw [hpp]; push_cast; rfl
          have e2 : IntKind.i64.wrap (pp : Int) = (pp : Int) := IntWalk.i64_in _ ⟨by omega, by omega⟩
          have e3 : IntKind.i64.wrap ((j : Int) + (pp : Int)) = (q : Int) := by rw [show (j : Int) + (pp : Int) = (q : Int) by omega]; exact IntWalk.i64_in _ ⟨by omega, by omega⟩
          obtain ⟨z0, z1, z2, z3⟩ := (HG.out.below (hbw.trans (hBj.mono sw)) lb) q hq
          have lbr : b < wr.heap.size := by omega
          have r0 : (0 : Int) ≤ (q : Int) := by omega
          have r1 : (q : Int) < (n : Int) := by omega
          have p1 : (j : Int) < (W : Int) := by omega
          obtain ⟨L, hL⟩ : ∃ L, L = txU G W (dnL H k) ++ (rowN W 0 Y j).map (sgU G) := ⟨_, rfl⟩
          rw [← hL] at HJ hlen hRN
          have WY := Lib.hid (fun wx => rWay_in (G q 0) (G q 1) (G q 2) (G q 3) wx)
          obtain ⟨wv, hwv⟩ : ∃ t, t = wyI (wyO (G q 0) (G q 1) (G q 2) (G q 3) 4) := ⟨_, rfl⟩
          rw [← hwv] at hws WY
          obtain ⟨d0, hd0⟩ : ∃ d, d = G q 0 := ⟨_, rfl⟩
          obtain ⟨d1, hd1⟩ : ∃ d, d = G q 1 := ⟨_, rfl⟩
          obtain ⟨d2, hd2⟩ : ∃ d, d = G q 2 := ⟨_, rfl⟩
          obtain ⟨d3, hd3⟩ : ∃ d, d = G q 3 := ⟨_, rfl⟩
          rw [← hd0] at z0
          rw [← hd1] at z1
          rw [← hd2] at z2
          rw [← hd3] at z3
          rw [← hd0, ← hd1, ← hd2, ← hd3] at WY
          have BJ := Lib.hid hBj
          clear hL hpp hq2 hBj v0 hwv hd0 hd1 hd2 hd3
          rcases hws with ⟨rfl, hs⟩ | ⟨rfl, hs⟩ | ⟨rfl, hs⟩ | ⟨rfl, hs⟩ | ⟨rfl, hs⟩
          · rw [hs] at hRN
            clear hs
            go_wp2_with (first | (go_at_call 99; (with_reducible refine (WY.out _).mono ?_); rintro e w1 ⟨rfl, hb⟩; obtain ⟨hc, hf, hz⟩ := bcall hb; (try simp at hc hf hz)) | (at_builtin; refine wpList_append_own _ rfl _ _ 120 rfl wa.heap.size 5 i0 (.int .u8 0) 1 1 Tryd.underlying120 hif hz0 hz1 hz2 rfl (by omega) _ _ _ rfl (owns_below HJ.out.1 (by (repeat' (first | (with_reducible exact Below.refl _ _) | (with_reducible refine Below.setCell ?_ (by first | omega | (simp; done) | (simp; omega)) _) | (with_reducible refine Below.alloc ?_ (by first | omega | (simp; done) | (simp; omega)) _) | (with_reducible refine Below.drew ?_) | (with_reducible refine below_drewN ?_ _) | (with_reducible refine Below.trans ?_ (Below.mono (by assumption) (by first | omega | (simp; done) | (simp; omega)))))))) _ 1 1 [.int .u8 46] rfl rfl (by intro j u hu; match j with | 0 => (simp at hu; subst hu; simp only [Addr.add, Nat.zero_add]; exact (World.cell?_alloc_at _ _ _ _ (by simp)).trans rfl) | _ + 1 => simp at hu) (by intro u hu; simp at hu; subst hu; rfl) (by unfold maxLen; omega) (by omega) (by simp; omega) ?_; intro v' w6 hown hgrow _))
            have HN := Lib.hid (bytes_appF (w0 := wa) (k := 46) (z := 46) (by decide) HJ.out (by have := BJ.out; (repeat' (first | (with_reducible exact Below.refl _ _) | (with_reducible refine Below.setCell ?_ (by first | omega | (simp; done) | (simp; omega)) _) | (with_reducible refine Below.alloc ?_ (by first | omega | (simp; done) | (simp; omega)) _) | (with_reducible refine Below.drew ?_) | (with_reducible refine below_drewN ?_ _) | (with_reducible refine Below.trans ?_ (Below.mono (by assumption) (by first | omega | (simp; done) | (simp; omega))))))) hown hgrow)
            clear hown hgrow
            go_roundw
            case rel => exact ⟨j + 1, by omega, by go_num, Lib.hid (by rw [hRN.out]; exact HN.out)⟩
            case measure => simp [Go.RowKit.intOf]; omega
          · rw [hs] at hRN
            clear hs
            go_wp2_with (first | (go_at_call 99; (with_reducible refine (WY.out _).mono ?_); rintro e w1 ⟨rfl, hb⟩; obtain ⟨hc, hf, hz⟩ := bcall hb; (try simp at hc hf hz)) | (at_builtin; refine wpList_append_own _ rfl _ _ 120 rfl wa.heap.size 5 i0 (.int .u8 0) 1 1 Tryd.underlying120 hif hz0 hz1 hz2 rfl (by omega) _ _ _ rfl (owns_below HJ.out.1 (by (repeat' (first | (with_reducible exact Below.refl _ _) | (with_reducible refine Below.setCell ?_ (by first | omega | (simp; done) | (simp; omega)) _) | (with_reducible refine Below.alloc ?_ (by first | omega | (simp; done) | (simp; omega)) _) | (with_reducible refine Below.drew ?_) | (with_reducible refine below_drewN ?_ _) | (with_reducible refine Below.trans ?_ (Below.mono (by assumption) (by first | omega | (simp; done) | (simp; omega)))))))) _ 1 1 [.int .u8 62] rfl rfl (by intro j u hu; match j with | 0 => (simp at hu; subst hu; simp only [Addr.add, Nat.zero_add]; exact (World.cell?_alloc_at _ _ _ _ (by simp)).trans rfl) | _ + 1 => simp at hu) (by intro u hu; simp at hu; subst hu; rfl) (by unfold maxLen; omega) (by omega) (by simp; omega) ?_; intro v' w6 hown hgrow _))
            have HN := Lib.hid (bytes_appF (w0 := wa) (k := 62) (z := 62) (by decide) HJ.out (by have := BJ.out; (repeat' (first | (with_reducible exact Below.refl _ _) | (with_reducible refine Below.setCell ?_ (by first | omega | (simp; done) | (simp; omega)) _) | (with_reducible refine Below.alloc ?_ (by first | omega | (simp; done) | (simp; omega)) _) | (with_reducible refine Below.drew ?_) | (with_reducible refine below_drewN ?_ _) | (with_reducible refine Below.trans ?_ (Below.mono (by assumption) (by first | omega | (simp; done) | (simp; omega))))))) hown hgrow)
            clear hown hgrow
            go_roundw
            case rel => exact ⟨j + 1, by omega, by go_num, Lib.hid (by rw [hRN.out]; exact HN.out)⟩
            case measure => simp [Go.RowKit.intOf]; omega
          · rw [hs] at hRN
            clear hs
            go_wp2_with (first | (go_at_call 99; (with_reducible refine (WY.out _).mono ?_); rintro e w1 ⟨rfl, hb⟩; obtain ⟨hc, hf, hz⟩ := bcall hb; (try simp at hc hf hz)) | (at_builtin; refine wpList_append_own _ rfl _ _ 120 rfl wa.heap.size 5 i0 (.int .u8 0) 1 1 Tryd.underlying120 hif hz0 hz1 hz2 rfl (by omega) _ _ _ rfl (owns_below HJ.out.1 (by (repeat' (first | (with_reducible exact Below.refl _ _) | (with_reducible refine Below.setCell ?_ (by first | omega | (simp; done) | (simp; omega)) _) | (with_reducible refine Below.alloc ?_ (by first | omega | (simp; done) | (simp; omega)) _) | (with_reducible refine Below.drew ?_) | (with_reducible refine below_drewN ?_ _) | (with_reducible refine Below.trans ?_ (Below.mono (by assumption) (by first | omega | (simp; done) | (simp; omega)))))))) _ 1 1 [.int .u8 94] rfl rfl (by intro j u hu; match j with | 0 => (simp at hu; subst hu; simp only [Addr.add, Nat.zero_add]; exact (World.cell?_alloc_at _ _ _ _ (by simp)).trans rfl) | _ + 1 => simp at hu) (by intro u hu; simp at hu; subst hu; rfl) (by unfold maxLen; omega) (by omega) (by simp; omega) ?_; intro v' w6 hown hgrow _))
            have HN := Lib.hid (bytes_appF (w0 := wa) (k := 94) (z := 94) (by decide) HJ.out (by have := BJ.out; (repeat' (first | (with_reducible exact Below.refl _ _) | (with_reducible refine Below.setCell ?_ (by first | omega | (simp; done) | (simp; omega)) _) | (with_reducible refine Below.alloc ?_ (by first | omega | (simp; done) | (simp; omega)) _) | (with_reducible refine Below.drew ?_) | (with_reducible refine below_drewN ?_ _) | (with_reducible refine Below.trans ?_ (Below.mono (by assumption) (by first | omega | (simp; done) | (simp; omega))))))) hown hgrow)
            clear hown hgrow
            go_roundw
            case rel => exact ⟨j + 1, by omega, by go_num, Lib.hid (by rw [hRN.out]; exact HN.out)⟩
            case measure => simp [Go.RowKit.intOf]; omega
          · rw [hs] at hRN
            clear hs
            go_wp2_with (first | (go_at_call 99; (with_reducible refine (WY.out _).mono ?_); rintro e w1 ⟨rfl, hb⟩; obtain ⟨hc, hf, hz⟩ := bcall hb; (try simp at hc hf hz)) | (at_builtin; refine wpList_append_own _ rfl _ _ 120 rfl wa.heap.size 5 i0 (.int .u8 0) 1 1 Tryd.underlying120 hif hz0 hz1 hz2 rfl (by omega) _ _ _ rfl (owns_below HJ.out.1 (by (repeat' (first | (with_reducible exact Below.refl _ _) | (with_reducible refine Below.setCell ?_ (by first | omega | (simp; done) | (simp; omega)) _) | (with_reducible refine Below.alloc ?_ (by first | omega | (simp; done) | (simp; omega)) _) | (with_reducible refine Below.drew ?_) | (with_reducible refine below_drewN ?_ _) | (with_reducible refine Below.trans ?_ (Below.mono (by assumption) (by first | omega | (simp; done) | (simp; omega)))))))) _ 1 1 [.int .u8 60] rfl rfl (by intro j u hu; match j with | 0 => (simp at hu; subst hu; simp only [Addr.add, Nat.zero_add]; exact (World.cell?_alloc_at _ _ _ _ (by simp)).trans rfl) | _ + 1 => simp at hu) (by intro u hu; simp at hu; subst hu; rfl) (by unfold maxLen; omega) (by omega) (by simp; omega) ?_; intro v' w6 hown hgrow _))
            have HN := Lib.hid (bytes_appF (w0 := wa) (k := 60) (z := 60) (by decide) HJ.out (by have := BJ.out; (repeat' (first | (with_reducible exact Below.refl _ _) | (with_reducible refine Below.setCell ?_ (by first | omega | (simp; done) | (simp; omega)) _) | (with_reducible refine Below.alloc ?_ (by first | omega | (simp; done) | (simp; omega)) _) | (with_reducible refine Below.drew ?_) | (with_reducible refine below_drewN ?_ _) | (with_reducible refine Below.trans ?_ (Below.mono (by assumption) (by first | omega | (simp; done) | (simp; omega))))))) hown hgrow)
            clear hown hgrow
            go_roundw
            case rel => exact ⟨j + 1, by omega, by go_num, Lib.hid (by rw [hRN.out]; exact HN.out)⟩
            case measure => simp [Go.RowKit.intOf]; omega
          · rw [hs] at hRN
            clear hs
            go_wp2_with (first | (go_at_call 99; (with_reducible refine (WY.out _).mono ?_); rintro e w1 ⟨rfl, hb⟩; obtain ⟨hc, hf, hz⟩ := bcall hb; (try simp at hc hf hz)) | (at_builtin; refine wpList_append_own _ rfl _ _ 120 rfl wa.heap.size 5 i0 (.int .u8 0) 1 1 Tryd.underlying120 hif hz0 hz1 hz2 rfl (by omega) _ _ _ rfl (owns_below HJ.out.1 (by (repeat' (first | (with_reducible exact Below.refl _ _) | (with_reducible refine Below.setCell ?_ (by first | omega | (simp; done) | (simp; omega)) _) | (with_reducible refine Below.alloc ?_ (by first | omega | (simp; done) | (simp; omega)) _) | (with_reducible refine Below.drew ?_) | (with_reducible refine below_drewN ?_ _) | (with_reducible refine Below.trans ?_ (Below.mono (by assumption) (by first | omega | (simp; done) | (simp; omega)))))))) _ 1 1 [.int .u8 118] rfl rfl (by intro j u hu; match j with | 0 => (simp at hu; subst hu; simp only [Addr.add, Nat.zero_add]; exact (World.cell?_alloc_at _ _ _ _ (by simp)).trans rfl) | _ + 1 => simp at hu) (by intro u hu; simp at hu; subst hu; rfl) (by unfold maxLen; omega) (by omega) (by simp; omega) ?_; intro v' w6 hown hgrow _))
            have HN := Lib.hid (bytes_appF (w0 := wa) (k := 118) (z := 118) (by decide) HJ.out (by have := BJ.out; (repeat' (first | (with_reducible exact Below.refl _ _) | (with_reducible refine Below.setCell ?_ (by first | omega | (simp; done) | (simp; omega)) _) | (with_reducible refine Below.alloc ?_ (by first | omega | (simp; done) | (simp; omega)) _) | (with_reducible refine Below.drew ?_) | (with_reducible refine below_drewN ?_ _) | (with_reducible refine Below.trans ?_ (Below.mono (by assumption) (by first | omega | (simp; done) | (simp; omega))))))) hown hgrow)
            clear hown hgrow
            go_roundw
            case rel => exact ⟨j + 1, by omega, by go_num, Lib.hid (by rw [hRN.out]; exact HN.out)⟩
            case measure => simp [Go.RowKit.intOf]; omega
        · obtain rfl : j = W := by omega
          have p1 : ¬ (j : Int) < (j : Int) := by omega
          have hD := Lib.hid (show txU G j (dnL H (k + 1)) = (txU G j (dnL H k) ++ (rowN j 0 Y j).map (sgU G)) ++ [10] from by rw [show dnL H (k + 1) = dnL H k ++ [Y] from by (have := HY.out.1; subst this; rfl), txU_app])
          obtain ⟨L, hL⟩ : ∃ L, L = txU G j (dnL H k) ++ (rowN j 0 Y j).map (sgU G) := ⟨_, rfl⟩
          rw [← hL] at HJ hlen hD
          have BJ := Lib.hid hBj
          clear hL hBj v0
          go_wp2_with (at_builtin; refine wpList_append_own _ rfl _ _ 120 rfl wa.heap.size 5 i0 (.int .u8 0) 1 1 Tryd.underlying120 hif hz0 hz1 hz2 rfl (by omega) _ _ _ rfl (owns_below HJ.out.1 (by (repeat' (first | (with_reducible exact Below.refl _ _) | (with_reducible refine Below.setCell ?_ (by first | omega | (simp; done) | (simp; omega)) _) | (with_reducible refine Below.alloc ?_ (by first | omega | (simp; done) | (simp; omega)) _) | (with_reducible refine Below.drew ?_) | (with_reducible refine below_drewN ?_ _) | (with_reducible refine Below.trans ?_ (Below.mono (by assumption) (by first | omega | (simp; done) | (simp; omega)))))))) _ 1 1 [.int .u8 10] rfl rfl (by intro j u hu; match j with | 0 => (simp at hu; subst hu; simp only [Addr.add, Nat.zero_add]; exact (World.cell?_alloc_at _ _ _ _ (by simp)).trans rfl) | _ + 1 => simp at hu) (by intro u hu; simp at hu; subst hu; rfl) (by unfold maxLen; omega) (by omega) (by simp; omega) ?_; intro v' w6 hown hgrow _)
          have HN := Lib.hid (bytes_appF (w0 := wa) (k := 10) (z := 10) (by decide) HJ.out (by have := BJ.out; (repeat' (first | (with_reducible exact Below.refl _ _) | (with_reducible refine Below.setCell ?_ (by first | omega | (simp; done) | (simp; omega)) _) | (with_reducible refine Below.alloc ?_ (by first | omega | (simp; done) | (simp; omega)) _) | (with_reducible refine Below.drew ?_) | (with_reducible refine below_drewN ?_ _) | (with_reducible refine Below.trans ?_ (Below.mono (by assumption) (by first | omega | (simp; done) | (simp; omega))))))) hown hgrow)
          clear hown hgrow
          go_roundw
          case rel => exact ⟨k + 1, by omega, by have := HY.out.2; rw [show (H : Int) - 1 - ((k + 1 : Nat) : Int) = (Y : Int) - 1 from by omega], Lib.hid (by rw [hD.out]; exact HN.out)⟩
          case measure => have := HY.out.2; (simp [Go.RowKit.intOf] <;> omega)
    · obtain rfl : k = H := by omega
      rw [show (k : Int) - 1 - (k : Int) = -1 from by omega]
      have HBR := Lib.hid (hbw.trans (hBr.mono sw))
      have hlen0 : 1 ≤ (txU G W (dnL k k)).length := by
        rw [txU_len, dnL_len]
        have := Nat.mul_le_mul (show 1 ≤ W + 1 by omega) hH0
        omega
      have HR := HH.out.1
      have h' := HR
      rcases HR.2 with ⟨_, h0⟩ | ⟨g, c, cur, rfl, hg, hh, _⟩
      · omega
      · have kc := run_convert_bytes_back (P := Tryd.prog) wr 120 9 5 ⟨g, 0, none⟩ c (txU G W (dnL k k)) Tryd.underlying120 Tryd.underlying5 Tryd.underlying9 (fun j hj => by
          rw [show (⟨g, 0, none⟩ : Addr).add j = ⟨g, j, none⟩ from by unfold Addr.add; split <;> simp_all]
          rw [h'.cellAt j (by rw [Nat.mul_one]; exact hj)]
          simp [Lib.byteCells, List.getElem?_eq_getElem hj])
        obtain ⟨tx, htx⟩ : ∃ t, t = txU G W (dnL k k) := ⟨_, rfl⟩
        rw [← htx] at kc ⊢
        have HX := Lib.hid htx
        clear h' HR hBr hlen0 htx hh hg
        go_wp2
        go_ret
        exact ⟨by rw [HX.out]; rfl, HBR.out⟩
end Go.Proofs.YtmdeooflgkjbbaaDoor

/- Picture of a grid that is not valid: by the program of the fields. -/


namespace Go.Proofs.YtmdeooflgkjbbaaDoor
set_option linter.unusedSimpArgs false
set_option linter.unusedVariables false
open Go.RowKit Go.Maps Go.Shelf Go.Sort
attribute [local go_sem] Oper.semAt_some

set_option maxRecDepth 100000 in
set_option maxHeartbeats 8000000 in
theorem back1_nil (n : Nat) (hn : 1 ≤ n) (l Bv : Nat) (J : World → Prop) (w : World) (cv : w.cell? ⟨Bv, 0, none⟩ = some (.slice none 0 0)) (h0 : J w) :
    CallsIn Fence.wide n Tryd.prog 146 #[.func (.yield l) #[] #[], .pointer (some ⟨Bv, 0, none⟩)] w fun e W' => (∃ v, e = .returned v) ∧ J W' := by
  refine callsIn_of_wp Tryd.func146 rfl trivial ?_ rfl
  simp only [Tryd.ntmps146, List.size_toArray, List.length_cons, List.length_nil, Nat.reduceAdd, Nat.reduceSub, Array.replicate_succ, Array.replicate_zero, List.push_toArray, List.append_toArray, List.nil_append, List.cons_append]
  gi_wp2
  gi_loopw [3] (fun i wr => i = .int .i64 (-1) ∧ J wr) (fun _ _ => 0)
  case atStart => exact ⟨rfl, h0⟩
  case round =>
    obtain ⟨rfl, hJ⟩ := hrel
    gi_wp2
    go_end0
    exact ⟨⟨_, rfl⟩, hJ⟩
theorem back_nil (n : Nat) (hn : 1 ≤ n) (Bv : Nat) (S : Nat → Prop) (hS : S Bv) (w : World) (hSl : ∀ k, S k → k < w.heap.size) (cv : w.cell? ⟨Bv, 0, none⟩ = some (.slice none 0 0)) :
    SeqStopsK Fence.wide n Tryd.prog 146 #[.pointer (some ⟨Bv, 0, none⟩)]
      (fun _ : Empty => #[.int .i64 0, .agg #[.int .i64 0, .int .i64 0, .slice none 0 0, .int .i64 0, .int .i64 0, .int .i64 0, .int .i64 0]]) (KB S) (fun ys => ys = []) (fun pre => pre = []) 0 w := fun l J Jx W' hW' hJ hJx hY h0 =>
  (back1_nil n hn l Bv (J []) W' ((hW'.cell (p := ⟨Bv, 0, none⟩) (hSl _ hS)).trans cv) h0).mono fun e W2 ⟨hv, h⟩ => ⟨hv, .inl ⟨[], rfl, h⟩⟩

section
variable (W H : Int) (ao : Option Addr) (n cap : Nat) (G : Nat → Nat → Int) (w : World) (hG : CellsIn w ao n G)
include hG
set_option maxRecDepth 100000 in
set_option maxHeartbeats 16000000 in
theorem fPic_bad (hv : ¬ VG W H n G) : CallsIn Fence.wide 12 Tryd.prog 37 #[.agg #[.int .i64 W, .int .i64 H, .slice (ao) n cap]] w fun e w' => e = .returned (.string ⟨#[]⟩) ∧ Below w.heap.size w w' := by
  have LN := Lib.hid (fun wx (hb : Below w.heap.size w wx) => flines_bad W H ao n cap G 1 wx (hG.below hb) hv)
  clear hG hv
  refine callsIn_of_wp_marks Tryd.func37 rfl trivial ?_ rfl
  simp only [Tryd.ntmps37, List.size_toArray, List.length_cons, List.length_nil, Nat.reduceAdd, Nat.reduceSub, Array.replicate_succ, Array.replicate_zero, List.push_toArray, List.append_toArray, List.nil_append, List.cons_append]
  gi_wp2_with fail
  (refine ⟨trivial, ?_⟩; gi_at_call 79; (with_reducible refine (callsIn_wide.2 (LN.out _ (by (repeat' (first | (with_reducible exact Below.refl _ _) | (with_reducible refine Below.setCell ?_ (by first | omega | (simp; done) | (simp; omega)) _) | (with_reducible refine Below.alloc ?_ (by first | omega | (simp; done) | (simp; omega)) _) | (with_reducible refine Below.drew ?_) | (with_reducible refine below_drewN ?_ _) | (with_reducible refine Below.trans ?_ (Below.mono (by assumption) (by first | omega | (simp; done) | (simp; omega))))))))).mono ?_); rintro e w1 ⟨rfl, hb⟩; obtain ⟨hc, hf, hz⟩ := bcall hb; (try simp at hc hf hz))
  have g0 : ∀ (X : World) (k : Nat) (o o' : Obj), X.heap[k]? = some o → (X.alloc o').heap[k]? = some o := fun X k o o' h => (Below.heap_alloc _ _ _ (Array.getElem?_eq_some_iff.1 h).1).trans h
  have n0 : ∀ (X : World) (k : Nat) (o : Obj), X.heap.size = k → (X.alloc o).heap[k]? = some o := fun X k o h => by rw [← h]; exact World.alloc_heap_new X _
  have hsz : w.heap.size + 2 ≤ w1.heap.size := by have := hb.size; simp at this; omega
  have hbw : Below w.heap.size w w1 := by (repeat' (first | (with_reducible exact Below.refl _ _) | (with_reducible refine Below.setCell ?_ (by first | omega | (simp; done) | (simp; omega)) _) | (with_reducible refine Below.alloc ?_ (by first | omega | (simp; done) | (simp; omega)) _) | (with_reducible refine Below.drew ?_) | (with_reducible refine below_drewN ?_ _) | (with_reducible refine Below.trans ?_ (Below.mono (by assumption) (by first | omega | (simp; done) | (simp; omega))))))
  have t3 : w1.heap[w.heap.size + 1]? = some (.cells #[.pointer none, .slice none 0 0] 122 (0, 0)) := (hb.block _ (by simp)).trans (n0 _ _ _ (by simp))
  clear hb hc hf hz
  gi_wp2_with (refine ⟨trivial, ?_⟩; gi_at_call 94; (with_reducible refine (callsIn_wide.2 (backward_in _ _ ⟨_, _, _, rfl⟩)).mono ?_); rintro e wD ⟨rfl, rfl⟩)
  obtain ⟨w2, hw2⟩ : ∃ w2, w2 = w1.alloc (.cells #[.slice none 0 0] 104) := ⟨_, rfl⟩
  have s2 : w2.heap.size = w1.heap.size + 1 := by rw [hw2]; simp
  have b2 : Below w1.heap.size w1 w2 := by rw [hw2]; exact (Below.refl _ _).alloc (Nat.le_refl _) _
  have bv : Boxed w2 w1.heap.size 104 (.slice none 0 0) := by rw [hw2]; exact n0 _ _ _ rfl
  have t3 : w2.heap[w.heap.size + 1]? = some (.cells #[.pointer none, .slice none 0 0] 122 (0, 0)) := (b2.block _ (by omega)).trans t3
  have hb2 : Below w.heap.size w w2 := hbw.trans (b2.mono hbw.size)
  have iB : IsB (w.heap.size + 1) (Lib.byteCells []) w2 := .inl ⟨Nat.le_refl _, _, t3, ⟨rfl, .inl ⟨rfl, rfl⟩⟩, fun e => by cases e⟩
  rw [← hw2]
  clear hw2 n0 g0 t3 b2
  refine wpIn_rangeFunc_ownH (α := Empty) rfl (by omega) (gf := 146) (lb := #[.pointer (some ⟨w1.heap.size, 0, none⟩)]) rfl trivial (enters_of Tryd.func146 (by kernel_rfl) rfl)
    (back_nil 11 (by omega) w1.heap.size (fun k => k < w2.heap.size) (by omega) w2 (fun k hk => hk) bv.cell)
    (fun h g => KB.trans h g) (kb_put (fun k hk => hk)) (Below.refl _ _) (fun _ => rfl)
    (fun _ X => IsB (w.heap.size + 1) (Lib.byteCells []) X ∧ Wrt (w.heap.size + 1) w2 X) (fun _ _ _ => False)
    (fun s X Y row hs hg hr => ⟨isB_grown hs.1 hg (fun r e => (hr r e).2), wrt_own (β := Unit) (Nat.le_refl _) (by omega) () X Y row hs.2 hg hr⟩) (fun _ => ownFrom_pure _ _)
    ⟨iB, Wrt.refl _ _⟩
    (fun _ _ _ => False)
    (fun z a' _ X Y row hs hg hr => hs)
    ?assign ?body ?done ?stop
  case assign =>
    rintro l pre x X K' hI hK'
    exact x.elim
  case body =>
    rintro l pre x a' X hl hlo hI h hlen
    exact h.elim
  case done =>
    rintro D ys X hD hys hI hK'
    have hbX : Below w.heap.size w X := hb2.trans (hI.2.low.mono (by omega))
    have HI := Lib.hid hI
    clear hI hys
    gi_wp2_with fail
    refine ⟨trivial, ?_⟩
    refine (callsIn_wide.2 (bstring_in (w.heap.size + 1) _ X HI.out.1 (by have := hbX.size; have := HI.out.2.size; omega))).mono ?_
    rintro e w9 ⟨rfl, l9, o9⟩
    have hK9 := o9 D _ hK' (fun e => by cases e; omega) (fun c fz e => by cases e)
    gi_wp2
    refine ⟨by simp, .inl ⟨_, _, rfl, run_takeDeferred hK9, ?_⟩⟩
    refine ⟨_, results_tmp rfl _ _ _, rfl, ?_⟩
    exact (hbX.trans (l9.mono (by omega))).trans (belowK_b (w := w) (Nat.le_refl _) _ D _ _ (by omega) hK9 rfl rfl)
  case stop =>
    rintro D c pre X _ _ h _
    exact h.elim
end
end Go.Proofs.YtmdeooflgkjbbaaDoor
