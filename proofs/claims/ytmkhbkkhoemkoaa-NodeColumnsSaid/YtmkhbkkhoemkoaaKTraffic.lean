/- How many notes are due to all nodes: by the program. -/
import Derived.Test.YtmkhbkkhoemkoaaKDue
import Derived.Test.YtmkhbkkhoemkoaaKChart
namespace Go.Proofs.Ytmkhbkkhoemkoaa
set_option linter.unusedSimpArgs false
set_option linter.unusedVariables false
open Go.RowKit Go.Shelf
attribute [local go_sem] Oper.semAt_some

theorem ownL_lt (o : Nat → Nat) (k v : Nat) : ∀ x ∈ ownL o k v, x < k := by
  induction k with
  | zero => intro x hx; simp [ownL] at hx
  | succ k ih =>
    intro x hx
    simp only [ownL] at hx
    split at hx
    · rcases List.mem_append.1 hx with h | h
      · have := ih x h; omega
      · simp at h; omega
    · have := ih x hx; omega
theorem ndsL_lt (o : Nat → Nat) (n v : Nat) : ∀ x ∈ ndsL o n v, x < v := by
  induction v with
  | zero => intro x hx; simp [ndsL] at hx
  | succ k ih =>
    intro x hx
    simp only [ndsL] at hx
    split at hx
    · rcases List.mem_append.1 hx with h | h
      · have := ih x h; omega
      · simp at h; omega
    · have := ih x hx; omega
theorem owns_cells {w : World} {base : Nat} {v : Value} {L : List Nat} (h : w.ownsRow base 3 1 v L.length (numV L)) :
    ∃ qa qc, v = .slice qa L.length qc ∧ ∀ k, k < L.length → ∃ g, qa = some ⟨g, 0, none⟩ ∧ v.ownBlock = some g ∧ w.cell? ⟨g, k, none⟩ = some (.int .i64 ((L.getD k 0 : Nat))) := by
  rcases h.2 with ⟨rfl, hn⟩ | ⟨g, cap, cur, rfl, hg, hgg, hc, hm, hs, ht⟩
  · exact ⟨none, 0, by rw [hn], fun k hk => by omega⟩
  · refine ⟨_, cap, rfl, fun k hk => ⟨g, rfl, rfl, ?_⟩⟩
    simp only [World.cell?, hgg]
    have e : (cur.toList.take (L.length * 1))[k]? = (numV L)[k]? := by rw [ht]
    rw [List.getElem?_take, if_pos (by omega)] at e
    rw [← Array.getElem?_toList, e]
    simp [numV, hk]
theorem dueAt_of {w : World} {base C n v W H : Nat} {b off oc f cf : Nat} {tv : Value} {q : Nat → Value} {K : Nat → Int} {o : Nat → Nat} {S : Nat → Prop}
    (hcb : CB w C (.slice (some ⟨b, off, none⟩) n oc) q (.slice (some ⟨f, 0, none⟩) n cf) tv) (hof : OwnF w base q (chL o n n 8)) (hf : Row w f n (pull W H 1 idG)) (hK : NumsAt w b off n K) (ho : ∀ i, i < n → K i = (o i : Int)) (hv : v < 8)
    (s1 : S C) (s2 : S f) (s3 : S b) (s4 : ∀ g, (q v).ownBlock = some g → S g) : DueAt w S C W H n v o (ownL o n v) := by
  have hL : chL o n n 8 v = ownL o n v := by unfold chL; rw [if_pos hv]
  have hr := hof.1 v (by omega)
  rw [hL] at hr
  obtain ⟨qa, qc, hq, hc⟩ := owns_cells hr
  refine ⟨s1, ⟨qa, qc, by rw [← hq]; exact hcb.own hv, fun k hk => ?_⟩, fun k hk => ?_, ⟨f, cf, s2, hcb.from_, fun i hi d hd => ?_⟩, ⟨b, off, oc, s3, hcb.owner, fun i hi => by rw [hK i hi, ho i hi]⟩⟩
  · obtain ⟨g, e, eb, hk'⟩ := hc k hk
    exact ⟨g, e, s4 g eb, hk'⟩
  · have : (ownL o n v).getD k 0 = (ownL o n v)[k] := by simp [hk]
    rw [this]
    exact ownL_lt o n v _ (List.getElem_mem hk)
  · have := (hf.2 (i * 4 + d) (by omega)).1
    rw [show (i * 4 + d) / 4 = i by omega, show (i * 4 + d) % 4 = d by omega] at this
    exact this

theorem due_stops (n : Nat) (hn : 1 ≤ n) (m C W H N v s : Nat) (o : Nat → Nat) (L : List Nat) (S : Nat → Prop) (w W0 : World) (hS1 : S (m + 1 + 1)) (hS2 : S m) (hS3 : S (m + 1)) (hlt : ∀ k, S k → k < w.heap.size) (hs : 1 ≤ s) (hs1 : s ≤ 1000000) (hv : v < 8) (hN : N = W * H) (hN1 : N ≤ 1024) (ho : ∀ i, i < N → o i < 8) (hL : L.length ≤ 1024)
    (hBs : w.cell? ⟨m + 1 + 1, 0, none⟩ = some (.int .i64 s)) (hBc : w.cell? ⟨m, 0, none⟩ = some (.pointer (some ⟨C, 0, none⟩))) (hBv : w.cell? ⟨m + 1, 0, none⟩ = some (.int .i64 v)) (hD : DueAt w S C W H N v o L) :
    SeqStopsK Fence.wide n Try.prog 60 #[.pointer (some ⟨m + 1 + 1, 0, none⟩), .pointer (some ⟨m, 0, none⟩), .pointer (some ⟨m + 1, 0, none⟩)] (fun x : Nt => #[ntV s v x]) (KB S)
      (fun ys => ys = dueN o W H v L L.length) (fun pre => pre <+: dueN o W H v L L.length) (dueN o W H v L L.length).length w := fun l J Jx W' hW hJ hJx hY h0 =>
  due1_in n hn l (m + 1 + 1) m (m + 1) C W H N v s _ o L S hS1 hS2 hS3 hs hs1 hv hN hN1 ho J Jx W' hJ (Nat.le_refl _) hL hY
    ((hW.cell (p := ⟨m + 1 + 1, 0, none⟩) (hlt _ hS1)).trans hBs) ((hW.cell (p := ⟨m, 0, none⟩) (hlt _ hS2)).trans hBc) ((hW.cell (p := ⟨m + 1, 0, none⟩) (hlt _ hS3)).trans hBv)
    (by
      obtain ⟨c, ⟨qa, qc, hq, hqc⟩, hl, ⟨f, cf, sf, hf, hfc⟩, ⟨b, off, oc, sb, hb, hbc⟩⟩ := hD
      exact ⟨c, ⟨qa, qc, (hW.cell (p := ⟨C, 2 + v, none⟩) (hlt _ c)).trans hq, fun k hk => by obtain ⟨g, e, sg, hk'⟩ := hqc k hk; exact ⟨g, e, sg, (hW.cell (p := ⟨g, k, none⟩) (hlt _ sg)).trans hk'⟩⟩, hl,
        ⟨f, cf, sf, (hW.cell (p := ⟨C, 11, none⟩) (hlt _ c)).trans hf, fun i hi d hd => (hW.cell (p := ⟨f, i * 4 + d, none⟩) (hlt _ sf)).trans (hfc i hi d hd)⟩,
        ⟨b, off, oc, sb, (hW.cell (p := ⟨C, 0, none⟩) (hlt _ c)).trans hb, fun i hi => (hW.cell (p := ⟨b, off + i, none⟩) (hlt _ sb)).trans (hbc i hi)⟩⟩) h0

/-- The marks of loops that are over, and the end of a function that bears them. -/
theorem leaves_marks {fn : Func} {tmps : Array Value} {R : Ending → World → Prop} {n B : Nat} : ∀ (Ds : List Nat) (w : World), Ds.Nodup → (∀ D ∈ Ds, B ≤ D ∧ w.heap[D]? = some (.deferred (some []))) → (∀ w', Below B w w' → LeavesInM Fence.wide n Try.prog fn tmps R [] .returning w') →
    LeavesInM Fence.wide n Try.prog fn tmps R (Ds.map fun D => { target := .collected D, args := #[] }) .returning w := by
  intro Ds
  induction Ds with
  | nil => intro w _ _ h; exact h w (Below.refl _ _)
  | cons D Ds ih =>
    intro w hd hm h
    obtain ⟨h1, h2⟩ := List.nodup_cons.1 hd
    obtain ⟨hB, hD⟩ := hm D (by simp)
    refine ⟨by simp, .inl ⟨D, _, rfl, run_takeDeferred hD, ih _ h2 (fun E hE => ⟨(hm E (by simp [hE])).1, ?_⟩) (fun w' hb => h w' ?_)⟩⟩
    · have : E ≠ D := fun e => h1 (e ▸ hE)
      rw [World.putObj_heap_other this]
      exact (hm E (by simp [hE])).2
    · exact ((Below.refl B w).grown (grownBy_putObj' w D _) (by have := (Array.getElem?_eq_some_iff.1 hD).1; omega) (fun k e => by cases e; omega)).trans hb

/-- How many notes are due to the first k of some nodes. -/
def trf (o : Nat → Nat) (W H n : Nat) (l : List Nat) : Nat → Nat
  | 0 => 0
  | k + 1 => trf o W H n l k + (dueN o W H (l.getD k 0) (ownL o n (l.getD k 0)) (ownL o n (l.getD k 0)).length).length
theorem trf_le (o : Nat → Nat) (W H n : Nat) (l : List Nat) (k : Nat) : trf o W H n l k ≤ 4 * n * k := by
  induction k with
  | zero => simp [trf]
  | succ k ih =>
    have h1 := dueN_len o W H (l.getD k 0) (ownL o n (l.getD k 0)) (ownL o n (l.getD k 0)).length
    have h2 := ownL_len o n (l.getD k 0)
    simp only [trf]
    have : 4 * n * (k + 1) = 4 * n * k + 4 * n := by rw [Nat.mul_add, Nat.mul_one]
    omega
/-- The marks that a function bears behind its loops. -/
def mrks (Ds : List Nat) : List Deferred := Ds.map fun D => { target := .collected D, args := #[] }
/-- Where Traffic stands: the count's box, the marks. -/
def TrSt (w6 : World) (x : Nat) (Ds : List Nat) (W : World) : Prop :=
  Boxed W w6.heap.size 3 (.int .i64 x) ∧ Below w6.heap.size w6 W ∧ Ds.Nodup ∧ ∀ D ∈ Ds, w6.heap.size ≤ D ∧ W.heap[D]? = some (.deferred (some []))

set_option maxRecDepth 100000 in
set_option maxHeartbeats 8000000 in
theorem traffic_in (W_ H n cap : Nat) (ao : Option Addr) (G : Nat → Nat → Int) (b off oc : Nat) (K : Nat → Int) (o : Nat → Nat) (w : World) (s : Sides W_ H n) (hG : OkG n G) (hC : CellsIn w ao n G) (hb : b < w.heap.size) (hK : NumsAt w b off n K) (ho : ∀ i, i < n → K i = (o i : Int) ∧ o i < 8) :
    CallsIn Fence.wide 5 Try.prog 19 #[.agg #[.int .i64 W_, .int .i64 H, .slice (ao) n cap], .slice (some ⟨b, off, none⟩) n oc] w fun e w' => e = .returned (.tuple #[.int .i64 ((trf o W_ H n (ndsL o n 8) (ndsL o n 8).length : Nat)), .int .i64 0]) ∧ Below w.heap.size w w' := by
  have hn1 := s.n1
  have CH := Lib.hid (fun w' (hx : Below w.heap.size w w') => chartOf_ok W_ H n cap ao G b off oc K o w' s hG (hC.below hx) (Nat.lt_of_lt_of_le hb hx.size) (hK.below hx hb) ho)
  have HN := Lib.hid s.n0
  have HO := Lib.hid ho
  have HK := Lib.hid hK
  clear s hG hC hK ho
  refine callsIn_of_wp_marks Try.func19 rfl trivial ?_ rfl
  simp only [Try.ntmps19, List.size_toArray, List.length_cons, List.length_nil, Nat.reduceAdd, Nat.reduceSub, Array.replicate_succ, Array.replicate_zero, List.push_toArray, List.append_toArray, List.nil_append, List.cons_append]
  gi_wp2_with (refine ⟨trivial, ?_⟩; gi_at_call 23; (with_reducible refine (callsIn_wide.2 (CH.out _ (by (repeat' (first | (with_reducible exact Below.refl _ _) | (with_reducible refine Below.setCell ?_ (by first | omega | (simp; done) | (simp; omega)) _) | (with_reducible refine Below.alloc ?_ (by first | omega | (simp; done) | (simp; omega)) _) | (with_reducible refine Below.drew ?_) | (with_reducible refine below_drewN ?_ _) | (with_reducible refine Below.trans ?_ (Below.mono (by assumption) (by first | omega | (simp; done) | (simp; omega))))))))).mono ?_); rintro e w6 ⟨C, q, f, cf, t, ct, rfl, RR, lC, hx⟩; have HX := Lib.hid hx; have n9 : (chL o n n 8 9).length = (ndsL o n 8).length := rfl; have o9 := RR.out.2.1.1 9 (by omega); rw [n9] at o9; obtain ⟨na, nc, e9, c9⟩ := owns_cells (L := ndsL o n 8) o9; have cN := RR.out.1.nodes; rw [e9] at cN; have lC6 := RR.out.1.lt; have hx1 := hx.size; (try simp at hx1 lC); clear hx)
  obtain ⟨len, hlen⟩ : ∃ len, len = (ndsL o n 8).length := ⟨_, rfl⟩
  have hl8 : len ≤ 8 := by rw [hlen]; exact ndsL_len o n 8
  rw [← hlen] at c9
  rw [← hlen]
  have HC9 := Lib.hid c9
  have HI := Lib.hid (show TrSt w6 0 [] (w6.alloc (.cells #[.int .i64 0] 3)) from ⟨Boxed.new _ _ _, (Below.refl _ _).alloc (Nat.le_refl _) _, List.nodup_nil, by simp⟩)
  clear c9 cN o9 n9 e9 CH
  refine wpIn_loop (fun a W => ∃ (k : Nat) (Ds : List Nat) (u10 u26 u27 u28 u29 u30 u31 u35 : Value), k ≤ len ∧ Hid (TrSt w6 (trf o W_ H n (ndsL o n 8) k) Ds W) ∧ a = { tmps := #[.agg #[.int .i64 W_, .int .i64 H, .slice (ao) n cap], .slice (some ⟨b, off, none⟩) n oc, .pointer (some ⟨w.heap.size, 0, none⟩), undef, .int .i64 0, .int .i64 0, .pointer (some ⟨C, 0, none⟩), .int .i64 0, .pointer (some ⟨w6.heap.size, 0, none⟩), undef, u10, .tuple #[.pointer (some ⟨C, 0, none⟩), .int .i64 0], .agg #[.int .i64 W_, .int .i64 H, .slice (ao) n cap], .slice (some ⟨b, off, none⟩) n oc, .tuple #[.pointer (some ⟨C, 0, none⟩), .int .i64 0], .pointer (some ⟨C, 0, none⟩), .int .i64 0, .int .i64 0, .bool false, undef, .pointer (some ⟨C, 0, none⟩), .pointer (some ⟨C, 0, none⟩), .pointer (some ⟨C, 1, none⟩), .slice na len nc, .int .i64 len, .int .i64 k, u26, u27, u28, u29, u30, u31, undef, undef, undef, u35, undef], defers := mrks Ds })
    (fun a _ => len - (intOf (a.tmps.getD 25 undef)).toNat) ⟨0, [], _, _, _, _, _, _, _, _, Nat.zero_le _, HI, rfl⟩ ?_
  rintro a Wk ⟨k, Ds, u10, u26, u27, u28, u29, u30, u31, u35, hk, HH, rfl⟩
  have lB := HH.out.1.lt
  have hB := HH.out.2.1
  by_cases hlk : k < len
  · obtain ⟨g, rfl, hg1, hg2⟩ := HC9.out k hlk
    obtain ⟨v, hv⟩ : ∃ v, v = (ndsL o n 8).getD k 0 := ⟨_, rfl⟩
    rw [← hv] at hg2
    have hv8 : v < 8 := by
      rw [hv]
      have : (ndsL o n 8).getD k 0 = (ndsL o n 8)[k]'(by rw [← hlen]; exact hlk) := by simp [show k < (ndsL o n 8).length by rw [← hlen]; exact hlk]
      rw [this]
      exact ndsL_lt o n 8 _ (List.getElem_mem _)
    have lg : g < w6.heap.size := (owns_lt (RR.out.2.1.1 9 (by omega)) g hg1).2
    have c0 := (hB.cell (p := ⟨g, k, none⟩) lg).trans hg2
    have p0 : (0 : Int) ≤ (k : Int) := by omega
    have p1 : (k : Int) < (len : Int) := by omega
    have HV := Lib.hid hv
    have HLEN := Lib.hid hlen
    clear hv hg1 hg2 hlen
    gi_wp2_with (refine ⟨trivial, ?_⟩; gi_at_call 41; (with_reducible refine (due_in _ _ _ _ _).mono ?_); rintro e w' ⟨rfl, rfl⟩)
    obtain ⟨T, hT⟩ : ∃ T, T = trf o W_ H n (ndsL o n 8) k := ⟨_, rfl⟩
    rw [← hT] at HH
    have HT := Lib.hid hT; clear hT
    have hT2 : T ≤ 32768 := by
      rw [HT.out]
      refine Nat.le_trans (trf_le o W_ H n _ k) ?_
      calc 4 * n * k ≤ 4 * 1024 * 8 := Nat.mul_le_mul (Nat.mul_le_mul_left 4 hn1) (by omega)
        _ = 32768 := by decide
    have hw6 : w.heap.size < w6.heap.size := by omega
    have hDne : ∀ D ∈ Ds, D ≠ w6.heap.size := fun D hD e => by
      have h1 := (HH.out.2.2.2 D hD).2
      rw [e] at h1
      have h2 : Wk.heap[w6.heap.size]? = some (.cells #[.int .i64 T] 3 (0, 0)) := HH.out.1
      rw [h2] at h1
      cases h1
    have hDs : ∀ D ∈ Ds, D < Wk.heap.size := fun D hD => (Array.getElem?_eq_some_iff.1 (HH.out.2.2.2 D hD).2).1
    have bx0 := ((Boxed.new Wk 52 (.pointer (some ⟨C, 0, none⟩))).alloc (.cells #[.int .i64 v] 3)).alloc (.cells #[.int .i64 1] 3)
    have bx1 := (Boxed.new (Wk.alloc (.cells #[.pointer (some ⟨C, 0, none⟩)] 52)) 3 (.int .i64 v)).alloc (.cells #[.int .i64 1] 3)
    have bx2 := Boxed.new ((Wk.alloc (.cells #[.pointer (some ⟨C, 0, none⟩)] 52)).alloc (.cells #[.int .i64 v] 3)) 3 (.int .i64 1)
    have bC := (((HH.out.1.alloc (.cells #[.pointer (some ⟨C, 0, none⟩)] 52)).alloc (.cells #[.int .i64 v] 3)).alloc (.cells #[.int .i64 1] 3))
    have hB0 : Below w6.heap.size w6 (((Wk.alloc (.cells #[.pointer (some ⟨C, 0, none⟩)] 52)).alloc (.cells #[.int .i64 v] 3)).alloc (.cells #[.int .i64 1] 3)) := ((hB.alloc (by omega) _).alloc (by simp; omega) _).alloc (by simp; omega) _
    have hd0 : ∀ D ∈ Ds, (((Wk.alloc (.cells #[.pointer (some ⟨C, 0, none⟩)] 52)).alloc (.cells #[.int .i64 v] 3)).alloc (.cells #[.int .i64 1] 3)).heap[D]? = some (.deferred (some [])) := fun D hD => by
      have := hDs D hD
      rw [Below.heap_alloc _ _ _ (by simp; omega), Below.heap_alloc _ _ _ (by simp; omega), Below.heap_alloc _ _ _ (by omega)]
      exact (HH.out.2.2.2 D hD).2
    simp only [World.size_alloc] at bx1 bx2
    have hsz : (((Wk.alloc (.cells #[.pointer (some ⟨C, 0, none⟩)] 52)).alloc (.cells #[.int .i64 v] 3)).alloc (.cells #[.int .i64 1] 3)).heap.size = Wk.heap.size + 3 := by simp
    obtain ⟨W0, hW0⟩ : ∃ W0, ((Wk.alloc (.cells #[.pointer (some ⟨C, 0, none⟩)] 52)).alloc (.cells #[.int .i64 v] 3)).alloc (.cells #[.int .i64 1] 3) = W0 := ⟨_, rfl⟩
    rw [hW0] at bx0 bx1 bx2 bC hB0 hd0 hsz
    rw [hW0]
    clear hW0 c0
    have hbw : Below w.heap.size w W0 := ((((Below.refl _ w).alloc (Nat.le_refl _) _).trans (HX.out.mono (by simp))).trans (hB0.mono (by omega)))
    have lf := RR.out.2.2.1.1
    have DA := dueAt_of (S := fun z => z < Wk.heap.size + 3 ∧ z ≠ w6.heap.size) (RR.out.1.below hB0 lC6) (RR.out.2.1.below hB0) (RR.out.2.2.1.below hB0 lf) (HK.out.below hbw hb) (fun i hi => (HO.out i hi).1) hv8
      ⟨by omega, by omega⟩ ⟨by omega, by omega⟩ ⟨by omega, by omega⟩ (fun g hg => by have := (owns_lt (RR.out.2.1.1 v (by omega)) g hg).2; exact ⟨by omega, by omega⟩)
    have hLn := ownL_len o n v
    refine wpIn_rangeFunc_ownH (α := Nt) rfl (by omega) (gf := 60) (lb := #[.pointer (some ⟨Wk.heap.size + 1 + 1, 0, none⟩), .pointer (some ⟨Wk.heap.size, 0, none⟩), .pointer (some ⟨Wk.heap.size + 1, 0, none⟩)]) rfl trivial (enters_of Try.func60 (by kernel_rfl) rfl)
      (due_stops 4 (by omega) Wk.heap.size C W_ H n v 1 o (ownL o n v) (fun z => z < Wk.heap.size + 3 ∧ z ≠ w6.heap.size) W0 W0 ⟨by omega, by omega⟩ ⟨by omega, by omega⟩ ⟨by omega, by omega⟩ (fun z hz => by omega) (by omega) (by omega) hv8 HN.out hn1 (fun i hi => (HO.out i hi).2) (by omega) bx2.cell bx0.cell bx1.cell DA)
      (fun h g => KB.trans h g) (kb_put (fun z hz => by omega)) (Below.refl _ _) (fun _ => rfl)
      (fun pre W => Boxed W w6.heap.size 3 (.int .i64 ((T + pre.length : Nat))) ∧ Below w6.heap.size w6 W ∧ Wk.heap.size + 3 ≤ W.heap.size ∧ ∀ D ∈ Ds, W.heap[D]? = some (.deferred (some [])))
      (fun _ _ _ => False)
      (fun pre X Y row hs hg hr => ⟨hs.1.kept hg (fun e => by have := (hr _ e.symm).1; omega), hs.2.1.grown hg (by omega) (fun r e => by have := (hr r e).1; omega), Nat.le_trans hs.2.2.1 hg.size, fun D hD => (hg.block D (by have := hDs D hD; omega) (fun e => by have := (hr D e.symm).1; have := hDs D hD; omega)).trans (hs.2.2.2 D hD)⟩)
      (fun _ _ _ _ _ hs _ _ => hs.elim)
      ⟨bC, hB0, by omega, hd0⟩
      (fun x a' _ => a' = { tmps := #[.agg #[.int .i64 W_, .int .i64 H, .slice (ao) n cap], .slice (some ⟨b, off, none⟩) n oc, .pointer (some ⟨w.heap.size, 0, none⟩), undef, .int .i64 0, .int .i64 0, .pointer (some ⟨C, 0, none⟩), .int .i64 0, .pointer (some ⟨w6.heap.size, 0, none⟩), undef, .int .i64 v, .tuple #[.pointer (some ⟨C, 0, none⟩), .int .i64 0], .agg #[.int .i64 W_, .int .i64 H, .slice (ao) n cap], .slice (some ⟨b, off, none⟩) n oc, .tuple #[.pointer (some ⟨C, 0, none⟩), .int .i64 0], .pointer (some ⟨C, 0, none⟩), .int .i64 0, .int .i64 0, .bool false, undef, .pointer (some ⟨C, 0, none⟩), .pointer (some ⟨C, 0, none⟩), .pointer (some ⟨C, 1, none⟩), .slice (some ⟨g, 0, none⟩) len nc, .int .i64 len, .int .i64 k, .bool true, .pointer (some ⟨g, k, none⟩), .int .i64 v, .pointer (some ⟨C, 0, none⟩), .int .i64 v, .func (.func 60) #[] #[.pointer (some ⟨Wk.heap.size + 1 + 1, 0, none⟩), .pointer (some ⟨Wk.heap.size, 0, none⟩), .pointer (some ⟨Wk.heap.size + 1, 0, none⟩)], ntV 1 v x, undef, undef, u35, undef], defers := [] })
      (fun x a' _ X Y row hs hg hr => hs)
      ?assign ?body ?done ?stop
    case assign =>
      rintro l pre x W K1 hI1 hK1
      gi_wp2
      exact hK1 _ _ (keepsFrom_of_below (Below.refl _ _)) (KB.refl _ _) hI1 rfl
    case body =>
      rintro l pre x a' W _ _ ⟨b1, hb1, hs1, hd1⟩ rfl hlen
      have cR := b1.cell
      have fR := b1.frozen
      have lR := b1.lt
      have hdl := dueN_len o W_ H v (ownL o n v) (ownL o n v).length
      have hq1 : pre.length ≤ 8192 := by omega
      clear hlen hdl hLn
      gi_wp2
      have e : ((T + (pre ++ [x]).length : Nat) : Int) = (T : Int) + (pre.length : Int) + 1 := by simp; omega
      refine ⟨(KeepsOthers.setCell _ _ _).from _, KB.set (fun h => h.2 rfl), ?_, hb1.setCell (p := ⟨w6.heap.size, 0, none⟩) (Nat.le_refl _) _, by simp [World.setCell]; omega, fun D hD => (Below.heap_setCell W ⟨w6.heap.size, 0, none⟩ _ D (hDne D hD)).trans (hd1 D hD)⟩
      rw [e]
      exact Boxed.set _ b1
    case done =>
      rintro D ys W hD rfl ⟨b1, hb1, hs1, hd1⟩ hK
      gi_wp2
      have e : trf o W_ H n (ndsL o n 8) (k + 1) = T + (dueN o W_ H v (ownL o n v) (ownL o n v).length).length := by
        rw [HT.out]
        simp only [trf]
        rw [← HV.out]
      refine ⟨⟨k + 1, D :: Ds, _, _, _, _, _, _, _, _, by omega, Lib.hid ⟨by rw [e]; exact b1, hb1, List.nodup_cons.2 ⟨fun h => by have := hDs D h; omega, HH.out.2.2.1⟩, fun E hE => ?_⟩, rfl⟩, ?_⟩
      · rcases List.mem_cons.1 hE with rfl | hE
        · exact ⟨by omega, hK⟩
        · exact ⟨(HH.out.2.2.2 E hE).1, hd1 E hE⟩
      · simp [intOf]
        omega
    case stop =>
      rintro D c pre W _ _ h _
      exact h.elim
  · obtain rfl : k = len := by omega
    have cR := HH.out.1.cell
    gi_wp2
    have hbw : Below w.heap.size w Wk := ((((Below.refl _ w).alloc (Nat.le_refl _) _).trans (HX.out.mono (by simp))).trans (hB.mono (by omega)))
    refine leaves_marks (B := w6.heap.size) Ds Wk HH.out.2.2.1 HH.out.2.2.2 (fun w' hb' => ?_)
    exact ⟨.tuple #[.int .i64 ((trf o W_ H n (ndsL o n 8) (ndsL o n 8).length : Nat)), .int .i64 0], by simp [results, Try.results19, go_sem, hlen], rfl, hbw.trans (hb'.mono (by omega))⟩
end Go.Proofs.Ytmkhbkkhoemkoaa
