/- Steps, runs among walls and their undoing: by the reference. -/
import Derived.Test.YtnpmlbhlchoolaaDoorKRefMet
import Derived.Test.YtnpmlbhlchoolaaDoorKRefG6
import Derived.Test.YtnpmlbhlchoolaaDoorKWRun
namespace Go.Proofs.YtnpmlbhlchoolaaDoor
set_option linter.unusedSimpArgs false
set_option linter.unusedVariables false
open Go.RowKit

theorem run_roundW {w wr wp : World} {t t1 : TypeId} {x y z0 v0 v1 v2 a b c d e : Value} {p n : Nat} {K : Nat → Nat → Int} (tg : Three wr w.heap.size t x y z0) (tw : Two wr (w.heap.size + 1) t1 d e) (tr : Three wr (w.heap.size + 2) t a b c) (hB : Below w.heap.size w wr) (hx : Below wr.heap.size wr wp) (hr : Row wp p n K) (hp : wr.heap.size ≤ p) :
    Three (((wp.setCell ⟨w.heap.size, 0, none⟩ v0).setCell ⟨w.heap.size, 1, none⟩ v1).setCell ⟨w.heap.size, 2, none⟩ v2) w.heap.size t v0 v1 v2 ∧ Row (((wp.setCell ⟨w.heap.size, 0, none⟩ v0).setCell ⟨w.heap.size, 1, none⟩ v1).setCell ⟨w.heap.size, 2, none⟩ v2) p n K ∧ Two (((wp.setCell ⟨w.heap.size, 0, none⟩ v0).setCell ⟨w.heap.size, 1, none⟩ v1).setCell ⟨w.heap.size, 2, none⟩ v2) (w.heap.size + 1) t1 d e ∧ Three (((wp.setCell ⟨w.heap.size, 0, none⟩ v0).setCell ⟨w.heap.size, 1, none⟩ v1).setCell ⟨w.heap.size, 2, none⟩ v2) (w.heap.size + 2) t a b c ∧ Below w.heap.size w (((wp.setCell ⟨w.heap.size, 0, none⟩ v0).setCell ⟨w.heap.size, 1, none⟩ v1).setCell ⟨w.heap.size, 2, none⟩ v2) ∧ w.heap.size + 3 ≤ p := by
  have l1 := tr.lt
  have x : Ex (fun k => k = w.heap.size) wp (((wp.setCell ⟨w.heap.size, 0, none⟩ v0).setCell ⟨w.heap.size, 1, none⟩ v1).setCell ⟨w.heap.size, 2, none⟩ v2) := three_ex
  have hB2 := hB.trans (hx.mono hB.size)
  have tw2 := tw.below hx tw.lt
  exact ⟨(tg.below hx tg.lt).set, hr.ex x (by omega), (x.block _ tw2.lt (by omega)).trans tw2, (tr.below hx tr.lt).ex x (by omega), hB2.trans (x.below hB2.size (fun k hk => by omega)), by omega⟩

set_option maxRecDepth 100000 in
set_option maxHeartbeats 4000000 in
theorem rwStep_ok (W H n cap b off bk ok ck : Nat) (ro : Option Addr) (len rc : Nat) (ab : Option Addr) (nb cb : Nat) (K : Nat → Int) (R : Nat → Int × Int) (G : Nat → Nat → Int) (t : Nat) (w : World) (s : Sides W H n) (hG : OkG n G) (hlt : b < w.heap.size) (hC : Grd w b off n G) (hK : OkK n K) (hbk : bk < w.heap.size) (hN : NumsAt w bk ok n K) (hR : RulesIn w ro len R) (hk : OkRs len R) (ht : t ≤ 1000000)
    (E : ∀ wx, Below w.heap.size w wx → Calls Tryd.prog 35 #[.agg #[.int .i64 W, .int .i64 H, .slice (some ⟨b, off, none⟩) n cap], .agg #[.slice (some ⟨bk, ok, none⟩) n ck, .slice (ab) nb cb], .slice ro len rc, .int .i64 t, .int .i64 1] wx fun e w' => e = .returned (.int .i64 0) ∧ Below wx.heap.size wx w') :
    Calls Tryd.prog 12 #[.agg #[.int .i64 W, .int .i64 H, .slice (some ⟨b, off, none⟩) n cap], .agg #[.slice (some ⟨bk, ok, none⟩) n ck, .slice (ab) nb cb], .slice ro len rc, .int .i64 t] w (Made W H n (fwdW W H K len R t G) w) := by
  have HE := Lib.hid E; clear E
  have D := Lib.hid (fun w' (hb : Below w.heap.size w w') => rwstep1 W H n b off cap bk ok ck ab nb cb K G (R (t % len)).1 (R (t % len)).2 w' s hG (hk.2.2 _ (Nat.mod_lt _ hk.1)) (Nat.lt_of_lt_of_le hlt hb.size) (hC.below hb hlt) hK (Nat.lt_of_lt_of_le hbk hb.size) (hN.below hb hbk))
  have Q := Lib.hid (fun w' (hb : Below w.heap.size w w') => refRuleI_ok ro len rc t R w' (hR.below hb) hk (by omega))
  clear hC hR hG s hk hK hN
  go_enter Tryd.func12, Tryd.ntmps12
  go_wp2_with (go_at_call 35; (with_reducible refine (HE.out _ (by (repeat' (first | (with_reducible exact Below.refl _ _) | (with_reducible refine Below.setCell ?_ (by first | omega | (simp; done) | (simp; omega)) _) | (with_reducible refine Below.alloc ?_ (by first | omega | (simp; done) | (simp; omega)) _) | (with_reducible refine Below.drew ?_) | (with_reducible refine below_drewN ?_ _) | (with_reducible refine Below.trans ?_ (Below.mono (by assumption) (by first | omega | (simp; done) | (simp; omega)))))))).mono ?_); rintro e w1 ⟨rfl, hb⟩; obtain ⟨hc, hf, hz⟩ := bcall hb; (try simp at hc hf hz))
  go_region_held3 (fun w' => w'.cell? ⟨w.heap.size, 0, none⟩ = some (.int .i64 W) ∧ w'.cell? ⟨w.heap.size, 1, none⟩ = some (.int .i64 H) ∧ w'.cell? ⟨w.heap.size, 2, none⟩ = some (.slice (some ⟨b, off, none⟩) n cap) ∧ w'.cell? ⟨w.heap.size + 1, 0, none⟩ = some (.slice (some ⟨bk, ok, none⟩) n ck) ∧ w'.cell? ⟨w.heap.size + 1, 1, none⟩ = some (.slice ab nb cb)) (first | (go_split_ands; (try dsimp only); refine ⟨?_, ?_, ?_, ?_, ?_⟩ <;> (first | (with_reducible assumption) | (with_reducible exact keep_cell (by assumption) (by first | omega | (simp; done) | (simp; omega)) (by assumption)) | (with_reducible exact (World.cell?_alloc_past _ _ _ (by show _ < _; omega)).trans (by assumption)) | (with_reducible exact (World.cell?_alloc_past _ _ _ (by show _ < _; omega)).trans ((World.cell?_alloc_past _ _ _ (by show _ < _; omega)).symm.trans (by assumption))) | (simp [go_sem]; with_reducible assumption))) | (simp [go_sem, ↓IntWalk.iteOmega, *]; done)) (first | (go_at_call 37; (with_reducible refine (Q.out _ (by (repeat' (first | (with_reducible exact Below.refl _ _) | (with_reducible refine Below.setCell ?_ (by first | omega | (simp; done) | (simp; omega)) _) | (with_reducible refine Below.alloc ?_ (by first | omega | (simp; done) | (simp; omega)) _) | (with_reducible refine Below.drew ?_) | (with_reducible refine below_drewN ?_ _) | (with_reducible refine Below.trans ?_ (Below.mono (by assumption) (by first | omega | (simp; done) | (simp; omega)))))))).mono ?_); rintro e w1 ⟨rfl, hb⟩; obtain ⟨hc, hf, hz⟩ := bcall hb; (try simp at hc hf hz)) | (go_at_call 36; (with_reducible refine (D.out _ (by (repeat' (first | (with_reducible exact Below.refl _ _) | (with_reducible refine Below.setCell ?_ (by first | omega | (simp; done) | (simp; omega)) _) | (with_reducible refine Below.alloc ?_ (by first | omega | (simp; done) | (simp; omega)) _) | (with_reducible refine Below.drew ?_) | (with_reducible refine below_drewN ?_ _) | (with_reducible refine Below.trans ?_ (Below.mono (by assumption) (by first | omega | (simp; done) | (simp; omega)))))))).mono ?_); rintro e wo ⟨o, co, rfl, ho, loo, hb⟩; have Co := Lib.hid ho; clear ho; obtain ⟨hc, hf, hz⟩ := bcall hb; (try simp at hc hf hz loo)))
  go_wp2
  have HB := Lib.hid (show Below w.heap.size w wo from by (repeat' (first | (with_reducible exact Below.refl _ _) | (with_reducible refine Below.setCell ?_ (by first | omega | (simp; done) | (simp; omega)) _) | (with_reducible refine Below.alloc ?_ (by first | omega | (simp; done) | (simp; omega)) _) | (with_reducible refine Below.drew ?_) | (with_reducible refine below_drewN ?_ _) | (with_reducible refine Below.trans ?_ (Below.mono (by assumption) (by first | omega | (simp; done) | (simp; omega)))))))
  refine bodyPost_ret (v := .tuple #[.agg #[.int .i64 W, .int .i64 H, .slice (some ⟨o, 0, none⟩) n co], .int .i64 0]) (by simp [results, Tryd.results12, go_sem, ↓IntWalk.iteOmega, *]) rfl ?_
  exact made_pass Co.out.cellsIn HB.out (by omega) (by omega)

set_option maxRecDepth 100000 in
set_option maxHeartbeats 4000000 in
theorem rwBack_ok (W H n cap b off bk ok ck : Nat) (ro : Option Addr) (len rc : Nat) (ab : Option Addr) (nb cb : Nat) (K : Nat → Int) (R : Nat → Int × Int) (G : Nat → Nat → Int) (t : Nat) (w : World) (s : Sides W H n) (hG : OkG n G) (hlt : b < w.heap.size) (hC : Grd w b off n G) (hK : OkK n K) (hbk : bk < w.heap.size) (hN : NumsAt w bk ok n K) (hR : RulesIn w ro len R) (hk : OkRs len R) (ht : t ≤ 1000000)
    (E : ∀ wx, Below w.heap.size w wx → Calls Tryd.prog 35 #[.agg #[.int .i64 W, .int .i64 H, .slice (some ⟨b, off, none⟩) n cap], .agg #[.slice (some ⟨bk, ok, none⟩) n ck, .slice (ab) nb cb], .slice ro len rc, .int .i64 t, .int .i64 1] wx fun e w' => e = .returned (.int .i64 0) ∧ Below wx.heap.size wx w') :
    Calls Tryd.prog 15 #[.agg #[.int .i64 W, .int .i64 H, .slice (some ⟨b, off, none⟩) n cap], .agg #[.slice (some ⟨bk, ok, none⟩) n ck, .slice (ab) nb cb], .slice ro len rc, .int .i64 t] w (Made W H n (bwdW W H K len R t G) w) := by
  have HE := Lib.hid E; clear E
  have D := Lib.hid (fun w' (hb : Below w.heap.size w w') => rwback1 W H n b off cap bk ok ck ab nb cb K G (R (t % len)).1 (R (t % len)).2 w' s hG (hk.2.2 _ (Nat.mod_lt _ hk.1)) (Nat.lt_of_lt_of_le hlt hb.size) (hC.below hb hlt) hK (Nat.lt_of_lt_of_le hbk hb.size) (hN.below hb hbk))
  have Q := Lib.hid (fun w' (hb : Below w.heap.size w w') => refRuleI_ok ro len rc t R w' (hR.below hb) hk (by omega))
  clear hC hR hG s hk hK hN
  go_enter Tryd.func15, Tryd.ntmps15
  go_wp2_with (go_at_call 35; (with_reducible refine (HE.out _ (by (repeat' (first | (with_reducible exact Below.refl _ _) | (with_reducible refine Below.setCell ?_ (by first | omega | (simp; done) | (simp; omega)) _) | (with_reducible refine Below.alloc ?_ (by first | omega | (simp; done) | (simp; omega)) _) | (with_reducible refine Below.drew ?_) | (with_reducible refine below_drewN ?_ _) | (with_reducible refine Below.trans ?_ (Below.mono (by assumption) (by first | omega | (simp; done) | (simp; omega)))))))).mono ?_); rintro e w1 ⟨rfl, hb⟩; obtain ⟨hc, hf, hz⟩ := bcall hb; (try simp at hc hf hz))
  go_region_held3 (fun w' => w'.cell? ⟨w.heap.size, 0, none⟩ = some (.int .i64 W) ∧ w'.cell? ⟨w.heap.size, 1, none⟩ = some (.int .i64 H) ∧ w'.cell? ⟨w.heap.size, 2, none⟩ = some (.slice (some ⟨b, off, none⟩) n cap) ∧ w'.cell? ⟨w.heap.size + 1, 0, none⟩ = some (.slice (some ⟨bk, ok, none⟩) n ck) ∧ w'.cell? ⟨w.heap.size + 1, 1, none⟩ = some (.slice ab nb cb)) (first | (go_split_ands; (try dsimp only); refine ⟨?_, ?_, ?_, ?_, ?_⟩ <;> (first | (with_reducible assumption) | (with_reducible exact keep_cell (by assumption) (by first | omega | (simp; done) | (simp; omega)) (by assumption)) | (with_reducible exact (World.cell?_alloc_past _ _ _ (by show _ < _; omega)).trans (by assumption)) | (with_reducible exact (World.cell?_alloc_past _ _ _ (by show _ < _; omega)).trans ((World.cell?_alloc_past _ _ _ (by show _ < _; omega)).symm.trans (by assumption))) | (simp [go_sem]; with_reducible assumption))) | (simp [go_sem, ↓IntWalk.iteOmega, *]; done)) (first | (go_at_call 37; (with_reducible refine (Q.out _ (by (repeat' (first | (with_reducible exact Below.refl _ _) | (with_reducible refine Below.setCell ?_ (by first | omega | (simp; done) | (simp; omega)) _) | (with_reducible refine Below.alloc ?_ (by first | omega | (simp; done) | (simp; omega)) _) | (with_reducible refine Below.drew ?_) | (with_reducible refine below_drewN ?_ _) | (with_reducible refine Below.trans ?_ (Below.mono (by assumption) (by first | omega | (simp; done) | (simp; omega)))))))).mono ?_); rintro e w1 ⟨rfl, hb⟩; obtain ⟨hc, hf, hz⟩ := bcall hb; (try simp at hc hf hz)) | (go_at_call 39; (with_reducible refine (D.out _ (by (repeat' (first | (with_reducible exact Below.refl _ _) | (with_reducible refine Below.setCell ?_ (by first | omega | (simp; done) | (simp; omega)) _) | (with_reducible refine Below.alloc ?_ (by first | omega | (simp; done) | (simp; omega)) _) | (with_reducible refine Below.drew ?_) | (with_reducible refine below_drewN ?_ _) | (with_reducible refine Below.trans ?_ (Below.mono (by assumption) (by first | omega | (simp; done) | (simp; omega)))))))).mono ?_); rintro e wo ⟨o, co, rfl, ho, loo, hb⟩; have Co := Lib.hid ho; clear ho; obtain ⟨hc, hf, hz⟩ := bcall hb; (try simp at hc hf hz loo)))
  go_wp2
  have HB := Lib.hid (show Below w.heap.size w wo from by (repeat' (first | (with_reducible exact Below.refl _ _) | (with_reducible refine Below.setCell ?_ (by first | omega | (simp; done) | (simp; omega)) _) | (with_reducible refine Below.alloc ?_ (by first | omega | (simp; done) | (simp; omega)) _) | (with_reducible refine Below.drew ?_) | (with_reducible refine below_drewN ?_ _) | (with_reducible refine Below.trans ?_ (Below.mono (by assumption) (by first | omega | (simp; done) | (simp; omega)))))))
  refine bodyPost_ret (v := .tuple #[.agg #[.int .i64 W, .int .i64 H, .slice (some ⟨o, 0, none⟩) n co], .int .i64 0]) (by simp [results, Tryd.results15, go_sem, ↓IntWalk.iteOmega, *]) rfl ?_
  exact made_pass Co.out.cellsIn HB.out (by omega) (by omega)

theorem blocks3x {w wo : World} {t1 t2 t4 : TypeId} {a b c d e h i j : Value} (hb : Below (((w.alloc (.cells #[a, b, c] t1)).alloc (.cells #[d, e] t2)).alloc (.cells #[h, i, j] t4)).heap.size (((w.alloc (.cells #[a, b, c] t1)).alloc (.cells #[d, e] t2)).alloc (.cells #[h, i, j] t4)) wo) : Three wo w.heap.size t1 a b c ∧ Two wo (w.heap.size + 1) t2 d e ∧ Three wo (w.heap.size + 2) t4 h i j := by
  have x1 : Below (w.heap.size + 1) (w.alloc (.cells #[a, b, c] t1)) wo := by
    have y : Below (w.heap.size + 1) (w.alloc (.cells #[a, b, c] t1)) (((w.alloc (.cells #[a, b, c] t1)).alloc (.cells #[d, e] t2)).alloc (.cells #[h, i, j] t4)) := ((Below.refl _ _).alloc (by simp) _).alloc (by simp) _
    exact y.trans (hb.mono (by simp))
  have x2 : Below (w.heap.size + 2) ((w.alloc (.cells #[a, b, c] t1)).alloc (.cells #[d, e] t2)) wo := by
    have y : Below (w.heap.size + 2) ((w.alloc (.cells #[a, b, c] t1)).alloc (.cells #[d, e] t2)) (((w.alloc (.cells #[a, b, c] t1)).alloc (.cells #[d, e] t2)).alloc (.cells #[h, i, j] t4)) := (Below.refl _ _).alloc (by simp) _
    exact y.trans (hb.mono (by simp))
  exact ⟨(Three.newAt rfl).below x1 (by omega), (Two.newAt (by simp)).below x2 (by omega), (Three.newAt (by simp)).below hb (by simp)⟩

set_option maxRecDepth 100000 in
set_option maxHeartbeats 8000000 in
theorem rwrun_in (W H n cap b off bk ok ck : Nat) (ro : Option Addr) (len rc : Nat) (ab : Option Addr) (nb cb : Nat) (K : Nat → Int) (R : Nat → Int × Int) (G : Nat → Nat → Int) (t c : Nat) (w : World) (s : Sides W H n) (hG : OkG n G) (hlt : b < w.heap.size) (hC : Grd w b off n G) (hK : OkK n K) (hbk : bk < w.heap.size) (hN : NumsAt w bk ok n K) (hR : RulesIn w ro len R) (hk : OkRs len R) (hr : RunOk t c)
    (E : ∀ wx, Below w.heap.size w wx → Calls Tryd.prog 35 #[.agg #[.int .i64 W, .int .i64 H, .slice (some ⟨b, off, none⟩) n cap], .agg #[.slice (some ⟨bk, ok, none⟩) n ck, .slice (ab) nb cb], .slice ro len rc, .int .i64 t, .int .i64 c] wx fun e w' => e = .returned (.int .i64 0) ∧ Below wx.heap.size wx w') :
    Calls Tryd.prog 17 #[.agg #[.int .i64 W, .int .i64 H, .slice (some ⟨b, off, none⟩) n cap], .agg #[.slice (some ⟨bk, ok, none⟩) n ck, .slice (ab) nb cb], .slice ro len rc, .int .i64 t, .int .i64 c] w (Made W H n (runG (fwdW W H K len R) t c G) w) := by
  have hn0 : 1 ≤ n := by
    rw [s.n0]
    exact Nat.mul_le_mul s.w0 s.h0
  have hn1 := s.n1
  have HE := Lib.hid E; clear E
  have D := Lib.hid (fun w' (hb : Below w.heap.size w w') => rCopy_any W H b off n cap G w' hn0 (by omega) (Nat.lt_of_lt_of_le hlt hb.size) (hC.below hb hlt))
  have hc' : c ≤ 1000 := by unfold RunOk at hr; omega
  have ht : t ≤ 1000000 := by unfold RunOk at hr; omega
  have S := Lib.hid s
  have HG := Lib.hid hG
  have HK := Lib.hid hk
  have HR := Lib.hid hR
  have HKK := Lib.hid hK
  have HN := Lib.hid hN
  clear hC hR hG s hk hr hK hN
  go_enter Tryd.func17, Tryd.ntmps17
  go_wp2_with (first | (go_at_call 35; (with_reducible refine (HE.out _ (by (repeat' (first | (with_reducible exact Below.refl _ _) | (with_reducible refine Below.setCell ?_ (by first | omega | (simp; done) | (simp; omega)) _) | (with_reducible refine Below.alloc ?_ (by first | omega | (simp; done) | (simp; omega)) _) | (with_reducible refine Below.drew ?_) | (with_reducible refine below_drewN ?_ _) | (with_reducible refine Below.trans ?_ (Below.mono (by assumption) (by first | omega | (simp; done) | (simp; omega)))))))).mono ?_); rintro e w1 ⟨rfl, hb⟩; obtain ⟨hc, hf, hz⟩ := bcall hb; (try simp at hc hf hz)) | (go_at_call 43; (with_reducible refine (D.out _ (by (repeat' (first | (with_reducible exact Below.refl _ _) | (with_reducible refine Below.setCell ?_ (by first | omega | (simp; done) | (simp; omega)) _) | (with_reducible refine Below.alloc ?_ (by first | omega | (simp; done) | (simp; omega)) _) | (with_reducible refine Below.drew ?_) | (with_reducible refine below_drewN ?_ _) | (with_reducible refine Below.trans ?_ (Below.mono (by assumption) (by first | omega | (simp; done) | (simp; omega)))))))).mono ?_); rintro e wo ⟨o, co, rfl, ho, loo, hb⟩; have Co := Lib.hid ho; clear ho; obtain ⟨hc, hf, hz⟩ := bcall hb; (try simp at hc hf hz loo)))
  have hb0 : Below (((w.alloc (.cells #[.int .i64 W, .int .i64 H, .slice (some ⟨b, off, none⟩) n cap] 24)).alloc (.cells #[.slice (some ⟨bk, ok, none⟩) n ck, .slice ab nb cb] 27)).alloc (.cells #[.int .i64 0, .int .i64 0, .slice none 0 0] 24)).heap.size (((w.alloc (.cells #[.int .i64 W, .int .i64 H, .slice (some ⟨b, off, none⟩) n cap] 24)).alloc (.cells #[.slice (some ⟨bk, ok, none⟩) n ck, .slice ab nb cb] 27)).alloc (.cells #[.int .i64 0, .int .i64 0, .slice none 0 0] 24)) wo := by (repeat' (first | (with_reducible exact Below.refl _ _) | (with_reducible refine Below.setCell ?_ (by first | omega | (simp; done) | (simp; omega)) _) | (with_reducible refine Below.alloc ?_ (by first | omega | (simp; done) | (simp; omega)) _) | (with_reducible refine Below.drew ?_) | (with_reducible refine below_drewN ?_ _) | (with_reducible refine Below.trans ?_ (Below.mono (by assumption) (by first | omega | (simp; done) | (simp; omega))))))
  have hB : Below w.heap.size w wo := by (repeat' (first | (with_reducible exact Below.refl _ _) | (with_reducible refine Below.setCell ?_ (by first | omega | (simp; done) | (simp; omega)) _) | (with_reducible refine Below.alloc ?_ (by first | omega | (simp; done) | (simp; omega)) _) | (with_reducible refine Below.drew ?_) | (with_reducible refine below_drewN ?_ _) | (with_reducible refine Below.trans ?_ (Below.mono (by assumption) (by first | omega | (simp; done) | (simp; omega))))))
  obtain ⟨tg, tw, tr⟩ := blocks3x hb0
  obtain ⟨w0, hw0'⟩ : ∃ w0, w0 = ((wo.setCell ⟨w.heap.size, 0, none⟩ (.int .i64 W)).setCell ⟨w.heap.size, 1, none⟩ (.int .i64 H)).setCell ⟨w.heap.size, 2, none⟩ (.slice (some ⟨o, 0, none⟩) n co) := ⟨_, rfl⟩
  have hno : w.heap.size + 3 ≤ o := by omega
  have x0 : Ex (fun k => k = w.heap.size) wo w0 := by rw [hw0']; exact three_ex
  have TG : Hid (Three w0 w.heap.size 24 (.int .i64 W) (.int .i64 H) (.slice (some ⟨o, 0, none⟩) n co)) := Lib.hid (by rw [hw0']; exact tg.set)
  have TW : Hid (Two w0 (w.heap.size + 1) 27 (.slice (some ⟨bk, ok, none⟩) n ck) (.slice ab nb cb)) := Lib.hid ((x0.block _ tw.lt (by omega)).trans tw)
  have TR := Lib.hid (tr.ex x0 (by omega))
  have HRow := Lib.hid (Co.out.ex x0 (by omega))
  have HB := Lib.hid (hB.trans (x0.below hB.size (fun k hk => by omega)))
  rw [← hw0']
  clear hc hf hz hb hB hb0 tg tw tr x0 Co hw0' D HE
  go_loopw [13] (fun i wr => ∃ (k bb cc : Nat), k ≤ c ∧ i = .int .i64 k ∧ Hid (Three wr w.heap.size 24 (.int .i64 W) (.int .i64 H) (.slice (some ⟨bb, 0, none⟩) n cc) ∧ Row wr bb n (runG (fwdW W H K len R) t k G) ∧ Two wr (w.heap.size + 1) 27 (.slice (some ⟨bk, ok, none⟩) n ck) (.slice ab nb cb) ∧ Three wr (w.heap.size + 2) 24 (.int .i64 0) (.int .i64 0) (.slice none 0 0) ∧ Below w.heap.size w wr ∧ w.heap.size + 3 ≤ bb)) (fun i _ => c - (intOf i).toNat)
  case atStart => exact ⟨0, o, co, Nat.zero_le _, rfl, Lib.hid ⟨TG.out, HRow.out, TW.out, TR.out, HB.out, hno⟩⟩
  case round =>
    obtain ⟨k, bb, cc, hk, rfl, HH⟩ := hrel
    have hlg := HH.out.1.lt
    have k0 := HH.out.1.c0
    have k1 := HH.out.1.c1
    have k2 := HH.out.1.c2
    by_cases hlk : k < c
    · have hBr := HH.out.2.2.2.2.1
      have D1 := Lib.hid (fun w' (hb : Below wr.heap.size wr w') => rwstep1 W H n bb 0 cc bk ok ck ab nb cb K (runG (fwdW W H K len R) t k G) (R ((t + k) % len)).1 (R ((t + k) % len)).2 w' S.out (okG_runW S.out.n0 HKK.out HG.out) (HK.out.2.2 _ (Nat.mod_lt _ HK.out.1)) (Nat.lt_of_lt_of_le HH.out.2.1.1 hb.size) (HH.out.2.1.grd.below hb HH.out.2.1.1) HKK.out (Nat.lt_of_lt_of_le hbk (Nat.le_trans hBr.size hb.size)) ((HN.out.below hBr hbk).below hb (Nat.lt_of_lt_of_le hbk hBr.size)))
      have e1 : IntKind.i64.wrap ((t : Int) + (k : Int)) = (t : Int) + (k : Int) := IntWalk.i64_in _ ⟨by omega, by omega⟩
      have RL := Lib.hid (fun (z : Int) w' (hb : Below wr.heap.size wr w') (ez : z = ((t + k : Nat) : Int)) => refRuleI_int ro len rc (t + k) z R w' (HR.out.below (hBr.trans (hb.mono hBr.size))) HK.out (by omega) ez)
      clear hBr
      have g0 := HH.out.1.free 0
      have g1 := HH.out.1.free 1
      have g2 := HH.out.1.free 2
      have lw := HH.out.2.2.1.lt
      have w0 := HH.out.2.2.1.c0
      have w1 := HH.out.2.2.1.c1
      go_wp2
      go_region_with (first | (go_at_call 37; refine (RL.out _ _ (by (repeat' (first | (with_reducible exact Below.refl _ _) | (with_reducible refine Below.setCell ?_ (by first | omega | (simp; done) | (simp; omega)) _) | (with_reducible refine Below.alloc ?_ (by first | omega | (simp; done) | (simp; omega)) _) | (with_reducible refine Below.drew ?_) | (with_reducible refine below_drewN ?_ _) | (with_reducible refine Below.trans ?_ (Below.mono (by assumption) (by first | omega | (simp; done) | (simp; omega))))))) (by omega)).mono ?_; rintro e wq ⟨rfl, hbq⟩; obtain ⟨hcq, hfq, hzq⟩ := bcall hbq; (try simp at hcq hfq hzq)) | (go_at_call 36; (with_reducible refine (D1.out _ (by (repeat' (first | (with_reducible exact Below.refl _ _) | (with_reducible refine Below.setCell ?_ (by first | omega | (simp; done) | (simp; omega)) _) | (with_reducible refine Below.alloc ?_ (by first | omega | (simp; done) | (simp; omega)) _) | (with_reducible refine Below.drew ?_) | (with_reducible refine below_drewN ?_ _) | (with_reducible refine Below.trans ?_ (Below.mono (by assumption) (by first | omega | (simp; done) | (simp; omega)))))))).mono ?_); rintro e wp ⟨p, cp, rfl, hp, lop, hb⟩; have Cp := Lib.hid hp; clear hp; obtain ⟨hc, hf, hz⟩ := bcall hb; (try simp at hc hf hz lop)))
      all_goals
        have HX := Lib.hid (show Below wr.heap.size wr wp from by (repeat' (first | (with_reducible exact Below.refl _ _) | (with_reducible refine Below.setCell ?_ (by first | omega | (simp; done) | (simp; omega)) _) | (with_reducible refine Below.alloc ?_ (by first | omega | (simp; done) | (simp; omega)) _) | (with_reducible refine Below.drew ?_) | (with_reducible refine below_drewN ?_ _) | (with_reducible refine Below.trans ?_ (Below.mono (by assumption) (by first | omega | (simp; done) | (simp; omega)))))))
        have hpp : wr.heap.size ≤ p := by omega
        clear hc hf hb hcq hfq hbq k0 k1 k2 g0 g1 g2 D1 RL
        first | (rename_i Q9 K9 a9; refine a9 _ _ ?_) | (rename_i Q9 K9 a9 z1; refine a9 _ _ ?_) | (rename_i Q9 K9 a9 z1 z2; refine a9 _ _ ?_) | (rename_i Q9 K9 a9 z1 z2 z3; refine a9 _ _ ?_) | (rename_i Q9 K9 a9 z1 z2 z3 z4; refine a9 _ _ ?_)
        dsimp +zetaDelta only
        go_wp2
        go_roundw
        case rel =>
          obtain ⟨tg, hr, tw, tr, hB, hlo⟩ := HH.out
          exact ⟨k + 1, p, cp, by omega, by go_num, Lib.hid (run_roundW tg tw tr hB HX.out Cp.out hpp)⟩
        case measure => simp [intOf]; omega
    · obtain rfl : c = k := by omega
      have p0 := HH.out.2.2.2.1.free 0
      have p1 := HH.out.2.2.2.1.free 1
      have p2 := HH.out.2.2.2.1.free 2
      have q0 := HH.out.2.2.2.1.c0
      have q1 := HH.out.2.2.2.1.c1
      have q2 := HH.out.2.2.2.1.c2
      go_wp2
      refine bodyPost_ret (v := .tuple #[.agg #[.int .i64 W, .int .i64 H, .slice (some ⟨bb, 0, none⟩) n cc], .int .i64 0]) (by simp [results, Tryd.results17, go_sem, ↓IntWalk.iteOmega, *]) rfl ?_
      exact made_pass HH.out.2.1.cellsIn HH.out.2.2.2.2.1 (by omega) (by have := HH.out.2.2.2.2.2; omega)

set_option maxRecDepth 100000 in
set_option maxHeartbeats 8000000 in
theorem rwundo_in (W H n cap b off bk ok ck : Nat) (ro : Option Addr) (len rc : Nat) (ab : Option Addr) (nb cb : Nat) (K : Nat → Int) (R : Nat → Int × Int) (G : Nat → Nat → Int) (t c : Nat) (w : World) (s : Sides W H n) (hG : OkG n G) (hlt : b < w.heap.size) (hC : Grd w b off n G) (hK : OkK n K) (hbk : bk < w.heap.size) (hN : NumsAt w bk ok n K) (hR : RulesIn w ro len R) (hk : OkRs len R) (hr : RunOk t c)
    (E : ∀ wx, Below w.heap.size w wx → Calls Tryd.prog 35 #[.agg #[.int .i64 W, .int .i64 H, .slice (some ⟨b, off, none⟩) n cap], .agg #[.slice (some ⟨bk, ok, none⟩) n ck, .slice (ab) nb cb], .slice ro len rc, .int .i64 t, .int .i64 c] wx fun e w' => e = .returned (.int .i64 0) ∧ Below wx.heap.size wx w') :
    Calls Tryd.prog 19 #[.agg #[.int .i64 W, .int .i64 H, .slice (some ⟨b, off, none⟩) n cap], .agg #[.slice (some ⟨bk, ok, none⟩) n ck, .slice (ab) nb cb], .slice ro len rc, .int .i64 t, .int .i64 c] w (Made W H n (undoR (bwdW W H K len R) t c G) w) := by
  have hn0 : 1 ≤ n := by
    rw [s.n0]
    exact Nat.mul_le_mul s.w0 s.h0
  have hn1 := s.n1
  have HE := Lib.hid E; clear E
  have D := Lib.hid (fun w' (hb : Below w.heap.size w w') => rCopy_any W H b off n cap G w' hn0 (by omega) (Nat.lt_of_lt_of_le hlt hb.size) (hC.below hb hlt))
  have hc' : c ≤ 1000 := by unfold RunOk at hr; omega
  have ht : t ≤ 1000000 := by unfold RunOk at hr; omega
  have S := Lib.hid s
  have HG := Lib.hid hG
  have HK := Lib.hid hk
  have HR := Lib.hid hR
  have HKK := Lib.hid hK
  have HN := Lib.hid hN
  clear hC hR hG s hk hr hK hN
  go_enter Tryd.func19, Tryd.ntmps19
  go_wp2_with (first | (go_at_call 35; (with_reducible refine (HE.out _ (by (repeat' (first | (with_reducible exact Below.refl _ _) | (with_reducible refine Below.setCell ?_ (by first | omega | (simp; done) | (simp; omega)) _) | (with_reducible refine Below.alloc ?_ (by first | omega | (simp; done) | (simp; omega)) _) | (with_reducible refine Below.drew ?_) | (with_reducible refine below_drewN ?_ _) | (with_reducible refine Below.trans ?_ (Below.mono (by assumption) (by first | omega | (simp; done) | (simp; omega)))))))).mono ?_); rintro e w1 ⟨rfl, hb⟩; obtain ⟨hc, hf, hz⟩ := bcall hb; (try simp at hc hf hz)) | (go_at_call 43; (with_reducible refine (D.out _ (by (repeat' (first | (with_reducible exact Below.refl _ _) | (with_reducible refine Below.setCell ?_ (by first | omega | (simp; done) | (simp; omega)) _) | (with_reducible refine Below.alloc ?_ (by first | omega | (simp; done) | (simp; omega)) _) | (with_reducible refine Below.drew ?_) | (with_reducible refine below_drewN ?_ _) | (with_reducible refine Below.trans ?_ (Below.mono (by assumption) (by first | omega | (simp; done) | (simp; omega)))))))).mono ?_); rintro e wo ⟨o, co, rfl, ho, loo, hb⟩; have Co := Lib.hid ho; clear ho; obtain ⟨hc, hf, hz⟩ := bcall hb; (try simp at hc hf hz loo)))
  have hb0 : Below (((w.alloc (.cells #[.int .i64 W, .int .i64 H, .slice (some ⟨b, off, none⟩) n cap] 24)).alloc (.cells #[.slice (some ⟨bk, ok, none⟩) n ck, .slice ab nb cb] 27)).alloc (.cells #[.int .i64 0, .int .i64 0, .slice none 0 0] 24)).heap.size (((w.alloc (.cells #[.int .i64 W, .int .i64 H, .slice (some ⟨b, off, none⟩) n cap] 24)).alloc (.cells #[.slice (some ⟨bk, ok, none⟩) n ck, .slice ab nb cb] 27)).alloc (.cells #[.int .i64 0, .int .i64 0, .slice none 0 0] 24)) wo := by (repeat' (first | (with_reducible exact Below.refl _ _) | (with_reducible refine Below.setCell ?_ (by first | omega | (simp; done) | (simp; omega)) _) | (with_reducible refine Below.alloc ?_ (by first | omega | (simp; done) | (simp; omega)) _) | (with_reducible refine Below.drew ?_) | (with_reducible refine below_drewN ?_ _) | (with_reducible refine Below.trans ?_ (Below.mono (by assumption) (by first | omega | (simp; done) | (simp; omega))))))
  have hB : Below w.heap.size w wo := by (repeat' (first | (with_reducible exact Below.refl _ _) | (with_reducible refine Below.setCell ?_ (by first | omega | (simp; done) | (simp; omega)) _) | (with_reducible refine Below.alloc ?_ (by first | omega | (simp; done) | (simp; omega)) _) | (with_reducible refine Below.drew ?_) | (with_reducible refine below_drewN ?_ _) | (with_reducible refine Below.trans ?_ (Below.mono (by assumption) (by first | omega | (simp; done) | (simp; omega))))))
  obtain ⟨tg, tw, tr⟩ := blocks3x hb0
  obtain ⟨w0, hw0'⟩ : ∃ w0, w0 = ((wo.setCell ⟨w.heap.size, 0, none⟩ (.int .i64 W)).setCell ⟨w.heap.size, 1, none⟩ (.int .i64 H)).setCell ⟨w.heap.size, 2, none⟩ (.slice (some ⟨o, 0, none⟩) n co) := ⟨_, rfl⟩
  have hno : w.heap.size + 3 ≤ o := by omega
  have x0 : Ex (fun k => k = w.heap.size) wo w0 := by rw [hw0']; exact three_ex
  have TG : Hid (Three w0 w.heap.size 24 (.int .i64 W) (.int .i64 H) (.slice (some ⟨o, 0, none⟩) n co)) := Lib.hid (by rw [hw0']; exact tg.set)
  have TW : Hid (Two w0 (w.heap.size + 1) 27 (.slice (some ⟨bk, ok, none⟩) n ck) (.slice ab nb cb)) := Lib.hid ((x0.block _ tw.lt (by omega)).trans tw)
  have TR := Lib.hid (tr.ex x0 (by omega))
  have HRow := Lib.hid (Co.out.ex x0 (by omega))
  have HB := Lib.hid (hB.trans (x0.below hB.size (fun k hk => by omega)))
  rw [← hw0']
  clear hc hf hz hb hB hb0 tg tw tr x0 Co hw0' D HE
  go_loopw [13] (fun i wr => ∃ (k bb cc : Nat) (z : Int) (L : Nat → Nat → Int), k ≤ c ∧ z = (k : Int) - 1 ∧ i = .int .i64 z ∧ Hid (Three wr w.heap.size 24 (.int .i64 W) (.int .i64 H) (.slice (some ⟨bb, 0, none⟩) n cc) ∧ Row wr bb n L ∧ Two wr (w.heap.size + 1) 27 (.slice (some ⟨bk, ok, none⟩) n ck) (.slice ab nb cb) ∧ Three wr (w.heap.size + 2) 24 (.int .i64 0) (.int .i64 0) (.slice none 0 0) ∧ Below w.heap.size w wr ∧ w.heap.size + 3 ≤ bb) ∧ Hid (undoR (bwdW W H K len R) t k L = undoR (bwdW W H K len R) t c G ∧ OkG n L)) (fun i _ => (intOf i + 1).toNat)
  case atStart => exact ⟨c, o, co, (c : Int) - 1, G, Nat.le_refl _, rfl, rfl, Lib.hid ⟨TG.out, HRow.out, TW.out, TR.out, HB.out, hno⟩, Lib.hid ⟨rfl, HG.out⟩⟩
  case round =>
    obtain ⟨k, bb, cc, z, L, hk, hz, rfl, HH, HU⟩ := hrel
    have hlg := HH.out.1.lt
    have k0 := HH.out.1.c0
    have k1 := HH.out.1.c1
    have k2 := HH.out.1.c2
    by_cases hlk : 0 < k
    · obtain ⟨m, rfl⟩ : ∃ m, k = m + 1 := ⟨k - 1, by omega⟩
      obtain rfl : z = (m : Int) := by omega
      clear hz
      have hBr := HH.out.2.2.2.2.1
      have D1 := Lib.hid (fun w' (hb : Below wr.heap.size wr w') => rwback1 W H n bb 0 cc bk ok ck ab nb cb K L (R ((t + m) % len)).1 (R ((t + m) % len)).2 w' S.out HU.out.2 (HK.out.2.2 _ (Nat.mod_lt _ HK.out.1)) (Nat.lt_of_lt_of_le HH.out.2.1.1 hb.size) (HH.out.2.1.grd.below hb HH.out.2.1.1) HKK.out (Nat.lt_of_lt_of_le hbk (Nat.le_trans hBr.size hb.size)) ((HN.out.below hBr hbk).below hb (Nat.lt_of_lt_of_le hbk hBr.size)))
      have e1 : IntKind.i64.wrap ((t : Int) + (m : Int)) = (t : Int) + (m : Int) := IntWalk.i64_in _ ⟨by omega, by omega⟩
      have RL := Lib.hid (fun (z : Int) w' (hb : Below wr.heap.size wr w') (ez : z = ((t + m : Nat) : Int)) => refRuleI_int ro len rc (t + m) z R w' (HR.out.below (hBr.trans (hb.mono hBr.size))) HK.out (by omega) ez)
      clear hBr
      have g0 := HH.out.1.free 0
      have g1 := HH.out.1.free 1
      have g2 := HH.out.1.free 2
      have lw := HH.out.2.2.1.lt
      have w0 := HH.out.2.2.1.c0
      have w1 := HH.out.2.2.1.c1
      go_wp2
      go_region_with (first | (go_at_call 37; refine (RL.out _ _ (by (repeat' (first | (with_reducible exact Below.refl _ _) | (with_reducible refine Below.setCell ?_ (by first | omega | (simp; done) | (simp; omega)) _) | (with_reducible refine Below.alloc ?_ (by first | omega | (simp; done) | (simp; omega)) _) | (with_reducible refine Below.drew ?_) | (with_reducible refine below_drewN ?_ _) | (with_reducible refine Below.trans ?_ (Below.mono (by assumption) (by first | omega | (simp; done) | (simp; omega))))))) (by omega)).mono ?_; rintro e wq ⟨rfl, hbq⟩; obtain ⟨hcq, hfq, hzq⟩ := bcall hbq; (try simp at hcq hfq hzq)) | (go_at_call 39; (with_reducible refine (D1.out _ (by (repeat' (first | (with_reducible exact Below.refl _ _) | (with_reducible refine Below.setCell ?_ (by first | omega | (simp; done) | (simp; omega)) _) | (with_reducible refine Below.alloc ?_ (by first | omega | (simp; done) | (simp; omega)) _) | (with_reducible refine Below.drew ?_) | (with_reducible refine below_drewN ?_ _) | (with_reducible refine Below.trans ?_ (Below.mono (by assumption) (by first | omega | (simp; done) | (simp; omega)))))))).mono ?_); rintro e wp ⟨p, cp, rfl, hp, lop, hb⟩; have Cp := Lib.hid hp; clear hp; obtain ⟨hc, hf, hz⟩ := bcall hb; (try simp at hc hf hz lop)))
      all_goals
        have HX := Lib.hid (show Below wr.heap.size wr wp from by (repeat' (first | (with_reducible exact Below.refl _ _) | (with_reducible refine Below.setCell ?_ (by first | omega | (simp; done) | (simp; omega)) _) | (with_reducible refine Below.alloc ?_ (by first | omega | (simp; done) | (simp; omega)) _) | (with_reducible refine Below.drew ?_) | (with_reducible refine below_drewN ?_ _) | (with_reducible refine Below.trans ?_ (Below.mono (by assumption) (by first | omega | (simp; done) | (simp; omega)))))))
        have hpp : wr.heap.size ≤ p := by omega
        clear hc hf hb hcq hfq hbq k0 k1 k2 g0 g1 g2 D1 RL
        first | (rename_i Q9 K9 a9; refine a9 _ _ ?_) | (rename_i Q9 K9 a9 z1; refine a9 _ _ ?_) | (rename_i Q9 K9 a9 z1 z2; refine a9 _ _ ?_) | (rename_i Q9 K9 a9 z1 z2 z3; refine a9 _ _ ?_) | (rename_i Q9 K9 a9 z1 z2 z3 z4; refine a9 _ _ ?_)
        dsimp +zetaDelta only
        go_wp2
        go_roundw
        case rel =>
          obtain ⟨tg, hr, tw, tr, hB, hlo⟩ := HH.out
          exact ⟨m, p, cp, (m : Int) - 1, bwdW W H K len R (t + m) L, by omega, rfl, by go_num, Lib.hid (run_roundW tg tw tr hB HX.out Cp.out hpp), Lib.hid ⟨HU.out.1, okG_bwdW S.out.n0 HKK.out HU.out.2⟩⟩
        case measure => first | (simp [intOf]; done) | (simp [intOf]; omega)
    · obtain rfl : k = 0 := by omega
      have hz2 : z < 0 := by omega
      clear hz
      have p0 := HH.out.2.2.2.1.free 0
      have p1 := HH.out.2.2.2.1.free 1
      have p2 := HH.out.2.2.2.1.free 2
      have q0 := HH.out.2.2.2.1.c0
      have q1 := HH.out.2.2.2.1.c1
      have q2 := HH.out.2.2.2.1.c2
      go_wp2
      refine bodyPost_ret (v := .tuple #[.agg #[.int .i64 W, .int .i64 H, .slice (some ⟨bb, 0, none⟩) n cc], .int .i64 0]) (by simp [results, Tryd.results19, go_sem, ↓IntWalk.iteOmega, *]) rfl ?_
      have e : L = undoR (bwdW W H K len R) t c G := HU.out.1
      rw [← e]
      exact made_pass HH.out.2.1.cellsIn HH.out.2.2.2.2.1 (by omega) (by have := HH.out.2.2.2.2.2; omega)

set_option maxHeartbeats 4000000 in
theorem rwrun_err (W H : Int) (ao : Option Addr) (n cap : Nat) (ak : Option Addr) (nk ck : Nat) (ab : Option Addr) (nb cb : Nat) (ro : Option Addr) (len rc : Nat) (t c z : Int) (w : World) (hz : z ≠ 0) (E : ∀ wx, Below w.heap.size w wx → Calls Tryd.prog 35 #[.agg #[.int .i64 W, .int .i64 H, .slice (ao) n cap], .agg #[.slice (ak) nk ck, .slice (ab) nb cb], .slice ro len rc, .int .i64 t, .int .i64 c] wx fun e w' => e = .returned (.int .i64 z) ∧ Below wx.heap.size wx w') :
    Calls Tryd.prog 17 #[.agg #[.int .i64 W, .int .i64 H, .slice (ao) n cap], .agg #[.slice (ak) nk ck, .slice (ab) nb cb], .slice ro len rc, .int .i64 t, .int .i64 c] w fun e w' => e = .returned (.tuple #[.agg #[.int .i64 0, .int .i64 0, .slice (none) 0 0], .int .i64 z]) ∧ Below w.heap.size w w' := by
  have HE := Lib.hid E; clear E
  have e0 : (z == 0) = false := beq_eq_false_iff_ne.2 hz
  have e1 : (z != 0) = true := by simp [bne, e0]
  clear hz e0
  go_enter Tryd.func17, Tryd.ntmps17
  go_wp2_with (go_at_call 35; (with_reducible refine (HE.out _ (by (repeat' (first | (with_reducible exact Below.refl _ _) | (with_reducible refine Below.setCell ?_ (by first | omega | (simp; done) | (simp; omega)) _) | (with_reducible refine Below.alloc ?_ (by first | omega | (simp; done) | (simp; omega)) _) | (with_reducible refine Below.drew ?_) | (with_reducible refine below_drewN ?_ _) | (with_reducible refine Below.trans ?_ (Below.mono (by assumption) (by first | omega | (simp; done) | (simp; omega)))))))).mono ?_); rintro e w1 ⟨rfl, hb⟩; obtain ⟨hc, hf, hz⟩ := bcall hb; (try simp at hc hf hz))
  refine bodyPost_ret (v := .tuple #[.agg #[.int .i64 0, .int .i64 0, .slice (none) 0 0], .int .i64 z]) (by simp [results, Tryd.results17, go_sem, ↓IntWalk.iteOmega, *]) rfl ⟨rfl, ?_⟩
  (repeat' (first | (with_reducible exact Below.refl _ _) | (with_reducible refine Below.setCell ?_ (by first | omega | (simp; done) | (simp; omega)) _) | (with_reducible refine Below.alloc ?_ (by first | omega | (simp; done) | (simp; omega)) _) | (with_reducible refine Below.drew ?_) | (with_reducible refine below_drewN ?_ _) | (with_reducible refine Below.trans ?_ (Below.mono (by assumption) (by first | omega | (simp; done) | (simp; omega))))))

set_option maxHeartbeats 4000000 in
theorem rwundo_err (W H : Int) (ao : Option Addr) (n cap : Nat) (ak : Option Addr) (nk ck : Nat) (ab : Option Addr) (nb cb : Nat) (ro : Option Addr) (len rc : Nat) (t c z : Int) (w : World) (hz : z ≠ 0) (E : ∀ wx, Below w.heap.size w wx → Calls Tryd.prog 35 #[.agg #[.int .i64 W, .int .i64 H, .slice (ao) n cap], .agg #[.slice (ak) nk ck, .slice (ab) nb cb], .slice ro len rc, .int .i64 t, .int .i64 c] wx fun e w' => e = .returned (.int .i64 z) ∧ Below wx.heap.size wx w') :
    Calls Tryd.prog 19 #[.agg #[.int .i64 W, .int .i64 H, .slice (ao) n cap], .agg #[.slice (ak) nk ck, .slice (ab) nb cb], .slice ro len rc, .int .i64 t, .int .i64 c] w fun e w' => e = .returned (.tuple #[.agg #[.int .i64 0, .int .i64 0, .slice (none) 0 0], .int .i64 z]) ∧ Below w.heap.size w w' := by
  have HE := Lib.hid E; clear E
  have e0 : (z == 0) = false := beq_eq_false_iff_ne.2 hz
  have e1 : (z != 0) = true := by simp [bne, e0]
  clear hz e0
  go_enter Tryd.func19, Tryd.ntmps19
  go_wp2_with (go_at_call 35; (with_reducible refine (HE.out _ (by (repeat' (first | (with_reducible exact Below.refl _ _) | (with_reducible refine Below.setCell ?_ (by first | omega | (simp; done) | (simp; omega)) _) | (with_reducible refine Below.alloc ?_ (by first | omega | (simp; done) | (simp; omega)) _) | (with_reducible refine Below.drew ?_) | (with_reducible refine below_drewN ?_ _) | (with_reducible refine Below.trans ?_ (Below.mono (by assumption) (by first | omega | (simp; done) | (simp; omega)))))))).mono ?_); rintro e w1 ⟨rfl, hb⟩; obtain ⟨hc, hf, hz⟩ := bcall hb; (try simp at hc hf hz))
  refine bodyPost_ret (v := .tuple #[.agg #[.int .i64 0, .int .i64 0, .slice (none) 0 0], .int .i64 z]) (by simp [results, Tryd.results19, go_sem, ↓IntWalk.iteOmega, *]) rfl ⟨rfl, ?_⟩
  (repeat' (first | (with_reducible exact Below.refl _ _) | (with_reducible refine Below.setCell ?_ (by first | omega | (simp; done) | (simp; omega)) _) | (with_reducible refine Below.alloc ?_ (by first | omega | (simp; done) | (simp; omega)) _) | (with_reducible refine Below.drew ?_) | (with_reducible refine below_drewN ?_ _) | (with_reducible refine Below.trans ?_ (Below.mono (by assumption) (by first | omega | (simp; done) | (simp; omega))))))

set_option maxHeartbeats 4000000 in
theorem rwstep_err (W H : Int) (ao : Option Addr) (n cap : Nat) (ak : Option Addr) (nk ck : Nat) (ab : Option Addr) (nb cb : Nat) (ro : Option Addr) (len rc : Nat) (t z : Int) (w : World) (hz : z ≠ 0) (E : ∀ wx, Below w.heap.size w wx → Calls Tryd.prog 35 #[.agg #[.int .i64 W, .int .i64 H, .slice (ao) n cap], .agg #[.slice (ak) nk ck, .slice (ab) nb cb], .slice ro len rc, .int .i64 t, .int .i64 1] wx fun e w' => e = .returned (.int .i64 z) ∧ Below wx.heap.size wx w') :
    Calls Tryd.prog 12 #[.agg #[.int .i64 W, .int .i64 H, .slice (ao) n cap], .agg #[.slice (ak) nk ck, .slice (ab) nb cb], .slice ro len rc, .int .i64 t] w fun e w' => e = .returned (.tuple #[.agg #[.int .i64 0, .int .i64 0, .slice (none) 0 0], .int .i64 z]) ∧ Below w.heap.size w w' := by
  have HE := Lib.hid E; clear E
  have e0 : (z == 0) = false := beq_eq_false_iff_ne.2 hz
  have e1 : (z != 0) = true := by simp [bne, e0]
  clear hz e0
  go_enter Tryd.func12, Tryd.ntmps12
  go_wp2_with (go_at_call 35; (with_reducible refine (HE.out _ (by (repeat' (first | (with_reducible exact Below.refl _ _) | (with_reducible refine Below.setCell ?_ (by first | omega | (simp; done) | (simp; omega)) _) | (with_reducible refine Below.alloc ?_ (by first | omega | (simp; done) | (simp; omega)) _) | (with_reducible refine Below.drew ?_) | (with_reducible refine below_drewN ?_ _) | (with_reducible refine Below.trans ?_ (Below.mono (by assumption) (by first | omega | (simp; done) | (simp; omega)))))))).mono ?_); rintro e w1 ⟨rfl, hb⟩; obtain ⟨hc, hf, hz⟩ := bcall hb; (try simp at hc hf hz))
  refine bodyPost_ret (v := .tuple #[.agg #[.int .i64 0, .int .i64 0, .slice (none) 0 0], .int .i64 z]) (by simp [results, Tryd.results12, go_sem, ↓IntWalk.iteOmega, *]) rfl ⟨rfl, ?_⟩
  (repeat' (first | (with_reducible exact Below.refl _ _) | (with_reducible refine Below.setCell ?_ (by first | omega | (simp; done) | (simp; omega)) _) | (with_reducible refine Below.alloc ?_ (by first | omega | (simp; done) | (simp; omega)) _) | (with_reducible refine Below.drew ?_) | (with_reducible refine below_drewN ?_ _) | (with_reducible refine Below.trans ?_ (Below.mono (by assumption) (by first | omega | (simp; done) | (simp; omega))))))

set_option maxHeartbeats 4000000 in
theorem rwback_err (W H : Int) (ao : Option Addr) (n cap : Nat) (ak : Option Addr) (nk ck : Nat) (ab : Option Addr) (nb cb : Nat) (ro : Option Addr) (len rc : Nat) (t z : Int) (w : World) (hz : z ≠ 0) (E : ∀ wx, Below w.heap.size w wx → Calls Tryd.prog 35 #[.agg #[.int .i64 W, .int .i64 H, .slice (ao) n cap], .agg #[.slice (ak) nk ck, .slice (ab) nb cb], .slice ro len rc, .int .i64 t, .int .i64 1] wx fun e w' => e = .returned (.int .i64 z) ∧ Below wx.heap.size wx w') :
    Calls Tryd.prog 15 #[.agg #[.int .i64 W, .int .i64 H, .slice (ao) n cap], .agg #[.slice (ak) nk ck, .slice (ab) nb cb], .slice ro len rc, .int .i64 t] w fun e w' => e = .returned (.tuple #[.agg #[.int .i64 0, .int .i64 0, .slice (none) 0 0], .int .i64 z]) ∧ Below w.heap.size w w' := by
  have HE := Lib.hid E; clear E
  have e0 : (z == 0) = false := beq_eq_false_iff_ne.2 hz
  have e1 : (z != 0) = true := by simp [bne, e0]
  clear hz e0
  go_enter Tryd.func15, Tryd.ntmps15
  go_wp2_with (go_at_call 35; (with_reducible refine (HE.out _ (by (repeat' (first | (with_reducible exact Below.refl _ _) | (with_reducible refine Below.setCell ?_ (by first | omega | (simp; done) | (simp; omega)) _) | (with_reducible refine Below.alloc ?_ (by first | omega | (simp; done) | (simp; omega)) _) | (with_reducible refine Below.drew ?_) | (with_reducible refine below_drewN ?_ _) | (with_reducible refine Below.trans ?_ (Below.mono (by assumption) (by first | omega | (simp; done) | (simp; omega)))))))).mono ?_); rintro e w1 ⟨rfl, hb⟩; obtain ⟨hc, hf, hz⟩ := bcall hb; (try simp at hc hf hz))
  refine bodyPost_ret (v := .tuple #[.agg #[.int .i64 0, .int .i64 0, .slice (none) 0 0], .int .i64 z]) (by simp [results, Tryd.results15, go_sem, ↓IntWalk.iteOmega, *]) rfl ⟨rfl, ?_⟩
  (repeat' (first | (with_reducible exact Below.refl _ _) | (with_reducible refine Below.setCell ?_ (by first | omega | (simp; done) | (simp; omega)) _) | (with_reducible refine Below.alloc ?_ (by first | omega | (simp; done) | (simp; omega)) _) | (with_reducible refine Below.drew ?_) | (with_reducible refine below_drewN ?_ _) | (with_reducible refine Below.trans ?_ (Below.mono (by assumption) (by first | omega | (simp; done) | (simp; omega))))))
end Go.Proofs.YtnpmlbhlchoolaaDoor
