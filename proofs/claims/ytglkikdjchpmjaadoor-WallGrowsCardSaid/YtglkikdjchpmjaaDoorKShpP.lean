/- Shapes of walls: the closures, by the program. -/
import Derived.Test.YtglkikdjchpmjaaDoorKDiscM
import Derived.Test.YtglkikdjchpmjaaDoorKRules
import Derived.BigQuiet
import Derived.Test.YtglkikdjchpmjaaDoorKSeqW
import Derived.Deep.RegionHeld3
import Derived.Test.YtglkikdjchpmjaaDoorKChecks
import Derived.Test.YtglkikdjchpmjaaDoorKBase
namespace Go.Proofs.YtglkikdjchpmjaaDoor
set_option linter.unusedSimpArgs false
set_option linter.unusedVariables false
open Go.RowKit

theorem sq_bd {u : Int} (h0 : -5000 ≤ u) (h1 : u ≤ 5000) : 0 ≤ u * u ∧ u * u ≤ 25000000 := by
  have e : ((u.natAbs * u.natAbs : Nat) : Int) = u * u := Int.natAbs_mul_self
  have b : u.natAbs * u.natAbs ≤ 5000 * 5000 := Nat.mul_le_mul (by omega) (by omega)
  omega

set_option maxRecDepth 100000 in
set_option maxHeartbeats 4000000 in
theorem disc1_in (px py q x y : Int) (Bc Bq : Nat) (w : World) (x0 : -2 ≤ x) (x1 : x ≤ 1100) (y0 : -2 ≤ y) (y1 : y ≤ 1100) (p0 : 0 ≤ px) (p1 : px ≤ 64) (r0 : 0 ≤ py) (r1 : py ≤ 64) (lc : Bc < w.heap.size) (lq : Bq < w.heap.size)
    (c0 : w.cell? ⟨Bc, 0, none⟩ = some (.int .i64 px)) (c1 : w.cell? ⟨Bc, 1, none⟩ = some (.int .i64 py)) (c2 : w.cell? ⟨Bq, 0, none⟩ = some (.int .i64 q)) :
    Calls Tryd.prog 139 #[.agg #[.int .i64 x, .int .i64 y], .pointer (some ⟨Bc, 0, none⟩), .pointer (some ⟨Bq, 0, none⟩)] w fun e w' => e = .returned (.bool (inD px py q x y)) ∧ Below w.heap.size w w' := by
  have b1 := sq_bd (u := x - px) (by omega) (by omega)
  have b2 := sq_bd (u := y - py) (by omega) (by omega)
  have s0 : IntKind.i64.wrap (x - px) = x - px := IntWalk.i64_in _ ⟨by omega, by omega⟩
  have s1 : IntKind.i64.wrap (y - py) = y - py := IntWalk.i64_in _ ⟨by omega, by omega⟩
  have s2 : IntKind.i64.wrap ((x - px) * (x - px)) = (x - px) * (x - px) := IntWalk.i64_in _ ⟨by omega, by omega⟩
  have s3 : IntKind.i64.wrap ((y - py) * (y - py)) = (y - py) * (y - py) := IntWalk.i64_in _ ⟨by omega, by omega⟩
  have s4 : IntKind.i64.wrap ((x - px) * (x - px) + (y - py) * (y - py)) = (x - px) * (x - px) + (y - py) * (y - py) := IntWalk.i64_in _ ⟨by omega, by omega⟩
  clear b1 b2 x0 x1 y0 y1 p0 p1 r0 r1
  go_enter Tryd.func139, Tryd.ntmps139
  go_wp2
  go_quiet (fail)
  go_wp2
  go_ret
  refine ⟨rfl, ?_⟩
  (repeat' (first | (with_reducible exact Below.refl _ _) | (with_reducible refine Below.setCell ?_ (by first | omega | (simp; done) | (simp; omega)) _) | (with_reducible refine Below.alloc ?_ (by first | omega | (simp; done) | (simp; omega)) _) | (with_reducible refine Below.drew ?_) | (with_reducible refine below_drewN ?_ _) | (with_reducible refine Below.trans ?_ (Below.mono (by assumption) (by first | omega | (simp; done) | (simp; omega))))))
theorem all1_in (k x y : Int) (Bk : Nat) (w : World) (lk : Bk < w.heap.size) (c0 : w.cell? ⟨Bk, 0, none⟩ = some (.int .i64 k)) :
    Calls Tryd.prog 140 #[.agg #[.int .i64 x, .int .i64 y], .pointer (some ⟨Bk, 0, none⟩)] w fun e w' => e = .returned (.int .i64 k) ∧ Below w.heap.size w w' := by
  go_enter Tryd.func140, Tryd.ntmps140
  go_wp2
  go_ret
  refine ⟨rfl, ?_⟩
  (repeat' (first | (with_reducible exact Below.refl _ _) | (with_reducible refine Below.setCell ?_ (by first | omega | (simp; done) | (simp; omega)) _) | (with_reducible refine Below.alloc ?_ (by first | omega | (simp; done) | (simp; omega)) _) | (with_reducible refine Below.drew ?_) | (with_reducible refine below_drewN ?_ _) | (with_reducible refine Below.trans ?_ (Below.mono (by assumption) (by first | omega | (simp; done) | (simp; omega))))))
theorem discF_in (px py q : Int) (w : World) :
    Calls Tryd.prog 69 #[.agg #[.int .i64 px, .int .i64 py], .int .i64 q] w fun e w' => e = .returned (.func (.func 139) #[] #[.pointer (some ⟨w.heap.size, 0, none⟩), .pointer (some ⟨w.heap.size + 1, 0, none⟩)]) ∧ w' = (w.alloc (.cells #[.int .i64 px, .int .i64 py] 31)).alloc (.cells #[.int .i64 q] 3) := by
  go_enter Tryd.func69, Tryd.ntmps69
  go_wp2
  go_ret
  exact ⟨rfl, rfl⟩
theorem allF_in (k : Int) (w : World) :
    Calls Tryd.prog 70 #[.int .i64 k] w fun e w' => e = .returned (.func (.func 140) #[] #[.pointer (some ⟨w.heap.size, 0, none⟩)]) ∧ w' = w.alloc (.cells #[.int .i64 k] 3) := by
  go_enter Tryd.func70, Tryd.ntmps70
  go_wp2
  go_ret
  exact ⟨rfl, rfl⟩
end Go.Proofs.YtglkikdjchpmjaaDoor

/- The points of a grid that lie in a shape, one after another: by the program. -/



namespace Go.Proofs.YtglkikdjchpmjaaDoor
set_option linter.unusedSimpArgs false
set_option linter.unusedVariables false
open Go.RowKit Go.Shelf

theorem grown_of_below {w w' : World} (h : Below w.heap.size w w') : w.grownBy w' none := ⟨h.os, h.tape, h.output, h.size, fun k hk _ => h.block k hk⟩
/-- Whether the cells of a grid lie in a shape, as numbers. -/
def inN (W : Nat) (f : Int → Int → Bool) (i : Nat) : Int := if f ((i % W : Nat) : Int) ((i / W : Nat) : Int) = true then 1 else 0

set_option maxRecDepth 100000 in
set_option maxHeartbeats 8000000 in
theorem pts1_in (n : Nat) (hn : 1 ≤ n) (l Bg Bi W H N : Nat) (fn0 : Nat) (cs : Array Value) (f : Int → Int → Bool) (ao : Option Addr) (ca : Nat) (S : Nat → Prop) (hS1 : S Bg) (hS2 : S Bi) (hN : N = W * H) (hN1 : N ≤ 1024) (hW : 1 ≤ W) (hW1 : W ≤ 64)
    (J Jx : List Nat → World → Prop) (w : World) (hSl : ∀ k, S k → k < w.heap.size) (hJ : AbidesFrom w.heap.size J)
    (eF : ∀ args w, (callFunc fn0 args).run Tryd.prog w = .ok (.enter fn0 args) w)
    (hF : ∀ wx (x y : Nat), KB S w wx → x < W → y < H → Calls Tryd.prog fn0 (#[.agg #[.int .i64 ((x : Int)), .int .i64 ((y : Int))]] ++ cs) wx fun e w' => e = .returned (.bool (f x y)) ∧ Below wx.heap.size wx w')
    (hY : ∀ pre x W1, J pre W1 → pre.length < N → pre ++ [x] <+: ownN (inN W f) 1 N → YieldAt Fence.wide (n - 1) Tryd.prog l #[.agg #[.int .i64 (((x % W : Nat) : Int)), .int .i64 (((x / W : Nat) : Int))]] W1 fun e W' =>
      (e = .returned (.bool true) ∧ J (pre ++ [x]) W' ∧ KB S W1 W') ∨ (e = .returned (.bool false) ∧ Jx (pre ++ [x]) W'))
    (c0 : w.cell? ⟨Bg, 0, none⟩ = some (.int .i64 W)) (c2 : w.cell? ⟨Bg, 2, none⟩ = some (.slice ao N ca)) (ci : w.cell? ⟨Bi, 0, none⟩ = some (.func (.func fn0) #[] cs)) (h0 : J [] w) :
    CallsIn Fence.wide n Tryd.prog 179 #[.func (.yield l) #[] #[], .pointer (some ⟨Bg, 0, none⟩), .pointer (some ⟨Bi, 0, none⟩)] w fun e W' => (∃ v, e = .returned v) ∧
      ((∃ ys, ys = ownN (inN W f) 1 N ∧ J ys W') ∨ (∃ pre, pre <+: ownN (inN W f) 1 N ∧ Jx pre W')) := by
  have HF := Lib.hid hF; clear hF
  have HNN := Lib.hid hN; clear hN
  refine callsIn_of_wp Tryd.func179 rfl trivial ?_ rfl
  simp only [Tryd.ntmps179, List.size_toArray, List.length_cons, List.length_nil, Nat.reduceAdd, Nat.reduceSub, Array.replicate_succ, Array.replicate_zero, List.push_toArray, List.append_toArray, List.nil_append, List.cons_append]
  gi_wp2
  have kb0 : KB S w w := ⟨Nat.le_refl _, fun _ _ => rfl⟩
  have e0 : ((W : Int) == 0) = false := beq_eq_false_iff_ne.2 (by omega)
  gi_loopw [9] (fun i wr => ∃ k : Nat, k ≤ N ∧ i = .int .i64 k ∧ J (ownN (inN W f) 1 k) wr ∧ KB S w wr) (fun i _ => N - (intOf i).toNat)
  case atStart => exact ⟨0, Nat.zero_le _, rfl, h0, kb0⟩
  case round =>
    obtain ⟨k, hk, rfl, hJs, hnx⟩ := hrel
    by_cases hlk : k < N
    · have d0 := (hnx.cell hS1).trans c0
      have p0 : (0 : Int) ≤ (k : Int) := by omega
      have p1 : (k : Int) < (N : Int) := by omega
      obtain ⟨x, hx⟩ : ∃ x, x = k % W := ⟨_, rfl⟩
      obtain ⟨y, hy⟩ : ∃ y, y = k / W := ⟨_, rfl⟩
      have tm : (k : Int).tmod (W : Int) = (x : Int) := by rw [Int.tmod_eq_emod_of_nonneg (by omega), hx]; rfl
      have td : (k : Int).tdiv (W : Int) = (y : Int) := by rw [Int.tdiv_eq_ediv_of_nonneg (by omega), hy]; rfl
      have hxl : x < W := by rw [hx]; exact Nat.mod_lt _ (by omega)
      have hy5 : y ≤ k := by rw [hy]; exact Nat.div_le_self _ _
      have hyl : y < H := by
        rw [hy]
        rw [HNN.out] at hlk
        exact Nat.div_lt_of_lt_mul hlk
      have wne : ¬ W = 0 := by omega
      have e3 : IntKind.i64.wrap (y : Int) = (y : Int) := IntWalk.i64_in _ ⟨by omega, by omega⟩
      have e4 : IntKind.i64.wrap (x : Int) = (x : Int) := IntWalk.i64_in _ ⟨by omega, by omega⟩
      have lBg := hSl Bg hS1
      have hws := hnx.1
      have HSL := Lib.hid hSl
      have HX := Lib.hid hx
      have HY := Lib.hid hy
      clear hx hy
      gi_wp2
      refine wpIn_wide.2 ?_
      go_region_held3 (fun w' => w'.cell? ⟨Bg, 0, none⟩ = some (.int .i64 W)) (first | (go_split_ands; (try dsimp only); (first | (with_reducible assumption) | (with_reducible exact keep_cell (by assumption) (by first | omega | (simp; done) | (simp; omega)) (by assumption)) | (with_reducible exact (World.cell?_alloc_past _ _ _ (by show _ < _; omega)).trans (by assumption)) | (with_reducible exact (World.cell?_alloc_past _ _ _ (by show _ < _; omega)).trans ((World.cell?_alloc_past _ _ _ (by show _ < _; omega)).symm.trans (by assumption))) | (simp [go_sem]; with_reducible assumption))) | (simp [go_sem, ↓IntWalk.iteOmega, *]; done)) (fail)
      obtain ⟨w2, hw2⟩ : ∃ w2, w2 = (wr.alloc (.cells #[.int .i64 x, .int .i64 y] 31)).drew := ⟨_, rfl⟩
      have hb2 : Below wr.heap.size wr w2 := by rw [hw2]; exact ((Below.refl _ _).alloc (Nat.le_refl _) _).drew
      have q0 : w2.cell? ⟨wr.heap.size, 0, none⟩ = some (.int .i64 x) := by rw [hw2]; exact (Two.new wr 31 (.int .i64 x) (.int .i64 y)).c0
      have q1 : w2.cell? ⟨wr.heap.size, 1, none⟩ = some (.int .i64 y) := by rw [hw2]; exact (Two.new wr 31 (.int .i64 x) (.int .i64 y)).c1
      have lq : wr.heap.size < w2.heap.size := by rw [hw2]; simp [World.drew]
      have k2 : KB S wr w2 := KB.of_below hb2 (fun k hk => by have := HSL.out k hk; omega)
      have d1 := (((hnx.trans k2).cell hS2)).trans ci
      have HK := Lib.hid hnx
      rw [← hw2]
      rename_i hHeld
      clear hHeld hw2
      gi_wp2
      refine ⟨trivial, ?_⟩
      refine (callsIn_wide.2 (HF.out w2 x y (hnx.trans k2) hxl hyl)).mono ?_
      rintro e w3 ⟨rfl, hb3⟩
      have k3 : KB S wr w3 := k2.trans (KB.of_below hb3 (fun k hk => by have := HSL.out k hk; omega))
      have hJ3 : J (ownN (inN W f) 1 k) w3 := hJ _ wr w3 none hJs (grown_of_below (hb2.trans (hb3.mono hb2.size))) (by simp)
      have r0 := keep_cell hb3 lq q0
      have r1 := keep_cell hb3 lq q1
      clear q0 q1 d1 k2
      obtain ⟨t, ht⟩ : ∃ t, t = f x y := ⟨_, rfl⟩
      rw [← ht]
      have HT := Lib.hid ht
      clear ht
      cases t
      · have ho : ownN (inN W f) 1 (k + 1) = ownN (inN W f) 1 k := by
          simp only [ownN]
          rw [if_neg (by unfold inN; rw [← HX.out, ← HY.out, ← HT.out]; simp)]
        have HO := Lib.hid ho; clear ho
        have HJ3 := Lib.hid hJ3
        have HK3 := Lib.hid k3
        clear hJ3 k3 hJs hnx hb2 hb3
        gi_wp2
        refine ⟨(fun f hf => nomatch hf), ?_⟩
        gi_wp2
        go_roundw
        case rel => exact ⟨k + 1, by omega, by go_num, by rw [HO.out]; exact HJ3.out, HK.out.trans HK3.out⟩
        case measure => simp [intOf]; omega
      · have hi1 : inN W f k = 1 := by unfold inN; rw [← HX.out, ← HY.out, ← HT.out]; simp
        have ho : ownN (inN W f) 1 (k + 1) = ownN (inN W f) 1 k ++ [k] := by simp only [ownN]; rw [if_pos hi1]
        have hpre : ownN (inN W f) 1 k ++ [k] <+: ownN (inN W f) 1 N := by rw [← ho]; exact ownN_pre (inN W f) 1 (by omega)
        have hlen : (ownN (inN W f) 1 k).length < N := by rw [ownN_len]; have := cntB_le (inN W f) 1 k; omega
        have hyy := hY _ k w3 hJ3 hlen hpre
        rw [← HX.out, ← HY.out] at hyy
        obtain ⟨fn, tmps, assign, body, hy, hRd⟩ := hyy
        have HPRE := Lib.hid hpre; clear hpre
        have HO := Lib.hid ho; clear ho
        have hRd := hRd.mono (R' := RoundDone (fun W' => J (ownN (inN W f) 1 k ++ [k]) W' ∧ KB S w3 W') (Jx (ownN (inN W f) 1 k ++ [k]))) (fun _ _ h => roundDone h)
        have HK3 := Lib.hid k3
        clear hJ3 k3 hJs hnx hb2 hb3 hi1
        gi_wp2
        refine hRd.mono ?_
        rintro e W3 ⟨bb, rfl, hh⟩
        rcases hh with ⟨rfl, hJ4, hk4⟩ | ⟨rfl, hx4⟩
        · gi_wp2
          go_roundw
          case rel => exact ⟨k + 1, by omega, by go_num, by rw [HO.out]; exact hJ4, (HK.out.trans HK3.out).trans hk4⟩
          case measure => simp [intOf]; omega
        · gi_wp2
          refine bodyPost_ret (results_none rfl _ _ _) rfl ?_
          exact ⟨⟨_, rfl⟩, .inr ⟨_, HPRE.out, hx4⟩⟩
    · obtain rfl : k = N := by omega
      gi_wp2
      go_end0
      exact ⟨⟨_, rfl⟩, .inl ⟨_, rfl, hJs⟩⟩

/-- A cell of a shape. -/
abbrev PtW (N : Nat) := CelW N
theorem pts_stops (n : Nat) (hn : 1 ≤ n) (Bg Bi W H N : Nat) (fn0 : Nat) (cs : Array Value) (f : Int → Int → Bool) (ao : Option Addr) (ca : Nat) (S : Nat → Prop) (hS1 : S Bg) (hS2 : S Bi) (hN : N = W * H) (hN1 : N ≤ 1024) (hW : 1 ≤ W) (hW1 : W ≤ 64) (w : World) (hSl : ∀ k, S k → k < w.heap.size)
    (eF : ∀ args w, (callFunc fn0 args).run Tryd.prog w = .ok (.enter fn0 args) w)
    (hF : ∀ wx (x y : Nat), KB S w wx → x < W → y < H → Calls Tryd.prog fn0 (#[.agg #[.int .i64 ((x : Int)), .int .i64 ((y : Int))]] ++ cs) wx fun e w' => e = .returned (.bool (f x y)) ∧ Below wx.heap.size wx w')
    (c0 : w.cell? ⟨Bg, 0, none⟩ = some (.int .i64 W)) (c2 : w.cell? ⟨Bg, 2, none⟩ = some (.slice ao N ca)) (ci : w.cell? ⟨Bi, 0, none⟩ = some (.func (.func fn0) #[] cs)) :
    SeqStopsK Fence.wide n Tryd.prog 179 #[.pointer (some ⟨Bg, 0, none⟩), .pointer (some ⟨Bi, 0, none⟩)] (fun x : CelW N => #[.agg #[.int .i64 (((x.1 % W : Nat) : Int)), .int .i64 (((x.1 / W : Nat) : Int))]]) (KB S)
      (fun ys => ys.map (·.1) = ownN (inN W f) 1 N) (fun pre => pre.map (·.1) <+: ownN (inN W f) 1 N) N w := fun l J Jx W' hW' hJ hJx hY h0 =>
  (pts1_in n hn l Bg Bi W H N fn0 cs f ao ca S hS1 hS2 hN hN1 hW hW1 (fun L X => ∃ l' : List (CelW N), l'.map (·.1) = L ∧ J l' X) (fun L X => ∃ l' : List (CelW N), l'.map (·.1) = L ∧ Jx l' X) W' (fun k hk => Nat.lt_of_lt_of_le (hSl k hk) hW'.size)
    (fun L A B row h hg hr => by
      obtain ⟨l', e, hj⟩ := h
      exact ⟨l', e, hJ _ _ _ _ hj hg hr⟩)
    eF (fun wx x y hk hx hy => hF wx x y ((KB.of_below hW' hSl).trans hk) hx hy)
    (fun pre x W1 hj hlen hpre => by
      obtain ⟨l', e, hj⟩ := hj
      have hx2 : x < N := (ownN_mem (hpre.subset (by simp))).1
      obtain ⟨fn, tmps, assign, body, hy, hRd⟩ := hY l' ⟨x, hx2⟩ W1 hj (by rw [← e] at hlen; simpa using hlen)
      refine ⟨fn, tmps, assign, body, hy, hRd.mono fun e2 W2 h => ?_⟩
      rcases h with ⟨h1, h2, h3⟩ | ⟨h1, h2⟩
      · exact .inl ⟨h1, ⟨l' ++ [⟨x, hx2⟩], by simp [e], h2⟩, h3⟩
      · exact .inr ⟨h1, ⟨l' ++ [⟨x, hx2⟩], by simp [e], h2⟩⟩)
    ((hW'.cell (p := ⟨Bg, 0, none⟩) (hSl _ hS1)).trans c0) ((hW'.cell (p := ⟨Bg, 2, none⟩) (hSl _ hS1)).trans c2) ((hW'.cell (p := ⟨Bi, 0, none⟩) (hSl _ hS2)).trans ci) ⟨[], rfl, h0⟩).mono fun e W2 h => by
    obtain ⟨hv, h⟩ := h
    refine ⟨hv, ?_⟩
    rcases h with ⟨ys, hy, l', e, hj⟩ | ⟨pre, hp, l', e, hj⟩
    · exact .inl ⟨l', by show l'.map (·.1) = _; rw [e, hy], hj⟩
    · exact .inr ⟨l', by show l'.map (·.1) <+: _; rw [e]; exact hp, hj⟩

theorem ptsF_in (W H : Int) (ao : Option Addr) (n cap : Nat) (fn0 : Nat) (cs : Array Value) (w : World) :
    Calls Tryd.prog 138 #[.agg #[.int .i64 W, .int .i64 H, .slice (ao) n cap], .func (.func fn0) #[] cs] w fun e w' => e = .returned (.func (.func 179) #[] #[.pointer (some ⟨w.heap.size, 0, none⟩), .pointer (some ⟨w.heap.size + 1, 0, none⟩)]) ∧ w' = (w.alloc (.cells #[.int .i64 W, .int .i64 H, .slice ao n cap] 24)).alloc (.cells #[.func (.func fn0) #[] cs] 94) := by
  go_enter Tryd.func138, Tryd.ntmps138
  go_wp2
  go_ret
  exact ⟨rfl, rfl⟩
end Go.Proofs.YtglkikdjchpmjaaDoor

/- Smooth shapes of walls: the closures, by the program. -/



namespace Go.Proofs.YtglkikdjchpmjaaDoor
set_option linter.unusedSimpArgs false
set_option linter.unusedVariables false
open Go.RowKit

set_option maxRecDepth 100000 in
set_option maxHeartbeats 4000000 in
theorem smo1_in (W H x y : Int) (ao : Option Addr) (n cap : Nat) (f : Int → Int → Bool) (fn0 : Nat) (cs : Array Value) (Bg Bi : Nat) (w : World) (lg : Bg < w.heap.size) (li : Bi < w.heap.size)
    (c0 : w.cell? ⟨Bg, 0, none⟩ = some (.int .i64 W)) (c1 : w.cell? ⟨Bg, 1, none⟩ = some (.int .i64 H)) (c2 : w.cell? ⟨Bg, 2, none⟩ = some (.slice ao n cap)) (ci : w.cell? ⟨Bi, 0, none⟩ = some (.func (.func fn0) #[] cs))
    (eF : ∀ args w, (callFunc fn0 args).run Tryd.prog w = .ok (.enter fn0 args) w)
    (hF : ∀ wx, Below w.heap.size w wx → OnG W H x y → Calls Tryd.prog fn0 (#[.agg #[.int .i64 x, .int .i64 y]] ++ cs) wx fun e w' => e = .returned (.bool (f x y)) ∧ Below wx.heap.size wx w') :
    Calls Tryd.prog 143 #[.int .i64 x, .int .i64 y, .pointer (some ⟨Bg, 0, none⟩), .pointer (some ⟨Bi, 0, none⟩)] w fun e w' => e = .returned (.bool (misS W H f x y)) ∧ Below w.heap.size w w' := by
  have HF := Lib.hid hF; clear hF
  by_cases h : OnG W H x y
  · have HO := Lib.hid h
    have e1 : misS W H f x y = !(f x y) := by unfold misS; rw [decide_eq_true h]; rfl
    rw [e1]
    obtain ⟨t, ht⟩ : ∃ t, t = f x y := ⟨_, rfl⟩
    rw [← ht] at HF ⊢
    clear e1 ht h
    go_enter Tryd.func143, Tryd.ntmps143
    go_wp2_with (go_at_call 74; (with_reducible refine (isOn_yes W H x y ao n cap _ HO.out).mono ?_); rintro e w1 ⟨rfl, hb⟩; obtain ⟨hc, hf, hz⟩ := bcall hb; (try simp at hc hf hz))
    refine (HF.out _ (by (repeat' (first | (with_reducible exact Below.refl _ _) | (with_reducible refine Below.setCell ?_ (by first | omega | (simp; done) | (simp; omega)) _) | (with_reducible refine Below.alloc ?_ (by first | omega | (simp; done) | (simp; omega)) _) | (with_reducible refine Below.drew ?_) | (with_reducible refine below_drewN ?_ _) | (with_reducible refine Below.trans ?_ (Below.mono (by assumption) (by first | omega | (simp; done) | (simp; omega))))))) HO.out).mono ?_
    rintro e w3 ⟨rfl, hb3⟩
    go_wp2
    go_ret
    refine ⟨rfl, ?_⟩
    (repeat' (first | (with_reducible exact Below.refl _ _) | (with_reducible refine Below.setCell ?_ (by first | omega | (simp; done) | (simp; omega)) _) | (with_reducible refine Below.alloc ?_ (by first | omega | (simp; done) | (simp; omega)) _) | (with_reducible refine Below.drew ?_) | (with_reducible refine below_drewN ?_ _) | (with_reducible refine Below.trans ?_ (Below.mono (by assumption) (by first | omega | (simp; done) | (simp; omega))))))
  · have HO := Lib.hid h
    have e1 : misS W H f x y = true := by unfold misS; rw [decide_eq_false h]; rfl
    rw [e1]
    clear e1 h
    go_enter Tryd.func143, Tryd.ntmps143
    go_wp2_with (go_at_call 74; (with_reducible refine (isOn_no W H x y ao n cap _ HO.out).mono ?_); rintro e w1 ⟨rfl, hb⟩; obtain ⟨hc, hf, hz⟩ := bcall hb; (try simp at hc hf hz))
    go_ret
    refine ⟨rfl, ?_⟩
    (repeat' (first | (with_reducible exact Below.refl _ _) | (with_reducible refine Below.setCell ?_ (by first | omega | (simp; done) | (simp; omega)) _) | (with_reducible refine Below.alloc ?_ (by first | omega | (simp; done) | (simp; omega)) _) | (with_reducible refine Below.drew ?_) | (with_reducible refine below_drewN ?_ _) | (with_reducible refine Below.trans ?_ (Below.mono (by assumption) (by first | omega | (simp; done) | (simp; omega))))))

set_option maxRecDepth 100000 in
set_option maxHeartbeats 8000000 in
theorem smo2_in (W H x y : Int) (ao : Option Addr) (n cap : Nat) (f : Int → Int → Bool) (fn0 : Nat) (cs : Array Value) (Bg Bi Bm : Nat) (w : World) (lg : Bg < w.heap.size) (li : Bi < w.heap.size) (lm : Bm < w.heap.size) (x0 : -1 ≤ x) (x1 : x ≤ 1100) (y0 : -1 ≤ y) (y1 : y ≤ 1100)
    (c0 : w.cell? ⟨Bg, 0, none⟩ = some (.int .i64 W)) (c1 : w.cell? ⟨Bg, 1, none⟩ = some (.int .i64 H)) (c2 : w.cell? ⟨Bg, 2, none⟩ = some (.slice ao n cap)) (ci : w.cell? ⟨Bi, 0, none⟩ = some (.func (.func fn0) #[] cs))
    (cm : w.cell? ⟨Bm, 0, none⟩ = some (.func (.func 143) #[] #[.pointer (some ⟨Bg, 0, none⟩), .pointer (some ⟨Bi, 0, none⟩)]))
    (eF : ∀ args w, (callFunc fn0 args).run Tryd.prog w = .ok (.enter fn0 args) w)
    (hF : ∀ wx u v, Below w.heap.size w wx → OnG W H u v → Calls Tryd.prog fn0 (#[.agg #[.int .i64 u, .int .i64 v]] ++ cs) wx fun e w' => e = .returned (.bool (f u v)) ∧ Below wx.heap.size wx w') :
    Calls Tryd.prog 144 #[.agg #[.int .i64 x, .int .i64 y], .pointer (some ⟨Bm, 0, none⟩)] w fun e w' => e = .returned (.int .i64 (smoK W H f x y)) ∧ Below w.heap.size w w' := by
  have MI := Lib.hid (fun u v wx (hb : Below w.heap.size w wx) => smo1_in W H u v ao n cap f fn0 cs Bg Bi wx (Nat.lt_of_lt_of_le lg hb.size) (Nat.lt_of_lt_of_le li hb.size) (keep_cell hb lg c0) (keep_cell hb lg c1) (keep_cell hb lg c2) (keep_cell hb li ci) eF (fun wy hy ho => hF wy u v (hb.trans (hy.mono hb.size)) ho))
  have s1 : IntKind.i64.wrap (x + 1) = x + 1 := IntWalk.i64_in _ ⟨by omega, by omega⟩
  have s2 : IntKind.i64.wrap (x - 1) = x - 1 := IntWalk.i64_in _ ⟨by omega, by omega⟩
  have s3 : IntKind.i64.wrap (y + 1) = y + 1 := IntWalk.i64_in _ ⟨by omega, by omega⟩
  have s4 : IntKind.i64.wrap (y - 1) = y - 1 := IntWalk.i64_in _ ⟨by omega, by omega⟩
  have hk : smoK W H f x y = if misS W H f (x + 1) y = misS W H f (x - 1) y ∨ misS W H f x (y + 1) = misS W H f x (y - 1) then 1 else if misS W H f (x - 1) y = misS W H f x (y + 1) then 2 else 3 := rfl
  have M1 := Lib.hid (fun wx hb => MI.out (x + 1) y wx hb)
  have M2 := Lib.hid (fun wx hb => MI.out (x - 1) y wx hb)
  have M3 := Lib.hid (fun wx hb => MI.out x (y + 1) wx hb)
  have M4 := Lib.hid (fun wx hb => MI.out x (y - 1) wx hb)
  obtain ⟨a, ha⟩ : ∃ a, a = misS W H f (x + 1) y := ⟨_, rfl⟩
  obtain ⟨b, hb'⟩ : ∃ a, a = misS W H f (x - 1) y := ⟨_, rfl⟩
  obtain ⟨c, hc'⟩ : ∃ a, a = misS W H f x (y + 1) := ⟨_, rfl⟩
  obtain ⟨d, hd'⟩ : ∃ a, a = misS W H f x (y - 1) := ⟨_, rfl⟩
  rw [← ha] at M1 hk
  rw [← hb'] at M2 hk
  rw [← hc'] at M3 hk
  rw [← hd'] at M4 hk
  rw [hk]
  clear hk ha hb' hc' hd' MI hF c0 c1 c2 ci eF x0 x1 y0 y1
  go_enter Tryd.func144, Tryd.ntmps144
  go_wp2
  have HM := Lib.hid cm
  have k0 : (w.alloc (.cells #[.int .i64 x, .int .i64 y] 31)).cell? ⟨w.heap.size, 0, none⟩ = some (.int .i64 x) := (Two.new w 31 (.int .i64 x) (.int .i64 y)).c0
  have k1 : (w.alloc (.cells #[.int .i64 x, .int .i64 y] 31)).cell? ⟨w.heap.size, 1, none⟩ = some (.int .i64 y) := (Two.new w 31 (.int .i64 x) (.int .i64 y)).c1
  have hbw : Below w.heap.size w (w.alloc (.cells #[.int .i64 x, .int .i64 y] 31)) := (Below.refl _ _).alloc (Nat.le_refl _) _
  have cm1 := keep_cell hbw lm cm
  have hs1 : (w.alloc (.cells #[.int .i64 x, .int .i64 y] 31)).heap.size = w.heap.size + 1 := by simp
  obtain ⟨w1, hw1⟩ : ∃ w1, w1 = w.alloc (.cells #[.int .i64 x, .int .i64 y] 31) := ⟨_, rfl⟩
  rw [← hw1] at k0 k1 hbw cm1 hs1 ⊢
  clear hw1 cm
  go_region_held3 (fun w' => w'.cell? ⟨Bm, 0, none⟩ = some (.func (.func 143) #[] #[.pointer (some ⟨Bg, 0, none⟩), .pointer (some ⟨Bi, 0, none⟩)]) ∧ w'.cell? ⟨w.heap.size, 0, none⟩ = some (.int .i64 x) ∧ w'.cell? ⟨w.heap.size, 1, none⟩ = some (.int .i64 y)) (first | (go_split_ands; (try dsimp only); refine ⟨?_, ?_, ?_⟩ <;> (first | (with_reducible assumption) | (with_reducible exact keep_cell (by assumption) (by first | omega | (simp; done) | (simp; omega)) (by assumption)) | (with_reducible exact (World.cell?_alloc_past _ _ _ (by show _ < _; omega)).trans (by assumption)) | (with_reducible exact (World.cell?_alloc_past _ _ _ (by show _ < _; omega)).trans ((World.cell?_alloc_past _ _ _ (by show _ < _; omega)).symm.trans (by assumption))) | (simp [go_sem]; with_reducible assumption))) | (simp [go_sem, ↓IntWalk.iteOmega, *]; done)) (first | (go_at_call 143; (with_reducible refine (M1.out _ (by (repeat' (first | (with_reducible exact Below.refl _ _) | (with_reducible refine Below.setCell ?_ (by first | omega | (simp; done) | (simp; omega)) _) | (with_reducible refine Below.alloc ?_ (by first | omega | (simp; done) | (simp; omega)) _) | (with_reducible refine Below.drew ?_) | (with_reducible refine below_drewN ?_ _) | (with_reducible refine Below.trans ?_ (Below.mono (by assumption) (by first | omega | (simp; done) | (simp; omega)))))))).mono ?_); rintro e w1 ⟨rfl, hb⟩; obtain ⟨hc, hf, hz⟩ := bcall hb; (try simp at hc hf hz)) | (go_at_call 143; (with_reducible refine (M2.out _ (by (repeat' (first | (with_reducible exact Below.refl _ _) | (with_reducible refine Below.setCell ?_ (by first | omega | (simp; done) | (simp; omega)) _) | (with_reducible refine Below.alloc ?_ (by first | omega | (simp; done) | (simp; omega)) _) | (with_reducible refine Below.drew ?_) | (with_reducible refine below_drewN ?_ _) | (with_reducible refine Below.trans ?_ (Below.mono (by assumption) (by first | omega | (simp; done) | (simp; omega)))))))).mono ?_); rintro e w1 ⟨rfl, hb⟩; obtain ⟨hc, hf, hz⟩ := bcall hb; (try simp at hc hf hz)))
  all_goals
    rename_i hX9
    obtain ⟨g0, g1, g2⟩ := hX9
    clear cm1 k0 k1
    go_wp2
    go_region_held3 (fun w' => w'.cell? ⟨Bm, 0, none⟩ = some (.func (.func 143) #[] #[.pointer (some ⟨Bg, 0, none⟩), .pointer (some ⟨Bi, 0, none⟩)]) ∧ w'.cell? ⟨w.heap.size, 0, none⟩ = some (.int .i64 x) ∧ w'.cell? ⟨w.heap.size, 1, none⟩ = some (.int .i64 y)) (first | (go_split_ands; (try dsimp only); refine ⟨?_, ?_, ?_⟩ <;> (first | (with_reducible assumption) | (with_reducible exact keep_cell (by assumption) (by first | omega | (simp; done) | (simp; omega)) (by assumption)) | (with_reducible exact (World.cell?_alloc_past _ _ _ (by show _ < _; omega)).trans (by assumption)) | (with_reducible exact (World.cell?_alloc_past _ _ _ (by show _ < _; omega)).trans ((World.cell?_alloc_past _ _ _ (by show _ < _; omega)).symm.trans (by assumption))) | (simp [go_sem]; with_reducible assumption))) | (simp [go_sem, ↓IntWalk.iteOmega, *]; done)) (first | (go_at_call 143; (with_reducible refine (M3.out _ (by (repeat' (first | (with_reducible exact Below.refl _ _) | (with_reducible refine Below.setCell ?_ (by first | omega | (simp; done) | (simp; omega)) _) | (with_reducible refine Below.alloc ?_ (by first | omega | (simp; done) | (simp; omega)) _) | (with_reducible refine Below.drew ?_) | (with_reducible refine below_drewN ?_ _) | (with_reducible refine Below.trans ?_ (Below.mono (by assumption) (by first | omega | (simp; done) | (simp; omega)))))))).mono ?_); rintro e w1 ⟨rfl, hb⟩; obtain ⟨hc, hf, hz⟩ := bcall hb; (try simp at hc hf hz)) | (go_at_call 143; (with_reducible refine (M4.out _ (by (repeat' (first | (with_reducible exact Below.refl _ _) | (with_reducible refine Below.setCell ?_ (by first | omega | (simp; done) | (simp; omega)) _) | (with_reducible refine Below.alloc ?_ (by first | omega | (simp; done) | (simp; omega)) _) | (with_reducible refine Below.drew ?_) | (with_reducible refine below_drewN ?_ _) | (with_reducible refine Below.trans ?_ (Below.mono (by assumption) (by first | omega | (simp; done) | (simp; omega)))))))).mono ?_); rintro e w1 ⟨rfl, hb⟩; obtain ⟨hc, hf, hz⟩ := bcall hb; (try simp at hc hf hz)))
    all_goals
      rename_i hX9
      clear hX9
      cases a <;> cases b <;> cases c <;> cases d
      all_goals
        go_wp2
        go_ret
        refine ⟨by simp, ?_⟩
        (repeat' (first | (with_reducible exact Below.refl _ _) | (with_reducible refine Below.setCell ?_ (by first | omega | (simp; done) | (simp; omega)) _) | (with_reducible refine Below.alloc ?_ (by first | omega | (simp; done) | (simp; omega)) _) | (with_reducible refine Below.drew ?_) | (with_reducible refine below_drewN ?_ _) | (with_reducible refine Below.trans ?_ (Below.mono (by assumption) (by first | omega | (simp; done) | (simp; omega))))))
end Go.Proofs.YtglkikdjchpmjaaDoor

/- Boxes and slopes: the closures, by the program. -/



namespace Go.Proofs.YtglkikdjchpmjaaDoor
set_option linter.unusedSimpArgs false
set_option linter.unusedVariables false
open Go.RowKit
attribute [local irreducible] wpStill

theorem boxF_in (ax ay bx yb : Int) (w : World) :
    Calls Tryd.prog 76 #[.agg #[.int .i64 ax, .int .i64 ay], .agg #[.int .i64 bx, .int .i64 yb]] w fun e w' => e = .returned (.func (.func 146) #[] #[.pointer (some ⟨w.heap.size, 0, none⟩), .pointer (some ⟨w.heap.size + 1, 0, none⟩)]) ∧ w' = (w.alloc (.cells #[.int .i64 ax, .int .i64 ay] 31)).alloc (.cells #[.int .i64 bx, .int .i64 yb] 31) := by
  go_enter Tryd.func76, Tryd.ntmps76
  go_wp2
  go_ret
  exact ⟨rfl, rfl⟩
theorem slopeF_in (fx fy n rise : Int) (w : World) :
    Calls Tryd.prog 81 #[.agg #[.int .i64 fx, .int .i64 fy], .int .i64 n, .int .i64 rise] w fun e w' => e = .returned (.func (.func 150) #[] #[.pointer (some ⟨w.heap.size, 0, none⟩), .pointer (some ⟨w.heap.size + 1, 0, none⟩), .pointer (some ⟨w.heap.size + 2, 0, none⟩)]) ∧ w' = ((w.alloc (.cells #[.int .i64 fx, .int .i64 fy] 31)).alloc (.cells #[.int .i64 n] 3)).alloc (.cells #[.int .i64 rise] 3) := by
  go_enter Tryd.func81, Tryd.ntmps81
  go_wp2
  go_ret
  exact ⟨rfl, rfl⟩

set_option maxRecDepth 100000 in
set_option maxHeartbeats 4000000 in
theorem box1_in (ax ay bx yb x y : Int) (Ba Bb : Nat) (w : World) (la : Ba < w.heap.size) (lb : Bb < w.heap.size)
    (c0 : w.cell? ⟨Ba, 0, none⟩ = some (.int .i64 ax)) (c1 : w.cell? ⟨Ba, 1, none⟩ = some (.int .i64 ay)) (c2 : w.cell? ⟨Bb, 0, none⟩ = some (.int .i64 bx)) (c3 : w.cell? ⟨Bb, 1, none⟩ = some (.int .i64 yb)) :
    Calls Tryd.prog 146 #[.agg #[.int .i64 x, .int .i64 y], .pointer (some ⟨Ba, 0, none⟩), .pointer (some ⟨Bb, 0, none⟩)] w fun e w' => e = .returned (.bool (inB ax ay bx yb x y)) ∧ Below w.heap.size w w' := by
  obtain ⟨t, ht⟩ : ∃ t, t = inB ax ay bx yb x y := ⟨_, rfl⟩
  rw [← ht]
  have HT := Lib.hid ht
  clear ht
  go_enter Tryd.func146, Tryd.ntmps146
  go_wp2
  all_goals
    go_ret
    refine ⟨congrArg (fun q => Ending.returned (Value.bool q)) ?_, ?_⟩
    · rw [HT.out]; unfold inB; first | exact (decide_eq_false (by omega)).symm | exact (decide_eq_true (by omega)).symm | exact decide_eq_decide.2 (by omega)
    (repeat' (first | (with_reducible exact Below.refl _ _) | (with_reducible refine Below.setCell ?_ (by first | omega | (simp; done) | (simp; omega)) _) | (with_reducible refine Below.alloc ?_ (by first | omega | (simp; done) | (simp; omega)) _) | (with_reducible refine Below.drew ?_) | (with_reducible refine below_drewN ?_ _) | (with_reducible refine Below.trans ?_ (Below.mono (by assumption) (by first | omega | (simp; done) | (simp; omega))))))

set_option maxRecDepth 100000 in
set_option maxHeartbeats 4000000 in
theorem slope1_in (fx fy n rise x y : Int) (Bf Bn Br : Nat) (w : World) (x0 : 0 ≤ x) (x1 : x ≤ 64) (p0 : 0 ≤ fx) (p1 : fx ≤ 64) (r0 : 0 ≤ fy) (r1 : fy ≤ 64) (hr : rise = 1 ∨ rise = -1) (lf : Bf < w.heap.size) (ln : Bn < w.heap.size) (lr : Br < w.heap.size)
    (c0 : w.cell? ⟨Bf, 0, none⟩ = some (.int .i64 fx)) (c1 : w.cell? ⟨Bf, 1, none⟩ = some (.int .i64 fy)) (c2 : w.cell? ⟨Bn, 0, none⟩ = some (.int .i64 n)) (c3 : w.cell? ⟨Br, 0, none⟩ = some (.int .i64 rise)) :
    Calls Tryd.prog 150 #[.agg #[.int .i64 x, .int .i64 y], .pointer (some ⟨Bf, 0, none⟩), .pointer (some ⟨Bn, 0, none⟩), .pointer (some ⟨Br, 0, none⟩)] w fun e w' => e = .returned (.bool (inL fx fy n rise x y)) ∧ Below w.heap.size w w' := by
  obtain ⟨t, ht⟩ : ∃ t, t = inL fx fy n rise x y := ⟨_, rfl⟩
  rw [← ht]
  have HT := Lib.hid ht
  clear ht
  have s1 : IntKind.i64.wrap (x - fx) = x - fx := IntWalk.i64_in _ ⟨by omega, by omega⟩
  have s2 : IntKind.i64.wrap (rise * (x - fx)) = rise * (x - fx) := by rcases hr with rfl | rfl <;> exact IntWalk.i64_in _ ⟨by omega, by omega⟩
  have s3 : IntKind.i64.wrap (fy + rise * (x - fx)) = fy + rise * (x - fx) := by rcases hr with rfl | rfl <;> exact IntWalk.i64_in _ ⟨by omega, by omega⟩
  clear hr x0 x1 p0 p1 r0 r1
  go_enter Tryd.func150, Tryd.ntmps150
  go_wp2
  all_goals
    go_ret
    refine ⟨congrArg (fun q => Ending.returned (Value.bool q)) ?_, ?_⟩
    · rw [HT.out]; unfold inL; first | exact (decide_eq_false (by omega)).symm | exact (decide_eq_true (by omega)).symm | exact decide_eq_decide.2 (by omega)
    (repeat' (first | (with_reducible exact Below.refl _ _) | (with_reducible refine Below.setCell ?_ (by first | omega | (simp; done) | (simp; omega)) _) | (with_reducible refine Below.alloc ?_ (by first | omega | (simp; done) | (simp; omega)) _) | (with_reducible refine Below.drew ?_) | (with_reducible refine below_drewN ?_ _) | (with_reducible refine Below.trans ?_ (Below.mono (by assumption) (by first | omega | (simp; done) | (simp; omega))))))
end Go.Proofs.YtglkikdjchpmjaaDoor

/- Shapes given as closures: by the program. -/



namespace Go.Proofs.YtglkikdjchpmjaaDoor
set_option linter.unusedSimpArgs false
set_option linter.unusedVariables false
open Go.RowKit Go.Shelf

/-- A closure that tells whether a point of the grid lies in a shape. -/
def ClF (w : World) (fn : Nat) (cs : Array Value) (f : Int → Int → Bool) (W H : Nat) : Prop :=
  (∀ args wx, (callFunc fn args).run Tryd.prog wx = .ok (.enter fn args) wx) ∧
  ∀ wx (x y : Nat), KB (fun k => k < w.heap.size) w wx → x < W → y < H → Calls Tryd.prog fn (#[.agg #[.int .i64 ((x : Int)), .int .i64 ((y : Int))]] ++ cs) wx fun e w' => e = .returned (.bool (f x y)) ∧ Below wx.heap.size wx w'
/-- A closure that tells the kind of a cell. -/
def ClK (w : World) (fn : Nat) (cs : Array Value) (kd : Int → Int → Int) (W H : Nat) : Prop :=
  (∀ args wx, (callFunc fn args).run Tryd.prog wx = .ok (.enter fn args) wx) ∧
  ∀ wx (x y : Nat), Below w.heap.size w wx → x < W → y < H → Calls Tryd.prog fn (#[.agg #[.int .i64 ((x : Int)), .int .i64 ((y : Int))]] ++ cs) wx fun e w' => e = .returned (.int .i64 (kd x y)) ∧ Below wx.heap.size wx w'
theorem kb_of_below {w wx : World} (hb : Below w.heap.size w wx) : KB (fun k => k < w.heap.size) w wx := KB.of_below hb (fun _ h => h)
theorem ClF.below {w w' : World} {fn : Nat} {cs : Array Value} {f : Int → Int → Bool} {W H : Nat} (h : ClF w fn cs f W H) (hb : Below w.heap.size w w') : ClF w' fn cs f W H :=
  ⟨h.1, fun wx x y hk hx hy => h.2 wx x y ⟨Nat.le_trans hb.size hk.1, fun k hk2 => (hk.2 k (Nat.lt_of_lt_of_le hk2 hb.size)).trans (hb.block k hk2)⟩ hx hy⟩
theorem ClK.below {w w' : World} {fn : Nat} {cs : Array Value} {kd : Int → Int → Int} {W H : Nat} (h : ClK w fn cs kd W H) (hb : Below w.heap.size w w') : ClK w' fn cs kd W H :=
  ⟨h.1, fun wx x y hk hx hy => h.2 wx x y (hb.trans (hk.mono hb.size)) hx hy⟩
def GiveF (f : Int → Int → Bool) (W H : Nat) (w : World) (e : Ending) (w' : World) : Prop := ∃ fn cs, e = .returned (.func (.func fn) #[] cs) ∧ ClF w' fn cs f W H ∧ Below w.heap.size w w'
def GiveK (kd : Int → Int → Int) (W H : Nat) (w : World) (e : Ending) (w' : World) : Prop := ∃ fn cs, e = .returned (.func (.func fn) #[] cs) ∧ ClK w' fn cs kd W H ∧ Below w.heap.size w w'

theorem disc_gives (px py q : Int) (W H : Nat) (w : World) (hW : W ≤ 64) (hH : H ≤ 64) (p0 : 0 ≤ px) (p1 : px ≤ 64) (r0 : 0 ≤ py) (r1 : py ≤ 64) : Calls Tryd.prog 69 #[.agg #[.int .i64 px, .int .i64 py], .int .i64 q] w (GiveF (inD px py q) W H w) :=
  (discF_in px py q w).mono fun e w' h => by
    obtain ⟨rfl, rfl⟩ := h
    have t0 := (Two.new w 31 (.int .i64 px) (.int .i64 py)).alloc (.cells #[.int .i64 q] 3)
    have t1 := Boxed.new (w.alloc (.cells #[.int .i64 px, .int .i64 py] 31)) 3 (.int .i64 q)
    rw [World.size_alloc] at t1
    exact ⟨_, _, rfl, ⟨enters_of Tryd.func139 (by kernel_rfl) rfl, fun wx x y hk hx hy =>
      disc1_in px py q x y _ _ wx (by omega) (by omega) (by omega) (by omega) p0 p1 r0 r1 (Nat.lt_of_lt_of_le t0.lt hk.1) (Nat.lt_of_lt_of_le t1.lt hk.1) ((hk.cell t0.lt).trans t0.c0) ((hk.cell t0.lt).trans t0.c1) ((hk.cell t1.lt).trans t1.cell)⟩, by (repeat' (first | (with_reducible exact Below.refl _ _) | (with_reducible refine Below.setCell ?_ (by first | omega | (simp; done) | (simp; omega)) _) | (with_reducible refine Below.alloc ?_ (by first | omega | (simp; done) | (simp; omega)) _) | (with_reducible refine Below.drew ?_) | (with_reducible refine below_drewN ?_ _) | (with_reducible refine Below.trans ?_ (Below.mono (by assumption) (by first | omega | (simp; done) | (simp; omega))))))⟩
theorem box_gives (ax ay bx yb : Int) (W H : Nat) (w : World) : Calls Tryd.prog 76 #[.agg #[.int .i64 ax, .int .i64 ay], .agg #[.int .i64 bx, .int .i64 yb]] w (GiveF (inB ax ay bx yb) W H w) :=
  (boxF_in ax ay bx yb w).mono fun e w' h => by
    obtain ⟨rfl, rfl⟩ := h
    have t0 := (Two.new w 31 (.int .i64 ax) (.int .i64 ay)).alloc (.cells #[.int .i64 bx, .int .i64 yb] 31)
    have t1 := Two.new (w.alloc (.cells #[.int .i64 ax, .int .i64 ay] 31)) 31 (.int .i64 bx) (.int .i64 yb)
    rw [World.size_alloc] at t1
    exact ⟨_, _, rfl, ⟨enters_of Tryd.func146 (by kernel_rfl) rfl, fun wx x y hk hx hy =>
      box1_in ax ay bx yb x y _ _ wx (Nat.lt_of_lt_of_le t0.lt hk.1) (Nat.lt_of_lt_of_le t1.lt hk.1) ((hk.cell t0.lt).trans t0.c0) ((hk.cell t0.lt).trans t0.c1) ((hk.cell t1.lt).trans t1.c0) ((hk.cell t1.lt).trans t1.c1)⟩, by (repeat' (first | (with_reducible exact Below.refl _ _) | (with_reducible refine Below.setCell ?_ (by first | omega | (simp; done) | (simp; omega)) _) | (with_reducible refine Below.alloc ?_ (by first | omega | (simp; done) | (simp; omega)) _) | (with_reducible refine Below.drew ?_) | (with_reducible refine below_drewN ?_ _) | (with_reducible refine Below.trans ?_ (Below.mono (by assumption) (by first | omega | (simp; done) | (simp; omega))))))⟩
theorem slope_gives (fx fy n rise : Int) (W H : Nat) (w : World) (hW : W ≤ 64) (p0 : 0 ≤ fx) (p1 : fx ≤ 64) (r0 : 0 ≤ fy) (r1 : fy ≤ 64) (hr : rise = 1 ∨ rise = -1) : Calls Tryd.prog 81 #[.agg #[.int .i64 fx, .int .i64 fy], .int .i64 n, .int .i64 rise] w (GiveF (inL fx fy n rise) W H w) :=
  (slopeF_in fx fy n rise w).mono fun e w' h => by
    obtain ⟨rfl, rfl⟩ := h
    have t0 := ((Two.new w 31 (.int .i64 fx) (.int .i64 fy)).alloc (.cells #[.int .i64 n] 3)).alloc (.cells #[.int .i64 rise] 3)
    have t1 := (Boxed.new (w.alloc (.cells #[.int .i64 fx, .int .i64 fy] 31)) 3 (.int .i64 n)).alloc (.cells #[.int .i64 rise] 3)
    have t2 := Boxed.new ((w.alloc (.cells #[.int .i64 fx, .int .i64 fy] 31)).alloc (.cells #[.int .i64 n] 3)) 3 (.int .i64 rise)
    simp only [World.size_alloc] at t1 t2
    exact ⟨_, _, rfl, ⟨enters_of Tryd.func150 (by kernel_rfl) rfl, fun wx x y hk hx hy =>
      slope1_in fx fy n rise x y _ _ _ wx (by omega) (by omega) p0 p1 r0 r1 hr (Nat.lt_of_lt_of_le t0.lt hk.1) (Nat.lt_of_lt_of_le t1.lt hk.1) (Nat.lt_of_lt_of_le t2.lt hk.1) ((hk.cell t0.lt).trans t0.c0) ((hk.cell t0.lt).trans t0.c1) ((hk.cell t1.lt).trans t1.cell) ((hk.cell t2.lt).trans t2.cell)⟩, by (repeat' (first | (with_reducible exact Below.refl _ _) | (with_reducible refine Below.setCell ?_ (by first | omega | (simp; done) | (simp; omega)) _) | (with_reducible refine Below.alloc ?_ (by first | omega | (simp; done) | (simp; omega)) _) | (with_reducible refine Below.drew ?_) | (with_reducible refine below_drewN ?_ _) | (with_reducible refine Below.trans ?_ (Below.mono (by assumption) (by first | omega | (simp; done) | (simp; omega))))))⟩
theorem all_gives (k : Int) (W H : Nat) (w : World) : Calls Tryd.prog 70 #[.int .i64 k] w (GiveK (fun _ _ => k) W H w) :=
  (allF_in k w).mono fun e w' h => by
    obtain ⟨rfl, rfl⟩ := h
    have t1 := Boxed.new w 3 (.int .i64 k)
    exact ⟨_, _, rfl, ⟨enters_of Tryd.func140 (by kernel_rfl) rfl, fun wx x y hb hx hy =>
      all1_in k x y _ wx (Nat.lt_of_lt_of_le t1.lt hb.size) ((hb.cell (p := ⟨w.heap.size, 0, none⟩) t1.lt).trans t1.cell)⟩, by (repeat' (first | (with_reducible exact Below.refl _ _) | (with_reducible refine Below.setCell ?_ (by first | omega | (simp; done) | (simp; omega)) _) | (with_reducible refine Below.alloc ?_ (by first | omega | (simp; done) | (simp; omega)) _) | (with_reducible refine Below.drew ?_) | (with_reducible refine below_drewN ?_ _) | (with_reducible refine Below.trans ?_ (Below.mono (by assumption) (by first | omega | (simp; done) | (simp; omega))))))⟩
set_option maxHeartbeats 1000000 in
theorem smoothed_gives (W H : Nat) (ao : Option Addr) (n cap : Nat) (f : Int → Int → Bool) (fn : Nat) (cs : Array Value) (w : World) (hW : W ≤ 64) (hH : H ≤ 64) (hF : ClF w fn cs f W H) :
    Calls Tryd.prog 72 #[.agg #[.int .i64 W, .int .i64 H, .slice (ao) n cap], .func (.func fn) #[] cs] w (GiveK (smoK W H f) W H w) := by
  have HF := Lib.hid hF
  clear hF
  go_enter Tryd.func72, Tryd.ntmps72
  go_wp2
  refine bodyPost_ret (v := .func (.func 144) #[] #[.pointer (some ⟨w.heap.size + 1 + 1, 0, none⟩)]) (by simp [results, Tryd.results72, go_sem]) rfl ?_
  have t0 := (Three.new2 w 24 (.int .i64 W) (.int .i64 H) (.slice ao n cap) (.cells #[.func (.func fn) #[] cs] 94)).below (n := w.heap.size + 1) ((Below.refl _ _).alloc (by simp) (.cells #[.func (.func 143) #[] #[.pointer (some ⟨w.heap.size, 0, none⟩), .pointer (some ⟨w.heap.size + 1, 0, none⟩)]] 169)) (by omega)
  have t1 := (Boxed.new (w.alloc (.cells #[.int .i64 W, .int .i64 H, .slice ao n cap] 24)) 94 (.func (.func fn) #[] cs)).alloc (.cells #[.func (.func 143) #[] #[.pointer (some ⟨w.heap.size, 0, none⟩), .pointer (some ⟨w.heap.size + 1, 0, none⟩)]] 169)
  have t2 := Boxed.new ((w.alloc (.cells #[.int .i64 W, .int .i64 H, .slice ao n cap] 24)).alloc (.cells #[.func (.func fn) #[] cs] 94)) 169 (.func (.func 143) #[] #[.pointer (some ⟨w.heap.size, 0, none⟩), .pointer (some ⟨w.heap.size + 1, 0, none⟩)])
  simp only [World.size_alloc] at t1 t2
  have hbw : Below w.heap.size w (((w.alloc (.cells #[.int .i64 W, .int .i64 H, .slice ao n cap] 24)).alloc (.cells #[.func (.func fn) #[] cs] 94)).alloc (.cells #[.func (.func 143) #[] #[.pointer (some ⟨w.heap.size, 0, none⟩), .pointer (some ⟨w.heap.size + 1, 0, none⟩)]] 169)) := by (repeat' (first | (with_reducible exact Below.refl _ _) | (with_reducible refine Below.setCell ?_ (by first | omega | (simp; done) | (simp; omega)) _) | (with_reducible refine Below.alloc ?_ (by first | omega | (simp; done) | (simp; omega)) _) | (with_reducible refine Below.drew ?_) | (with_reducible refine below_drewN ?_ _) | (with_reducible refine Below.trans ?_ (Below.mono (by assumption) (by first | omega | (simp; done) | (simp; omega))))))
  refine ⟨_, _, rfl, ⟨enters_of Tryd.func144 (by kernel_rfl) rfl, fun wx x y hb hx hy => ?_⟩, hbw⟩
  have g0 := t0.below hb t0.lt
  have g1 : Boxed wx _ _ _ := (hb.block _ t1.lt).trans t1
  have g2 : Boxed wx _ _ _ := (hb.block _ t2.lt).trans t2
  exact smo2_in W H x y ao n cap f fn cs _ _ _ wx g0.lt g1.lt g2.lt (by omega) (by omega) (by omega) (by omega) g0.c0 g0.c1 g0.c2 g1.cell g2.cell HF.out.1 (fun wy u v hy2 ho => by
    obtain ⟨⟨a0, a1⟩, a2, a3⟩ := ho
    obtain ⟨u', rfl⟩ := Int.eq_ofNat_of_zero_le a0
    obtain ⟨v', rfl⟩ := Int.eq_ofNat_of_zero_le a2
    exact HF.out.2 wy u' v' (kb_of_below ((hbw.trans (hb.mono hbw.size)).trans (hy2.mono (Nat.le_trans hbw.size hb.size)))) (by omega) (by omega))
end Go.Proofs.YtglkikdjchpmjaaDoor
