/- A tunnel in memory: all its open cells collide or are undone, all others' particles are sent; steps: by the program. -/
import Derived.Test.YtmdeooflgkjbbaaDoorKWChk
import Derived.Test.YtmdeooflgkjbbaaDoorKStreamR
import Derived.Test.YtmdeooflgkjbbaaDoorKCloneC
namespace Go.Proofs.YtmdeooflgkjbbaaDoor
set_option linter.unusedSimpArgs false
set_option linter.unusedVariables false
open Go.RowKit

section
variable {w w' : World} {m n b1 c1 : Nat} {W H : Int} {kv bv rv : Value}
end
theorem Tbl.ex {S : Nat → Prop} {w w' : World} (h : Tbl w) (x : Ex S w w') (hs : ¬ S 2) : Tbl w' := fun k hk d hd => (x.cell (block_lt (h k hk d hd)) hs).trans (h k hk d hd)
theorem Tbl.lt {w : World} (h : Tbl w) : 2 < w.heap.size := block_lt (h 0 (by decide) 0 (by decide))
theorem NumsAt.ex {S : Nat → Prop} {w w' : World} {b off n : Nat} {K : Nat → Int} (h : NumsAt w b off n K) (x : Ex S w w') (hl : b < w.heap.size) (hs : ¬ S b) : NumsAt w' b off n K := fun i hi => (x.cell hl hs).trans (h i hi)

theorem collideM (K : Nat → Int) (G : Nat → Nat → Int) (i : Nat) (k y : Int) (w : World) (h0 : K i = 0) (h : Ok4 (G i 0) (G i 1) (G i 2) (G i 3)) (hr : OkR k y) :
    Calls Tryd.prog 161 #[.agg #[.int .i64 (G i 0), .int .i64 (G i 1), .int .i64 (G i 2), .int .i64 (G i 3)], .agg #[.int .i64 k, .int .i64 y]] w fun e w' => e = .returned (.tuple #[.agg #[.int .i64 (metG K k y G i 0), .int .i64 (metG K k y G i 1), .int .i64 (metG K k y G i 2), .int .i64 (metG K k y G i 3)], .int .i64 0]) ∧ Below w.heap.size w w' := by
  rw [met_open h0, met_open h0, met_open h0, met_open h0]
  exact collideG G i k y w h hr
theorem sentM (K : Nat → Int) (G : Nat → Nat → Int) (i q : Nat) (k y : Int) (w : World) (hq : K i = q) (h1 : 1 ≤ q) (h2 : q < 4) (hT : Tbl w) :
    Calls Tryd.prog 151 #[.agg #[.int .i64 (G i 0), .int .i64 (G i 1), .int .i64 (G i 2), .int .i64 (G i 3)], .int .i64 q] w fun e w' => e = .returned (.agg #[.int .i64 (metG K k y G i 0), .int .i64 (metG K k y G i 1), .int .i64 (metG K k y G i 2), .int .i64 (metG K k y G i 3)]) ∧ Below w.heap.size w w' := by
  have h0 : K i ≠ 0 := by omega
  have e : (K i).toNat = q := by omega
  rw [met_shut h0, met_shut h0, met_shut h0, met_shut h0, e]
  exact wsent_any q _ _ _ _ w h2 hT

end Go.Proofs.YtmdeooflgkjbbaaDoor

/- A tunnel's steps, forward and back; a new tunnel; runs among walls and their undoing: by the program. -/



namespace Go.Proofs.YtmdeooflgkjbbaaDoor
set_option linter.unusedSimpArgs false
set_option linter.unusedVariables false
open Go.RowKit

theorem RulesAt.below2 {w w' : World} {B rb ro len : Nat} {R : Nat → Int × Int} (h : RulesAt w rb ro len R) (hb : Below B w w') (hl : rb < B) : RulesAt w' rb ro len R := fun i hi => ⟨(hb.cell (p := ⟨rb, ro + i * 2, none⟩) hl).trans (h i hi).1, (hb.cell (p := ⟨rb, ro + i * 2 + 1, none⟩) hl).trans (h i hi).2⟩
theorem Tbl.below2 {w w' : World} {B : Nat} (h : Tbl w) (hb : Below B w w') (hl : 2 < B) : Tbl w' := fun k hk d hd => (hb.cell (p := ⟨2, k * 4 + d, none⟩) hl).trans (h k hk d hd)
end Go.Proofs.YtmdeooflgkjbbaaDoor
