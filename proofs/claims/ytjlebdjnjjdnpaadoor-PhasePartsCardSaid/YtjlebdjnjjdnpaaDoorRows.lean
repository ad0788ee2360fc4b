/-
  NARROWER THAN 'FOR EVERY INPUT', by the rows' own cells (each row's printed sentence says how): PhaseParts: laid · PhaseMasses: laid · PhaseExchanges: laid · PhaseKept: laid · PhaseSwaps: laid · PhaseAlone: laid · PhaseEven: laid.
  DERIVED. THE GIVEN ROWS OF THIS SEAT. 7 by the template 'for every input the law returns true; each argument reads behind the call as it read before'; 0 by the template 'total and deterministic' (their statements: YtjlebdjnjjdnpaaDoorTotals.lean).
  GIVEN WITH THE SEED: the statements are not yours to turn. If you find one false, say at which input.
  Laid BY PROGRAM, IN A SANDBOX (cutbox-rows.mjs): the forced cells as the released guide's own fill.sh prints them over the translation 88d592fd929cc588… (all of the seat's roots in one cut). By AI agents, Wed Nov 11 2026. No macro, syntax, notation, axiom, sorry.
-/
import Derived.Test.YtjlebdjnjjdnpaaDoorChecked
import GoSem.Claim
import GoSem.ClaimJoined
import GoSem.ClaimMapViews
import Derived.JoinedTies
import Derived.KernelRfl
namespace Go.Proofs.YtjlebdjnjjdnpaaDoor
/- THE CELL 'sum', in the pinned program and in every row, IS THE sha256 OF THE DUMP (.gsa) THAT YtjlebdjnjjdnpaaDoorProg.lean LOADS. Nothing in Lean hashes anything: it is a label: what it is worth is what the hold of that sum in a sandbox is worth. -/
noncomputable def Tryd.pinned : Pinned := { name := "ytjlebdjnjjdnpaadoor", sum := "88d592fd929cc5883dd5369d7bf93618846c40157c00bde78e264a556540e833", checked := Tryd.checked }
namespace Rows
def none {H : Type} : Left H := { results := [], args := [] }

/- WHAT THE LISTED PACKAGE-LEVEL VARIABLES READ AS WHEN THE CALL BEGINS. Each datum BY PROGRAM (the guide's laid-datum.mjs) off the statement by which the dump's own 'gosem.cut.vars' lays the variable. In a bare row this is a premise. The card (YtjlebdjnjjdnpaaDoorCards.lean) ties it to the program's text. -/
def laid_slipstream_phase_ends {H : Type} : DataW H := .agg [.agg [.lit (.int .i64 0), .lit (.int .i64 2)], .agg [.lit (.int .i64 1), .lit (.int .i64 3)]]

/-- 'slipstreamlaw04.PhaseParts': WHATEVER THE INPUT: true; the input reads as it did. -/
def phasePartsSpec : ChangeSpec := { name := "phaseParts", fn := fun _ => fun
  | [d1, d2, d3] => { results := [.lit (.bool true)], args := [d1, d2, d3] }
  | _ => none }
def phasePartsRow : OpenClaim := { program := "ytjlebdjnjjdnpaadoor", sum := "88d592fd929cc5883dd5369d7bf93618846c40157c00bde78e264a556540e833", func := "slipstream/slipstreamlaw04.PhaseParts", spec := "phaseParts", unfollowed := true, recurses := true, named := ["slipstream/phase.ends"], apart := false, laid := [("slipstream/phase.ends", laid_slipstream_phase_ends)] }
def PhasePartsSaid : Prop := phasePartsRow.holds Tryd.pinned (OpenSpec.ofChange phasePartsSpec)

/-- ITS FALSE NEIGHBOUR: 'it returns false'. Refute it at one input. -/
def phasePartsWrong : ChangeSpec := { name := "phaseParts", fn := fun _ => fun
  | [d1, d2, d3] => { results := [.lit (.bool false)], args := [d1, d2, d3] }
  | _ => none }
def PhasePartsWrongFalsely : Prop := phasePartsRow.holds Tryd.pinned (OpenSpec.ofChange phasePartsWrong)

/-- 'slipstreamlaw04.PhaseMasses': WHATEVER THE INPUT: true; the input reads as it did. -/
def phaseMassesSpec : ChangeSpec := { name := "phaseMasses", fn := fun _ => fun
  | [d] => { results := [.lit (.bool true)], args := [d] }
  | _ => none }
def phaseMassesRow : OpenClaim := { program := "ytjlebdjnjjdnpaadoor", sum := "88d592fd929cc5883dd5369d7bf93618846c40157c00bde78e264a556540e833", func := "slipstream/slipstreamlaw04.PhaseMasses", spec := "phaseMasses", unfollowed := true, recurses := true, named := ["slipstream/phase.ends"], apart := false, laid := [("slipstream/phase.ends", laid_slipstream_phase_ends)] }
def PhaseMassesSaid : Prop := phaseMassesRow.holds Tryd.pinned (OpenSpec.ofChange phaseMassesSpec)

/-- ITS FALSE NEIGHBOUR: 'it returns false'. Refute it at one input. -/
def phaseMassesWrong : ChangeSpec := { name := "phaseMasses", fn := fun _ => fun
  | [d] => { results := [.lit (.bool false)], args := [d] }
  | _ => none }
def PhaseMassesWrongFalsely : Prop := phaseMassesRow.holds Tryd.pinned (OpenSpec.ofChange phaseMassesWrong)

/-- 'slipstreamlaw04.PhaseExchanges': WHATEVER THE INPUT: true; the input reads as it did. -/
def phaseExchangesSpec : ChangeSpec := { name := "phaseExchanges", fn := fun _ => fun
  | [d1, d2, d3] => { results := [.lit (.bool true)], args := [d1, d2, d3] }
  | _ => none }
def phaseExchangesRow : OpenClaim := { program := "ytjlebdjnjjdnpaadoor", sum := "88d592fd929cc5883dd5369d7bf93618846c40157c00bde78e264a556540e833", func := "slipstream/slipstreamlaw04.PhaseExchanges", spec := "phaseExchanges", unfollowed := true, recurses := true, named := ["slipstream/phase.ends"], apart := false, laid := [("slipstream/phase.ends", laid_slipstream_phase_ends)] }
def PhaseExchangesSaid : Prop := phaseExchangesRow.holds Tryd.pinned (OpenSpec.ofChange phaseExchangesSpec)

/-- ITS FALSE NEIGHBOUR: 'it returns false'. Refute it at one input. -/
def phaseExchangesWrong : ChangeSpec := { name := "phaseExchanges", fn := fun _ => fun
  | [d1, d2, d3] => { results := [.lit (.bool false)], args := [d1, d2, d3] }
  | _ => none }
def PhaseExchangesWrongFalsely : Prop := phaseExchangesRow.holds Tryd.pinned (OpenSpec.ofChange phaseExchangesWrong)

/-- 'slipstreamlaw04.PhaseKept': WHATEVER THE INPUT: true; the input reads as it did. -/
def phaseKeptSpec : ChangeSpec := { name := "phaseKept", fn := fun _ => fun
  | [d1, d2, d3] => { results := [.lit (.bool true)], args := [d1, d2, d3] }
  | _ => none }
def phaseKeptRow : OpenClaim := { program := "ytjlebdjnjjdnpaadoor", sum := "88d592fd929cc5883dd5369d7bf93618846c40157c00bde78e264a556540e833", func := "slipstream/slipstreamlaw04.PhaseKept", spec := "phaseKept", unfollowed := true, recurses := true, named := ["slipstream/phase.ends"], apart := false, laid := [("slipstream/phase.ends", laid_slipstream_phase_ends)] }
def PhaseKeptSaid : Prop := phaseKeptRow.holds Tryd.pinned (OpenSpec.ofChange phaseKeptSpec)

/-- ITS FALSE NEIGHBOUR: 'it returns false'. Refute it at one input. -/
def phaseKeptWrong : ChangeSpec := { name := "phaseKept", fn := fun _ => fun
  | [d1, d2, d3] => { results := [.lit (.bool false)], args := [d1, d2, d3] }
  | _ => none }
def PhaseKeptWrongFalsely : Prop := phaseKeptRow.holds Tryd.pinned (OpenSpec.ofChange phaseKeptWrong)

/-- 'slipstreamlaw04.PhaseSwaps': WHATEVER THE INPUT: true; the input reads as it did. -/
def phaseSwapsSpec : ChangeSpec := { name := "phaseSwaps", fn := fun _ => fun
  | [d1, d2, d3] => { results := [.lit (.bool true)], args := [d1, d2, d3] }
  | _ => none }
def phaseSwapsRow : OpenClaim := { program := "ytjlebdjnjjdnpaadoor", sum := "88d592fd929cc5883dd5369d7bf93618846c40157c00bde78e264a556540e833", func := "slipstream/slipstreamlaw04.PhaseSwaps", spec := "phaseSwaps", unfollowed := true, recurses := true, named := ["slipstream/phase.ends"], apart := false, laid := [("slipstream/phase.ends", laid_slipstream_phase_ends)] }
def PhaseSwapsSaid : Prop := phaseSwapsRow.holds Tryd.pinned (OpenSpec.ofChange phaseSwapsSpec)

/-- ITS FALSE NEIGHBOUR: 'it returns false'. Refute it at one input. -/
def phaseSwapsWrong : ChangeSpec := { name := "phaseSwaps", fn := fun _ => fun
  | [d1, d2, d3] => { results := [.lit (.bool false)], args := [d1, d2, d3] }
  | _ => none }
def PhaseSwapsWrongFalsely : Prop := phaseSwapsRow.holds Tryd.pinned (OpenSpec.ofChange phaseSwapsWrong)

/-- 'slipstreamlaw04.PhaseAlone': WHATEVER THE INPUT: true; the input reads as it did. -/
def phaseAloneSpec : ChangeSpec := { name := "phaseAlone", fn := fun _ => fun
  | [d1, d2, d3] => { results := [.lit (.bool true)], args := [d1, d2, d3] }
  | _ => none }
def phaseAloneRow : OpenClaim := { program := "ytjlebdjnjjdnpaadoor", sum := "88d592fd929cc5883dd5369d7bf93618846c40157c00bde78e264a556540e833", func := "slipstream/slipstreamlaw04.PhaseAlone", spec := "phaseAlone", unfollowed := true, recurses := true, named := ["slipstream/phase.ends"], apart := false, laid := [("slipstream/phase.ends", laid_slipstream_phase_ends)] }
def PhaseAloneSaid : Prop := phaseAloneRow.holds Tryd.pinned (OpenSpec.ofChange phaseAloneSpec)

/-- ITS FALSE NEIGHBOUR: 'it returns false'. Refute it at one input. -/
def phaseAloneWrong : ChangeSpec := { name := "phaseAlone", fn := fun _ => fun
  | [d1, d2, d3] => { results := [.lit (.bool false)], args := [d1, d2, d3] }
  | _ => none }
def PhaseAloneWrongFalsely : Prop := phaseAloneRow.holds Tryd.pinned (OpenSpec.ofChange phaseAloneWrong)

/-- 'slipstreamlaw04.PhaseEven': WHATEVER THE INPUT: true; the input reads as it did. -/
def phaseEvenSpec : ChangeSpec := { name := "phaseEven", fn := fun _ => fun
  | [d] => { results := [.lit (.bool true)], args := [d] }
  | _ => none }
def phaseEvenRow : OpenClaim := { program := "ytjlebdjnjjdnpaadoor", sum := "88d592fd929cc5883dd5369d7bf93618846c40157c00bde78e264a556540e833", func := "slipstream/slipstreamlaw04.PhaseEven", spec := "phaseEven", unfollowed := true, recurses := true, named := ["slipstream/phase.ends"], apart := false, laid := [("slipstream/phase.ends", laid_slipstream_phase_ends)] }
def PhaseEvenSaid : Prop := phaseEvenRow.holds Tryd.pinned (OpenSpec.ofChange phaseEvenSpec)

/-- ITS FALSE NEIGHBOUR: 'it returns false'. Refute it at one input. -/
def phaseEvenWrong : ChangeSpec := { name := "phaseEven", fn := fun _ => fun
  | [d] => { results := [.lit (.bool false)], args := [d] }
  | _ => none }
def PhaseEvenWrongFalsely : Prop := phaseEvenRow.holds Tryd.pinned (OpenSpec.ofChange phaseEvenWrong)

/- THE SECOND FORM. 'bulk': how many values and letters a reading holds, each counted each time it is reached (what is shared counts as often as it is met; a slice's spare places count too). A statement '..UptoSaid' is the law's where the arguments, and the package variables that the reading takes, are together of bulk at most 1048576: NARROWER than '..Said'. Prove '..Said' where nothing that the law and all that it calls make is longer than what came in: it says more and counts as full. Else prove '..UptoSaid'. A law counts once. -/
mutual
def uptoBulk {H : Type} : DataW H → Nat
  | .lit (.string bytes) => bytes.length + 1
  | .lit _ => 1
  | .nil => 1
  | .ptr d => uptoBulk d + 1
  | .slice elems spare => uptoBulkAll elems + uptoBulkAll spare + 1
  | .agg parts => uptoBulkAll parts + 1
  | .iface _ d => uptoBulk d + 1
  | .map entries => uptoBulkEntries entries + 1
  | .held _ => 1
def uptoBulkAll {H : Type} : List (DataW H) → Nat
  | [] => 0
  | d :: r => uptoBulk d + uptoBulkAll r
def uptoBulkEntries {H : Type} : List (Lit × DataW H) → Nat
  | [] => 0
  | x :: r => uptoBulkEntry x + uptoBulkEntries r
def uptoBulkEntry {H : Type} : Lit × DataW H → Nat
  | (.string bytes, d) => bytes.length + uptoBulk d + 1
  | (_, d) => uptoBulk d + 1
 end
def uptoSmall : (H : Type) → List (DataW H) → Bool := fun _ ds => decide (uptoBulkAll ds ≤ 1048576)
def OpenSpec.upto (s : _root_.Go.ChangeSpec) : _root_.Go.OpenSpec := { _root_.Go.OpenSpec.ofChange s with cond := some uptoSmall }

/-- 'slipstreamlaw04.PhaseParts', WHERE WHAT IT READS IS OF BULK AT MOST 1048576: true; the input reads as it did. -/
def phasePartsUptoRow : OpenClaim := { program := "ytjlebdjnjjdnpaadoor", sum := "88d592fd929cc5883dd5369d7bf93618846c40157c00bde78e264a556540e833", func := "slipstream/slipstreamlaw04.PhaseParts", spec := "phaseParts", unfollowed := true, recurses := true, named := ["slipstream/phase.ends"], apart := false, laid := [("slipstream/phase.ends", laid_slipstream_phase_ends)], narrowed := true }
def PhasePartsUptoSaid : Prop := phasePartsUptoRow.holds Tryd.pinned (OpenSpec.upto phasePartsSpec)

/-- 'slipstreamlaw04.PhaseMasses', WHERE WHAT IT READS IS OF BULK AT MOST 1048576: true; the input reads as it did. -/
def phaseMassesUptoRow : OpenClaim := { program := "ytjlebdjnjjdnpaadoor", sum := "88d592fd929cc5883dd5369d7bf93618846c40157c00bde78e264a556540e833", func := "slipstream/slipstreamlaw04.PhaseMasses", spec := "phaseMasses", unfollowed := true, recurses := true, named := ["slipstream/phase.ends"], apart := false, laid := [("slipstream/phase.ends", laid_slipstream_phase_ends)], narrowed := true }
def PhaseMassesUptoSaid : Prop := phaseMassesUptoRow.holds Tryd.pinned (OpenSpec.upto phaseMassesSpec)

/-- 'slipstreamlaw04.PhaseExchanges', WHERE WHAT IT READS IS OF BULK AT MOST 1048576: true; the input reads as it did. -/
def phaseExchangesUptoRow : OpenClaim := { program := "ytjlebdjnjjdnpaadoor", sum := "88d592fd929cc5883dd5369d7bf93618846c40157c00bde78e264a556540e833", func := "slipstream/slipstreamlaw04.PhaseExchanges", spec := "phaseExchanges", unfollowed := true, recurses := true, named := ["slipstream/phase.ends"], apart := false, laid := [("slipstream/phase.ends", laid_slipstream_phase_ends)], narrowed := true }
def PhaseExchangesUptoSaid : Prop := phaseExchangesUptoRow.holds Tryd.pinned (OpenSpec.upto phaseExchangesSpec)

/-- 'slipstreamlaw04.PhaseKept', WHERE WHAT IT READS IS OF BULK AT MOST 1048576: true; the input reads as it did. -/
def phaseKeptUptoRow : OpenClaim := { program := "ytjlebdjnjjdnpaadoor", sum := "88d592fd929cc5883dd5369d7bf93618846c40157c00bde78e264a556540e833", func := "slipstream/slipstreamlaw04.PhaseKept", spec := "phaseKept", unfollowed := true, recurses := true, named := ["slipstream/phase.ends"], apart := false, laid := [("slipstream/phase.ends", laid_slipstream_phase_ends)], narrowed := true }
def PhaseKeptUptoSaid : Prop := phaseKeptUptoRow.holds Tryd.pinned (OpenSpec.upto phaseKeptSpec)

/-- 'slipstreamlaw04.PhaseSwaps', WHERE WHAT IT READS IS OF BULK AT MOST 1048576: true; the input reads as it did. -/
def phaseSwapsUptoRow : OpenClaim := { program := "ytjlebdjnjjdnpaadoor", sum := "88d592fd929cc5883dd5369d7bf93618846c40157c00bde78e264a556540e833", func := "slipstream/slipstreamlaw04.PhaseSwaps", spec := "phaseSwaps", unfollowed := true, recurses := true, named := ["slipstream/phase.ends"], apart := false, laid := [("slipstream/phase.ends", laid_slipstream_phase_ends)], narrowed := true }
def PhaseSwapsUptoSaid : Prop := phaseSwapsUptoRow.holds Tryd.pinned (OpenSpec.upto phaseSwapsSpec)

/-- 'slipstreamlaw04.PhaseAlone', WHERE WHAT IT READS IS OF BULK AT MOST 1048576: true; the input reads as it did. -/
def phaseAloneUptoRow : OpenClaim := { program := "ytjlebdjnjjdnpaadoor", sum := "88d592fd929cc5883dd5369d7bf93618846c40157c00bde78e264a556540e833", func := "slipstream/slipstreamlaw04.PhaseAlone", spec := "phaseAlone", unfollowed := true, recurses := true, named := ["slipstream/phase.ends"], apart := false, laid := [("slipstream/phase.ends", laid_slipstream_phase_ends)], narrowed := true }
def PhaseAloneUptoSaid : Prop := phaseAloneUptoRow.holds Tryd.pinned (OpenSpec.upto phaseAloneSpec)

/-- 'slipstreamlaw04.PhaseEven', WHERE WHAT IT READS IS OF BULK AT MOST 1048576: true; the input reads as it did. -/
def phaseEvenUptoRow : OpenClaim := { program := "ytjlebdjnjjdnpaadoor", sum := "88d592fd929cc5883dd5369d7bf93618846c40157c00bde78e264a556540e833", func := "slipstream/slipstreamlaw04.PhaseEven", spec := "phaseEven", unfollowed := true, recurses := true, named := ["slipstream/phase.ends"], apart := false, laid := [("slipstream/phase.ends", laid_slipstream_phase_ends)], narrowed := true }
def PhaseEvenUptoSaid : Prop := phaseEvenUptoRow.holds Tryd.pinned (OpenSpec.upto phaseEvenSpec)

end Rows
end Go.Proofs.YtjlebdjnjjdnpaaDoor
