/-
  NARROWER THAN 'FOR EVERY INPUT', by the rows' own cells (each row's printed sentence says how): PhaseSteps: laid · PhaseRuns: laid.
  DERIVED. THE GIVEN ROWS OF THIS SEAT. 2 by the template 'for every input the law returns true; each argument reads behind the call as it read before'; 0 by the template 'total and deterministic' (their statements: YtmkhbkkhoemkoaaGreatDoorTotals.lean).
  GIVEN WITH THE SEED: the statements are not yours to turn. If you find one false, say at which input.
  Laid BY PROGRAM, IN A SANDBOX (cutbox-rows.mjs): the forced cells as the released guide's own fill.sh prints them over the translation 9f591c97c83ed47c… (all of the seat's roots in one cut). By AI agents, Wed Nov 11 2026. No macro, syntax, notation, axiom, sorry.
-/
import Derived.Test.YtmkhbkkhoemkoaaGreatDoorChecked
import GoSem.Claim
import GoSem.ClaimJoined
import GoSem.ClaimMapViews
import Derived.JoinedTies
import Derived.KernelRfl
namespace Go.Proofs.YtmkhbkkhoemkoaaGreatDoor
/- THE CELL 'sum', in the pinned program and in every row, IS THE sha256 OF THE DUMP (.gsa) THAT YtmkhbkkhoemkoaaGreatDoorProg.lean LOADS. Nothing in Lean hashes anything: it is a label: what it is worth is what the hold of that sum in a sandbox is worth. -/
noncomputable def Tryz.pinned : Pinned := { name := "ytmkhbkkhoemkoaagreatdoor", sum := "9f591c97c83ed47cd358fb0acac2579522b18f681eec85fb2a3138ababff7bf5", checked := Tryz.checked }
namespace Rows
def none {H : Type} : Left H := { results := [], args := [] }

/- WHAT THE LISTED PACKAGE-LEVEL VARIABLES READ AS WHEN THE CALL BEGINS. Each datum BY PROGRAM (the guide's laid-datum.mjs) off the statement by which the dump's own 'gosem.cut.vars' lays the variable. In a bare row this is a premise. The card (YtmkhbkkhoemkoaaGreatDoorCards.lean) ties it to the program's text. -/
def laid_slipstream_phase_ends {H : Type} : DataW H := .agg [.agg [.lit (.int .i64 0), .lit (.int .i64 2)], .agg [.lit (.int .i64 1), .lit (.int .i64 3)]]

/-- 'slipstreamlaw04.PhaseSteps': WHATEVER THE INPUT: true; the input reads as it did. -/
def phaseStepsSpec : ChangeSpec := { name := "phaseSteps", fn := fun _ => fun
  | [d1, d2, d3] => { results := [.lit (.bool true)], args := [d1, d2, d3] }
  | _ => none }
def phaseStepsRow : OpenClaim := { program := "ytmkhbkkhoemkoaagreatdoor", sum := "9f591c97c83ed47cd358fb0acac2579522b18f681eec85fb2a3138ababff7bf5", func := "slipstream/slipstreamlaw04.PhaseSteps", spec := "phaseSteps", unfollowed := true, recurses := true, named := ["slipstream/phase.ends"], apart := false, laid := [("slipstream/phase.ends", laid_slipstream_phase_ends)] }
def PhaseStepsSaid : Prop := phaseStepsRow.holds Tryz.pinned (OpenSpec.ofChange phaseStepsSpec)

/-- ITS FALSE NEIGHBOUR: 'it returns false'. Refute it at one input. -/
def phaseStepsWrong : ChangeSpec := { name := "phaseSteps", fn := fun _ => fun
  | [d1, d2, d3] => { results := [.lit (.bool false)], args := [d1, d2, d3] }
  | _ => none }
def PhaseStepsWrongFalsely : Prop := phaseStepsRow.holds Tryz.pinned (OpenSpec.ofChange phaseStepsWrong)

/-- 'slipstreamlaw04.PhaseRuns': WHATEVER THE INPUT: true; the input reads as it did. -/
def phaseRunsSpec : ChangeSpec := { name := "phaseRuns", fn := fun _ => fun
  | [d1, d2, d3] => { results := [.lit (.bool true)], args := [d1, d2, d3] }
  | _ => none }
def phaseRunsRow : OpenClaim := { program := "ytmkhbkkhoemkoaagreatdoor", sum := "9f591c97c83ed47cd358fb0acac2579522b18f681eec85fb2a3138ababff7bf5", func := "slipstream/slipstreamlaw04.PhaseRuns", spec := "phaseRuns", unfollowed := true, recurses := true, named := ["slipstream/phase.ends"], apart := false, laid := [("slipstream/phase.ends", laid_slipstream_phase_ends)] }
def PhaseRunsSaid : Prop := phaseRunsRow.holds Tryz.pinned (OpenSpec.ofChange phaseRunsSpec)

/-- ITS FALSE NEIGHBOUR: 'it returns false'. Refute it at one input. -/
def phaseRunsWrong : ChangeSpec := { name := "phaseRuns", fn := fun _ => fun
  | [d1, d2, d3] => { results := [.lit (.bool false)], args := [d1, d2, d3] }
  | _ => none }
def PhaseRunsWrongFalsely : Prop := phaseRunsRow.holds Tryz.pinned (OpenSpec.ofChange phaseRunsWrong)

/- THE SECOND FORM. 'bulk': how many values and letters a reading holds, each counted each time it is reached (what is shared counts as often as it is met; a slice's spare places count too). A statement '..UptoSaid' is the law's where the arguments, and the package variables that the reading takes, are together of bulk at most 1048576: NARROWER than '..Said'. Prove '..Said' where nothing that the law and all that it calls make is longer than what came in: it says more and counts as full. Else prove '..UptoSaid'. A law counts once. -/
mutual
def uptoBulk {H : Type} : DataW H → Nat
  | .lit (.string bytes) => bytes.length + 1
  | .lit _ => 1
  | .nil => 1
  | .ptr d => uptoBulk d + 1
  | .slice elems spare => uptoBulkAll elems + uptoBulkAll spare + 1
  | .agg parts => uptoBulkAll parts + 1
  | .iface _ d => uptoBulk d + 1
  | .map entries => uptoBulkEntries entries + 1
  | .held _ => 1
def uptoBulkAll {H : Type} : List (DataW H) → Nat
  | [] => 0
  | d :: r => uptoBulk d + uptoBulkAll r
def uptoBulkEntries {H : Type} : List (Lit × DataW H) → Nat
  | [] => 0
  | x :: r => uptoBulkEntry x + uptoBulkEntries r
def uptoBulkEntry {H : Type} : Lit × DataW H → Nat
  | (.string bytes, d) => bytes.length + uptoBulk d + 1
  | (_, d) => uptoBulk d + 1
 end
def uptoSmall : (H : Type) → List (DataW H) → Bool := fun _ ds => decide (uptoBulkAll ds ≤ 1048576)
def OpenSpec.upto (s : _root_.Go.ChangeSpec) : _root_.Go.OpenSpec := { _root_.Go.OpenSpec.ofChange s with cond := some uptoSmall }

/-- 'slipstreamlaw04.PhaseSteps', WHERE WHAT IT READS IS OF BULK AT MOST 1048576: true; the input reads as it did. -/
def phaseStepsUptoRow : OpenClaim := { program := "ytmkhbkkhoemkoaagreatdoor", sum := "9f591c97c83ed47cd358fb0acac2579522b18f681eec85fb2a3138ababff7bf5", func := "slipstream/slipstreamlaw04.PhaseSteps", spec := "phaseSteps", unfollowed := true, recurses := true, named := ["slipstream/phase.ends"], apart := false, laid := [("slipstream/phase.ends", laid_slipstream_phase_ends)], narrowed := true }
def PhaseStepsUptoSaid : Prop := phaseStepsUptoRow.holds Tryz.pinned (OpenSpec.upto phaseStepsSpec)

/-- 'slipstreamlaw04.PhaseRuns', WHERE WHAT IT READS IS OF BULK AT MOST 1048576: true; the input reads as it did. -/
def phaseRunsUptoRow : OpenClaim := { program := "ytmkhbkkhoemkoaagreatdoor", sum := "9f591c97c83ed47cd358fb0acac2579522b18f681eec85fb2a3138ababff7bf5", func := "slipstream/slipstreamlaw04.PhaseRuns", spec := "phaseRuns", unfollowed := true, recurses := true, named := ["slipstream/phase.ends"], apart := false, laid := [("slipstream/phase.ends", laid_slipstream_phase_ends)], narrowed := true }
def PhaseRunsUptoSaid : Prop := phaseRunsUptoRow.holds Tryz.pinned (OpenSpec.upto phaseRunsSpec)

end Rows
end Go.Proofs.YtmkhbkkhoemkoaaGreatDoor
