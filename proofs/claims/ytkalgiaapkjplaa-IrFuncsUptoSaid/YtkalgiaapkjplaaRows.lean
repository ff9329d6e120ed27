/-
  No cell of these rows narrows 'for every input' (looked for: loops, veiled, ifaces, maps, wideKeys, modest, calm, conditions, laid).
  DERIVED. THE GIVEN ROWS OF THIS SEAT. 13 by the template 'for every input the law returns true; each argument reads behind the call as it read before'; 0 by the template 'total and deterministic' (their statements: YtkalgiaapkjplaaTotals.lean).
  GIVEN WITH THE SEED: the statements are not yours to turn. If you find one false, say at which input.
  Laid BY PROGRAM, IN A SANDBOX (cutbox-rows.mjs): the forced cells as the released guide's own fill.sh prints them over the translation a656afa426dc5c1b… (all of the seat's roots in one cut). By AI agents, Wed Nov 11 2026. No macro, syntax, notation, axiom, sorry.
-/
import Derived.Test.YtkalgiaapkjplaaChecked
import GoSem.Claim
import GoSem.ClaimJoined
import GoSem.ClaimMapViews
import Derived.JoinedTies
import Derived.KernelRfl
namespace Go.Proofs.Ytkalgiaapkjplaa
/- THE CELL 'sum', in the pinned program and in every row, IS THE sha256 OF THE DUMP (.gsa) THAT YtkalgiaapkjplaaProg.lean LOADS. Nothing in Lean hashes anything: it is a label: what it is worth is what the hold of that sum in a sandbox is worth. -/
noncomputable def Try.pinned : Pinned := { name := "ytkalgiaapkjplaa", sum := "a656afa426dc5c1bae1ee909a335dce8fde6961635410cede48285b6ec6ff4dc", checked := Try.checked }
namespace Rows
def none {H : Type} : Left H := { results := [], args := [] }

/-- 'marlinelaw05.IrFuncs': WHATEVER THE INPUT: true; the input reads as it did. -/
def irFuncsSpec : ChangeSpec := { name := "irFuncs", fn := fun _ => fun
  | [d] => { results := [.lit (.bool true)], args := [d] }
  | _ => none }
def irFuncsRow : OpenClaim := { program := "ytkalgiaapkjplaa", sum := "a656afa426dc5c1bae1ee909a335dce8fde6961635410cede48285b6ec6ff4dc", func := "marline/marlinelaw05.IrFuncs", spec := "irFuncs", unfollowed := true, recurses := true, plainKeys := false, apart := false }
def IrFuncsSaid : Prop := irFuncsRow.holds Try.pinned (OpenSpec.ofChange irFuncsSpec)

/-- ITS FALSE NEIGHBOUR: 'it returns false'. Refute it at one input. -/
def irFuncsWrong : ChangeSpec := { name := "irFuncs", fn := fun _ => fun
  | [d] => { results := [.lit (.bool false)], args := [d] }
  | _ => none }
def IrFuncsWrongFalsely : Prop := irFuncsRow.holds Try.pinned (OpenSpec.ofChange irFuncsWrong)

/-- 'marlinelaw05.IrChecks': WHATEVER THE INPUT: true; the input reads as it did. -/
def irChecksSpec : ChangeSpec := { name := "irChecks", fn := fun _ => fun
  | [d1, d2] => { results := [.lit (.bool true)], args := [d1, d2] }
  | _ => none }
def irChecksRow : OpenClaim := { program := "ytkalgiaapkjplaa", sum := "a656afa426dc5c1bae1ee909a335dce8fde6961635410cede48285b6ec6ff4dc", func := "marline/marlinelaw05.IrChecks", spec := "irChecks", unfollowed := true, recurses := true, plainKeys := false, apart := false }
def IrChecksSaid : Prop := irChecksRow.holds Try.pinned (OpenSpec.ofChange irChecksSpec)

/-- ITS FALSE NEIGHBOUR: 'it returns false'. Refute it at one input. -/
def irChecksWrong : ChangeSpec := { name := "irChecks", fn := fun _ => fun
  | [d1, d2] => { results := [.lit (.bool false)], args := [d1, d2] }
  | _ => none }
def IrChecksWrongFalsely : Prop := irChecksRow.holds Try.pinned (OpenSpec.ofChange irChecksWrong)

/-- 'marlinelaw05.IrLess': WHATEVER THE INPUT: true; the input reads as it did. -/
def irLessSpec : ChangeSpec := { name := "irLess", fn := fun _ => fun
  | [d1, d2] => { results := [.lit (.bool true)], args := [d1, d2] }
  | _ => none }
def irLessRow : OpenClaim := { program := "ytkalgiaapkjplaa", sum := "a656afa426dc5c1bae1ee909a335dce8fde6961635410cede48285b6ec6ff4dc", func := "marline/marlinelaw05.IrLess", spec := "irLess", unfollowed := true, recurses := true, plainKeys := false, apart := false }
def IrLessSaid : Prop := irLessRow.holds Try.pinned (OpenSpec.ofChange irLessSpec)

/-- ITS FALSE NEIGHBOUR: 'it returns false'. Refute it at one input. -/
def irLessWrong : ChangeSpec := { name := "irLess", fn := fun _ => fun
  | [d1, d2] => { results := [.lit (.bool false)], args := [d1, d2] }
  | _ => none }
def IrLessWrongFalsely : Prop := irLessRow.holds Try.pinned (OpenSpec.ofChange irLessWrong)

/-- 'marlinelaw07.EvalRuns': WHATEVER THE INPUT: true; the input reads as it did. -/
def evalRunsSpec : ChangeSpec := { name := "evalRuns", fn := fun _ => fun
  | [d] => { results := [.lit (.bool true)], args := [d] }
  | _ => none }
def evalRunsRow : OpenClaim := { program := "ytkalgiaapkjplaa", sum := "a656afa426dc5c1bae1ee909a335dce8fde6961635410cede48285b6ec6ff4dc", func := "marline/marlinelaw07.EvalRuns", spec := "evalRuns", unfollowed := true, recurses := true, plainKeys := false, apart := false }
def EvalRunsSaid : Prop := evalRunsRow.holds Try.pinned (OpenSpec.ofChange evalRunsSpec)

/-- ITS FALSE NEIGHBOUR: 'it returns false'. Refute it at one input. -/
def evalRunsWrong : ChangeSpec := { name := "evalRuns", fn := fun _ => fun
  | [d] => { results := [.lit (.bool false)], args := [d] }
  | _ => none }
def EvalRunsWrongFalsely : Prop := evalRunsRow.holds Try.pinned (OpenSpec.ofChange evalRunsWrong)

/-- 'marlinelaw07.EvalAhead': WHATEVER THE INPUT: true; the input reads as it did. -/
def evalAheadSpec : ChangeSpec := { name := "evalAhead", fn := fun _ => fun
  | [d] => { results := [.lit (.bool true)], args := [d] }
  | _ => none }
def evalAheadRow : OpenClaim := { program := "ytkalgiaapkjplaa", sum := "a656afa426dc5c1bae1ee909a335dce8fde6961635410cede48285b6ec6ff4dc", func := "marline/marlinelaw07.EvalAhead", spec := "evalAhead", unfollowed := true, recurses := true, plainKeys := false, apart := false }
def EvalAheadSaid : Prop := evalAheadRow.holds Try.pinned (OpenSpec.ofChange evalAheadSpec)

/-- ITS FALSE NEIGHBOUR: 'it returns false'. Refute it at one input. -/
def evalAheadWrong : ChangeSpec := { name := "evalAhead", fn := fun _ => fun
  | [d] => { results := [.lit (.bool false)], args := [d] }
  | _ => none }
def EvalAheadWrongFalsely : Prop := evalAheadRow.holds Try.pinned (OpenSpec.ofChange evalAheadWrong)

/-- 'marlinelaw07.EvalStraight': WHATEVER THE INPUT: true; the input reads as it did. -/
def evalStraightSpec : ChangeSpec := { name := "evalStraight", fn := fun _ => fun
  | [d1, d2] => { results := [.lit (.bool true)], args := [d1, d2] }
  | _ => none }
def evalStraightRow : OpenClaim := { program := "ytkalgiaapkjplaa", sum := "a656afa426dc5c1bae1ee909a335dce8fde6961635410cede48285b6ec6ff4dc", func := "marline/marlinelaw07.EvalStraight", spec := "evalStraight", unfollowed := true, recurses := true, plainKeys := false, apart := false }
def EvalStraightSaid : Prop := evalStraightRow.holds Try.pinned (OpenSpec.ofChange evalStraightSpec)

/-- ITS FALSE NEIGHBOUR: 'it returns false'. Refute it at one input. -/
def evalStraightWrong : ChangeSpec := { name := "evalStraight", fn := fun _ => fun
  | [d1, d2] => { results := [.lit (.bool false)], args := [d1, d2] }
  | _ => none }
def EvalStraightWrongFalsely : Prop := evalStraightRow.holds Try.pinned (OpenSpec.ofChange evalStraightWrong)

/-- 'marlinelaw08.PickTakes': WHATEVER THE INPUT: true; the input reads as it did. -/
def pickTakesSpec : ChangeSpec := { name := "pickTakes", fn := fun _ => fun
  | [d1, d2] => { results := [.lit (.bool true)], args := [d1, d2] }
  | _ => none }
def pickTakesRow : OpenClaim := { program := "ytkalgiaapkjplaa", sum := "a656afa426dc5c1bae1ee909a335dce8fde6961635410cede48285b6ec6ff4dc", func := "marline/marlinelaw08.PickTakes", spec := "pickTakes", unfollowed := true, recurses := true, plainKeys := false, apart := false }
def PickTakesSaid : Prop := pickTakesRow.holds Try.pinned (OpenSpec.ofChange pickTakesSpec)

/-- ITS FALSE NEIGHBOUR: 'it returns false'. Refute it at one input. -/
def pickTakesWrong : ChangeSpec := { name := "pickTakes", fn := fun _ => fun
  | [d1, d2] => { results := [.lit (.bool false)], args := [d1, d2] }
  | _ => none }
def PickTakesWrongFalsely : Prop := pickTakesRow.holds Try.pinned (OpenSpec.ofChange pickTakesWrong)

/-- 'marlinelaw08.PickAll': WHATEVER THE INPUT: true; the input reads as it did. -/
def pickAllSpec : ChangeSpec := { name := "pickAll", fn := fun _ => fun
  | [d] => { results := [.lit (.bool true)], args := [d] }
  | _ => none }
def pickAllRow : OpenClaim := { program := "ytkalgiaapkjplaa", sum := "a656afa426dc5c1bae1ee909a335dce8fde6961635410cede48285b6ec6ff4dc", func := "marline/marlinelaw08.PickAll", spec := "pickAll", unfollowed := true, recurses := true, plainKeys := false, apart := false }
def PickAllSaid : Prop := pickAllRow.holds Try.pinned (OpenSpec.ofChange pickAllSpec)

/-- ITS FALSE NEIGHBOUR: 'it returns false'. Refute it at one input. -/
def pickAllWrong : ChangeSpec := { name := "pickAll", fn := fun _ => fun
  | [d] => { results := [.lit (.bool false)], args := [d] }
  | _ => none }
def PickAllWrongFalsely : Prop := pickAllRow.holds Try.pinned (OpenSpec.ofChange pickAllWrong)

/-- 'marlinelaw08.PickDone': WHATEVER THE INPUT: true; the input reads as it did. -/
def pickDoneSpec : ChangeSpec := { name := "pickDone", fn := fun _ => fun
  | [d] => { results := [.lit (.bool true)], args := [d] }
  | _ => none }
def pickDoneRow : OpenClaim := { program := "ytkalgiaapkjplaa", sum := "a656afa426dc5c1bae1ee909a335dce8fde6961635410cede48285b6ec6ff4dc", func := "marline/marlinelaw08.PickDone", spec := "pickDone", unfollowed := true, recurses := true, plainKeys := false, apart := false }
def PickDoneSaid : Prop := pickDoneRow.holds Try.pinned (OpenSpec.ofChange pickDoneSpec)

/-- ITS FALSE NEIGHBOUR: 'it returns false'. Refute it at one input. -/
def pickDoneWrong : ChangeSpec := { name := "pickDone", fn := fun _ => fun
  | [d] => { results := [.lit (.bool false)], args := [d] }
  | _ => none }
def PickDoneWrongFalsely : Prop := pickDoneRow.holds Try.pinned (OpenSpec.ofChange pickDoneWrong)

/-- 'marlinelaw08.PickWanted': WHATEVER THE INPUT: true; the input reads as it did. -/
def pickWantedSpec : ChangeSpec := { name := "pickWanted", fn := fun _ => fun
  | [d] => { results := [.lit (.bool true)], args := [d] }
  | _ => none }
def pickWantedRow : OpenClaim := { program := "ytkalgiaapkjplaa", sum := "a656afa426dc5c1bae1ee909a335dce8fde6961635410cede48285b6ec6ff4dc", func := "marline/marlinelaw08.PickWanted", spec := "pickWanted", unfollowed := true, recurses := true, plainKeys := false, apart := false }
def PickWantedSaid : Prop := pickWantedRow.holds Try.pinned (OpenSpec.ofChange pickWantedSpec)

/-- ITS FALSE NEIGHBOUR: 'it returns false'. Refute it at one input. -/
def pickWantedWrong : ChangeSpec := { name := "pickWanted", fn := fun _ => fun
  | [d] => { results := [.lit (.bool false)], args := [d] }
  | _ => none }
def PickWantedWrongFalsely : Prop := pickWantedRow.holds Try.pinned (OpenSpec.ofChange pickWantedWrong)

/-- 'marlinelaw08.PickEmpty': WHATEVER THE INPUT: true; the input reads as it did. -/
def pickEmptySpec : ChangeSpec := { name := "pickEmpty", fn := fun _ => fun
  | [d1, d2] => { results := [.lit (.bool true)], args := [d1, d2] }
  | _ => none }
def pickEmptyRow : OpenClaim := { program := "ytkalgiaapkjplaa", sum := "a656afa426dc5c1bae1ee909a335dce8fde6961635410cede48285b6ec6ff4dc", func := "marline/marlinelaw08.PickEmpty", spec := "pickEmpty", unfollowed := true, recurses := true, plainKeys := false, apart := false }
def PickEmptySaid : Prop := pickEmptyRow.holds Try.pinned (OpenSpec.ofChange pickEmptySpec)

/-- ITS FALSE NEIGHBOUR: 'it returns false'. Refute it at one input. -/
def pickEmptyWrong : ChangeSpec := { name := "pickEmpty", fn := fun _ => fun
  | [d1, d2] => { results := [.lit (.bool false)], args := [d1, d2] }
  | _ => none }
def PickEmptyWrongFalsely : Prop := pickEmptyRow.holds Try.pinned (OpenSpec.ofChange pickEmptyWrong)

/-- 'marlinelaw08.PickNames': WHATEVER THE INPUT: true; the input reads as it did. -/
def pickNamesSpec : ChangeSpec := { name := "pickNames", fn := fun _ => fun
  | [d] => { results := [.lit (.bool true)], args := [d] }
  | _ => none }
def pickNamesRow : OpenClaim := { program := "ytkalgiaapkjplaa", sum := "a656afa426dc5c1bae1ee909a335dce8fde6961635410cede48285b6ec6ff4dc", func := "marline/marlinelaw08.PickNames", spec := "pickNames", unfollowed := true, recurses := true, plainKeys := false, apart := false }
def PickNamesSaid : Prop := pickNamesRow.holds Try.pinned (OpenSpec.ofChange pickNamesSpec)

/-- ITS FALSE NEIGHBOUR: 'it returns false'. Refute it at one input. -/
def pickNamesWrong : ChangeSpec := { name := "pickNames", fn := fun _ => fun
  | [d] => { results := [.lit (.bool false)], args := [d] }
  | _ => none }
def PickNamesWrongFalsely : Prop := pickNamesRow.holds Try.pinned (OpenSpec.ofChange pickNamesWrong)

/-- 'marlinelaw08.PickObjects': WHATEVER THE INPUT: true; the input reads as it did. -/
def pickObjectsSpec : ChangeSpec := { name := "pickObjects", fn := fun _ => fun
  | [d] => { results := [.lit (.bool true)], args := [d] }
  | _ => none }
def pickObjectsRow : OpenClaim := { program := "ytkalgiaapkjplaa", sum := "a656afa426dc5c1bae1ee909a335dce8fde6961635410cede48285b6ec6ff4dc", func := "marline/marlinelaw08.PickObjects", spec := "pickObjects", unfollowed := true, recurses := true, plainKeys := false, apart := false }
def PickObjectsSaid : Prop := pickObjectsRow.holds Try.pinned (OpenSpec.ofChange pickObjectsSpec)

/-- ITS FALSE NEIGHBOUR: 'it returns false'. Refute it at one input. -/
def pickObjectsWrong : ChangeSpec := { name := "pickObjects", fn := fun _ => fun
  | [d] => { results := [.lit (.bool false)], args := [d] }
  | _ => none }
def PickObjectsWrongFalsely : Prop := pickObjectsRow.holds Try.pinned (OpenSpec.ofChange pickObjectsWrong)

/- THE SECOND FORM. 'bulk': how many values and letters a reading holds, each counted each time it is reached (what is shared counts as often as it is met; a slice's spare places count too). A statement '..UptoSaid' is the law's where the arguments, and the package variables that the reading takes, are together of bulk at most 1048576: NARROWER than '..Said'. Prove '..Said' where nothing that the law and all that it calls make is longer than what came in: it says more and counts as full. Else prove '..UptoSaid'. A law counts once. -/
mutual
def uptoBulk {H : Type} : DataW H → Nat
  | .lit (.string bytes) => bytes.length + 1
  | .lit _ => 1
  | .nil => 1
  | .ptr d => uptoBulk d + 1
  | .slice elems spare => uptoBulkAll elems + uptoBulkAll spare + 1
  | .agg parts => uptoBulkAll parts + 1
  | .iface _ d => uptoBulk d + 1
  | .map entries => uptoBulkEntries entries + 1
  | .held _ => 1
def uptoBulkAll {H : Type} : List (DataW H) → Nat
  | [] => 0
  | d :: r => uptoBulk d + uptoBulkAll r
def uptoBulkEntries {H : Type} : List (Lit × DataW H) → Nat
  | [] => 0
  | x :: r => uptoBulkEntry x + uptoBulkEntries r
def uptoBulkEntry {H : Type} : Lit × DataW H → Nat
  | (.string bytes, d) => bytes.length + uptoBulk d + 1
  | (_, d) => uptoBulk d + 1
 end
def uptoSmall : (H : Type) → List (DataW H) → Bool := fun _ ds => decide (uptoBulkAll ds ≤ 1048576)
def OpenSpec.upto (s : _root_.Go.ChangeSpec) : _root_.Go.OpenSpec := { _root_.Go.OpenSpec.ofChange s with cond := some uptoSmall }

/-- 'marlinelaw05.IrFuncs', WHERE WHAT IT READS IS OF BULK AT MOST 1048576: true; the input reads as it did. -/
def irFuncsUptoRow : OpenClaim := { program := "ytkalgiaapkjplaa", sum := "a656afa426dc5c1bae1ee909a335dce8fde6961635410cede48285b6ec6ff4dc", func := "marline/marlinelaw05.IrFuncs", spec := "irFuncs", unfollowed := true, recurses := true, plainKeys := false, apart := false, narrowed := true }
def IrFuncsUptoSaid : Prop := irFuncsUptoRow.holds Try.pinned (OpenSpec.upto irFuncsSpec)

/-- 'marlinelaw05.IrChecks', WHERE WHAT IT READS IS OF BULK AT MOST 1048576: true; the input reads as it did. -/
def irChecksUptoRow : OpenClaim := { program := "ytkalgiaapkjplaa", sum := "a656afa426dc5c1bae1ee909a335dce8fde6961635410cede48285b6ec6ff4dc", func := "marline/marlinelaw05.IrChecks", spec := "irChecks", unfollowed := true, recurses := true, plainKeys := false, apart := false, narrowed := true }
def IrChecksUptoSaid : Prop := irChecksUptoRow.holds Try.pinned (OpenSpec.upto irChecksSpec)

/-- 'marlinelaw05.IrLess', WHERE WHAT IT READS IS OF BULK AT MOST 1048576: true; the input reads as it did. -/
def irLessUptoRow : OpenClaim := { program := "ytkalgiaapkjplaa", sum := "a656afa426dc5c1bae1ee909a335dce8fde6961635410cede48285b6ec6ff4dc", func := "marline/marlinelaw05.IrLess", spec := "irLess", unfollowed := true, recurses := true, plainKeys := false, apart := false, narrowed := true }
def IrLessUptoSaid : Prop := irLessUptoRow.holds Try.pinned (OpenSpec.upto irLessSpec)

/-- 'marlinelaw07.EvalRuns', WHERE WHAT IT READS IS OF BULK AT MOST 1048576: true; the input reads as it did. -/
def evalRunsUptoRow : OpenClaim := { program := "ytkalgiaapkjplaa", sum := "a656afa426dc5c1bae1ee909a335dce8fde6961635410cede48285b6ec6ff4dc", func := "marline/marlinelaw07.EvalRuns", spec := "evalRuns", unfollowed := true, recurses := true, plainKeys := false, apart := false, narrowed := true }
def EvalRunsUptoSaid : Prop := evalRunsUptoRow.holds Try.pinned (OpenSpec.upto evalRunsSpec)

/-- 'marlinelaw07.EvalAhead', WHERE WHAT IT READS IS OF BULK AT MOST 1048576: true; the input reads as it did. -/
def evalAheadUptoRow : OpenClaim := { program := "ytkalgiaapkjplaa", sum := "a656afa426dc5c1bae1ee909a335dce8fde6961635410cede48285b6ec6ff4dc", func := "marline/marlinelaw07.EvalAhead", spec := "evalAhead", unfollowed := true, recurses := true, plainKeys := false, apart := false, narrowed := true }
def EvalAheadUptoSaid : Prop := evalAheadUptoRow.holds Try.pinned (OpenSpec.upto evalAheadSpec)

/-- 'marlinelaw07.EvalStraight', WHERE WHAT IT READS IS OF BULK AT MOST 1048576: true; the input reads as it did. -/
def evalStraightUptoRow : OpenClaim := { program := "ytkalgiaapkjplaa", sum := "a656afa426dc5c1bae1ee909a335dce8fde6961635410cede48285b6ec6ff4dc", func := "marline/marlinelaw07.EvalStraight", spec := "evalStraight", unfollowed := true, recurses := true, plainKeys := false, apart := false, narrowed := true }
def EvalStraightUptoSaid : Prop := evalStraightUptoRow.holds Try.pinned (OpenSpec.upto evalStraightSpec)

/-- 'marlinelaw08.PickTakes', WHERE WHAT IT READS IS OF BULK AT MOST 1048576: true; the input reads as it did. -/
def pickTakesUptoRow : OpenClaim := { program := "ytkalgiaapkjplaa", sum := "a656afa426dc5c1bae1ee909a335dce8fde6961635410cede48285b6ec6ff4dc", func := "marline/marlinelaw08.PickTakes", spec := "pickTakes", unfollowed := true, recurses := true, plainKeys := false, apart := false, narrowed := true }
def PickTakesUptoSaid : Prop := pickTakesUptoRow.holds Try.pinned (OpenSpec.upto pickTakesSpec)

/-- 'marlinelaw08.PickAll', WHERE WHAT IT READS IS OF BULK AT MOST 1048576: true; the input reads as it did. -/
def pickAllUptoRow : OpenClaim := { program := "ytkalgiaapkjplaa", sum := "a656afa426dc5c1bae1ee909a335dce8fde6961635410cede48285b6ec6ff4dc", func := "marline/marlinelaw08.PickAll", spec := "pickAll", unfollowed := true, recurses := true, plainKeys := false, apart := false, narrowed := true }
def PickAllUptoSaid : Prop := pickAllUptoRow.holds Try.pinned (OpenSpec.upto pickAllSpec)

/-- 'marlinelaw08.PickDone', WHERE WHAT IT READS IS OF BULK AT MOST 1048576: true; the input reads as it did. -/
def pickDoneUptoRow : OpenClaim := { program := "ytkalgiaapkjplaa", sum := "a656afa426dc5c1bae1ee909a335dce8fde6961635410cede48285b6ec6ff4dc", func := "marline/marlinelaw08.PickDone", spec := "pickDone", unfollowed := true, recurses := true, plainKeys := false, apart := false, narrowed := true }
def PickDoneUptoSaid : Prop := pickDoneUptoRow.holds Try.pinned (OpenSpec.upto pickDoneSpec)

/-- 'marlinelaw08.PickWanted', WHERE WHAT IT READS IS OF BULK AT MOST 1048576: true; the input reads as it did. -/
def pickWantedUptoRow : OpenClaim := { program := "ytkalgiaapkjplaa", sum := "a656afa426dc5c1bae1ee909a335dce8fde6961635410cede48285b6ec6ff4dc", func := "marline/marlinelaw08.PickWanted", spec := "pickWanted", unfollowed := true, recurses := true, plainKeys := false, apart := false, narrowed := true }
def PickWantedUptoSaid : Prop := pickWantedUptoRow.holds Try.pinned (OpenSpec.upto pickWantedSpec)

/-- 'marlinelaw08.PickEmpty', WHERE WHAT IT READS IS OF BULK AT MOST 1048576: true; the input reads as it did. -/
def pickEmptyUptoRow : OpenClaim := { program := "ytkalgiaapkjplaa", sum := "a656afa426dc5c1bae1ee909a335dce8fde6961635410cede48285b6ec6ff4dc", func := "marline/marlinelaw08.PickEmpty", spec := "pickEmpty", unfollowed := true, recurses := true, plainKeys := false, apart := false, narrowed := true }
def PickEmptyUptoSaid : Prop := pickEmptyUptoRow.holds Try.pinned (OpenSpec.upto pickEmptySpec)

/-- 'marlinelaw08.PickNames', WHERE WHAT IT READS IS OF BULK AT MOST 1048576: true; the input reads as it did. -/
def pickNamesUptoRow : OpenClaim := { program := "ytkalgiaapkjplaa", sum := "a656afa426dc5c1bae1ee909a335dce8fde6961635410cede48285b6ec6ff4dc", func := "marline/marlinelaw08.PickNames", spec := "pickNames", unfollowed := true, recurses := true, plainKeys := false, apart := false, narrowed := true }
def PickNamesUptoSaid : Prop := pickNamesUptoRow.holds Try.pinned (OpenSpec.upto pickNamesSpec)

/-- 'marlinelaw08.PickObjects', WHERE WHAT IT READS IS OF BULK AT MOST 1048576: true; the input reads as it did. -/
def pickObjectsUptoRow : OpenClaim := { program := "ytkalgiaapkjplaa", sum := "a656afa426dc5c1bae1ee909a335dce8fde6961635410cede48285b6ec6ff4dc", func := "marline/marlinelaw08.PickObjects", spec := "pickObjects", unfollowed := true, recurses := true, plainKeys := false, apart := false, narrowed := true }
def PickObjectsUptoSaid : Prop := pickObjectsUptoRow.holds Try.pinned (OpenSpec.upto pickObjectsSpec)

end Rows
end Go.Proofs.Ytkalgiaapkjplaa
