/-
  No cell of these rows narrows 'for every input' (looked for: loops, veiled, ifaces, maps, wideKeys, modest, calm, conditions, laid).
  DERIVED. THE GIVEN ROWS OF THIS SEAT. 14 by the template 'for every input the law returns true; each argument reads behind the call as it read before'; 0 by the template 'total and deterministic' (their statements: YtcfniagmnkngfaaTotals.lean).
  GIVEN WITH THE SEED: the statements are not yours to turn. If you find one false, say at which input.
  Laid BY PROGRAM, IN A SANDBOX (cutbox-rows.mjs): the forced cells as the released guide's own fill.sh prints them over the translation d63379fbffacec4b… (all of the seat's roots in one cut). By AI agents, Wed Nov 11 2026. No macro, syntax, notation, axiom, sorry.
-/
import Derived.Test.YtcfniagmnkngfaaChecked
import GoSem.Claim
import GoSem.ClaimJoined
import GoSem.ClaimMapViews
import Derived.JoinedTies
import Derived.KernelRfl
namespace Go.Proofs.Ytcfniagmnkngfaa
/- THE CELL 'sum', in the pinned program and in every row, IS THE sha256 OF THE DUMP (.gsa) THAT YtcfniagmnkngfaaProg.lean LOADS. Nothing in Lean hashes anything: it is a label: what it is worth is what the hold of that sum in a sandbox is worth. -/
noncomputable def Try.pinned : Pinned := { name := "ytcfniagmnkngfaa", sum := "d63379fbffacec4b13e45554310a5066deef6863aa98641a69d503174d17156f", checked := Try.checked }
namespace Rows
def none {H : Type} : Left H := { results := [], args := [] }

/-- 'marlinelaw07.EvalRuns': WHATEVER THE INPUT: true; the input reads as it did. -/
def evalRunsSpec : ChangeSpec := { name := "evalRuns", fn := fun _ => fun
  | [d] => { results := [.lit (.bool true)], args := [d] }
  | _ => none }
def evalRunsRow : OpenClaim := { program := "ytcfniagmnkngfaa", sum := "d63379fbffacec4b13e45554310a5066deef6863aa98641a69d503174d17156f", func := "marline/marlinelaw07.EvalRuns", spec := "evalRuns", unfollowed := true, recurses := true, plainKeys := false, apart := false }
def EvalRunsSaid : Prop := evalRunsRow.holds Try.pinned (OpenSpec.ofChange evalRunsSpec)

/-- ITS FALSE NEIGHBOUR: 'it returns false'. Refute it at one input. -/
def evalRunsWrong : ChangeSpec := { name := "evalRuns", fn := fun _ => fun
  | [d] => { results := [.lit (.bool false)], args := [d] }
  | _ => none }
def EvalRunsWrongFalsely : Prop := evalRunsRow.holds Try.pinned (OpenSpec.ofChange evalRunsWrong)

/-- 'marlinelaw08.PickTakes': WHATEVER THE INPUT: true; the input reads as it did. -/
def pickTakesSpec : ChangeSpec := { name := "pickTakes", fn := fun _ => fun
  | [d1, d2] => { results := [.lit (.bool true)], args := [d1, d2] }
  | _ => none }
def pickTakesRow : OpenClaim := { program := "ytcfniagmnkngfaa", sum := "d63379fbffacec4b13e45554310a5066deef6863aa98641a69d503174d17156f", func := "marline/marlinelaw08.PickTakes", spec := "pickTakes", unfollowed := true, recurses := true, plainKeys := false, apart := false }
def PickTakesSaid : Prop := pickTakesRow.holds Try.pinned (OpenSpec.ofChange pickTakesSpec)

/-- ITS FALSE NEIGHBOUR: 'it returns false'. Refute it at one input. -/
def pickTakesWrong : ChangeSpec := { name := "pickTakes", fn := fun _ => fun
  | [d1, d2] => { results := [.lit (.bool false)], args := [d1, d2] }
  | _ => none }
def PickTakesWrongFalsely : Prop := pickTakesRow.holds Try.pinned (OpenSpec.ofChange pickTakesWrong)

/-- 'marlinelaw08.PickAll': WHATEVER THE INPUT: true; the input reads as it did. -/
def pickAllSpec : ChangeSpec := { name := "pickAll", fn := fun _ => fun
  | [d] => { results := [.lit (.bool true)], args := [d] }
  | _ => none }
def pickAllRow : OpenClaim := { program := "ytcfniagmnkngfaa", sum := "d63379fbffacec4b13e45554310a5066deef6863aa98641a69d503174d17156f", func := "marline/marlinelaw08.PickAll", spec := "pickAll", unfollowed := true, recurses := true, plainKeys := false, apart := false }
def PickAllSaid : Prop := pickAllRow.holds Try.pinned (OpenSpec.ofChange pickAllSpec)

/-- ITS FALSE NEIGHBOUR: 'it returns false'. Refute it at one input. -/
def pickAllWrong : ChangeSpec := { name := "pickAll", fn := fun _ => fun
  | [d] => { results := [.lit (.bool false)], args := [d] }
  | _ => none }
def PickAllWrongFalsely : Prop := pickAllRow.holds Try.pinned (OpenSpec.ofChange pickAllWrong)

/-- 'marlinelaw08.PickDone': WHATEVER THE INPUT: true; the input reads as it did. -/
def pickDoneSpec : ChangeSpec := { name := "pickDone", fn := fun _ => fun
  | [d] => { results := [.lit (.bool true)], args := [d] }
  | _ => none }
def pickDoneRow : OpenClaim := { program := "ytcfniagmnkngfaa", sum := "d63379fbffacec4b13e45554310a5066deef6863aa98641a69d503174d17156f", func := "marline/marlinelaw08.PickDone", spec := "pickDone", unfollowed := true, recurses := true, plainKeys := false, apart := false }
def PickDoneSaid : Prop := pickDoneRow.holds Try.pinned (OpenSpec.ofChange pickDoneSpec)

/-- ITS FALSE NEIGHBOUR: 'it returns false'. Refute it at one input. -/
def pickDoneWrong : ChangeSpec := { name := "pickDone", fn := fun _ => fun
  | [d] => { results := [.lit (.bool false)], args := [d] }
  | _ => none }
def PickDoneWrongFalsely : Prop := pickDoneRow.holds Try.pinned (OpenSpec.ofChange pickDoneWrong)

/-- 'marlinelaw08.PickWanted': WHATEVER THE INPUT: true; the input reads as it did. -/
def pickWantedSpec : ChangeSpec := { name := "pickWanted", fn := fun _ => fun
  | [d] => { results := [.lit (.bool true)], args := [d] }
  | _ => none }
def pickWantedRow : OpenClaim := { program := "ytcfniagmnkngfaa", sum := "d63379fbffacec4b13e45554310a5066deef6863aa98641a69d503174d17156f", func := "marline/marlinelaw08.PickWanted", spec := "pickWanted", unfollowed := true, recurses := true, plainKeys := false, apart := false }
def PickWantedSaid : Prop := pickWantedRow.holds Try.pinned (OpenSpec.ofChange pickWantedSpec)

/-- ITS FALSE NEIGHBOUR: 'it returns false'. Refute it at one input. -/
def pickWantedWrong : ChangeSpec := { name := "pickWanted", fn := fun _ => fun
  | [d] => { results := [.lit (.bool false)], args := [d] }
  | _ => none }
def PickWantedWrongFalsely : Prop := pickWantedRow.holds Try.pinned (OpenSpec.ofChange pickWantedWrong)

/-- 'marlinelaw08.PickEmpty': WHATEVER THE INPUT: true; the input reads as it did. -/
def pickEmptySpec : ChangeSpec := { name := "pickEmpty", fn := fun _ => fun
  | [d1, d2] => { results := [.lit (.bool true)], args := [d1, d2] }
  | _ => none }
def pickEmptyRow : OpenClaim := { program := "ytcfniagmnkngfaa", sum := "d63379fbffacec4b13e45554310a5066deef6863aa98641a69d503174d17156f", func := "marline/marlinelaw08.PickEmpty", spec := "pickEmpty", unfollowed := true, recurses := true, plainKeys := false, apart := false }
def PickEmptySaid : Prop := pickEmptyRow.holds Try.pinned (OpenSpec.ofChange pickEmptySpec)

/-- ITS FALSE NEIGHBOUR: 'it returns false'. Refute it at one input. -/
def pickEmptyWrong : ChangeSpec := { name := "pickEmpty", fn := fun _ => fun
  | [d1, d2] => { results := [.lit (.bool false)], args := [d1, d2] }
  | _ => none }
def PickEmptyWrongFalsely : Prop := pickEmptyRow.holds Try.pinned (OpenSpec.ofChange pickEmptyWrong)

/-- 'marlinelaw08.PickNames': WHATEVER THE INPUT: true; the input reads as it did. -/
def pickNamesSpec : ChangeSpec := { name := "pickNames", fn := fun _ => fun
  | [d] => { results := [.lit (.bool true)], args := [d] }
  | _ => none }
def pickNamesRow : OpenClaim := { program := "ytcfniagmnkngfaa", sum := "d63379fbffacec4b13e45554310a5066deef6863aa98641a69d503174d17156f", func := "marline/marlinelaw08.PickNames", spec := "pickNames", unfollowed := true, recurses := true, plainKeys := false, apart := false }
def PickNamesSaid : Prop := pickNamesRow.holds Try.pinned (OpenSpec.ofChange pickNamesSpec)

/-- ITS FALSE NEIGHBOUR: 'it returns false'. Refute it at one input. -/
def pickNamesWrong : ChangeSpec := { name := "pickNames", fn := fun _ => fun
  | [d] => { results := [.lit (.bool false)], args := [d] }
  | _ => none }
def PickNamesWrongFalsely : Prop := pickNamesRow.holds Try.pinned (OpenSpec.ofChange pickNamesWrong)

/-- 'marlinelaw08.PickObjects': WHATEVER THE INPUT: true; the input reads as it did. -/
def pickObjectsSpec : ChangeSpec := { name := "pickObjects", fn := fun _ => fun
  | [d] => { results := [.lit (.bool true)], args := [d] }
  | _ => none }
def pickObjectsRow : OpenClaim := { program := "ytcfniagmnkngfaa", sum := "d63379fbffacec4b13e45554310a5066deef6863aa98641a69d503174d17156f", func := "marline/marlinelaw08.PickObjects", spec := "pickObjects", unfollowed := true, recurses := true, plainKeys := false, apart := false }
def PickObjectsSaid : Prop := pickObjectsRow.holds Try.pinned (OpenSpec.ofChange pickObjectsSpec)

/-- ITS FALSE NEIGHBOUR: 'it returns false'. Refute it at one input. -/
def pickObjectsWrong : ChangeSpec := { name := "pickObjects", fn := fun _ => fun
  | [d] => { results := [.lit (.bool false)], args := [d] }
  | _ => none }
def PickObjectsWrongFalsely : Prop := pickObjectsRow.holds Try.pinned (OpenSpec.ofChange pickObjectsWrong)

/-- 'marlinelaw09.ResolveTells': WHATEVER THE INPUT: true; the input reads as it did. -/
def resolveTellsSpec : ChangeSpec := { name := "resolveTells", fn := fun _ => fun
  | [d1, d2] => { results := [.lit (.bool true)], args := [d1, d2] }
  | _ => none }
def resolveTellsRow : OpenClaim := { program := "ytcfniagmnkngfaa", sum := "d63379fbffacec4b13e45554310a5066deef6863aa98641a69d503174d17156f", func := "marline/marlinelaw09.ResolveTells", spec := "resolveTells", unfollowed := true, recurses := true, plainKeys := false, apart := false }
def ResolveTellsSaid : Prop := resolveTellsRow.holds Try.pinned (OpenSpec.ofChange resolveTellsSpec)

/-- ITS FALSE NEIGHBOUR: 'it returns false'. Refute it at one input. -/
def resolveTellsWrong : ChangeSpec := { name := "resolveTells", fn := fun _ => fun
  | [d1, d2] => { results := [.lit (.bool false)], args := [d1, d2] }
  | _ => none }
def ResolveTellsWrongFalsely : Prop := resolveTellsRow.holds Try.pinned (OpenSpec.ofChange resolveTellsWrong)

/-- 'marlinelaw09.ResolveOne': WHATEVER THE INPUT: true; the input reads as it did. -/
def resolveOneSpec : ChangeSpec := { name := "resolveOne", fn := fun _ => fun
  | [d] => { results := [.lit (.bool true)], args := [d] }
  | _ => none }
def resolveOneRow : OpenClaim := { program := "ytcfniagmnkngfaa", sum := "d63379fbffacec4b13e45554310a5066deef6863aa98641a69d503174d17156f", func := "marline/marlinelaw09.ResolveOne", spec := "resolveOne", unfollowed := true, recurses := true, plainKeys := false, apart := false }
def ResolveOneSaid : Prop := resolveOneRow.holds Try.pinned (OpenSpec.ofChange resolveOneSpec)

/-- ITS FALSE NEIGHBOUR: 'it returns false'. Refute it at one input. -/
def resolveOneWrong : ChangeSpec := { name := "resolveOne", fn := fun _ => fun
  | [d] => { results := [.lit (.bool false)], args := [d] }
  | _ => none }
def ResolveOneWrongFalsely : Prop := resolveOneRow.holds Try.pinned (OpenSpec.ofChange resolveOneWrong)

/-- 'marlinelaw09.ResolveThere': WHATEVER THE INPUT: true; the input reads as it did. -/
def resolveThereSpec : ChangeSpec := { name := "resolveThere", fn := fun _ => fun
  | [d] => { results := [.lit (.bool true)], args := [d] }
  | _ => none }
def resolveThereRow : OpenClaim := { program := "ytcfniagmnkngfaa", sum := "d63379fbffacec4b13e45554310a5066deef6863aa98641a69d503174d17156f", func := "marline/marlinelaw09.ResolveThere", spec := "resolveThere", unfollowed := true, recurses := true, plainKeys := false, apart := false }
def ResolveThereSaid : Prop := resolveThereRow.holds Try.pinned (OpenSpec.ofChange resolveThereSpec)

/-- ITS FALSE NEIGHBOUR: 'it returns false'. Refute it at one input. -/
def resolveThereWrong : ChangeSpec := { name := "resolveThere", fn := fun _ => fun
  | [d] => { results := [.lit (.bool false)], args := [d] }
  | _ => none }
def ResolveThereWrongFalsely : Prop := resolveThereRow.holds Try.pinned (OpenSpec.ofChange resolveThereWrong)

/-- 'marlinelaw09.ResolveTurned': WHATEVER THE INPUT: true; the input reads as it did. -/
def resolveTurnedSpec : ChangeSpec := { name := "resolveTurned", fn := fun _ => fun
  | [d1, d2, d3] => { results := [.lit (.bool true)], args := [d1, d2, d3] }
  | _ => none }
def resolveTurnedRow : OpenClaim := { program := "ytcfniagmnkngfaa", sum := "d63379fbffacec4b13e45554310a5066deef6863aa98641a69d503174d17156f", func := "marline/marlinelaw09.ResolveTurned", spec := "resolveTurned", unfollowed := true, recurses := true, plainKeys := false, apart := false }
def ResolveTurnedSaid : Prop := resolveTurnedRow.holds Try.pinned (OpenSpec.ofChange resolveTurnedSpec)

/-- ITS FALSE NEIGHBOUR: 'it returns false'. Refute it at one input. -/
def resolveTurnedWrong : ChangeSpec := { name := "resolveTurned", fn := fun _ => fun
  | [d1, d2, d3] => { results := [.lit (.bool false)], args := [d1, d2, d3] }
  | _ => none }
def ResolveTurnedWrongFalsely : Prop := resolveTurnedRow.holds Try.pinned (OpenSpec.ofChange resolveTurnedWrong)

/-- 'marlinelaw09.ResolveMore': WHATEVER THE INPUT: true; the input reads as it did. -/
def resolveMoreSpec : ChangeSpec := { name := "resolveMore", fn := fun _ => fun
  | [d1, d2] => { results := [.lit (.bool true)], args := [d1, d2] }
  | _ => none }
def resolveMoreRow : OpenClaim := { program := "ytcfniagmnkngfaa", sum := "d63379fbffacec4b13e45554310a5066deef6863aa98641a69d503174d17156f", func := "marline/marlinelaw09.ResolveMore", spec := "resolveMore", unfollowed := true, recurses := true, plainKeys := false, apart := false }
def ResolveMoreSaid : Prop := resolveMoreRow.holds Try.pinned (OpenSpec.ofChange resolveMoreSpec)

/-- ITS FALSE NEIGHBOUR: 'it returns false'. Refute it at one input. -/
def resolveMoreWrong : ChangeSpec := { name := "resolveMore", fn := fun _ => fun
  | [d1, d2] => { results := [.lit (.bool false)], args := [d1, d2] }
  | _ => none }
def ResolveMoreWrongFalsely : Prop := resolveMoreRow.holds Try.pinned (OpenSpec.ofChange resolveMoreWrong)

/-- 'marlinelaw09.ResolveStrong': WHATEVER THE INPUT: true; the input reads as it did. -/
def resolveStrongSpec : ChangeSpec := { name := "resolveStrong", fn := fun _ => fun
  | [d] => { results := [.lit (.bool true)], args := [d] }
  | _ => none }
def resolveStrongRow : OpenClaim := { program := "ytcfniagmnkngfaa", sum := "d63379fbffacec4b13e45554310a5066deef6863aa98641a69d503174d17156f", func := "marline/marlinelaw09.ResolveStrong", spec := "resolveStrong", unfollowed := true, recurses := true, plainKeys := false, apart := false }
def ResolveStrongSaid : Prop := resolveStrongRow.holds Try.pinned (OpenSpec.ofChange resolveStrongSpec)

/-- ITS FALSE NEIGHBOUR: 'it returns false'. Refute it at one input. -/
def resolveStrongWrong : ChangeSpec := { name := "resolveStrong", fn := fun _ => fun
  | [d] => { results := [.lit (.bool false)], args := [d] }
  | _ => none }
def ResolveStrongWrongFalsely : Prop := resolveStrongRow.holds Try.pinned (OpenSpec.ofChange resolveStrongWrong)

/- THE SECOND FORM. 'bulk': how many values and letters a reading holds, each counted each time it is reached (what is shared counts as often as it is met; a slice's spare places count too). A statement '..UptoSaid' is the law's where the arguments, and the package variables that the reading takes, are together of bulk at most 1048576: NARROWER than '..Said'. Prove '..Said' where nothing that the law and all that it calls make is longer than what came in: it says more and counts as full. Else prove '..UptoSaid'. A law counts once. -/
mutual
def uptoBulk {H : Type} : DataW H → Nat
  | .lit (.string bytes) => bytes.length + 1
  | .lit _ => 1
  | .nil => 1
  | .ptr d => uptoBulk d + 1
  | .slice elems spare => uptoBulkAll elems + uptoBulkAll spare + 1
  | .agg parts => uptoBulkAll parts + 1
  | .iface _ d => uptoBulk d + 1
  | .map entries => uptoBulkEntries entries + 1
  | .held _ => 1
def uptoBulkAll {H : Type} : List (DataW H) → Nat
  | [] => 0
  | d :: r => uptoBulk d + uptoBulkAll r
def uptoBulkEntries {H : Type} : List (Lit × DataW H) → Nat
  | [] => 0
  | x :: r => uptoBulkEntry x + uptoBulkEntries r
def uptoBulkEntry {H : Type} : Lit × DataW H → Nat
  | (.string bytes, d) => bytes.length + uptoBulk d + 1
  | (_, d) => uptoBulk d + 1
 end
def uptoSmall : (H : Type) → List (DataW H) → Bool := fun _ ds => decide (uptoBulkAll ds ≤ 1048576)
def OpenSpec.upto (s : _root_.Go.ChangeSpec) : _root_.Go.OpenSpec := { _root_.Go.OpenSpec.ofChange s with cond := some uptoSmall }

/-- 'marlinelaw07.EvalRuns', WHERE WHAT IT READS IS OF BULK AT MOST 1048576: true; the input reads as it did. -/
def evalRunsUptoRow : OpenClaim := { program := "ytcfniagmnkngfaa", sum := "d63379fbffacec4b13e45554310a5066deef6863aa98641a69d503174d17156f", func := "marline/marlinelaw07.EvalRuns", spec := "evalRuns", unfollowed := true, recurses := true, plainKeys := false, apart := false, narrowed := true }
def EvalRunsUptoSaid : Prop := evalRunsUptoRow.holds Try.pinned (OpenSpec.upto evalRunsSpec)

/-- 'marlinelaw08.PickTakes', WHERE WHAT IT READS IS OF BULK AT MOST 1048576: true; the input reads as it did. -/
def pickTakesUptoRow : OpenClaim := { program := "ytcfniagmnkngfaa", sum := "d63379fbffacec4b13e45554310a5066deef6863aa98641a69d503174d17156f", func := "marline/marlinelaw08.PickTakes", spec := "pickTakes", unfollowed := true, recurses := true, plainKeys := false, apart := false, narrowed := true }
def PickTakesUptoSaid : Prop := pickTakesUptoRow.holds Try.pinned (OpenSpec.upto pickTakesSpec)

/-- 'marlinelaw08.PickAll', WHERE WHAT IT READS IS OF BULK AT MOST 1048576: true; the input reads as it did. -/
def pickAllUptoRow : OpenClaim := { program := "ytcfniagmnkngfaa", sum := "d63379fbffacec4b13e45554310a5066deef6863aa98641a69d503174d17156f", func := "marline/marlinelaw08.PickAll", spec := "pickAll", unfollowed := true, recurses := true, plainKeys := false, apart := false, narrowed := true }
def PickAllUptoSaid : Prop := pickAllUptoRow.holds Try.pinned (OpenSpec.upto pickAllSpec)

/-- 'marlinelaw08.PickDone', WHERE WHAT IT READS IS OF BULK AT MOST 1048576: true; the input reads as it did. -/
def pickDoneUptoRow : OpenClaim := { program := "ytcfniagmnkngfaa", sum := "d63379fbffacec4b13e45554310a5066deef6863aa98641a69d503174d17156f", func := "marline/marlinelaw08.PickDone", spec := "pickDone", unfollowed := true, recurses := true, plainKeys := false, apart := false, narrowed := true }
def PickDoneUptoSaid : Prop := pickDoneUptoRow.holds Try.pinned (OpenSpec.upto pickDoneSpec)

/-- 'marlinelaw08.PickWanted', WHERE WHAT IT READS IS OF BULK AT MOST 1048576: true; the input reads as it did. -/
def pickWantedUptoRow : OpenClaim := { program := "ytcfniagmnkngfaa", sum := "d63379fbffacec4b13e45554310a5066deef6863aa98641a69d503174d17156f", func := "marline/marlinelaw08.PickWanted", spec := "pickWanted", unfollowed := true, recurses := true, plainKeys := false, apart := false, narrowed := true }
def PickWantedUptoSaid : Prop := pickWantedUptoRow.holds Try.pinned (OpenSpec.upto pickWantedSpec)

/-- 'marlinelaw08.PickEmpty', WHERE WHAT IT READS IS OF BULK AT MOST 1048576: true; the input reads as it did. -/
def pickEmptyUptoRow : OpenClaim := { program := "ytcfniagmnkngfaa", sum := "d63379fbffacec4b13e45554310a5066deef6863aa98641a69d503174d17156f", func := "marline/marlinelaw08.PickEmpty", spec := "pickEmpty", unfollowed := true, recurses := true, plainKeys := false, apart := false, narrowed := true }
def PickEmptyUptoSaid : Prop := pickEmptyUptoRow.holds Try.pinned (OpenSpec.upto pickEmptySpec)

/-- 'marlinelaw08.PickNames', WHERE WHAT IT READS IS OF BULK AT MOST 1048576: true; the input reads as it did. -/
def pickNamesUptoRow : OpenClaim := { program := "ytcfniagmnkngfaa", sum := "d63379fbffacec4b13e45554310a5066deef6863aa98641a69d503174d17156f", func := "marline/marlinelaw08.PickNames", spec := "pickNames", unfollowed := true, recurses := true, plainKeys := false, apart := false, narrowed := true }
def PickNamesUptoSaid : Prop := pickNamesUptoRow.holds Try.pinned (OpenSpec.upto pickNamesSpec)

/-- 'marlinelaw08.PickObjects', WHERE WHAT IT READS IS OF BULK AT MOST 1048576: true; the input reads as it did. -/
def pickObjectsUptoRow : OpenClaim := { program := "ytcfniagmnkngfaa", sum := "d63379fbffacec4b13e45554310a5066deef6863aa98641a69d503174d17156f", func := "marline/marlinelaw08.PickObjects", spec := "pickObjects", unfollowed := true, recurses := true, plainKeys := false, apart := false, narrowed := true }
def PickObjectsUptoSaid : Prop := pickObjectsUptoRow.holds Try.pinned (OpenSpec.upto pickObjectsSpec)

/-- 'marlinelaw09.ResolveTells', WHERE WHAT IT READS IS OF BULK AT MOST 1048576: true; the input reads as it did. -/
def resolveTellsUptoRow : OpenClaim := { program := "ytcfniagmnkngfaa", sum := "d63379fbffacec4b13e45554310a5066deef6863aa98641a69d503174d17156f", func := "marline/marlinelaw09.ResolveTells", spec := "resolveTells", unfollowed := true, recurses := true, plainKeys := false, apart := false, narrowed := true }
def ResolveTellsUptoSaid : Prop := resolveTellsUptoRow.holds Try.pinned (OpenSpec.upto resolveTellsSpec)

/-- 'marlinelaw09.ResolveOne', WHERE WHAT IT READS IS OF BULK AT MOST 1048576: true; the input reads as it did. -/
def resolveOneUptoRow : OpenClaim := { program := "ytcfniagmnkngfaa", sum := "d63379fbffacec4b13e45554310a5066deef6863aa98641a69d503174d17156f", func := "marline/marlinelaw09.ResolveOne", spec := "resolveOne", unfollowed := true, recurses := true, plainKeys := false, apart := false, narrowed := true }
def ResolveOneUptoSaid : Prop := resolveOneUptoRow.holds Try.pinned (OpenSpec.upto resolveOneSpec)

/-- 'marlinelaw09.ResolveThere', WHERE WHAT IT READS IS OF BULK AT MOST 1048576: true; the input reads as it did. -/
def resolveThereUptoRow : OpenClaim := { program := "ytcfniagmnkngfaa", sum := "d63379fbffacec4b13e45554310a5066deef6863aa98641a69d503174d17156f", func := "marline/marlinelaw09.ResolveThere", spec := "resolveThere", unfollowed := true, recurses := true, plainKeys := false, apart := false, narrowed := true }
def ResolveThereUptoSaid : Prop := resolveThereUptoRow.holds Try.pinned (OpenSpec.upto resolveThereSpec)

/-- 'marlinelaw09.ResolveTurned', WHERE WHAT IT READS IS OF BULK AT MOST 1048576: true; the input reads as it did. -/
def resolveTurnedUptoRow : OpenClaim := { program := "ytcfniagmnkngfaa", sum := "d63379fbffacec4b13e45554310a5066deef6863aa98641a69d503174d17156f", func := "marline/marlinelaw09.ResolveTurned", spec := "resolveTurned", unfollowed := true, recurses := true, plainKeys := false, apart := false, narrowed := true }
def ResolveTurnedUptoSaid : Prop := resolveTurnedUptoRow.holds Try.pinned (OpenSpec.upto resolveTurnedSpec)

/-- 'marlinelaw09.ResolveMore', WHERE WHAT IT READS IS OF BULK AT MOST 1048576: true; the input reads as it did. -/
def resolveMoreUptoRow : OpenClaim := { program := "ytcfniagmnkngfaa", sum := "d63379fbffacec4b13e45554310a5066deef6863aa98641a69d503174d17156f", func := "marline/marlinelaw09.ResolveMore", spec := "resolveMore", unfollowed := true, recurses := true, plainKeys := false, apart := false, narrowed := true }
def ResolveMoreUptoSaid : Prop := resolveMoreUptoRow.holds Try.pinned (OpenSpec.upto resolveMoreSpec)

/-- 'marlinelaw09.ResolveStrong', WHERE WHAT IT READS IS OF BULK AT MOST 1048576: true; the input reads as it did. -/
def resolveStrongUptoRow : OpenClaim := { program := "ytcfniagmnkngfaa", sum := "d63379fbffacec4b13e45554310a5066deef6863aa98641a69d503174d17156f", func := "marline/marlinelaw09.ResolveStrong", spec := "resolveStrong", unfollowed := true, recurses := true, plainKeys := false, apart := false, narrowed := true }
def ResolveStrongUptoSaid : Prop := resolveStrongUptoRow.holds Try.pinned (OpenSpec.upto resolveStrongSpec)

end Rows
end Go.Proofs.Ytcfniagmnkngfaa
