/-
  No cell of these rows narrows 'for every input' (looked for: loops, veiled, ifaces, maps, wideKeys, modest, calm, conditions, laid).
  DERIVED. THE GIVEN ROWS OF THIS SEAT. 7 by the template 'for every input the law returns true; each argument reads behind the call as it read before'; 0 by the template 'total and deterministic' (their statements: YtniolkjeblocaaaTotals.lean).
  GIVEN WITH THE SEED: the statements are not yours to turn. If you find one false, say at which input.
  Laid BY PROGRAM, IN A SANDBOX (cutbox-rows.mjs): the forced cells as the released guide's own fill.sh prints them over the translation 38ca6ddc7eaf5cca… (all of the seat's roots in one cut). By AI agents, Wed Nov 11 2026. No macro, syntax, notation, axiom, sorry.
-/
import Derived.Test.YtniolkjeblocaaaChecked
import GoSem.Claim
import GoSem.ClaimJoined
import GoSem.ClaimMapViews
import Derived.JoinedTies
import Derived.KernelRfl
namespace Go.Proofs.Ytniolkjeblocaaa
/- THE CELL 'sum', in the pinned program and in every row, IS THE sha256 OF THE DUMP (.gsa) THAT YtniolkjeblocaaaProg.lean LOADS. Nothing in Lean hashes anything: it is a label: what it is worth is what the hold of that sum in a sandbox is worth. -/
noncomputable def Try.pinned : Pinned := { name := "ytniolkjeblocaaa", sum := "38ca6ddc7eaf5cca4a2c194f3ee5424fd02a10a7b98a5fdc8d0f64817c7d8106", checked := Try.checked }
namespace Rows
def none {H : Type} : Left H := { results := [], args := [] }

/-- 'marlinelaw08.PickTakes': WHATEVER THE INPUT: true; the input reads as it did. -/
def pickTakesSpec : ChangeSpec := { name := "pickTakes", fn := fun _ => fun
  | [d1, d2] => { results := [.lit (.bool true)], args := [d1, d2] }
  | _ => none }
def pickTakesRow : OpenClaim := { program := "ytniolkjeblocaaa", sum := "38ca6ddc7eaf5cca4a2c194f3ee5424fd02a10a7b98a5fdc8d0f64817c7d8106", func := "marline/marlinelaw08.PickTakes", spec := "pickTakes", unfollowed := true, recurses := true, plainKeys := false, apart := false }
def PickTakesSaid : Prop := pickTakesRow.holds Try.pinned (OpenSpec.ofChange pickTakesSpec)

/-- ITS FALSE NEIGHBOUR: 'it returns false'. Refute it at one input. -/
def pickTakesWrong : ChangeSpec := { name := "pickTakes", fn := fun _ => fun
  | [d1, d2] => { results := [.lit (.bool false)], args := [d1, d2] }
  | _ => none }
def PickTakesWrongFalsely : Prop := pickTakesRow.holds Try.pinned (OpenSpec.ofChange pickTakesWrong)

/-- 'marlinelaw09.ResolveTells': WHATEVER THE INPUT: true; the input reads as it did. -/
def resolveTellsSpec : ChangeSpec := { name := "resolveTells", fn := fun _ => fun
  | [d1, d2] => { results := [.lit (.bool true)], args := [d1, d2] }
  | _ => none }
def resolveTellsRow : OpenClaim := { program := "ytniolkjeblocaaa", sum := "38ca6ddc7eaf5cca4a2c194f3ee5424fd02a10a7b98a5fdc8d0f64817c7d8106", func := "marline/marlinelaw09.ResolveTells", spec := "resolveTells", unfollowed := true, recurses := true, plainKeys := false, apart := false }
def ResolveTellsSaid : Prop := resolveTellsRow.holds Try.pinned (OpenSpec.ofChange resolveTellsSpec)

/-- ITS FALSE NEIGHBOUR: 'it returns false'. Refute it at one input. -/
def resolveTellsWrong : ChangeSpec := { name := "resolveTells", fn := fun _ => fun
  | [d1, d2] => { results := [.lit (.bool false)], args := [d1, d2] }
  | _ => none }
def ResolveTellsWrongFalsely : Prop := resolveTellsRow.holds Try.pinned (OpenSpec.ofChange resolveTellsWrong)

/-- 'marlinelaw09.ResolveOne': WHATEVER THE INPUT: true; the input reads as it did. -/
def resolveOneSpec : ChangeSpec := { name := "resolveOne", fn := fun _ => fun
  | [d] => { results := [.lit (.bool true)], args := [d] }
  | _ => none }
def resolveOneRow : OpenClaim := { program := "ytniolkjeblocaaa", sum := "38ca6ddc7eaf5cca4a2c194f3ee5424fd02a10a7b98a5fdc8d0f64817c7d8106", func := "marline/marlinelaw09.ResolveOne", spec := "resolveOne", unfollowed := true, recurses := true, plainKeys := false, apart := false }
def ResolveOneSaid : Prop := resolveOneRow.holds Try.pinned (OpenSpec.ofChange resolveOneSpec)

/-- ITS FALSE NEIGHBOUR: 'it returns false'. Refute it at one input. -/
def resolveOneWrong : ChangeSpec := { name := "resolveOne", fn := fun _ => fun
  | [d] => { results := [.lit (.bool false)], args := [d] }
  | _ => none }
def ResolveOneWrongFalsely : Prop := resolveOneRow.holds Try.pinned (OpenSpec.ofChange resolveOneWrong)

/-- 'marlinelaw09.ResolveThere': WHATEVER THE INPUT: true; the input reads as it did. -/
def resolveThereSpec : ChangeSpec := { name := "resolveThere", fn := fun _ => fun
  | [d] => { results := [.lit (.bool true)], args := [d] }
  | _ => none }
def resolveThereRow : OpenClaim := { program := "ytniolkjeblocaaa", sum := "38ca6ddc7eaf5cca4a2c194f3ee5424fd02a10a7b98a5fdc8d0f64817c7d8106", func := "marline/marlinelaw09.ResolveThere", spec := "resolveThere", unfollowed := true, recurses := true, plainKeys := false, apart := false }
def ResolveThereSaid : Prop := resolveThereRow.holds Try.pinned (OpenSpec.ofChange resolveThereSpec)

/-- ITS FALSE NEIGHBOUR: 'it returns false'. Refute it at one input. -/
def resolveThereWrong : ChangeSpec := { name := "resolveThere", fn := fun _ => fun
  | [d] => { results := [.lit (.bool false)], args := [d] }
  | _ => none }
def ResolveThereWrongFalsely : Prop := resolveThereRow.holds Try.pinned (OpenSpec.ofChange resolveThereWrong)

/-- 'marlinelaw09.ResolveTurned': WHATEVER THE INPUT: true; the input reads as it did. -/
def resolveTurnedSpec : ChangeSpec := { name := "resolveTurned", fn := fun _ => fun
  | [d1, d2, d3] => { results := [.lit (.bool true)], args := [d1, d2, d3] }
  | _ => none }
def resolveTurnedRow : OpenClaim := { program := "ytniolkjeblocaaa", sum := "38ca6ddc7eaf5cca4a2c194f3ee5424fd02a10a7b98a5fdc8d0f64817c7d8106", func := "marline/marlinelaw09.ResolveTurned", spec := "resolveTurned", unfollowed := true, recurses := true, plainKeys := false, apart := false }
def ResolveTurnedSaid : Prop := resolveTurnedRow.holds Try.pinned (OpenSpec.ofChange resolveTurnedSpec)

/-- ITS FALSE NEIGHBOUR: 'it returns false'. Refute it at one input. -/
def resolveTurnedWrong : ChangeSpec := { name := "resolveTurned", fn := fun _ => fun
  | [d1, d2, d3] => { results := [.lit (.bool false)], args := [d1, d2, d3] }
  | _ => none }
def ResolveTurnedWrongFalsely : Prop := resolveTurnedRow.holds Try.pinned (OpenSpec.ofChange resolveTurnedWrong)

/-- 'marlinelaw09.ResolveMore': WHATEVER THE INPUT: true; the input reads as it did. -/
def resolveMoreSpec : ChangeSpec := { name := "resolveMore", fn := fun _ => fun
  | [d1, d2] => { results := [.lit (.bool true)], args := [d1, d2] }
  | _ => none }
def resolveMoreRow : OpenClaim := { program := "ytniolkjeblocaaa", sum := "38ca6ddc7eaf5cca4a2c194f3ee5424fd02a10a7b98a5fdc8d0f64817c7d8106", func := "marline/marlinelaw09.ResolveMore", spec := "resolveMore", unfollowed := true, recurses := true, plainKeys := false, apart := false }
def ResolveMoreSaid : Prop := resolveMoreRow.holds Try.pinned (OpenSpec.ofChange resolveMoreSpec)

/-- ITS FALSE NEIGHBOUR: 'it returns false'. Refute it at one input. -/
def resolveMoreWrong : ChangeSpec := { name := "resolveMore", fn := fun _ => fun
  | [d1, d2] => { results := [.lit (.bool false)], args := [d1, d2] }
  | _ => none }
def ResolveMoreWrongFalsely : Prop := resolveMoreRow.holds Try.pinned (OpenSpec.ofChange resolveMoreWrong)

/-- 'marlinelaw09.ResolveStrong': WHATEVER THE INPUT: true; the input reads as it did. -/
def resolveStrongSpec : ChangeSpec := { name := "resolveStrong", fn := fun _ => fun
  | [d] => { results := [.lit (.bool true)], args := [d] }
  | _ => none }
def resolveStrongRow : OpenClaim := { program := "ytniolkjeblocaaa", sum := "38ca6ddc7eaf5cca4a2c194f3ee5424fd02a10a7b98a5fdc8d0f64817c7d8106", func := "marline/marlinelaw09.ResolveStrong", spec := "resolveStrong", unfollowed := true, recurses := true, plainKeys := false, apart := false }
def ResolveStrongSaid : Prop := resolveStrongRow.holds Try.pinned (OpenSpec.ofChange resolveStrongSpec)

/-- ITS FALSE NEIGHBOUR: 'it returns false'. Refute it at one input. -/
def resolveStrongWrong : ChangeSpec := { name := "resolveStrong", fn := fun _ => fun
  | [d] => { results := [.lit (.bool false)], args := [d] }
  | _ => none }
def ResolveStrongWrongFalsely : Prop := resolveStrongRow.holds Try.pinned (OpenSpec.ofChange resolveStrongWrong)

/- THE SECOND FORM. 'bulk': how many values and letters a reading holds, each counted each time it is reached (what is shared counts as often as it is met; a slice's spare places count too). A statement '..UptoSaid' is the law's where the arguments, and the package variables that the reading takes, are together of bulk at most 1048576: NARROWER than '..Said'. Prove '..Said' where nothing that the law and all that it calls make is longer than what came in: it says more and counts as full. Else prove '..UptoSaid'. A law counts once. -/
mutual
def uptoBulk {H : Type} : DataW H → Nat
  | .lit (.string bytes) => bytes.length + 1
  | .lit _ => 1
  | .nil => 1
  | .ptr d => uptoBulk d + 1
  | .slice elems spare => uptoBulkAll elems + uptoBulkAll spare + 1
  | .agg parts => uptoBulkAll parts + 1
  | .iface _ d => uptoBulk d + 1
  | .map entries => uptoBulkEntries entries + 1
  | .held _ => 1
def uptoBulkAll {H : Type} : List (DataW H) → Nat
  | [] => 0
  | d :: r => uptoBulk d + uptoBulkAll r
def uptoBulkEntries {H : Type} : List (Lit × DataW H) → Nat
  | [] => 0
  | x :: r => uptoBulkEntry x + uptoBulkEntries r
def uptoBulkEntry {H : Type} : Lit × DataW H → Nat
  | (.string bytes, d) => bytes.length + uptoBulk d + 1
  | (_, d) => uptoBulk d + 1
 end
def uptoSmall : (H : Type) → List (DataW H) → Bool := fun _ ds => decide (uptoBulkAll ds ≤ 1048576)
def OpenSpec.upto (s : _root_.Go.ChangeSpec) : _root_.Go.OpenSpec := { _root_.Go.OpenSpec.ofChange s with cond := some uptoSmall }

/-- 'marlinelaw08.PickTakes', WHERE WHAT IT READS IS OF BULK AT MOST 1048576: true; the input reads as it did. -/
def pickTakesUptoRow : OpenClaim := { program := "ytniolkjeblocaaa", sum := "38ca6ddc7eaf5cca4a2c194f3ee5424fd02a10a7b98a5fdc8d0f64817c7d8106", func := "marline/marlinelaw08.PickTakes", spec := "pickTakes", unfollowed := true, recurses := true, plainKeys := false, apart := false, narrowed := true }
def PickTakesUptoSaid : Prop := pickTakesUptoRow.holds Try.pinned (OpenSpec.upto pickTakesSpec)

/-- 'marlinelaw09.ResolveTells', WHERE WHAT IT READS IS OF BULK AT MOST 1048576: true; the input reads as it did. -/
def resolveTellsUptoRow : OpenClaim := { program := "ytniolkjeblocaaa", sum := "38ca6ddc7eaf5cca4a2c194f3ee5424fd02a10a7b98a5fdc8d0f64817c7d8106", func := "marline/marlinelaw09.ResolveTells", spec := "resolveTells", unfollowed := true, recurses := true, plainKeys := false, apart := false, narrowed := true }
def ResolveTellsUptoSaid : Prop := resolveTellsUptoRow.holds Try.pinned (OpenSpec.upto resolveTellsSpec)

/-- 'marlinelaw09.ResolveOne', WHERE WHAT IT READS IS OF BULK AT MOST 1048576: true; the input reads as it did. -/
def resolveOneUptoRow : OpenClaim := { program := "ytniolkjeblocaaa", sum := "38ca6ddc7eaf5cca4a2c194f3ee5424fd02a10a7b98a5fdc8d0f64817c7d8106", func := "marline/marlinelaw09.ResolveOne", spec := "resolveOne", unfollowed := true, recurses := true, plainKeys := false, apart := false, narrowed := true }
def ResolveOneUptoSaid : Prop := resolveOneUptoRow.holds Try.pinned (OpenSpec.upto resolveOneSpec)

/-- 'marlinelaw09.ResolveThere', WHERE WHAT IT READS IS OF BULK AT MOST 1048576: true; the input reads as it did. -/
def resolveThereUptoRow : OpenClaim := { program := "ytniolkjeblocaaa", sum := "38ca6ddc7eaf5cca4a2c194f3ee5424fd02a10a7b98a5fdc8d0f64817c7d8106", func := "marline/marlinelaw09.ResolveThere", spec := "resolveThere", unfollowed := true, recurses := true, plainKeys := false, apart := false, narrowed := true }
def ResolveThereUptoSaid : Prop := resolveThereUptoRow.holds Try.pinned (OpenSpec.upto resolveThereSpec)

/-- 'marlinelaw09.ResolveTurned', WHERE WHAT IT READS IS OF BULK AT MOST 1048576: true; the input reads as it did. -/
def resolveTurnedUptoRow : OpenClaim := { program := "ytniolkjeblocaaa", sum := "38ca6ddc7eaf5cca4a2c194f3ee5424fd02a10a7b98a5fdc8d0f64817c7d8106", func := "marline/marlinelaw09.ResolveTurned", spec := "resolveTurned", unfollowed := true, recurses := true, plainKeys := false, apart := false, narrowed := true }
def ResolveTurnedUptoSaid : Prop := resolveTurnedUptoRow.holds Try.pinned (OpenSpec.upto resolveTurnedSpec)

/-- 'marlinelaw09.ResolveMore', WHERE WHAT IT READS IS OF BULK AT MOST 1048576: true; the input reads as it did. -/
def resolveMoreUptoRow : OpenClaim := { program := "ytniolkjeblocaaa", sum := "38ca6ddc7eaf5cca4a2c194f3ee5424fd02a10a7b98a5fdc8d0f64817c7d8106", func := "marline/marlinelaw09.ResolveMore", spec := "resolveMore", unfollowed := true, recurses := true, plainKeys := false, apart := false, narrowed := true }
def ResolveMoreUptoSaid : Prop := resolveMoreUptoRow.holds Try.pinned (OpenSpec.upto resolveMoreSpec)

/-- 'marlinelaw09.ResolveStrong', WHERE WHAT IT READS IS OF BULK AT MOST 1048576: true; the input reads as it did. -/
def resolveStrongUptoRow : OpenClaim := { program := "ytniolkjeblocaaa", sum := "38ca6ddc7eaf5cca4a2c194f3ee5424fd02a10a7b98a5fdc8d0f64817c7d8106", func := "marline/marlinelaw09.ResolveStrong", spec := "resolveStrong", unfollowed := true, recurses := true, plainKeys := false, apart := false, narrowed := true }
def ResolveStrongUptoSaid : Prop := resolveStrongUptoRow.holds Try.pinned (OpenSpec.upto resolveStrongSpec)

end Rows
end Go.Proofs.Ytniolkjeblocaaa
