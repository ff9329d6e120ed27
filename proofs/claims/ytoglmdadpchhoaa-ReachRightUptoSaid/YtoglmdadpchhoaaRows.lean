/-
  No cell of these rows narrows 'for every input' (looked for: loops, veiled, ifaces, maps, wideKeys, modest, calm, conditions, laid).
  DERIVED. THE GIVEN ROWS OF THIS SEAT. 8 by the template 'for every input the law returns true; each argument reads behind the call as it read before'; 0 by the template 'total and deterministic' (their statements: YtoglmdadpchhoaaTotals.lean).
  GIVEN WITH THE SEED: the statements are not yours to turn. If you find one false, say at which input.
  Laid BY PROGRAM, IN A SANDBOX (cutbox-rows.mjs): the forced cells as the released guide's own fill.sh prints them over the translation 79892a233b4a5a0e… (all of the seat's roots in one cut). By AI agents, Wed Nov 11 2026. No macro, syntax, notation, axiom, sorry.
-/
import Derived.Test.YtoglmdadpchhoaaChecked
import GoSem.Claim
import GoSem.ClaimJoined
import GoSem.ClaimMapViews
import Derived.JoinedTies
import Derived.KernelRfl
namespace Go.Proofs.Ytoglmdadpchhoaa
/- THE CELL 'sum', in the pinned program and in every row, IS THE sha256 OF THE DUMP (.gsa) THAT YtoglmdadpchhoaaProg.lean LOADS. Nothing in Lean hashes anything: it is a label: what it is worth is what the hold of that sum in a sandbox is worth. -/
noncomputable def Try.pinned : Pinned := { name := "ytoglmdadpchhoaa", sum := "79892a233b4a5a0e4fa36025c632f23dd269b423b73930800163873eb58376e2", checked := Try.checked }
namespace Rows
def none {H : Type} : Left H := { results := [], args := [] }

/-- 'marlinelaw07.EvalRuns': WHATEVER THE INPUT: true; the input reads as it did. -/
def evalRunsSpec : ChangeSpec := { name := "evalRuns", fn := fun _ => fun
  | [d] => { results := [.lit (.bool true)], args := [d] }
  | _ => none }
def evalRunsRow : OpenClaim := { program := "ytoglmdadpchhoaa", sum := "79892a233b4a5a0e4fa36025c632f23dd269b423b73930800163873eb58376e2", func := "marline/marlinelaw07.EvalRuns", spec := "evalRuns", unfollowed := true, recurses := true, apart := false }
def EvalRunsSaid : Prop := evalRunsRow.holds Try.pinned (OpenSpec.ofChange evalRunsSpec)

/-- ITS FALSE NEIGHBOUR: 'it returns false'. Refute it at one input. -/
def evalRunsWrong : ChangeSpec := { name := "evalRuns", fn := fun _ => fun
  | [d] => { results := [.lit (.bool false)], args := [d] }
  | _ => none }
def EvalRunsWrongFalsely : Prop := evalRunsRow.holds Try.pinned (OpenSpec.ofChange evalRunsWrong)

/-- 'marlinelaw11.ReachRight': WHATEVER THE INPUT: true; the input reads as it did. -/
def reachRightSpec : ChangeSpec := { name := "reachRight", fn := fun _ => fun
  | [d] => { results := [.lit (.bool true)], args := [d] }
  | _ => none }
def reachRightRow : OpenClaim := { program := "ytoglmdadpchhoaa", sum := "79892a233b4a5a0e4fa36025c632f23dd269b423b73930800163873eb58376e2", func := "marline/marlinelaw11.ReachRight", spec := "reachRight", unfollowed := true, recurses := true, apart := false }
def ReachRightSaid : Prop := reachRightRow.holds Try.pinned (OpenSpec.ofChange reachRightSpec)

/-- ITS FALSE NEIGHBOUR: 'it returns false'. Refute it at one input. -/
def reachRightWrong : ChangeSpec := { name := "reachRight", fn := fun _ => fun
  | [d] => { results := [.lit (.bool false)], args := [d] }
  | _ => none }
def ReachRightWrongFalsely : Prop := reachRightRow.holds Try.pinned (OpenSpec.ofChange reachRightWrong)

/-- 'marlinelaw11.ReachRuns': WHATEVER THE INPUT: true; the input reads as it did. -/
def reachRunsSpec : ChangeSpec := { name := "reachRuns", fn := fun _ => fun
  | [d] => { results := [.lit (.bool true)], args := [d] }
  | _ => none }
def reachRunsRow : OpenClaim := { program := "ytoglmdadpchhoaa", sum := "79892a233b4a5a0e4fa36025c632f23dd269b423b73930800163873eb58376e2", func := "marline/marlinelaw11.ReachRuns", spec := "reachRuns", unfollowed := true, recurses := true, apart := false }
def ReachRunsSaid : Prop := reachRunsRow.holds Try.pinned (OpenSpec.ofChange reachRunsSpec)

/-- ITS FALSE NEIGHBOUR: 'it returns false'. Refute it at one input. -/
def reachRunsWrong : ChangeSpec := { name := "reachRuns", fn := fun _ => fun
  | [d] => { results := [.lit (.bool false)], args := [d] }
  | _ => none }
def ReachRunsWrongFalsely : Prop := reachRunsRow.holds Try.pinned (OpenSpec.ofChange reachRunsWrong)

/-- 'marlinelaw11.ReachNamed': WHATEVER THE INPUT: true; the input reads as it did. -/
def reachNamedSpec : ChangeSpec := { name := "reachNamed", fn := fun _ => fun
  | [d] => { results := [.lit (.bool true)], args := [d] }
  | _ => none }
def reachNamedRow : OpenClaim := { program := "ytoglmdadpchhoaa", sum := "79892a233b4a5a0e4fa36025c632f23dd269b423b73930800163873eb58376e2", func := "marline/marlinelaw11.ReachNamed", spec := "reachNamed", unfollowed := true, recurses := true, apart := false }
def ReachNamedSaid : Prop := reachNamedRow.holds Try.pinned (OpenSpec.ofChange reachNamedSpec)

/-- ITS FALSE NEIGHBOUR: 'it returns false'. Refute it at one input. -/
def reachNamedWrong : ChangeSpec := { name := "reachNamed", fn := fun _ => fun
  | [d] => { results := [.lit (.bool false)], args := [d] }
  | _ => none }
def ReachNamedWrongFalsely : Prop := reachNamedRow.holds Try.pinned (OpenSpec.ofChange reachNamedWrong)

/-- 'marlinelaw11.ReachTwice': WHATEVER THE INPUT: true; the input reads as it did. -/
def reachTwiceSpec : ChangeSpec := { name := "reachTwice", fn := fun _ => fun
  | [d] => { results := [.lit (.bool true)], args := [d] }
  | _ => none }
def reachTwiceRow : OpenClaim := { program := "ytoglmdadpchhoaa", sum := "79892a233b4a5a0e4fa36025c632f23dd269b423b73930800163873eb58376e2", func := "marline/marlinelaw11.ReachTwice", spec := "reachTwice", unfollowed := true, recurses := true, apart := false }
def ReachTwiceSaid : Prop := reachTwiceRow.holds Try.pinned (OpenSpec.ofChange reachTwiceSpec)

/-- ITS FALSE NEIGHBOUR: 'it returns false'. Refute it at one input. -/
def reachTwiceWrong : ChangeSpec := { name := "reachTwice", fn := fun _ => fun
  | [d] => { results := [.lit (.bool false)], args := [d] }
  | _ => none }
def ReachTwiceWrongFalsely : Prop := reachTwiceRow.holds Try.pinned (OpenSpec.ofChange reachTwiceWrong)

/-- 'marlinelaw11.ReachOrder': WHATEVER THE INPUT: true; the input reads as it did. -/
def reachOrderSpec : ChangeSpec := { name := "reachOrder", fn := fun _ => fun
  | [d] => { results := [.lit (.bool true)], args := [d] }
  | _ => none }
def reachOrderRow : OpenClaim := { program := "ytoglmdadpchhoaa", sum := "79892a233b4a5a0e4fa36025c632f23dd269b423b73930800163873eb58376e2", func := "marline/marlinelaw11.ReachOrder", spec := "reachOrder", unfollowed := true, recurses := true, apart := false }
def ReachOrderSaid : Prop := reachOrderRow.holds Try.pinned (OpenSpec.ofChange reachOrderSpec)

/-- ITS FALSE NEIGHBOUR: 'it returns false'. Refute it at one input. -/
def reachOrderWrong : ChangeSpec := { name := "reachOrder", fn := fun _ => fun
  | [d] => { results := [.lit (.bool false)], args := [d] }
  | _ => none }
def ReachOrderWrongFalsely : Prop := reachOrderRow.holds Try.pinned (OpenSpec.ofChange reachOrderWrong)

/-- 'marlinelaw11.ReachGrows': WHATEVER THE INPUT: true; the input reads as it did. -/
def reachGrowsSpec : ChangeSpec := { name := "reachGrows", fn := fun _ => fun
  | [d1, d2, d3] => { results := [.lit (.bool true)], args := [d1, d2, d3] }
  | _ => none }
def reachGrowsRow : OpenClaim := { program := "ytoglmdadpchhoaa", sum := "79892a233b4a5a0e4fa36025c632f23dd269b423b73930800163873eb58376e2", func := "marline/marlinelaw11.ReachGrows", spec := "reachGrows", unfollowed := true, recurses := true, apart := false }
def ReachGrowsSaid : Prop := reachGrowsRow.holds Try.pinned (OpenSpec.ofChange reachGrowsSpec)

/-- ITS FALSE NEIGHBOUR: 'it returns false'. Refute it at one input. -/
def reachGrowsWrong : ChangeSpec := { name := "reachGrows", fn := fun _ => fun
  | [d1, d2, d3] => { results := [.lit (.bool false)], args := [d1, d2, d3] }
  | _ => none }
def ReachGrowsWrongFalsely : Prop := reachGrowsRow.holds Try.pinned (OpenSpec.ofChange reachGrowsWrong)

/-- 'marlinelaw11.ReachChain': WHATEVER THE INPUT: true; the input reads as it did. -/
def reachChainSpec : ChangeSpec := { name := "reachChain", fn := fun _ => fun
  | [d1, d2, d3] => { results := [.lit (.bool true)], args := [d1, d2, d3] }
  | _ => none }
def reachChainRow : OpenClaim := { program := "ytoglmdadpchhoaa", sum := "79892a233b4a5a0e4fa36025c632f23dd269b423b73930800163873eb58376e2", func := "marline/marlinelaw11.ReachChain", spec := "reachChain", unfollowed := true, recurses := true, apart := false }
def ReachChainSaid : Prop := reachChainRow.holds Try.pinned (OpenSpec.ofChange reachChainSpec)

/-- ITS FALSE NEIGHBOUR: 'it returns false'. Refute it at one input. -/
def reachChainWrong : ChangeSpec := { name := "reachChain", fn := fun _ => fun
  | [d1, d2, d3] => { results := [.lit (.bool false)], args := [d1, d2, d3] }
  | _ => none }
def ReachChainWrongFalsely : Prop := reachChainRow.holds Try.pinned (OpenSpec.ofChange reachChainWrong)

/- THE SECOND FORM. 'bulk': how many values and letters a reading holds, each counted each time it is reached (what is shared counts as often as it is met; a slice's spare places count too). A statement '..UptoSaid' is the law's where the arguments, and the package variables that the reading takes, are together of bulk at most 1048576: NARROWER than '..Said'. Prove '..Said' where nothing that the law and all that it calls make is longer than what came in: it says more and counts as full. Else prove '..UptoSaid'. A law counts once. -/
mutual
def uptoBulk {H : Type} : DataW H → Nat
  | .lit (.string bytes) => bytes.length + 1
  | .lit _ => 1
  | .nil => 1
  | .ptr d => uptoBulk d + 1
  | .slice elems spare => uptoBulkAll elems + uptoBulkAll spare + 1
  | .agg parts => uptoBulkAll parts + 1
  | .iface _ d => uptoBulk d + 1
  | .map entries => uptoBulkEntries entries + 1
  | .held _ => 1
def uptoBulkAll {H : Type} : List (DataW H) → Nat
  | [] => 0
  | d :: r => uptoBulk d + uptoBulkAll r
def uptoBulkEntries {H : Type} : List (Lit × DataW H) → Nat
  | [] => 0
  | x :: r => uptoBulkEntry x + uptoBulkEntries r
def uptoBulkEntry {H : Type} : Lit × DataW H → Nat
  | (.string bytes, d) => bytes.length + uptoBulk d + 1
  | (_, d) => uptoBulk d + 1
 end
def uptoSmall : (H : Type) → List (DataW H) → Bool := fun _ ds => decide (uptoBulkAll ds ≤ 1048576)
def OpenSpec.upto (s : _root_.Go.ChangeSpec) : _root_.Go.OpenSpec := { _root_.Go.OpenSpec.ofChange s with cond := some uptoSmall }

/-- 'marlinelaw07.EvalRuns', WHERE WHAT IT READS IS OF BULK AT MOST 1048576: true; the input reads as it did. -/
def evalRunsUptoRow : OpenClaim := { program := "ytoglmdadpchhoaa", sum := "79892a233b4a5a0e4fa36025c632f23dd269b423b73930800163873eb58376e2", func := "marline/marlinelaw07.EvalRuns", spec := "evalRuns", unfollowed := true, recurses := true, apart := false, narrowed := true }
def EvalRunsUptoSaid : Prop := evalRunsUptoRow.holds Try.pinned (OpenSpec.upto evalRunsSpec)

/-- 'marlinelaw11.ReachRight', WHERE WHAT IT READS IS OF BULK AT MOST 1048576: true; the input reads as it did. -/
def reachRightUptoRow : OpenClaim := { program := "ytoglmdadpchhoaa", sum := "79892a233b4a5a0e4fa36025c632f23dd269b423b73930800163873eb58376e2", func := "marline/marlinelaw11.ReachRight", spec := "reachRight", unfollowed := true, recurses := true, apart := false, narrowed := true }
def ReachRightUptoSaid : Prop := reachRightUptoRow.holds Try.pinned (OpenSpec.upto reachRightSpec)

/-- 'marlinelaw11.ReachRuns', WHERE WHAT IT READS IS OF BULK AT MOST 1048576: true; the input reads as it did. -/
def reachRunsUptoRow : OpenClaim := { program := "ytoglmdadpchhoaa", sum := "79892a233b4a5a0e4fa36025c632f23dd269b423b73930800163873eb58376e2", func := "marline/marlinelaw11.ReachRuns", spec := "reachRuns", unfollowed := true, recurses := true, apart := false, narrowed := true }
def ReachRunsUptoSaid : Prop := reachRunsUptoRow.holds Try.pinned (OpenSpec.upto reachRunsSpec)

/-- 'marlinelaw11.ReachNamed', WHERE WHAT IT READS IS OF BULK AT MOST 1048576: true; the input reads as it did. -/
def reachNamedUptoRow : OpenClaim := { program := "ytoglmdadpchhoaa", sum := "79892a233b4a5a0e4fa36025c632f23dd269b423b73930800163873eb58376e2", func := "marline/marlinelaw11.ReachNamed", spec := "reachNamed", unfollowed := true, recurses := true, apart := false, narrowed := true }
def ReachNamedUptoSaid : Prop := reachNamedUptoRow.holds Try.pinned (OpenSpec.upto reachNamedSpec)

/-- 'marlinelaw11.ReachTwice', WHERE WHAT IT READS IS OF BULK AT MOST 1048576: true; the input reads as it did. -/
def reachTwiceUptoRow : OpenClaim := { program := "ytoglmdadpchhoaa", sum := "79892a233b4a5a0e4fa36025c632f23dd269b423b73930800163873eb58376e2", func := "marline/marlinelaw11.ReachTwice", spec := "reachTwice", unfollowed := true, recurses := true, apart := false, narrowed := true }
def ReachTwiceUptoSaid : Prop := reachTwiceUptoRow.holds Try.pinned (OpenSpec.upto reachTwiceSpec)

/-- 'marlinelaw11.ReachOrder', WHERE WHAT IT READS IS OF BULK AT MOST 1048576: true; the input reads as it did. -/
def reachOrderUptoRow : OpenClaim := { program := "ytoglmdadpchhoaa", sum := "79892a233b4a5a0e4fa36025c632f23dd269b423b73930800163873eb58376e2", func := "marline/marlinelaw11.ReachOrder", spec := "reachOrder", unfollowed := true, recurses := true, apart := false, narrowed := true }
def ReachOrderUptoSaid : Prop := reachOrderUptoRow.holds Try.pinned (OpenSpec.upto reachOrderSpec)

/-- 'marlinelaw11.ReachGrows', WHERE WHAT IT READS IS OF BULK AT MOST 1048576: true; the input reads as it did. -/
def reachGrowsUptoRow : OpenClaim := { program := "ytoglmdadpchhoaa", sum := "79892a233b4a5a0e4fa36025c632f23dd269b423b73930800163873eb58376e2", func := "marline/marlinelaw11.ReachGrows", spec := "reachGrows", unfollowed := true, recurses := true, apart := false, narrowed := true }
def ReachGrowsUptoSaid : Prop := reachGrowsUptoRow.holds Try.pinned (OpenSpec.upto reachGrowsSpec)

/-- 'marlinelaw11.ReachChain', WHERE WHAT IT READS IS OF BULK AT MOST 1048576: true; the input reads as it did. -/
def reachChainUptoRow : OpenClaim := { program := "ytoglmdadpchhoaa", sum := "79892a233b4a5a0e4fa36025c632f23dd269b423b73930800163873eb58376e2", func := "marline/marlinelaw11.ReachChain", spec := "reachChain", unfollowed := true, recurses := true, apart := false, narrowed := true }
def ReachChainUptoSaid : Prop := reachChainUptoRow.holds Try.pinned (OpenSpec.upto reachChainSpec)

end Rows
end Go.Proofs.Ytoglmdadpchhoaa
