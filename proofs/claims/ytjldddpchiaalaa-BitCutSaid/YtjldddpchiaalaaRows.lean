/-
  No cell of these rows narrows 'for every input' (looked for: loops, veiled, ifaces, maps, wideKeys, modest, calm, conditions, laid).
  DERIVED. THE GIVEN ROWS OF THIS SEAT. 4 by the template 'for every input the law returns true; each argument reads behind the call as it read before'; 0 by the template 'total and deterministic' (their statements: YtjldddpchiaalaaTotals.lean).
  GIVEN WITH THE SEED: the statements are not yours to turn. If you find one false, say at which input.
  Laid BY PROGRAM, IN A SANDBOX (cutbox-rows.mjs): the forced cells as the released guide's own fill.sh prints them over the translation 6d9dd58b850a752d… (all of the seat's roots in one cut). By AI agents, Wed Nov 11 2026. No macro, syntax, notation, axiom, sorry.
-/
import Derived.Test.YtjldddpchiaalaaChecked
import GoSem.Claim
import GoSem.ClaimJoined
import GoSem.ClaimMapViews
import Derived.JoinedTies
import Derived.KernelRfl
namespace Go.Proofs.Ytjldddpchiaalaa
/- THE CELL 'sum', in the pinned program and in every row, IS THE sha256 OF THE DUMP (.gsa) THAT YtjldddpchiaalaaProg.lean LOADS. Nothing in Lean hashes anything: it is a label: what it is worth is what the hold of that sum in a sandbox is worth. -/
noncomputable def Try.pinned : Pinned := { name := "ytjldddpchiaalaa", sum := "6d9dd58b850a752dd879c13ec82ac10ca6b3981292a0ff184950845febf9faa0", checked := Try.checked }
namespace Rows
def none {H : Type} : Left H := { results := [], args := [] }

/-- 'marlinelaw06.BitBack': WHATEVER THE INPUT: true; the input reads as it did. -/
def bitBackSpec : ChangeSpec := { name := "bitBack", fn := fun _ => fun
  | [d1, d2] => { results := [.lit (.bool true)], args := [d1, d2] }
  | _ => none }
def bitBackRow : OpenClaim := { program := "ytjldddpchiaalaa", sum := "6d9dd58b850a752dd879c13ec82ac10ca6b3981292a0ff184950845febf9faa0", func := "marline/marlinelaw06.BitBack", spec := "bitBack", inPlace := ["internal/abi.NoEscape"], unfollowed := true, recurses := true, apart := false }
def BitBackSaid : Prop := bitBackRow.holds Try.pinned (OpenSpec.ofChange bitBackSpec)

/-- ITS FALSE NEIGHBOUR: 'it returns false'. Refute it at one input. -/
def bitBackWrong : ChangeSpec := { name := "bitBack", fn := fun _ => fun
  | [d1, d2] => { results := [.lit (.bool false)], args := [d1, d2] }
  | _ => none }
def BitBackWrongFalsely : Prop := bitBackRow.holds Try.pinned (OpenSpec.ofChange bitBackWrong)

/-- 'marlinelaw06.BitCut': WHATEVER THE INPUT: true; the input reads as it did. -/
def bitCutSpec : ChangeSpec := { name := "bitCut", fn := fun _ => fun
  | [d1, d2] => { results := [.lit (.bool true)], args := [d1, d2] }
  | _ => none }
def bitCutRow : OpenClaim := { program := "ytjldddpchiaalaa", sum := "6d9dd58b850a752dd879c13ec82ac10ca6b3981292a0ff184950845febf9faa0", func := "marline/marlinelaw06.BitCut", spec := "bitCut", inPlace := ["internal/abi.NoEscape"], unfollowed := true, recurses := true, apart := false }
def BitCutSaid : Prop := bitCutRow.holds Try.pinned (OpenSpec.ofChange bitCutSpec)

/-- ITS FALSE NEIGHBOUR: 'it returns false'. Refute it at one input. -/
def bitCutWrong : ChangeSpec := { name := "bitCut", fn := fun _ => fun
  | [d1, d2] => { results := [.lit (.bool false)], args := [d1, d2] }
  | _ => none }
def BitCutWrongFalsely : Prop := bitCutRow.holds Try.pinned (OpenSpec.ofChange bitCutWrong)

/-- 'marlinelaw06.BitBacks': WHATEVER THE INPUT: true; the input reads as it did. -/
def bitBacksSpec : ChangeSpec := { name := "bitBacks", fn := fun _ => fun
  | [d1, d2, d3] => { results := [.lit (.bool true)], args := [d1, d2, d3] }
  | _ => none }
def bitBacksRow : OpenClaim := { program := "ytjldddpchiaalaa", sum := "6d9dd58b850a752dd879c13ec82ac10ca6b3981292a0ff184950845febf9faa0", func := "marline/marlinelaw06.BitBacks", spec := "bitBacks", inPlace := ["internal/abi.NoEscape"], apart := false }
def BitBacksSaid : Prop := bitBacksRow.holds Try.pinned (OpenSpec.ofChange bitBacksSpec)

/-- ITS FALSE NEIGHBOUR: 'it returns false'. Refute it at one input. -/
def bitBacksWrong : ChangeSpec := { name := "bitBacks", fn := fun _ => fun
  | [d1, d2, d3] => { results := [.lit (.bool false)], args := [d1, d2, d3] }
  | _ => none }
def BitBacksWrongFalsely : Prop := bitBacksRow.holds Try.pinned (OpenSpec.ofChange bitBacksWrong)

/-- 'marlinelaw06.BitChecks': WHATEVER THE INPUT: true; the input reads as it did. -/
def bitChecksSpec : ChangeSpec := { name := "bitChecks", fn := fun _ => fun
  | [d1, d2] => { results := [.lit (.bool true)], args := [d1, d2] }
  | _ => none }
def bitChecksRow : OpenClaim := { program := "ytjldddpchiaalaa", sum := "6d9dd58b850a752dd879c13ec82ac10ca6b3981292a0ff184950845febf9faa0", func := "marline/marlinelaw06.BitChecks", spec := "bitChecks", inPlace := ["internal/abi.NoEscape"], unfollowed := true, recurses := true, apart := false }
def BitChecksSaid : Prop := bitChecksRow.holds Try.pinned (OpenSpec.ofChange bitChecksSpec)

/-- ITS FALSE NEIGHBOUR: 'it returns false'. Refute it at one input. -/
def bitChecksWrong : ChangeSpec := { name := "bitChecks", fn := fun _ => fun
  | [d1, d2] => { results := [.lit (.bool false)], args := [d1, d2] }
  | _ => none }
def BitChecksWrongFalsely : Prop := bitChecksRow.holds Try.pinned (OpenSpec.ofChange bitChecksWrong)

/- THE SECOND FORM. 'bulk': how many values and letters a reading holds, each counted each time it is reached (what is shared counts as often as it is met; a slice's spare places count too). A statement '..UptoSaid' is the law's where the arguments, and the package variables that the reading takes, are together of bulk at most 1048576: NARROWER than '..Said'. Prove '..Said' where nothing that the law and all that it calls make is longer than what came in: it says more and counts as full. Else prove '..UptoSaid'. A law counts once. -/
mutual
def uptoBulk {H : Type} : DataW H → Nat
  | .lit (.string bytes) => bytes.length + 1
  | .lit _ => 1
  | .nil => 1
  | .ptr d => uptoBulk d + 1
  | .slice elems spare => uptoBulkAll elems + uptoBulkAll spare + 1
  | .agg parts => uptoBulkAll parts + 1
  | .iface _ d => uptoBulk d + 1
  | .map entries => uptoBulkEntries entries + 1
  | .held _ => 1
def uptoBulkAll {H : Type} : List (DataW H) → Nat
  | [] => 0
  | d :: r => uptoBulk d + uptoBulkAll r
def uptoBulkEntries {H : Type} : List (Lit × DataW H) → Nat
  | [] => 0
  | x :: r => uptoBulkEntry x + uptoBulkEntries r
def uptoBulkEntry {H : Type} : Lit × DataW H → Nat
  | (.string bytes, d) => bytes.length + uptoBulk d + 1
  | (_, d) => uptoBulk d + 1
 end
def uptoSmall : (H : Type) → List (DataW H) → Bool := fun _ ds => decide (uptoBulkAll ds ≤ 1048576)
def OpenSpec.upto (s : _root_.Go.ChangeSpec) : _root_.Go.OpenSpec := { _root_.Go.OpenSpec.ofChange s with cond := some uptoSmall }

/-- 'marlinelaw06.BitBack', WHERE WHAT IT READS IS OF BULK AT MOST 1048576: true; the input reads as it did. -/
def bitBackUptoRow : OpenClaim := { program := "ytjldddpchiaalaa", sum := "6d9dd58b850a752dd879c13ec82ac10ca6b3981292a0ff184950845febf9faa0", func := "marline/marlinelaw06.BitBack", spec := "bitBack", inPlace := ["internal/abi.NoEscape"], unfollowed := true, recurses := true, apart := false, narrowed := true }
def BitBackUptoSaid : Prop := bitBackUptoRow.holds Try.pinned (OpenSpec.upto bitBackSpec)

/-- 'marlinelaw06.BitCut', WHERE WHAT IT READS IS OF BULK AT MOST 1048576: true; the input reads as it did. -/
def bitCutUptoRow : OpenClaim := { program := "ytjldddpchiaalaa", sum := "6d9dd58b850a752dd879c13ec82ac10ca6b3981292a0ff184950845febf9faa0", func := "marline/marlinelaw06.BitCut", spec := "bitCut", inPlace := ["internal/abi.NoEscape"], unfollowed := true, recurses := true, apart := false, narrowed := true }
def BitCutUptoSaid : Prop := bitCutUptoRow.holds Try.pinned (OpenSpec.upto bitCutSpec)

/-- 'marlinelaw06.BitBacks', WHERE WHAT IT READS IS OF BULK AT MOST 1048576: true; the input reads as it did. -/
def bitBacksUptoRow : OpenClaim := { program := "ytjldddpchiaalaa", sum := "6d9dd58b850a752dd879c13ec82ac10ca6b3981292a0ff184950845febf9faa0", func := "marline/marlinelaw06.BitBacks", spec := "bitBacks", inPlace := ["internal/abi.NoEscape"], apart := false, narrowed := true }
def BitBacksUptoSaid : Prop := bitBacksUptoRow.holds Try.pinned (OpenSpec.upto bitBacksSpec)

/-- 'marlinelaw06.BitChecks', WHERE WHAT IT READS IS OF BULK AT MOST 1048576: true; the input reads as it did. -/
def bitChecksUptoRow : OpenClaim := { program := "ytjldddpchiaalaa", sum := "6d9dd58b850a752dd879c13ec82ac10ca6b3981292a0ff184950845febf9faa0", func := "marline/marlinelaw06.BitChecks", spec := "bitChecks", inPlace := ["internal/abi.NoEscape"], unfollowed := true, recurses := true, apart := false, narrowed := true }
def BitChecksUptoSaid : Prop := bitChecksUptoRow.holds Try.pinned (OpenSpec.upto bitChecksSpec)

end Rows
end Go.Proofs.Ytjldddpchiaalaa
