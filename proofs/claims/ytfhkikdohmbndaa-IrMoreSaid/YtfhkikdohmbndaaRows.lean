/-
  No cell of these rows narrows 'for every input' (looked for: loops, veiled, ifaces, maps, wideKeys, modest, calm, conditions, laid).
  DERIVED. THE GIVEN ROWS OF THIS SEAT. 17 by the template 'for every input the law returns true; each argument reads behind the call as it read before'; 0 by the template 'total and deterministic' (their statements: YtfhkikdohmbndaaTotals.lean).
  GIVEN WITH THE SEED: the statements are not yours to turn. If you find one false, say at which input.
  Laid BY PROGRAM, IN A SANDBOX (cutbox-rows.mjs): the forced cells as the released guide's own fill.sh prints them over the translation 927a32162d863be3… (all of the seat's roots in one cut). By AI agents, Wed Nov 11 2026. No macro, syntax, notation, axiom, sorry.
-/
import Derived.Test.YtfhkikdohmbndaaChecked
import GoSem.Claim
import GoSem.ClaimJoined
import GoSem.ClaimMapViews
import Derived.JoinedTies
import Derived.KernelRfl
namespace Go.Proofs.Ytfhkikdohmbndaa
/- THE CELL 'sum', in the pinned program and in every row, IS THE sha256 OF THE DUMP (.gsa) THAT YtfhkikdohmbndaaProg.lean LOADS. Nothing in Lean hashes anything: it is a label: what it is worth is what the hold of that sum in a sandbox is worth. -/
noncomputable def Try.pinned : Pinned := { name := "ytfhkikdohmbndaa", sum := "927a32162d863be3e81e590590b50b23b110818ac70e4626b07686adef292be4", checked := Try.checked }
namespace Rows
def none {H : Type} : Left H := { results := [], args := [] }

/-- 'marlinelaw04.ElfLoads': WHATEVER THE INPUT: true; the input reads as it did. -/
def elfLoadsSpec : ChangeSpec := { name := "elfLoads", fn := fun _ => fun
  | [d1, d2] => { results := [.lit (.bool true)], args := [d1, d2] }
  | _ => none }
def elfLoadsRow : OpenClaim := { program := "ytfhkikdohmbndaa", sum := "927a32162d863be3e81e590590b50b23b110818ac70e4626b07686adef292be4", func := "marline/marlinelaw04.ElfLoads", spec := "elfLoads", inPlace := ["internal/abi.NoEscape", "internal/bytealg.MakeNoZero"], unfollowed := true, recurses := true, plainKeys := false, apart := false }
def ElfLoadsSaid : Prop := elfLoadsRow.holds Try.pinned (OpenSpec.ofChange elfLoadsSpec)

/-- ITS FALSE NEIGHBOUR: 'it returns false'. Refute it at one input. -/
def elfLoadsWrong : ChangeSpec := { name := "elfLoads", fn := fun _ => fun
  | [d1, d2] => { results := [.lit (.bool false)], args := [d1, d2] }
  | _ => none }
def ElfLoadsWrongFalsely : Prop := elfLoadsRow.holds Try.pinned (OpenSpec.ofChange elfLoadsWrong)

/-- 'marlinelaw04.ElfGuards': WHATEVER THE INPUT: true; the input reads as it did. -/
def elfGuardsSpec : ChangeSpec := { name := "elfGuards", fn := fun _ => fun
  | [d1, d2] => { results := [.lit (.bool true)], args := [d1, d2] }
  | _ => none }
def elfGuardsRow : OpenClaim := { program := "ytfhkikdohmbndaa", sum := "927a32162d863be3e81e590590b50b23b110818ac70e4626b07686adef292be4", func := "marline/marlinelaw04.ElfGuards", spec := "elfGuards", inPlace := ["internal/abi.NoEscape", "internal/bytealg.MakeNoZero"], unfollowed := true, recurses := true, plainKeys := false, apart := false }
def ElfGuardsSaid : Prop := elfGuardsRow.holds Try.pinned (OpenSpec.ofChange elfGuardsSpec)

/-- ITS FALSE NEIGHBOUR: 'it returns false'. Refute it at one input. -/
def elfGuardsWrong : ChangeSpec := { name := "elfGuards", fn := fun _ => fun
  | [d1, d2] => { results := [.lit (.bool false)], args := [d1, d2] }
  | _ => none }
def ElfGuardsWrongFalsely : Prop := elfGuardsRow.holds Try.pinned (OpenSpec.ofChange elfGuardsWrong)

/-- 'marlinelaw04.ElfBytes': WHATEVER THE INPUT: true; the input reads as it did. -/
def elfBytesSpec : ChangeSpec := { name := "elfBytes", fn := fun _ => fun
  | [d1, d2, d3] => { results := [.lit (.bool true)], args := [d1, d2, d3] }
  | _ => none }
def elfBytesRow : OpenClaim := { program := "ytfhkikdohmbndaa", sum := "927a32162d863be3e81e590590b50b23b110818ac70e4626b07686adef292be4", func := "marline/marlinelaw04.ElfBytes", spec := "elfBytes", inPlace := ["internal/abi.NoEscape", "internal/bytealg.MakeNoZero"], unfollowed := true, recurses := true, plainKeys := false, apart := false }
def ElfBytesSaid : Prop := elfBytesRow.holds Try.pinned (OpenSpec.ofChange elfBytesSpec)

/-- ITS FALSE NEIGHBOUR: 'it returns false'. Refute it at one input. -/
def elfBytesWrong : ChangeSpec := { name := "elfBytes", fn := fun _ => fun
  | [d1, d2, d3] => { results := [.lit (.bool false)], args := [d1, d2, d3] }
  | _ => none }
def ElfBytesWrongFalsely : Prop := elfBytesRow.holds Try.pinned (OpenSpec.ofChange elfBytesWrong)

/-- 'marlinelaw02.PageUses': WHATEVER THE INPUT: true; the input reads as it did. -/
def pageUsesSpec : ChangeSpec := { name := "pageUses", fn := fun _ => fun
  | [d] => { results := [.lit (.bool true)], args := [d] }
  | _ => none }
def pageUsesRow : OpenClaim := { program := "ytfhkikdohmbndaa", sum := "927a32162d863be3e81e590590b50b23b110818ac70e4626b07686adef292be4", func := "marline/marlinelaw02.PageUses", spec := "pageUses", inPlace := ["internal/abi.NoEscape", "internal/bytealg.MakeNoZero"], unfollowed := true, recurses := true, plainKeys := false, apart := false }
def PageUsesSaid : Prop := pageUsesRow.holds Try.pinned (OpenSpec.ofChange pageUsesSpec)

/-- ITS FALSE NEIGHBOUR: 'it returns false'. Refute it at one input. -/
def pageUsesWrong : ChangeSpec := { name := "pageUses", fn := fun _ => fun
  | [d] => { results := [.lit (.bool false)], args := [d] }
  | _ => none }
def PageUsesWrongFalsely : Prop := pageUsesRow.holds Try.pinned (OpenSpec.ofChange pageUsesWrong)

/-- 'marlinelaw05.IrInsts': WHATEVER THE INPUT: true; the input reads as it did. -/
def irInstsSpec : ChangeSpec := { name := "irInsts", fn := fun _ => fun
  | [d1, d2, d3] => { results := [.lit (.bool true)], args := [d1, d2, d3] }
  | _ => none }
def irInstsRow : OpenClaim := { program := "ytfhkikdohmbndaa", sum := "927a32162d863be3e81e590590b50b23b110818ac70e4626b07686adef292be4", func := "marline/marlinelaw05.IrInsts", spec := "irInsts", unfollowed := true, recurses := true, plainKeys := false, apart := false }
def IrInstsSaid : Prop := irInstsRow.holds Try.pinned (OpenSpec.ofChange irInstsSpec)

/-- ITS FALSE NEIGHBOUR: 'it returns false'. Refute it at one input. -/
def irInstsWrong : ChangeSpec := { name := "irInsts", fn := fun _ => fun
  | [d1, d2, d3] => { results := [.lit (.bool false)], args := [d1, d2, d3] }
  | _ => none }
def IrInstsWrongFalsely : Prop := irInstsRow.holds Try.pinned (OpenSpec.ofChange irInstsWrong)

/-- 'marlinelaw05.IrFuncs': WHATEVER THE INPUT: true; the input reads as it did. -/
def irFuncsSpec : ChangeSpec := { name := "irFuncs", fn := fun _ => fun
  | [d] => { results := [.lit (.bool true)], args := [d] }
  | _ => none }
def irFuncsRow : OpenClaim := { program := "ytfhkikdohmbndaa", sum := "927a32162d863be3e81e590590b50b23b110818ac70e4626b07686adef292be4", func := "marline/marlinelaw05.IrFuncs", spec := "irFuncs", unfollowed := true, recurses := true, plainKeys := false, apart := false }
def IrFuncsSaid : Prop := irFuncsRow.holds Try.pinned (OpenSpec.ofChange irFuncsSpec)

/-- ITS FALSE NEIGHBOUR: 'it returns false'. Refute it at one input. -/
def irFuncsWrong : ChangeSpec := { name := "irFuncs", fn := fun _ => fun
  | [d] => { results := [.lit (.bool false)], args := [d] }
  | _ => none }
def IrFuncsWrongFalsely : Prop := irFuncsRow.holds Try.pinned (OpenSpec.ofChange irFuncsWrong)

/-- 'marlinelaw05.IrChecks': WHATEVER THE INPUT: true; the input reads as it did. -/
def irChecksSpec : ChangeSpec := { name := "irChecks", fn := fun _ => fun
  | [d1, d2] => { results := [.lit (.bool true)], args := [d1, d2] }
  | _ => none }
def irChecksRow : OpenClaim := { program := "ytfhkikdohmbndaa", sum := "927a32162d863be3e81e590590b50b23b110818ac70e4626b07686adef292be4", func := "marline/marlinelaw05.IrChecks", spec := "irChecks", unfollowed := true, recurses := true, plainKeys := false, apart := false }
def IrChecksSaid : Prop := irChecksRow.holds Try.pinned (OpenSpec.ofChange irChecksSpec)

/-- ITS FALSE NEIGHBOUR: 'it returns false'. Refute it at one input. -/
def irChecksWrong : ChangeSpec := { name := "irChecks", fn := fun _ => fun
  | [d1, d2] => { results := [.lit (.bool false)], args := [d1, d2] }
  | _ => none }
def IrChecksWrongFalsely : Prop := irChecksRow.holds Try.pinned (OpenSpec.ofChange irChecksWrong)

/-- 'marlinelaw05.IrAhead': WHATEVER THE INPUT: true; the input reads as it did. -/
def irAheadSpec : ChangeSpec := { name := "irAhead", fn := fun _ => fun
  | [d] => { results := [.lit (.bool true)], args := [d] }
  | _ => none }
def irAheadRow : OpenClaim := { program := "ytfhkikdohmbndaa", sum := "927a32162d863be3e81e590590b50b23b110818ac70e4626b07686adef292be4", func := "marline/marlinelaw05.IrAhead", spec := "irAhead", unfollowed := true, recurses := true, plainKeys := false, apart := false }
def IrAheadSaid : Prop := irAheadRow.holds Try.pinned (OpenSpec.ofChange irAheadSpec)

/-- ITS FALSE NEIGHBOUR: 'it returns false'. Refute it at one input. -/
def irAheadWrong : ChangeSpec := { name := "irAhead", fn := fun _ => fun
  | [d] => { results := [.lit (.bool false)], args := [d] }
  | _ => none }
def IrAheadWrongFalsely : Prop := irAheadRow.holds Try.pinned (OpenSpec.ofChange irAheadWrong)

/-- 'marlinelaw05.IrLess': WHATEVER THE INPUT: true; the input reads as it did. -/
def irLessSpec : ChangeSpec := { name := "irLess", fn := fun _ => fun
  | [d1, d2] => { results := [.lit (.bool true)], args := [d1, d2] }
  | _ => none }
def irLessRow : OpenClaim := { program := "ytfhkikdohmbndaa", sum := "927a32162d863be3e81e590590b50b23b110818ac70e4626b07686adef292be4", func := "marline/marlinelaw05.IrLess", spec := "irLess", unfollowed := true, recurses := true, plainKeys := false, apart := false }
def IrLessSaid : Prop := irLessRow.holds Try.pinned (OpenSpec.ofChange irLessSpec)

/-- ITS FALSE NEIGHBOUR: 'it returns false'. Refute it at one input. -/
def irLessWrong : ChangeSpec := { name := "irLess", fn := fun _ => fun
  | [d1, d2] => { results := [.lit (.bool false)], args := [d1, d2] }
  | _ => none }
def IrLessWrongFalsely : Prop := irLessRow.holds Try.pinned (OpenSpec.ofChange irLessWrong)

/-- 'marlinelaw05.IrNames': WHATEVER THE INPUT: true; the input reads as it did. -/
def irNamesSpec : ChangeSpec := { name := "irNames", fn := fun _ => fun
  | [d] => { results := [.lit (.bool true)], args := [d] }
  | _ => none }
def irNamesRow : OpenClaim := { program := "ytfhkikdohmbndaa", sum := "927a32162d863be3e81e590590b50b23b110818ac70e4626b07686adef292be4", func := "marline/marlinelaw05.IrNames", spec := "irNames", unfollowed := true, recurses := true, plainKeys := false, apart := false }
def IrNamesSaid : Prop := irNamesRow.holds Try.pinned (OpenSpec.ofChange irNamesSpec)

/-- ITS FALSE NEIGHBOUR: 'it returns false'. Refute it at one input. -/
def irNamesWrong : ChangeSpec := { name := "irNames", fn := fun _ => fun
  | [d] => { results := [.lit (.bool false)], args := [d] }
  | _ => none }
def IrNamesWrongFalsely : Prop := irNamesRow.holds Try.pinned (OpenSpec.ofChange irNamesWrong)

/-- 'marlinelaw05.IrJumps': WHATEVER THE INPUT: true; the input reads as it did. -/
def irJumpsSpec : ChangeSpec := { name := "irJumps", fn := fun _ => fun
  | [d] => { results := [.lit (.bool true)], args := [d] }
  | _ => none }
def irJumpsRow : OpenClaim := { program := "ytfhkikdohmbndaa", sum := "927a32162d863be3e81e590590b50b23b110818ac70e4626b07686adef292be4", func := "marline/marlinelaw05.IrJumps", spec := "irJumps", unfollowed := true, recurses := true, plainKeys := false, apart := false }
def IrJumpsSaid : Prop := irJumpsRow.holds Try.pinned (OpenSpec.ofChange irJumpsSpec)

/-- ITS FALSE NEIGHBOUR: 'it returns false'. Refute it at one input. -/
def irJumpsWrong : ChangeSpec := { name := "irJumps", fn := fun _ => fun
  | [d] => { results := [.lit (.bool false)], args := [d] }
  | _ => none }
def IrJumpsWrongFalsely : Prop := irJumpsRow.holds Try.pinned (OpenSpec.ofChange irJumpsWrong)

/-- 'marlinelaw05.IrCounts': WHATEVER THE INPUT: true; the input reads as it did. -/
def irCountsSpec : ChangeSpec := { name := "irCounts", fn := fun _ => fun
  | [d] => { results := [.lit (.bool true)], args := [d] }
  | _ => none }
def irCountsRow : OpenClaim := { program := "ytfhkikdohmbndaa", sum := "927a32162d863be3e81e590590b50b23b110818ac70e4626b07686adef292be4", func := "marline/marlinelaw05.IrCounts", spec := "irCounts", unfollowed := true, recurses := true, plainKeys := false, apart := false }
def IrCountsSaid : Prop := irCountsRow.holds Try.pinned (OpenSpec.ofChange irCountsSpec)

/-- ITS FALSE NEIGHBOUR: 'it returns false'. Refute it at one input. -/
def irCountsWrong : ChangeSpec := { name := "irCounts", fn := fun _ => fun
  | [d] => { results := [.lit (.bool false)], args := [d] }
  | _ => none }
def IrCountsWrongFalsely : Prop := irCountsRow.holds Try.pinned (OpenSpec.ofChange irCountsWrong)

/-- 'marlinelaw05.IrMore': WHATEVER THE INPUT: true; the input reads as it did. -/
def irMoreSpec : ChangeSpec := { name := "irMore", fn := fun _ => fun
  | [d1, d2] => { results := [.lit (.bool true)], args := [d1, d2] }
  | _ => none }
def irMoreRow : OpenClaim := { program := "ytfhkikdohmbndaa", sum := "927a32162d863be3e81e590590b50b23b110818ac70e4626b07686adef292be4", func := "marline/marlinelaw05.IrMore", spec := "irMore", unfollowed := true, recurses := true, plainKeys := false, apart := false }
def IrMoreSaid : Prop := irMoreRow.holds Try.pinned (OpenSpec.ofChange irMoreSpec)

/-- ITS FALSE NEIGHBOUR: 'it returns false'. Refute it at one input. -/
def irMoreWrong : ChangeSpec := { name := "irMore", fn := fun _ => fun
  | [d1, d2] => { results := [.lit (.bool false)], args := [d1, d2] }
  | _ => none }
def IrMoreWrongFalsely : Prop := irMoreRow.holds Try.pinned (OpenSpec.ofChange irMoreWrong)

/-- 'marlinelaw06.BitBack': WHATEVER THE INPUT: true; the input reads as it did. -/
def bitBackSpec : ChangeSpec := { name := "bitBack", fn := fun _ => fun
  | [d1, d2] => { results := [.lit (.bool true)], args := [d1, d2] }
  | _ => none }
def bitBackRow : OpenClaim := { program := "ytfhkikdohmbndaa", sum := "927a32162d863be3e81e590590b50b23b110818ac70e4626b07686adef292be4", func := "marline/marlinelaw06.BitBack", spec := "bitBack", inPlace := ["internal/abi.NoEscape"], unfollowed := true, recurses := true, plainKeys := false, apart := false }
def BitBackSaid : Prop := bitBackRow.holds Try.pinned (OpenSpec.ofChange bitBackSpec)

/-- ITS FALSE NEIGHBOUR: 'it returns false'. Refute it at one input. -/
def bitBackWrong : ChangeSpec := { name := "bitBack", fn := fun _ => fun
  | [d1, d2] => { results := [.lit (.bool false)], args := [d1, d2] }
  | _ => none }
def BitBackWrongFalsely : Prop := bitBackRow.holds Try.pinned (OpenSpec.ofChange bitBackWrong)

/-- 'marlinelaw06.BitCut': WHATEVER THE INPUT: true; the input reads as it did. -/
def bitCutSpec : ChangeSpec := { name := "bitCut", fn := fun _ => fun
  | [d1, d2] => { results := [.lit (.bool true)], args := [d1, d2] }
  | _ => none }
def bitCutRow : OpenClaim := { program := "ytfhkikdohmbndaa", sum := "927a32162d863be3e81e590590b50b23b110818ac70e4626b07686adef292be4", func := "marline/marlinelaw06.BitCut", spec := "bitCut", inPlace := ["internal/abi.NoEscape"], unfollowed := true, recurses := true, plainKeys := false, apart := false }
def BitCutSaid : Prop := bitCutRow.holds Try.pinned (OpenSpec.ofChange bitCutSpec)

/-- ITS FALSE NEIGHBOUR: 'it returns false'. Refute it at one input. -/
def bitCutWrong : ChangeSpec := { name := "bitCut", fn := fun _ => fun
  | [d1, d2] => { results := [.lit (.bool false)], args := [d1, d2] }
  | _ => none }
def BitCutWrongFalsely : Prop := bitCutRow.holds Try.pinned (OpenSpec.ofChange bitCutWrong)

/-- 'marlinelaw06.BitChecks': WHATEVER THE INPUT: true; the input reads as it did. -/
def bitChecksSpec : ChangeSpec := { name := "bitChecks", fn := fun _ => fun
  | [d1, d2] => { results := [.lit (.bool true)], args := [d1, d2] }
  | _ => none }
def bitChecksRow : OpenClaim := { program := "ytfhkikdohmbndaa", sum := "927a32162d863be3e81e590590b50b23b110818ac70e4626b07686adef292be4", func := "marline/marlinelaw06.BitChecks", spec := "bitChecks", inPlace := ["internal/abi.NoEscape"], unfollowed := true, recurses := true, plainKeys := false, apart := false }
def BitChecksSaid : Prop := bitChecksRow.holds Try.pinned (OpenSpec.ofChange bitChecksSpec)

/-- ITS FALSE NEIGHBOUR: 'it returns false'. Refute it at one input. -/
def bitChecksWrong : ChangeSpec := { name := "bitChecks", fn := fun _ => fun
  | [d1, d2] => { results := [.lit (.bool false)], args := [d1, d2] }
  | _ => none }
def BitChecksWrongFalsely : Prop := bitChecksRow.holds Try.pinned (OpenSpec.ofChange bitChecksWrong)

/-- 'marlinelaw06.BitApart': WHATEVER THE INPUT: true; the input reads as it did. -/
def bitApartSpec : ChangeSpec := { name := "bitApart", fn := fun _ => fun
  | [d1, d2] => { results := [.lit (.bool true)], args := [d1, d2] }
  | _ => none }
def bitApartRow : OpenClaim := { program := "ytfhkikdohmbndaa", sum := "927a32162d863be3e81e590590b50b23b110818ac70e4626b07686adef292be4", func := "marline/marlinelaw06.BitApart", spec := "bitApart", inPlace := ["internal/abi.NoEscape"], unfollowed := true, recurses := true, plainKeys := false, apart := false }
def BitApartSaid : Prop := bitApartRow.holds Try.pinned (OpenSpec.ofChange bitApartSpec)

/-- ITS FALSE NEIGHBOUR: 'it returns false'. Refute it at one input. -/
def bitApartWrong : ChangeSpec := { name := "bitApart", fn := fun _ => fun
  | [d1, d2] => { results := [.lit (.bool false)], args := [d1, d2] }
  | _ => none }
def BitApartWrongFalsely : Prop := bitApartRow.holds Try.pinned (OpenSpec.ofChange bitApartWrong)

/- THE SECOND FORM. 'bulk': how many values and letters a reading holds, each counted each time it is reached (what is shared counts as often as it is met; a slice's spare places count too). A statement '..UptoSaid' is the law's where the arguments, and the package variables that the reading takes, are together of bulk at most 1048576: NARROWER than '..Said'. Prove '..Said' where nothing that the law and all that it calls make is longer than what came in: it says more and counts as full. Else prove '..UptoSaid'. A law counts once. -/
mutual
def uptoBulk {H : Type} : DataW H → Nat
  | .lit (.string bytes) => bytes.length + 1
  | .lit _ => 1
  | .nil => 1
  | .ptr d => uptoBulk d + 1
  | .slice elems spare => uptoBulkAll elems + uptoBulkAll spare + 1
  | .agg parts => uptoBulkAll parts + 1
  | .iface _ d => uptoBulk d + 1
  | .map entries => uptoBulkEntries entries + 1
  | .held _ => 1
def uptoBulkAll {H : Type} : List (DataW H) → Nat
  | [] => 0
  | d :: r => uptoBulk d + uptoBulkAll r
def uptoBulkEntries {H : Type} : List (Lit × DataW H) → Nat
  | [] => 0
  | x :: r => uptoBulkEntry x + uptoBulkEntries r
def uptoBulkEntry {H : Type} : Lit × DataW H → Nat
  | (.string bytes, d) => bytes.length + uptoBulk d + 1
  | (_, d) => uptoBulk d + 1
 end
def uptoSmall : (H : Type) → List (DataW H) → Bool := fun _ ds => decide (uptoBulkAll ds ≤ 1048576)
def OpenSpec.upto (s : _root_.Go.ChangeSpec) : _root_.Go.OpenSpec := { _root_.Go.OpenSpec.ofChange s with cond := some uptoSmall }

/-- 'marlinelaw04.ElfLoads', WHERE WHAT IT READS IS OF BULK AT MOST 1048576: true; the input reads as it did. -/
def elfLoadsUptoRow : OpenClaim := { program := "ytfhkikdohmbndaa", sum := "927a32162d863be3e81e590590b50b23b110818ac70e4626b07686adef292be4", func := "marline/marlinelaw04.ElfLoads", spec := "elfLoads", inPlace := ["internal/abi.NoEscape", "internal/bytealg.MakeNoZero"], unfollowed := true, recurses := true, plainKeys := false, apart := false, narrowed := true }
def ElfLoadsUptoSaid : Prop := elfLoadsUptoRow.holds Try.pinned (OpenSpec.upto elfLoadsSpec)

/-- 'marlinelaw04.ElfGuards', WHERE WHAT IT READS IS OF BULK AT MOST 1048576: true; the input reads as it did. -/
def elfGuardsUptoRow : OpenClaim := { program := "ytfhkikdohmbndaa", sum := "927a32162d863be3e81e590590b50b23b110818ac70e4626b07686adef292be4", func := "marline/marlinelaw04.ElfGuards", spec := "elfGuards", inPlace := ["internal/abi.NoEscape", "internal/bytealg.MakeNoZero"], unfollowed := true, recurses := true, plainKeys := false, apart := false, narrowed := true }
def ElfGuardsUptoSaid : Prop := elfGuardsUptoRow.holds Try.pinned (OpenSpec.upto elfGuardsSpec)

/-- 'marlinelaw04.ElfBytes', WHERE WHAT IT READS IS OF BULK AT MOST 1048576: true; the input reads as it did. -/
def elfBytesUptoRow : OpenClaim := { program := "ytfhkikdohmbndaa", sum := "927a32162d863be3e81e590590b50b23b110818ac70e4626b07686adef292be4", func := "marline/marlinelaw04.ElfBytes", spec := "elfBytes", inPlace := ["internal/abi.NoEscape", "internal/bytealg.MakeNoZero"], unfollowed := true, recurses := true, plainKeys := false, apart := false, narrowed := true }
def ElfBytesUptoSaid : Prop := elfBytesUptoRow.holds Try.pinned (OpenSpec.upto elfBytesSpec)

/-- 'marlinelaw02.PageUses', WHERE WHAT IT READS IS OF BULK AT MOST 1048576: true; the input reads as it did. -/
def pageUsesUptoRow : OpenClaim := { program := "ytfhkikdohmbndaa", sum := "927a32162d863be3e81e590590b50b23b110818ac70e4626b07686adef292be4", func := "marline/marlinelaw02.PageUses", spec := "pageUses", inPlace := ["internal/abi.NoEscape", "internal/bytealg.MakeNoZero"], unfollowed := true, recurses := true, plainKeys := false, apart := false, narrowed := true }
def PageUsesUptoSaid : Prop := pageUsesUptoRow.holds Try.pinned (OpenSpec.upto pageUsesSpec)

/-- 'marlinelaw05.IrInsts', WHERE WHAT IT READS IS OF BULK AT MOST 1048576: true; the input reads as it did. -/
def irInstsUptoRow : OpenClaim := { program := "ytfhkikdohmbndaa", sum := "927a32162d863be3e81e590590b50b23b110818ac70e4626b07686adef292be4", func := "marline/marlinelaw05.IrInsts", spec := "irInsts", unfollowed := true, recurses := true, plainKeys := false, apart := false, narrowed := true }
def IrInstsUptoSaid : Prop := irInstsUptoRow.holds Try.pinned (OpenSpec.upto irInstsSpec)

/-- 'marlinelaw05.IrFuncs', WHERE WHAT IT READS IS OF BULK AT MOST 1048576: true; the input reads as it did. -/
def irFuncsUptoRow : OpenClaim := { program := "ytfhkikdohmbndaa", sum := "927a32162d863be3e81e590590b50b23b110818ac70e4626b07686adef292be4", func := "marline/marlinelaw05.IrFuncs", spec := "irFuncs", unfollowed := true, recurses := true, plainKeys := false, apart := false, narrowed := true }
def IrFuncsUptoSaid : Prop := irFuncsUptoRow.holds Try.pinned (OpenSpec.upto irFuncsSpec)

/-- 'marlinelaw05.IrChecks', WHERE WHAT IT READS IS OF BULK AT MOST 1048576: true; the input reads as it did. -/
def irChecksUptoRow : OpenClaim := { program := "ytfhkikdohmbndaa", sum := "927a32162d863be3e81e590590b50b23b110818ac70e4626b07686adef292be4", func := "marline/marlinelaw05.IrChecks", spec := "irChecks", unfollowed := true, recurses := true, plainKeys := false, apart := false, narrowed := true }
def IrChecksUptoSaid : Prop := irChecksUptoRow.holds Try.pinned (OpenSpec.upto irChecksSpec)

/-- 'marlinelaw05.IrAhead', WHERE WHAT IT READS IS OF BULK AT MOST 1048576: true; the input reads as it did. -/
def irAheadUptoRow : OpenClaim := { program := "ytfhkikdohmbndaa", sum := "927a32162d863be3e81e590590b50b23b110818ac70e4626b07686adef292be4", func := "marline/marlinelaw05.IrAhead", spec := "irAhead", unfollowed := true, recurses := true, plainKeys := false, apart := false, narrowed := true }
def IrAheadUptoSaid : Prop := irAheadUptoRow.holds Try.pinned (OpenSpec.upto irAheadSpec)

/-- 'marlinelaw05.IrLess', WHERE WHAT IT READS IS OF BULK AT MOST 1048576: true; the input reads as it did. -/
def irLessUptoRow : OpenClaim := { program := "ytfhkikdohmbndaa", sum := "927a32162d863be3e81e590590b50b23b110818ac70e4626b07686adef292be4", func := "marline/marlinelaw05.IrLess", spec := "irLess", unfollowed := true, recurses := true, plainKeys := false, apart := false, narrowed := true }
def IrLessUptoSaid : Prop := irLessUptoRow.holds Try.pinned (OpenSpec.upto irLessSpec)

/-- 'marlinelaw05.IrNames', WHERE WHAT IT READS IS OF BULK AT MOST 1048576: true; the input reads as it did. -/
def irNamesUptoRow : OpenClaim := { program := "ytfhkikdohmbndaa", sum := "927a32162d863be3e81e590590b50b23b110818ac70e4626b07686adef292be4", func := "marline/marlinelaw05.IrNames", spec := "irNames", unfollowed := true, recurses := true, plainKeys := false, apart := false, narrowed := true }
def IrNamesUptoSaid : Prop := irNamesUptoRow.holds Try.pinned (OpenSpec.upto irNamesSpec)

/-- 'marlinelaw05.IrJumps', WHERE WHAT IT READS IS OF BULK AT MOST 1048576: true; the input reads as it did. -/
def irJumpsUptoRow : OpenClaim := { program := "ytfhkikdohmbndaa", sum := "927a32162d863be3e81e590590b50b23b110818ac70e4626b07686adef292be4", func := "marline/marlinelaw05.IrJumps", spec := "irJumps", unfollowed := true, recurses := true, plainKeys := false, apart := false, narrowed := true }
def IrJumpsUptoSaid : Prop := irJumpsUptoRow.holds Try.pinned (OpenSpec.upto irJumpsSpec)

/-- 'marlinelaw05.IrCounts', WHERE WHAT IT READS IS OF BULK AT MOST 1048576: true; the input reads as it did. -/
def irCountsUptoRow : OpenClaim := { program := "ytfhkikdohmbndaa", sum := "927a32162d863be3e81e590590b50b23b110818ac70e4626b07686adef292be4", func := "marline/marlinelaw05.IrCounts", spec := "irCounts", unfollowed := true, recurses := true, plainKeys := false, apart := false, narrowed := true }
def IrCountsUptoSaid : Prop := irCountsUptoRow.holds Try.pinned (OpenSpec.upto irCountsSpec)

/-- 'marlinelaw05.IrMore', WHERE WHAT IT READS IS OF BULK AT MOST 1048576: true; the input reads as it did. -/
def irMoreUptoRow : OpenClaim := { program := "ytfhkikdohmbndaa", sum := "927a32162d863be3e81e590590b50b23b110818ac70e4626b07686adef292be4", func := "marline/marlinelaw05.IrMore", spec := "irMore", unfollowed := true, recurses := true, plainKeys := false, apart := false, narrowed := true }
def IrMoreUptoSaid : Prop := irMoreUptoRow.holds Try.pinned (OpenSpec.upto irMoreSpec)

/-- 'marlinelaw06.BitBack', WHERE WHAT IT READS IS OF BULK AT MOST 1048576: true; the input reads as it did. -/
def bitBackUptoRow : OpenClaim := { program := "ytfhkikdohmbndaa", sum := "927a32162d863be3e81e590590b50b23b110818ac70e4626b07686adef292be4", func := "marline/marlinelaw06.BitBack", spec := "bitBack", inPlace := ["internal/abi.NoEscape"], unfollowed := true, recurses := true, plainKeys := false, apart := false, narrowed := true }
def BitBackUptoSaid : Prop := bitBackUptoRow.holds Try.pinned (OpenSpec.upto bitBackSpec)

/-- 'marlinelaw06.BitCut', WHERE WHAT IT READS IS OF BULK AT MOST 1048576: true; the input reads as it did. -/
def bitCutUptoRow : OpenClaim := { program := "ytfhkikdohmbndaa", sum := "927a32162d863be3e81e590590b50b23b110818ac70e4626b07686adef292be4", func := "marline/marlinelaw06.BitCut", spec := "bitCut", inPlace := ["internal/abi.NoEscape"], unfollowed := true, recurses := true, plainKeys := false, apart := false, narrowed := true }
def BitCutUptoSaid : Prop := bitCutUptoRow.holds Try.pinned (OpenSpec.upto bitCutSpec)

/-- 'marlinelaw06.BitChecks', WHERE WHAT IT READS IS OF BULK AT MOST 1048576: true; the input reads as it did. -/
def bitChecksUptoRow : OpenClaim := { program := "ytfhkikdohmbndaa", sum := "927a32162d863be3e81e590590b50b23b110818ac70e4626b07686adef292be4", func := "marline/marlinelaw06.BitChecks", spec := "bitChecks", inPlace := ["internal/abi.NoEscape"], unfollowed := true, recurses := true, plainKeys := false, apart := false, narrowed := true }
def BitChecksUptoSaid : Prop := bitChecksUptoRow.holds Try.pinned (OpenSpec.upto bitChecksSpec)

/-- 'marlinelaw06.BitApart', WHERE WHAT IT READS IS OF BULK AT MOST 1048576: true; the input reads as it did. -/
def bitApartUptoRow : OpenClaim := { program := "ytfhkikdohmbndaa", sum := "927a32162d863be3e81e590590b50b23b110818ac70e4626b07686adef292be4", func := "marline/marlinelaw06.BitApart", spec := "bitApart", inPlace := ["internal/abi.NoEscape"], unfollowed := true, recurses := true, plainKeys := false, apart := false, narrowed := true }
def BitApartUptoSaid : Prop := bitApartUptoRow.holds Try.pinned (OpenSpec.upto bitApartSpec)

end Rows
end Go.Proofs.Ytfhkikdohmbndaa
