/-
  No cell of these rows narrows 'for every input' (looked for: loops, veiled, ifaces, maps, wideKeys, modest, calm, conditions, laid).
  DERIVED. THE GIVEN ROWS OF THIS SEAT. 8 by the template 'for every input the law returns true; each argument reads behind the call as it read before'; 0 by the template 'total and deterministic' (their statements: YtopamkbgolhbcaaTotals.lean).
  GIVEN WITH THE SEED: the statements are not yours to turn. If you find one false, say at which input.
  Laid BY PROGRAM, IN A SANDBOX (cutbox-rows.mjs): the forced cells as the released guide's own fill.sh prints them over the translation 5c4ea4cf158f2eb2… (all of the seat's roots in one cut). By AI agents, Wed Nov 11 2026. No macro, syntax, notation, axiom, sorry.
-/
import Derived.Test.YtopamkbgolhbcaaChecked
import GoSem.Claim
import GoSem.ClaimJoined
import GoSem.ClaimMapViews
import Derived.JoinedTies
import Derived.KernelRfl
namespace Go.Proofs.Ytopamkbgolhbcaa
/- THE CELL 'sum', in the pinned program and in every row, IS THE sha256 OF THE DUMP (.gsa) THAT YtopamkbgolhbcaaProg.lean LOADS. Nothing in Lean hashes anything: it is a label: what it is worth is what the hold of that sum in a sandbox is worth. -/
noncomputable def Try.pinned : Pinned := { name := "ytopamkbgolhbcaa", sum := "5c4ea4cf158f2eb293834404ccb090d542c5b1f333aee1af88bb20c671a043d6", checked := Try.checked }
namespace Rows
def none {H : Type} : Left H := { results := [], args := [] }

/-- 'marlinelaw02.PageMaps': WHATEVER THE INPUT: true; the input reads as it did. -/
def pageMapsSpec : ChangeSpec := { name := "pageMaps", fn := fun _ => fun
  | [d] => { results := [.lit (.bool true)], args := [d] }
  | _ => none }
def pageMapsRow : OpenClaim := { program := "ytopamkbgolhbcaa", sum := "5c4ea4cf158f2eb293834404ccb090d542c5b1f333aee1af88bb20c671a043d6", func := "marline/marlinelaw02.PageMaps", spec := "pageMaps", inPlace := ["internal/abi.NoEscape", "internal/bytealg.MakeNoZero"], unfollowed := true, recurses := true, plainKeys := false, apart := false }
def PageMapsSaid : Prop := pageMapsRow.holds Try.pinned (OpenSpec.ofChange pageMapsSpec)

/-- ITS FALSE NEIGHBOUR: 'it returns false'. Refute it at one input. -/
def pageMapsWrong : ChangeSpec := { name := "pageMaps", fn := fun _ => fun
  | [d] => { results := [.lit (.bool false)], args := [d] }
  | _ => none }
def PageMapsWrongFalsely : Prop := pageMapsRow.holds Try.pinned (OpenSpec.ofChange pageMapsWrong)

/-- 'marlinelaw02.PageUses': WHATEVER THE INPUT: true; the input reads as it did. -/
def pageUsesSpec : ChangeSpec := { name := "pageUses", fn := fun _ => fun
  | [d] => { results := [.lit (.bool true)], args := [d] }
  | _ => none }
def pageUsesRow : OpenClaim := { program := "ytopamkbgolhbcaa", sum := "5c4ea4cf158f2eb293834404ccb090d542c5b1f333aee1af88bb20c671a043d6", func := "marline/marlinelaw02.PageUses", spec := "pageUses", inPlace := ["internal/abi.NoEscape", "internal/bytealg.MakeNoZero"], unfollowed := true, recurses := true, plainKeys := false, apart := false }
def PageUsesSaid : Prop := pageUsesRow.holds Try.pinned (OpenSpec.ofChange pageUsesSpec)

/-- ITS FALSE NEIGHBOUR: 'it returns false'. Refute it at one input. -/
def pageUsesWrong : ChangeSpec := { name := "pageUses", fn := fun _ => fun
  | [d] => { results := [.lit (.bool false)], args := [d] }
  | _ => none }
def PageUsesWrongFalsely : Prop := pageUsesRow.holds Try.pinned (OpenSpec.ofChange pageUsesWrong)

/-- 'marlinelaw04.ElfLoads': WHATEVER THE INPUT: true; the input reads as it did. -/
def elfLoadsSpec : ChangeSpec := { name := "elfLoads", fn := fun _ => fun
  | [d1, d2] => { results := [.lit (.bool true)], args := [d1, d2] }
  | _ => none }
def elfLoadsRow : OpenClaim := { program := "ytopamkbgolhbcaa", sum := "5c4ea4cf158f2eb293834404ccb090d542c5b1f333aee1af88bb20c671a043d6", func := "marline/marlinelaw04.ElfLoads", spec := "elfLoads", inPlace := ["internal/abi.NoEscape", "internal/bytealg.MakeNoZero"], unfollowed := true, recurses := true, plainKeys := false, apart := false }
def ElfLoadsSaid : Prop := elfLoadsRow.holds Try.pinned (OpenSpec.ofChange elfLoadsSpec)

/-- ITS FALSE NEIGHBOUR: 'it returns false'. Refute it at one input. -/
def elfLoadsWrong : ChangeSpec := { name := "elfLoads", fn := fun _ => fun
  | [d1, d2] => { results := [.lit (.bool false)], args := [d1, d2] }
  | _ => none }
def ElfLoadsWrongFalsely : Prop := elfLoadsRow.holds Try.pinned (OpenSpec.ofChange elfLoadsWrong)

/-- 'marlinelaw04.ElfBack': WHATEVER THE INPUT: true; the input reads as it did. -/
def elfBackSpec : ChangeSpec := { name := "elfBack", fn := fun _ => fun
  | [d] => { results := [.lit (.bool true)], args := [d] }
  | _ => none }
def elfBackRow : OpenClaim := { program := "ytopamkbgolhbcaa", sum := "5c4ea4cf158f2eb293834404ccb090d542c5b1f333aee1af88bb20c671a043d6", func := "marline/marlinelaw04.ElfBack", spec := "elfBack", inPlace := ["internal/abi.NoEscape"], unfollowed := true, recurses := true, plainKeys := false, apart := false }
def ElfBackSaid : Prop := elfBackRow.holds Try.pinned (OpenSpec.ofChange elfBackSpec)

/-- ITS FALSE NEIGHBOUR: 'it returns false'. Refute it at one input. -/
def elfBackWrong : ChangeSpec := { name := "elfBack", fn := fun _ => fun
  | [d] => { results := [.lit (.bool false)], args := [d] }
  | _ => none }
def ElfBackWrongFalsely : Prop := elfBackRow.holds Try.pinned (OpenSpec.ofChange elfBackWrong)

/-- 'marlinelaw04.ElfGuards': WHATEVER THE INPUT: true; the input reads as it did. -/
def elfGuardsSpec : ChangeSpec := { name := "elfGuards", fn := fun _ => fun
  | [d1, d2] => { results := [.lit (.bool true)], args := [d1, d2] }
  | _ => none }
def elfGuardsRow : OpenClaim := { program := "ytopamkbgolhbcaa", sum := "5c4ea4cf158f2eb293834404ccb090d542c5b1f333aee1af88bb20c671a043d6", func := "marline/marlinelaw04.ElfGuards", spec := "elfGuards", inPlace := ["internal/abi.NoEscape", "internal/bytealg.MakeNoZero"], unfollowed := true, recurses := true, plainKeys := false, apart := false }
def ElfGuardsSaid : Prop := elfGuardsRow.holds Try.pinned (OpenSpec.ofChange elfGuardsSpec)

/-- ITS FALSE NEIGHBOUR: 'it returns false'. Refute it at one input. -/
def elfGuardsWrong : ChangeSpec := { name := "elfGuards", fn := fun _ => fun
  | [d1, d2] => { results := [.lit (.bool false)], args := [d1, d2] }
  | _ => none }
def ElfGuardsWrongFalsely : Prop := elfGuardsRow.holds Try.pinned (OpenSpec.ofChange elfGuardsWrong)

/-- 'marlinelaw04.ElfBytes': WHATEVER THE INPUT: true; the input reads as it did. -/
def elfBytesSpec : ChangeSpec := { name := "elfBytes", fn := fun _ => fun
  | [d1, d2, d3] => { results := [.lit (.bool true)], args := [d1, d2, d3] }
  | _ => none }
def elfBytesRow : OpenClaim := { program := "ytopamkbgolhbcaa", sum := "5c4ea4cf158f2eb293834404ccb090d542c5b1f333aee1af88bb20c671a043d6", func := "marline/marlinelaw04.ElfBytes", spec := "elfBytes", inPlace := ["internal/abi.NoEscape", "internal/bytealg.MakeNoZero"], unfollowed := true, recurses := true, plainKeys := false, apart := false }
def ElfBytesSaid : Prop := elfBytesRow.holds Try.pinned (OpenSpec.ofChange elfBytesSpec)

/-- ITS FALSE NEIGHBOUR: 'it returns false'. Refute it at one input. -/
def elfBytesWrong : ChangeSpec := { name := "elfBytes", fn := fun _ => fun
  | [d1, d2, d3] => { results := [.lit (.bool false)], args := [d1, d2, d3] }
  | _ => none }
def ElfBytesWrongFalsely : Prop := elfBytesRow.holds Try.pinned (OpenSpec.ofChange elfBytesWrong)

/-- 'marlinelaw04.ElfApart': WHATEVER THE INPUT: true; the input reads as it did. -/
def elfApartSpec : ChangeSpec := { name := "elfApart", fn := fun _ => fun
  | [d1, d2] => { results := [.lit (.bool true)], args := [d1, d2] }
  | _ => none }
def elfApartRow : OpenClaim := { program := "ytopamkbgolhbcaa", sum := "5c4ea4cf158f2eb293834404ccb090d542c5b1f333aee1af88bb20c671a043d6", func := "marline/marlinelaw04.ElfApart", spec := "elfApart", inPlace := ["internal/abi.NoEscape"], unfollowed := true, recurses := true, plainKeys := false, apart := false }
def ElfApartSaid : Prop := elfApartRow.holds Try.pinned (OpenSpec.ofChange elfApartSpec)

/-- ITS FALSE NEIGHBOUR: 'it returns false'. Refute it at one input. -/
def elfApartWrong : ChangeSpec := { name := "elfApart", fn := fun _ => fun
  | [d1, d2] => { results := [.lit (.bool false)], args := [d1, d2] }
  | _ => none }
def ElfApartWrongFalsely : Prop := elfApartRow.holds Try.pinned (OpenSpec.ofChange elfApartWrong)

/-- 'marlinelaw04.ElfPlaces': WHATEVER THE INPUT: true; the input reads as it did. -/
def elfPlacesSpec : ChangeSpec := { name := "elfPlaces", fn := fun _ => fun
  | [d] => { results := [.lit (.bool true)], args := [d] }
  | _ => none }
def elfPlacesRow : OpenClaim := { program := "ytopamkbgolhbcaa", sum := "5c4ea4cf158f2eb293834404ccb090d542c5b1f333aee1af88bb20c671a043d6", func := "marline/marlinelaw04.ElfPlaces", spec := "elfPlaces", inPlace := ["internal/abi.NoEscape"], unfollowed := true, recurses := true, plainKeys := false, apart := false }
def ElfPlacesSaid : Prop := elfPlacesRow.holds Try.pinned (OpenSpec.ofChange elfPlacesSpec)

/-- ITS FALSE NEIGHBOUR: 'it returns false'. Refute it at one input. -/
def elfPlacesWrong : ChangeSpec := { name := "elfPlaces", fn := fun _ => fun
  | [d] => { results := [.lit (.bool false)], args := [d] }
  | _ => none }
def ElfPlacesWrongFalsely : Prop := elfPlacesRow.holds Try.pinned (OpenSpec.ofChange elfPlacesWrong)

/- THE SECOND FORM. 'bulk': how many values and letters a reading holds, each counted each time it is reached (what is shared counts as often as it is met; a slice's spare places count too). A statement '..UptoSaid' is the law's where the arguments, and the package variables that the reading takes, are together of bulk at most 1048576: NARROWER than '..Said'. Prove '..Said' where nothing that the law and all that it calls make is longer than what came in: it says more and counts as full. Else prove '..UptoSaid'. A law counts once. -/
mutual
def uptoBulk {H : Type} : DataW H → Nat
  | .lit (.string bytes) => bytes.length + 1
  | .lit _ => 1
  | .nil => 1
  | .ptr d => uptoBulk d + 1
  | .slice elems spare => uptoBulkAll elems + uptoBulkAll spare + 1
  | .agg parts => uptoBulkAll parts + 1
  | .iface _ d => uptoBulk d + 1
  | .map entries => uptoBulkEntries entries + 1
  | .held _ => 1
def uptoBulkAll {H : Type} : List (DataW H) → Nat
  | [] => 0
  | d :: r => uptoBulk d + uptoBulkAll r
def uptoBulkEntries {H : Type} : List (Lit × DataW H) → Nat
  | [] => 0
  | x :: r => uptoBulkEntry x + uptoBulkEntries r
def uptoBulkEntry {H : Type} : Lit × DataW H → Nat
  | (.string bytes, d) => bytes.length + uptoBulk d + 1
  | (_, d) => uptoBulk d + 1
 end
def uptoSmall : (H : Type) → List (DataW H) → Bool := fun _ ds => decide (uptoBulkAll ds ≤ 1048576)
def OpenSpec.upto (s : _root_.Go.ChangeSpec) : _root_.Go.OpenSpec := { _root_.Go.OpenSpec.ofChange s with cond := some uptoSmall }

/-- 'marlinelaw02.PageMaps', WHERE WHAT IT READS IS OF BULK AT MOST 1048576: true; the input reads as it did. -/
def pageMapsUptoRow : OpenClaim := { program := "ytopamkbgolhbcaa", sum := "5c4ea4cf158f2eb293834404ccb090d542c5b1f333aee1af88bb20c671a043d6", func := "marline/marlinelaw02.PageMaps", spec := "pageMaps", inPlace := ["internal/abi.NoEscape", "internal/bytealg.MakeNoZero"], unfollowed := true, recurses := true, plainKeys := false, apart := false, narrowed := true }
def PageMapsUptoSaid : Prop := pageMapsUptoRow.holds Try.pinned (OpenSpec.upto pageMapsSpec)

/-- 'marlinelaw02.PageUses', WHERE WHAT IT READS IS OF BULK AT MOST 1048576: true; the input reads as it did. -/
def pageUsesUptoRow : OpenClaim := { program := "ytopamkbgolhbcaa", sum := "5c4ea4cf158f2eb293834404ccb090d542c5b1f333aee1af88bb20c671a043d6", func := "marline/marlinelaw02.PageUses", spec := "pageUses", inPlace := ["internal/abi.NoEscape", "internal/bytealg.MakeNoZero"], unfollowed := true, recurses := true, plainKeys := false, apart := false, narrowed := true }
def PageUsesUptoSaid : Prop := pageUsesUptoRow.holds Try.pinned (OpenSpec.upto pageUsesSpec)

/-- 'marlinelaw04.ElfLoads', WHERE WHAT IT READS IS OF BULK AT MOST 1048576: true; the input reads as it did. -/
def elfLoadsUptoRow : OpenClaim := { program := "ytopamkbgolhbcaa", sum := "5c4ea4cf158f2eb293834404ccb090d542c5b1f333aee1af88bb20c671a043d6", func := "marline/marlinelaw04.ElfLoads", spec := "elfLoads", inPlace := ["internal/abi.NoEscape", "internal/bytealg.MakeNoZero"], unfollowed := true, recurses := true, plainKeys := false, apart := false, narrowed := true }
def ElfLoadsUptoSaid : Prop := elfLoadsUptoRow.holds Try.pinned (OpenSpec.upto elfLoadsSpec)

/-- 'marlinelaw04.ElfBack', WHERE WHAT IT READS IS OF BULK AT MOST 1048576: true; the input reads as it did. -/
def elfBackUptoRow : OpenClaim := { program := "ytopamkbgolhbcaa", sum := "5c4ea4cf158f2eb293834404ccb090d542c5b1f333aee1af88bb20c671a043d6", func := "marline/marlinelaw04.ElfBack", spec := "elfBack", inPlace := ["internal/abi.NoEscape"], unfollowed := true, recurses := true, plainKeys := false, apart := false, narrowed := true }
def ElfBackUptoSaid : Prop := elfBackUptoRow.holds Try.pinned (OpenSpec.upto elfBackSpec)

/-- 'marlinelaw04.ElfGuards', WHERE WHAT IT READS IS OF BULK AT MOST 1048576: true; the input reads as it did. -/
def elfGuardsUptoRow : OpenClaim := { program := "ytopamkbgolhbcaa", sum := "5c4ea4cf158f2eb293834404ccb090d542c5b1f333aee1af88bb20c671a043d6", func := "marline/marlinelaw04.ElfGuards", spec := "elfGuards", inPlace := ["internal/abi.NoEscape", "internal/bytealg.MakeNoZero"], unfollowed := true, recurses := true, plainKeys := false, apart := false, narrowed := true }
def ElfGuardsUptoSaid : Prop := elfGuardsUptoRow.holds Try.pinned (OpenSpec.upto elfGuardsSpec)

/-- 'marlinelaw04.ElfBytes', WHERE WHAT IT READS IS OF BULK AT MOST 1048576: true; the input reads as it did. -/
def elfBytesUptoRow : OpenClaim := { program := "ytopamkbgolhbcaa", sum := "5c4ea4cf158f2eb293834404ccb090d542c5b1f333aee1af88bb20c671a043d6", func := "marline/marlinelaw04.ElfBytes", spec := "elfBytes", inPlace := ["internal/abi.NoEscape", "internal/bytealg.MakeNoZero"], unfollowed := true, recurses := true, plainKeys := false, apart := false, narrowed := true }
def ElfBytesUptoSaid : Prop := elfBytesUptoRow.holds Try.pinned (OpenSpec.upto elfBytesSpec)

/-- 'marlinelaw04.ElfApart', WHERE WHAT IT READS IS OF BULK AT MOST 1048576: true; the input reads as it did. -/
def elfApartUptoRow : OpenClaim := { program := "ytopamkbgolhbcaa", sum := "5c4ea4cf158f2eb293834404ccb090d542c5b1f333aee1af88bb20c671a043d6", func := "marline/marlinelaw04.ElfApart", spec := "elfApart", inPlace := ["internal/abi.NoEscape"], unfollowed := true, recurses := true, plainKeys := false, apart := false, narrowed := true }
def ElfApartUptoSaid : Prop := elfApartUptoRow.holds Try.pinned (OpenSpec.upto elfApartSpec)

/-- 'marlinelaw04.ElfPlaces', WHERE WHAT IT READS IS OF BULK AT MOST 1048576: true; the input reads as it did. -/
def elfPlacesUptoRow : OpenClaim := { program := "ytopamkbgolhbcaa", sum := "5c4ea4cf158f2eb293834404ccb090d542c5b1f333aee1af88bb20c671a043d6", func := "marline/marlinelaw04.ElfPlaces", spec := "elfPlaces", inPlace := ["internal/abi.NoEscape"], unfollowed := true, recurses := true, plainKeys := false, apart := false, narrowed := true }
def ElfPlacesUptoSaid : Prop := elfPlacesUptoRow.holds Try.pinned (OpenSpec.upto elfPlacesSpec)

end Rows
end Go.Proofs.Ytopamkbgolhbcaa
