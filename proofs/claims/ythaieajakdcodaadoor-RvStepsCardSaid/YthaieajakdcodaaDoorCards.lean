/-
  DERIVED. GIVEN WITH THE SEED: THE CARDS: each row of YthaieajakdcodaaDoorRows.lean that lists a variable, with what it lists TIED to the program's text (the seventh form; the later family's looks); each row that meets fmt, with fmt's text TOLD by the authors' own Lean function (tested against real Go, not proved from fmt's source: count such statements apart). THE CARD IS WHAT COUNTS. Prove the row's statement (the work); the ties are given (YthaieajakdcodaaDoorTie.lean); close each card by the builder's one call (the guide's Derived/Test/ToyasCard.lean, 'card_holds'). Laid BY PROGRAM, IN A SANDBOX (cutbox-door.mjs). By AI agents, Wed Nov 11 2026. No macro, syntax, notation, axiom, sorry.
-/
import Derived.Test.YthaieajakdcodaaDoorRows
import GoSem.ClaimSeven
namespace Go.Proofs.YthaieajakdcodaaDoor
namespace Rows

/-- THE TIED CARD OF 'marlinelaw03.RvDoes'. -/
def rvDoesCard : Claim7 := { stood := { row := rvDoesRow, standIns := [], harness := (true, "f3ecf7928c8c6e48fe22651cb5a358ef1b8ca3db7eea7ba284248829cabfffb0"), looks := false }, kinds := [], alts := [], laidByText := true, laidKinds := [.data, .data], laidTests := true, laidLooks := .later }
def RvDoesCardSaid : Prop := Claim7.holds Tryd.pinned (.plain (OpenSpec.ofChange rvDoesSpec)) rvDoesCard

/-- THE TIED CARD OF 'marlinelaw03.RvSteps'. -/
def rvStepsCard : Claim7 := { stood := { row := rvStepsRow, standIns := [], harness := (true, "f3ecf7928c8c6e48fe22651cb5a358ef1b8ca3db7eea7ba284248829cabfffb0"), looks := false }, kinds := [], alts := [], laidByText := true, laidKinds := [.data, .data], laidTests := true, laidLooks := .later }
def RvStepsCardSaid : Prop := Claim7.holds Tryd.pinned (.plain (OpenSpec.ofChange rvStepsSpec)) rvStepsCard

/-- THE TIED CARD OF 'marlinelaw03.RvRuns'. -/
def rvRunsCard : Claim7 := { stood := { row := rvRunsRow, standIns := [], harness := (true, "f3ecf7928c8c6e48fe22651cb5a358ef1b8ca3db7eea7ba284248829cabfffb0"), looks := false }, kinds := [], alts := [], laidByText := true, laidKinds := [.data, .data], laidTests := true, laidLooks := .later }
def RvRunsCardSaid : Prop := Claim7.holds Tryd.pinned (.plain (OpenSpec.ofChange rvRunsSpec)) rvRunsCard

/-- THE TIED CARD OF 'marlinelaw03.RvStays'. -/
def rvStaysCard : Claim7 := { stood := { row := rvStaysRow, standIns := [], harness := (true, "f3ecf7928c8c6e48fe22651cb5a358ef1b8ca3db7eea7ba284248829cabfffb0"), looks := false }, kinds := [], alts := [], laidByText := true, laidKinds := [.data, .data], laidTests := true, laidLooks := .later }
def RvStaysCardSaid : Prop := Claim7.holds Tryd.pinned (.plain (OpenSpec.ofChange rvStaysSpec)) rvStaysCard

/-- THE TIED CARD OF 'marlinelaw03.RvZero'. -/
def rvZeroCard : Claim7 := { stood := { row := rvZeroRow, standIns := [], harness := (true, "f3ecf7928c8c6e48fe22651cb5a358ef1b8ca3db7eea7ba284248829cabfffb0"), looks := false }, kinds := [], alts := [], laidByText := true, laidKinds := [.data, .data], laidTests := true, laidLooks := .later }
def RvZeroCardSaid : Prop := Claim7.holds Tryd.pinned (.plain (OpenSpec.ofChange rvZeroSpec)) rvZeroCard

/-- THE TIED CARD OF 'marlinelaw03.RvPages'. -/
def rvPagesCard : Claim7 := { stood := { row := rvPagesRow, standIns := [], harness := (true, "f3ecf7928c8c6e48fe22651cb5a358ef1b8ca3db7eea7ba284248829cabfffb0"), looks := false }, kinds := [], alts := [], laidByText := true, laidKinds := [.data, .data], laidTests := true, laidLooks := .later }
def RvPagesCardSaid : Prop := Claim7.holds Tryd.pinned (.plain (OpenSpec.ofChange rvPagesSpec)) rvPagesCard

/-- THE TIED CARD OF 'marlinelaw03.RvTraps'. -/
def rvTrapsCard : Claim7 := { stood := { row := rvTrapsRow, standIns := [], harness := (true, "f3ecf7928c8c6e48fe22651cb5a358ef1b8ca3db7eea7ba284248829cabfffb0"), looks := false }, kinds := [], alts := [], laidByText := true, laidKinds := [.data, .data], laidTests := true, laidLooks := .later }
def RvTrapsCardSaid : Prop := Claim7.holds Tryd.pinned (.plain (OpenSpec.ofChange rvTrapsSpec)) rvTrapsCard

/-- THE TIED CARD OF 'marlinelaw03.RvParts'. -/
def rvPartsCard : Claim7 := { stood := { row := rvPartsRow, standIns := [], harness := (true, "f3ecf7928c8c6e48fe22651cb5a358ef1b8ca3db7eea7ba284248829cabfffb0"), looks := false }, kinds := [], alts := [], laidByText := true, laidKinds := [.data, .data], laidTests := true, laidLooks := .later }
def RvPartsCardSaid : Prop := Claim7.holds Tryd.pinned (.plain (OpenSpec.ofChange rvPartsSpec)) rvPartsCard

/-- THE SECOND FORM's CARD OF 'marlinelaw03.RvDoes'. -/
def rvDoesUptoCard : Claim7 := { stood := { row := rvDoesUptoRow, standIns := [], harness := (true, "f3ecf7928c8c6e48fe22651cb5a358ef1b8ca3db7eea7ba284248829cabfffb0"), looks := false }, kinds := [], alts := [], laidByText := true, laidKinds := [.data, .data], laidTests := true, laidLooks := .later }
def RvDoesUptoCardSaid : Prop := Claim7.holds Tryd.pinned (.plain (OpenSpec.upto rvDoesSpec)) rvDoesUptoCard

/-- THE SECOND FORM's CARD OF 'marlinelaw03.RvSteps'. -/
def rvStepsUptoCard : Claim7 := { stood := { row := rvStepsUptoRow, standIns := [], harness := (true, "f3ecf7928c8c6e48fe22651cb5a358ef1b8ca3db7eea7ba284248829cabfffb0"), looks := false }, kinds := [], alts := [], laidByText := true, laidKinds := [.data, .data], laidTests := true, laidLooks := .later }
def RvStepsUptoCardSaid : Prop := Claim7.holds Tryd.pinned (.plain (OpenSpec.upto rvStepsSpec)) rvStepsUptoCard

/-- THE SECOND FORM's CARD OF 'marlinelaw03.RvRuns'. -/
def rvRunsUptoCard : Claim7 := { stood := { row := rvRunsUptoRow, standIns := [], harness := (true, "f3ecf7928c8c6e48fe22651cb5a358ef1b8ca3db7eea7ba284248829cabfffb0"), looks := false }, kinds := [], alts := [], laidByText := true, laidKinds := [.data, .data], laidTests := true, laidLooks := .later }
def RvRunsUptoCardSaid : Prop := Claim7.holds Tryd.pinned (.plain (OpenSpec.upto rvRunsSpec)) rvRunsUptoCard

/-- THE SECOND FORM's CARD OF 'marlinelaw03.RvStays'. -/
def rvStaysUptoCard : Claim7 := { stood := { row := rvStaysUptoRow, standIns := [], harness := (true, "f3ecf7928c8c6e48fe22651cb5a358ef1b8ca3db7eea7ba284248829cabfffb0"), looks := false }, kinds := [], alts := [], laidByText := true, laidKinds := [.data, .data], laidTests := true, laidLooks := .later }
def RvStaysUptoCardSaid : Prop := Claim7.holds Tryd.pinned (.plain (OpenSpec.upto rvStaysSpec)) rvStaysUptoCard

/-- THE SECOND FORM's CARD OF 'marlinelaw03.RvZero'. -/
def rvZeroUptoCard : Claim7 := { stood := { row := rvZeroUptoRow, standIns := [], harness := (true, "f3ecf7928c8c6e48fe22651cb5a358ef1b8ca3db7eea7ba284248829cabfffb0"), looks := false }, kinds := [], alts := [], laidByText := true, laidKinds := [.data, .data], laidTests := true, laidLooks := .later }
def RvZeroUptoCardSaid : Prop := Claim7.holds Tryd.pinned (.plain (OpenSpec.upto rvZeroSpec)) rvZeroUptoCard

/-- THE SECOND FORM's CARD OF 'marlinelaw03.RvPages'. -/
def rvPagesUptoCard : Claim7 := { stood := { row := rvPagesUptoRow, standIns := [], harness := (true, "f3ecf7928c8c6e48fe22651cb5a358ef1b8ca3db7eea7ba284248829cabfffb0"), looks := false }, kinds := [], alts := [], laidByText := true, laidKinds := [.data, .data], laidTests := true, laidLooks := .later }
def RvPagesUptoCardSaid : Prop := Claim7.holds Tryd.pinned (.plain (OpenSpec.upto rvPagesSpec)) rvPagesUptoCard

/-- THE SECOND FORM's CARD OF 'marlinelaw03.RvTraps'. -/
def rvTrapsUptoCard : Claim7 := { stood := { row := rvTrapsUptoRow, standIns := [], harness := (true, "f3ecf7928c8c6e48fe22651cb5a358ef1b8ca3db7eea7ba284248829cabfffb0"), looks := false }, kinds := [], alts := [], laidByText := true, laidKinds := [.data, .data], laidTests := true, laidLooks := .later }
def RvTrapsUptoCardSaid : Prop := Claim7.holds Tryd.pinned (.plain (OpenSpec.upto rvTrapsSpec)) rvTrapsUptoCard

/-- THE SECOND FORM's CARD OF 'marlinelaw03.RvParts'. -/
def rvPartsUptoCard : Claim7 := { stood := { row := rvPartsUptoRow, standIns := [], harness := (true, "f3ecf7928c8c6e48fe22651cb5a358ef1b8ca3db7eea7ba284248829cabfffb0"), looks := false }, kinds := [], alts := [], laidByText := true, laidKinds := [.data, .data], laidTests := true, laidLooks := .later }
def RvPartsUptoCardSaid : Prop := Claim7.holds Tryd.pinned (.plain (OpenSpec.upto rvPartsSpec)) rvPartsUptoCard
end Rows
end Go.Proofs.YthaieajakdcodaaDoor
