/-
  DERIVED. GIVEN WITH THE SEED: THE CARDS: each row of YtclbkdnihhmglaaDoorRows.lean that lists a variable, with what it lists TIED to the program's text (the seventh form; the later family's looks); each row that meets fmt, with fmt's text TOLD by the authors' own Lean function (tested against real Go, not proved from fmt's source: count such statements apart). THE CARD IS WHAT COUNTS. Prove the row's statement (the work); the ties are given (YtclbkdnihhmglaaDoorTie.lean); close each card by the builder's one call (the guide's Derived/Test/ToyasCard.lean, 'card_holds'). Laid BY PROGRAM, IN A SANDBOX (cutbox-door.mjs). By AI agents, Wed Nov 11 2026. No macro, syntax, notation, axiom, sorry.
-/
import Derived.Test.YtclbkdnihhmglaaDoorRows
import GoSem.ClaimSeven
namespace Go.Proofs.YtclbkdnihhmglaaDoor
namespace Rows

/-- THE TIED CARD OF 'marlinelaw03.RvRuns'. -/
def rvRunsCard : Claim7 := { stood := { row := rvRunsRow, standIns := [], harness := (true, "2632df1f9de4c160c65556f2aacfcca2cdd085b3d7b9f762b16ebb4d54410191"), looks := false }, kinds := [], alts := [], laidByText := true, laidKinds := [.data, .data], laidTests := true, laidLooks := .later }
def RvRunsCardSaid : Prop := Claim7.holds Tryd.pinned (.plain (OpenSpec.ofChange rvRunsSpec)) rvRunsCard

/-- THE SECOND FORM's CARD OF 'marlinelaw03.RvRuns'. -/
def rvRunsUptoCard : Claim7 := { stood := { row := rvRunsUptoRow, standIns := [], harness := (true, "2632df1f9de4c160c65556f2aacfcca2cdd085b3d7b9f762b16ebb4d54410191"), looks := false }, kinds := [], alts := [], laidByText := true, laidKinds := [.data, .data], laidTests := true, laidLooks := .later }
def RvRunsUptoCardSaid : Prop := Claim7.holds Tryd.pinned (.plain (OpenSpec.upto rvRunsSpec)) rvRunsUptoCard
end Rows
end Go.Proofs.YtclbkdnihhmglaaDoor
