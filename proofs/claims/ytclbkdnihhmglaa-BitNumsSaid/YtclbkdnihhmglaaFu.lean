/- What a row without recursion asks: that no function it comes to comes to itself; the number of all calls of the program reckoned once. -/
import Derived.Test.YtclbkdnihhmglaaFg
namespace Go.Proofs.Ytclbkdnihhmglaa
open Go.RowKit

theorem recurses_of {P : Program} {N : Nat} (h : 1 + (P.funcs.toList.map fun g => (P.leadsTo g).length + 1).sum = N) (f : FuncId) :
    P.recurses f = (P.unfollowed f || (P.closureVia N [f] []).any fun g => ((P.funcs[g]?).elim [] P.leadsTo).any fun h => (P.closureVia N [h] []).contains g) := by
  unfold Program.recurses Program.closure
  rw [h]
theorem fuel_is : 1 + (Try.pinned.checked.prog.funcs.toList.map fun g => (Try.pinned.checked.prog.leadsTo g).length + 1).sum = 623 := by kernel_rfl
end Go.Proofs.Ytclbkdnihhmglaa
