/- Walks of the small functions of package page: what each call comes to, for every argument. -/
import Derived.Test.YtkalgiaapkjplaaProg
import Derived.WalkKit
import Derived.WalkLawsBesides
import Derived.Lib.Hide
import Derived.Below
import Derived.Outline
import Derived.Test.YtkalgiaapkjplaaM2
namespace Go.Proofs.Ytkalgiaapkjplaa
open Go.RowKit
theorem ret_int {k : IntKind} {a b : Int} (h : a = b) : Ending.returned (.int k a) = .returned (.int k b) := by rw [h]
theorem ret_bool {a b : Bool} (h : a = b) : Ending.returned (.bool a) = .returned (.bool b) := by rw [h]
theorem bthen {w W w' : World} (h : Below w.heap.size w W) (hb : Below W.heap.size W w') : Below w.heap.size w w' := h.trans (hb.mono h.size)
theorem balloc {w W : World} (h : Below w.heap.size w W) (o : Obj) : Below w.heap.size w (W.alloc o) := h.alloc h.size o

/-- is one of n places from a on beyond the last one? -/
def beyondB (a n : Int) : Bool := decide (0 < n ∧ 18446744073709551615 < a + (n - 1))
end Go.Proofs.Ytkalgiaapkjplaa
