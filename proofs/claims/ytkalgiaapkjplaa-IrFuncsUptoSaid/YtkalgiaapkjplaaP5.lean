/- grants: is there a page at a place, and does it grant perm? -/
import Derived.Test.YtkalgiaapkjplaaP4
namespace Go.Proofs.Ytkalgiaapkjplaa
open Go.RowKit

/-- has p all bits of perm? -/
def okBits (p perm : Int) : Bool := bits BinOp.and IntKind.i64 p perm == perm
/-- is there a page at x, and does it grant perm? -/
def grantB (m : List M.Pg) (x perm : Int) : Bool := M.there m x && (match m[M.low m x]? with | some q => okBits q.p perm | none => false)

end Go.Proofs.Ytkalgiaapkjplaa
