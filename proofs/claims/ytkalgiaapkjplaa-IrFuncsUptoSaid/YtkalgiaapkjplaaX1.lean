/- Exits through many blocks, one at a time. Nothing of the program. -/
import Derived.Test.YtkalgiaapkjplaaP1
namespace Go.Proofs.Ytkalgiaapkjplaa
open Go.RowKit

theorem xt_exit {n : Nat} {K : Act → World → Prop} {Q : Exit → Act → World → Prop} {a : Act} {w : World} (h : Q (.exit n) a w) : Exit.then K Q (.exit n) a w := h
theorem xt_ret {K : Act → World → Prop} {Q : Exit → Act → World → Prop} {a : Act} {w : World} (h : Q .ret a w) : Exit.then K Q .ret a w := h
theorem xt_norm {K : Act → World → Prop} {Q : Exit → Act → World → Prop} {a : Act} {w : World} (h : K a w) : Exit.then K Q .normal a w := h
theorem xb_norm {n : Nat} {Q : Exit → Act → World → Prop} {a : Act} {w : World} (h : Q .normal a w) : Exit.inBlock n Q .normal a w := h
theorem xb_ret {n : Nat} {Q : Exit → Act → World → Prop} {a : Act} {w : World} (h : Q .ret a w) : Exit.inBlock n Q .ret a w := h
theorem xb_hit {n : Nat} {Q : Exit → Act → World → Prop} {a : Act} {w : World} (h : Q .normal a w) : Exit.inBlock n Q (.exit n) a w := by
  show (if n = n then Q .normal a w else Q (.exit n) a w)
  rw [if_pos rfl]; exact h
theorem xb_skip {m n : Nat} {Q : Exit → Act → World → Prop} {a : Act} {w : World} (hn : (m == n) = false) (h : Q (.exit m) a w) : Exit.inBlock n Q (.exit m) a w := by
  show (if m = n then Q .normal a w else Q (.exit m) a w)
  rw [if_neg (by simpa using hn)]; exact h
end Go.Proofs.Ytkalgiaapkjplaa
