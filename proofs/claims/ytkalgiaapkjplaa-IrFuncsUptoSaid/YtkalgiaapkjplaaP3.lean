/- The search by halves among pages, and find. -/
import Derived.Test.YtkalgiaapkjplaaP2
namespace Go.Proofs.Ytkalgiaapkjplaa
open Go.RowKit

theorem cmpI_lt {x y : Int} (h : x < y) : cmpI x y = -1 := by simp [cmpI, h]
theorem cmpI_ge {x y : Int} (h : ¬ x < y) : 0 ≤ cmpI x y := by simp only [cmpI, if_neg h]; split <;> omega
theorem cmpI_eq {x y : Int} : (cmpI x y == 0) = (x == y) := by rw [Bool.eq_iff_iff]; simp [cmpI]; split <;> (try split) <;> simp <;> omega



end Go.Proofs.Ytkalgiaapkjplaa
