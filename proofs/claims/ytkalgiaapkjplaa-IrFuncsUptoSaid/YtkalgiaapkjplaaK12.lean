/- IrAhead: in a right function each value that is used is given ahead, in its own block. -/
import Derived.Test.YtkalgiaapkjplaaK11
namespace Go.Proofs.Ytkalgiaapkjplaa
open Go.RowKit

theorem instsB_at : ∀ (l : List In) (p : Int), instsB p l = true → ∀ (j : Nat) (h : j < l.length), instB (p + j) l[j] = true
  | [], _, _, j, h => by simp at h
  | i :: l, p, hb, 0, _ => by
    rw [instsB, Bool.and_eq_true] at hb
    simpa using hb.1
  | i :: l, p, hb, j + 1, h => by
    rw [instsB, Bool.and_eq_true] at hb
    have := instsB_at l (p + 1) hb.2 j (by simpa using h)
    rw [List.getElem_cons_succ, show p + ((j + 1 : Nat) : Int) = p + 1 + j by omega]
    exact this
theorem inst_parts {n : Int} {i : In} (h : instB n i = true) : i.l.length ≤ 6 ∧ amongB n (usesI i) = true := by
  rw [inst_chain] at h
  simp only [Bool.and_eq_true, decide_eq_true_eq] at h
  exact ⟨h.1.1.1.2, h.1.1.2⟩
theorem among_at {n : Int} {l : List Int} (h : amongB n l = true) (j : Nat) (hj : j < l.length) : 0 ≤ l[j] ∧ l[j] < n := by
  unfold amongB at h
  have := List.all_eq_true.1 h l[j] (List.getElem_mem hj)
  simpa using this
def EightC (W : World) (B : Nat) (c0 c1 c2 c3 c4 c5 c6 c7 : Value) : Prop := W.cell? ⟨B, 0, none⟩ = some c0 ∧ W.cell? ⟨B, 1, none⟩ = some c1 ∧ W.cell? ⟨B, 2, none⟩ = some c2 ∧ W.cell? ⟨B, 3, none⟩ = some c3 ∧ W.cell? ⟨B, 4, none⟩ = some c4 ∧ W.cell? ⟨B, 5, none⟩ = some c5 ∧ W.cell? ⟨B, 6, none⟩ = some c6 ∧ W.cell? ⟨B, 7, none⟩ = some c7
theorem eight_next {w W W' : World} {B : Nat} {c0 c1 c2 c3 c4 c5 c6 c7 : Value} (hb : Below W.heap.size W W') (h : W.cell? ⟨B, 0, none⟩ = some c0 ∧ W.cell? ⟨B, 1, none⟩ = some c1 ∧ W.cell? ⟨B, 2, none⟩ = some c2 ∧ W.cell? ⟨B, 3, none⟩ = some c3 ∧ W.cell? ⟨B, 4, none⟩ = some c4 ∧ W.cell? ⟨B, 5, none⟩ = some c5 ∧ W.cell? ⟨B, 6, none⟩ = some c6 ∧ W.cell? ⟨B, 7, none⟩ = some c7 ∧ Below w.heap.size w W) :
    W'.cell? ⟨B, 0, none⟩ = some c0 ∧ W'.cell? ⟨B, 1, none⟩ = some c1 ∧ W'.cell? ⟨B, 2, none⟩ = some c2 ∧ W'.cell? ⟨B, 3, none⟩ = some c3 ∧ W'.cell? ⟨B, 4, none⟩ = some c4 ∧ W'.cell? ⟨B, 5, none⟩ = some c5 ∧ W'.cell? ⟨B, 6, none⟩ = some c6 ∧ W'.cell? ⟨B, 7, none⟩ = some c7 ∧ Below w.heap.size w W' := by
  obtain ⟨h0, h1, h2, h3, h4, h5, h6, h7, h8⟩ := h
  have hB := World.block_lt_of_cell? W _ h0
  have e : ∀ o, W'.cell? ⟨B, o, none⟩ = W.cell? ⟨B, o, none⟩ := fun o => cellNext hB hb o
  exact ⟨(e 0).trans h0, (e 1).trans h1, (e 2).trans h2, (e 3).trans h3, (e 4).trans h4, (e 5).trans h5, (e 6).trans h6, (e 7).trans h7, bthen h8 hb⟩
theorem eight_below {w W : World} {B : Nat} {c0 c1 c2 c3 c4 c5 c6 c7 : Value} (h : W.cell? ⟨B, 0, none⟩ = some c0 ∧ W.cell? ⟨B, 1, none⟩ = some c1 ∧ W.cell? ⟨B, 2, none⟩ = some c2 ∧ W.cell? ⟨B, 3, none⟩ = some c3 ∧ W.cell? ⟨B, 4, none⟩ = some c4 ∧ W.cell? ⟨B, 5, none⟩ = some c5 ∧ W.cell? ⟨B, 6, none⟩ = some c6 ∧ W.cell? ⟨B, 7, none⟩ = some c7 ∧ Below w.heap.size w W) : Below w.heap.size w W := h.2.2.2.2.2.2.2.2
end Go.Proofs.Ytkalgiaapkjplaa
