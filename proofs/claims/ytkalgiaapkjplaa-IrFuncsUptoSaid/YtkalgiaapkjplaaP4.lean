/- Right: is memory right? -/
import Derived.Test.YtkalgiaapkjplaaP3
import Derived.Test.YtkalgiaapkjplaaQ
import Derived.Laws.Rows
namespace Go.Proofs.Ytkalgiaapkjplaa
open Go.RowKit


theorem page_new (w : World) (a p : Int) (d : ByteArray) (t : TypeId) : (w.alloc (.cells #[.int .u64 a, .int .i64 p, .string d] t)).cell? ⟨w.heap.size, 0, none⟩ = some (.int .u64 a) ∧
    (w.alloc (.cells #[.int .u64 a, .int .i64 p, .string d] t)).cell? ⟨w.heap.size, 1, none⟩ = some (.int .i64 p) ∧ (w.alloc (.cells #[.int .u64 a, .int .i64 p, .string d] t)).cell? ⟨w.heap.size, 2, none⟩ = some (.string d) := by
  have h := heap_alloc_new w (.cells #[.int .u64 a, .int .i64 p, .string d] t)
  refine ⟨?_, ?_, ?_⟩ <;> (unfold World.cell?; rw [h]; rfl)
/-- is the page at i right, and above the one ahead of it? -/
def okAt (m : List M.Pg) (i : Nat) (h : i < m.length) : Bool := M.okPg m[i] && (decide (i = 0) || decide (m[i - 1].a < m[i].a))
def rightB (m : List M.Pg) : Bool := decide (m.length ≤ 64 ∧ ∀ i (h : i < m.length), okAt m i h = true)

theorem right_no {m : List M.Pg} {i : Nat} (h : i < m.length) (hf : okAt m i h = false) : rightB m = false := by
  simp only [rightB, decide_eq_false_iff_not]
  rintro ⟨_, h2⟩
  rw [h2 i h] at hf; cases hf


theorem Right.of {m : List M.Pg} (h : rightB m = true) (h0 : ∀ x ∈ m, 0 ≤ x.a) (h1 : ∀ x ∈ m, x.a ≤ 18446744073709551615) : M.Right m := by
  simp only [rightB, decide_eq_true_eq] at h
  obtain ⟨hl, ho⟩ := h
  have ho1 : ∀ i (h : i < m.length), M.okPg m[i] = true := fun i h => by have := ho i h; simp [okAt] at this; exact this.1
  have ho2 : ∀ i (h : i + 1 < m.length), m[i].a < m[i + 1].a := fun i h => by have := ho (i + 1) h; simp [okAt] at this; exact this.2
  refine ⟨hl, fun x hx => ?_, ?_, h0, h1⟩
  · obtain ⟨i, hi, rfl⟩ := List.getElem_of_mem hx
    exact ho1 i hi
  · rw [List.pairwise_iff_getElem]
    intro i j hi hj hij
    induction j with
    | zero => omega
    | succ j ih =>
      by_cases e : i = j
      · subst e; exact ho2 i hj
      · have := ih (by omega) (by omega); have := ho2 j hj; omega
theorem Right.rb {m : List M.Pg} (h : M.Right m) : rightB m = true := by
  simp only [rightB, decide_eq_true_eq]
  refine ⟨h.len, fun i hi => ?_⟩
  unfold okAt
  rw [h.ok _ (List.getElem_mem hi)]
  by_cases e : i = 0
  · simp [e]
  · have := h.at_lt (i := i - 1) (j := i) (by omega) hi
    simp [this]

end Go.Proofs.Ytkalgiaapkjplaa
