/- IrCounts: a right function has at most sixteen blocks, each of at most 38 values; what an instruction uses are at most six. -/
import Derived.Test.YtkalgiaapkjplaaK12
import Derived.Test.YtkalgiaapkjplaaK13
namespace Go.Proofs.Ytkalgiaapkjplaa
open Go.RowKit

theorem refs_ins (f : Fn) : (refsL f).length ≤ (insF f).length := by
  obtain ⟨s, b, p, l⟩ := f
  unfold refsL insF
  simp only
  induction l with
  | nil => simp
  | cons c l ih =>
    rw [List.map_cons, List.map_cons, List.flatten_cons, List.flatten_cons, List.length_append, List.length_append]
    have : (insNames c.i).length ≤ c.i.length := by
      unfold insNames
      rw [List.length_map]
      exact List.length_filter_le _ _
    omega
theorem ins_512 {f : Fn} (h : funcB f = true) : (insF f).length ≤ 512 := by
  obtain ⟨h16, hb, -⟩ := func_parts h
  have key : ∀ l : List Bk, (∀ b ∈ l, b.i.length ≤ 32) → ((l.map (·.i)).flatten).length ≤ 32 * l.length := by
    intro l
    induction l with
    | nil => simp
    | cons c l ih =>
      intro hl
      rw [List.map_cons, List.flatten_cons, List.length_append, List.length_cons]
      have h1 := hl c (by simp)
      have h2 := ih (fun b hb => hl b (by simp [hb]))
      omega
  have := key f.l (fun b hb' => (block_parts (hb b hb')).2.2.1)
  unfold insF
  omega
end Go.Proofs.Ytkalgiaapkjplaa
