/- A row of names that came in as an argument, opened. -/
import Derived.Test.YtoglmdadpchhoaaRl
import Derived.Test.YtoglmdadpchhoaaRK
namespace Go.Proofs.Ytoglmdadpchhoaa
open Go.ChangeShapes Go.WideShapes Go.ChangeAt Go.RowKit Go.Deep Go.Joins

section
variable {H : Type} {enc : TypeId × Value → H} {W : World} {base : Nat} {spare : Nat → Bool} {held : Bool}
theorem openk_str (n b off : Nat) (cs : List Value) (y : DataW H × List MemPlace) (hc : ∀ j, j < 1 → W.cell? ⟨b, off + j, none⟩ = cs[j]?) (_hl : cs.length = 1) (ht : DataW.trod enc Try.prog W base spare held n 9 cs = some y) (_hz : ∀ k ∈ y.1.weights Try.prog 9, k ≤ reachBytes) : ∃ x : ByteArray, x.size < 9223372036854775808 ∧ W.cell? ⟨b, off, none⟩ = some (.string x) := by
  obtain ⟨s, e, -, h9⟩ := DataW.trod_string Try.underlying9 ht
  subst e
  exact ⟨s, by rw [maxLen_is] at h9; omega, hc 0 (by omega)⟩
set_option maxRecDepth 100000 in
theorem argk_strs {r : Reach} {b0 : Nat} {v : Value} {d : DataW H} {p : List MemPlace} (hv : Value.okWide Try.prog W r b0 45 v) (h : DataW.Trod enc Try.prog W base spare held 45 v d p) (hz : ∀ k ∈ d.weights Try.prog 45, k ≤ reachBytes) :
    ∃ (l : List ByteArray) (A : Option Addr) (c : Nat), v = .slice A l.length c ∧ (∀ s ∈ l, s.size < 9223372036854775808) ∧ Strs W (.slice A l.length c) l ∧ l.length ≤ Rows.uptoBulk d := by
  obtain ⟨a, n, c, rfl⟩ := okWide_slice Try.underlying45 hv
  obtain ⟨fuel, hf⟩ := h
  obtain ⟨A, cap, l, ds, e, hr, hdl, ho, h1, h2, h3⟩ := open_rowb (H := H) (fun W b off x => W.cell? ⟨b, off, none⟩ = some (.string x)) (fun (s : ByteArray) _ => s.size < 9223372036854775808) Try.underlying45 (sz := 1) (by kernel_rfl) (by omega) openk_str (c := .slice a n c) hf hz
  rw [e] at hr
  have h5 := bulk_len ds
  have h6 : Rows.uptoBulkAll ds ≤ Rows.uptoBulk d := h3
  refine ⟨l, A, cap, e, fun s hs => ?_, hr, by omega⟩
  obtain ⟨i, hi, rfl⟩ := List.getElem_of_mem hs
  exact ho i hi (by omega)
end
end Go.Proofs.Ytoglmdadpchhoaa
