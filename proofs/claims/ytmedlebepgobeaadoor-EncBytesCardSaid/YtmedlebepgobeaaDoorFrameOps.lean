/- An argument that is a slice of instructions, opened to what it holds. -/
import Derived.Test.YtmedlebepgobeaaDoorFrame
import Derived.Test.YtmedlebepgobeaaDoorW7
namespace Go.Proofs.YtmedlebepgobeaaDoor
open Go.ChangeShapes Go.WideShapes Go.ChangeAt Go.RowKit Go.Deep Go.Joins

/-- the numbers that lie from a place on -/
def numAt (W : World) (b off i j : Nat) : Int :=
  match W.cell? ⟨b, off + i * 5 + j, none⟩ with
  | some (.int _ z) => z
  | _ => 0
section
variable {H : Type} {enc : TypeId × Value → H}
theorem open_ops {W : World} {r : Reach} {b0 base : Nat} {spare : Nat → Bool} {held : Bool} {v : Value} {d : DataW H} {p : List MemPlace} (hv : Value.okWide Tryd.prog W r b0 37 v)
    (h : DataW.Trod enc Tryd.prog W base spare held 37 v d p) : ∃ (n : Nat) (f : Nat → Nat → Int), Ops W v n f ∧ n ≤ maxLen := by
  obtain ⟨A, len, cap, rfl⟩ := okWide_slice Tryd.underlying37 hv
  obtain ⟨fuel, hf⟩ := h
  have hf' : DataW.trod enc Tryd.prog W base spare held fuel 37 [.slice A len cap] = some (d, p) := hf
  rcases open_slice Tryd.underlying37 hf' with ⟨h1, _⟩ | ⟨a, len', cap', m, n, D, Pl, hcs, _, hl, hm, hmm, _, hat⟩
  · simp only [List.cons.injEq, Value.slice.injEq, and_true] at h1
    obtain ⟨rfl, rfl, rfl⟩ := h1
    exact ⟨0, fun _ _ => 0, .inl ⟨rfl, .inl rfl⟩, Nat.zero_le _⟩
  · simp only [List.cons.injEq, Value.slice.injEq, and_true] at hcs
    obtain ⟨rfl, rfl, rfl⟩ := hcs
    have hlm : len ≤ m := by rw [hmm]; split <;> omega
    have cells : ∀ i, i < len → ∀ j, j < 5 → ∃ z : Int, W.cell? (a.add (i * 5 + j)) = some (.int .i64 z) := fun i hi j hj => by
      obtain ⟨cs', hc, ht⟩ := hat i (by omega)
      rw [cells23] at hc
      obtain ⟨_, hcl, hca⟩ := World.cells?_some hc
      obtain ⟨ys, q, _, _, _, hg⟩ := row_of Tryd.underlying23 (by kernel_rfl) cells23 ht
      have hcj := hca j hj
      rw [add_add] at hcj
      have G : ∀ (fld : Field), (match Tryd.prog.underlying 23 with | some (.struct fs) => fs[j]? | _ => none) = some fld → Tryd.prog.underlying fld.type = some (.int .i64) := fun fld hfld => by
        rw [Tryd.underlying23] at hfld
        rcases (by omega : j = 0 ∨ j = 1 ∨ j = 2 ∨ j = 3 ∨ j = 4) with rfl | rfl | rfl | rfl | rfl
        all_goals injection hfld with hfld; subst hfld; first | exact Tryd.underlying3 | exact Tryd.underlying2
      obtain ⟨fld, hfld⟩ : ∃ fld, (match Tryd.prog.underlying 23 with | some (.struct fs) => fs[j]? | _ => none) = some fld := by
        rw [Tryd.underlying23]
        rcases (by omega : j = 0 ∨ j = 1 ∨ j = 2 ∨ j = 3 ∨ j = 4) with rfl | rfl | rfl | rfl | rfl <;> exact ⟨_, rfl⟩
      have hu := G fld hfld
      rw [Tryd.underlying23] at hfld
      obtain ⟨c, y, hc1, _, hc3⟩ := hg j fld hfld
      obtain ⟨z, hz, _, _⟩ := DataW.trod_int hu hc3
      obtain rfl : c = .int .i64 z := by simpa using hz
      exact ⟨z, hcj.trans hc1⟩
    by_cases h0 : 0 < len
    · obtain ⟨b, off, spot⟩ := a
      obtain ⟨z0, hz0⟩ := cells 0 h0 0 (by omega)
      have hspot : spot = none := by simpa [Addr.add] using World.cell?_spot hz0
      subst hspot
      refine ⟨len, numAt W b off, .inr ⟨h0, b, off, cap, rfl, World.block_lt_of_cell? W _ hz0, fun i hi j hj => ?_⟩, by omega⟩
      obtain ⟨z, hz⟩ := cells i hi j hj
      rw [add_plain, ← Nat.add_assoc] at hz
      rw [hz]
      simp [numAt, hz]
    · obtain rfl : len = 0 := by omega
      exact ⟨0, fun _ _ => 0, .inl ⟨rfl, .inr ⟨_, _, rfl⟩⟩, Nat.zero_le _⟩
end
end Go.Proofs.YtmedlebepgobeaaDoor
