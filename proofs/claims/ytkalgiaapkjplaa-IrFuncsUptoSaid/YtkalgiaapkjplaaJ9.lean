/- Instructions, blocks, functions, modules that came in as arguments, opened. -/
import Derived.Test.YtkalgiaapkjplaaFg
import Derived.Test.YtkalgiaapkjplaaJ0
import Derived.SizedLaws
namespace Go.Proofs.Ytkalgiaapkjplaa
open Go.ChangeShapes Go.WideShapes Go.ChangeAt Go.RowKit Go.Deep Go.Joins

section
variable {H : Type} {enc : TypeId × Value → H}
/-- a row that came in, opened: whatever its elements are -/
theorem open_row {α : Type} {t e : TypeId} {sz : Nat} (P : World → Nat → Nat → α → Prop) (ok : α → Prop) {W : World} {base : Nat} {spare : Nat → Bool} {held : Bool} {c : Value} {fuel : Nat} {y : DataW H × List MemPlace}
    (ht : Try.prog.underlying t = some (.slice e)) (hsz : Try.prog.cellsOf e = sz) (hpos : 0 < sz)
    (hel : ∀ (n b off : Nat) (cs : List Value) (y : DataW H × List MemPlace), (∀ j, j < sz → W.cell? ⟨b, off + j, none⟩ = cs[j]?) → cs.length = sz → DataW.trod enc Try.prog W base spare held n e cs = some y → ∃ x, ok x ∧ P W b off x)
    (h : DataW.trod enc Try.prog W base spare held fuel t [c] = some y) :
    ∃ (A : Option Addr) (cap : Nat) (l : List α), c = .slice A l.length cap ∧ RowOf sz P W c l ∧ (∀ x ∈ l, ok x) ∧ l.length ≤ cap ∧ cap ≤ maxLen := by
  rcases open_slice ht h with ⟨h1, _⟩ | ⟨a, len, cap, m, n, D, Pl, hcs, _, hl, hm, hmm, _, hat⟩
  · simp only [List.cons.injEq, and_true] at h1
    subst h1
    exact ⟨none, 0, [], rfl, .inl ⟨rfl, .inl rfl⟩, by simp, Nat.le_refl _, by unfold maxLen; omega⟩
  · simp only [List.cons.injEq, and_true] at hcs
    subst hcs
    have hlm : len ≤ m := by rw [hmm]; split <;> omega
    by_cases h0 : 0 < len
    · obtain ⟨b, off, spot⟩ := a
      have hspot : spot = none ∧ b < W.heap.size := by
        obtain ⟨cs', hc, ht⟩ := hat 0 (by omega)
        rw [hsz] at hc
        obtain ⟨_, hcl, hca⟩ := World.cells?_some hc
        have k0 := hca 0 hpos
        have hl0 : cs'[0]? = some (cs'[0]'(by omega)) := List.getElem?_eq_getElem (by omega)
        rw [hl0] at k0
        have hb := World.block_lt_of_cell? W _ k0
        refine ⟨by simpa [Addr.add] using World.cell?_spot k0, ?_⟩
        revert hb
        unfold Addr.add
        (repeat' split) <;> simp
      obtain ⟨rfl, hb⟩ := hspot
      have cells : ∀ i, i < len → ∃ x, ok x ∧ P W b (off + i * sz) x := fun i hi => by
        obtain ⟨cs', hc, ht⟩ := hat i (by omega)
        rw [hsz] at hc
        obtain ⟨_, hcl, hca⟩ := World.cells?_some hc
        refine hel n b (off + i * sz) cs' _ (fun j hj => ?_) hcl ht
        have k := hca j hj
        rwa [add_add, add_plain, ← Nat.add_assoc] at k
      obtain ⟨f, hf⟩ : ∃ f : Nat → α, ∀ i, i < len → ok (f i) ∧ P W b (off + i * sz) (f i) :=
        ⟨fun i => if hi : i < len then Classical.choose (cells i hi) else Classical.choose (cells 0 h0), fun i hi => by
          simp only [dif_pos hi]
          exact Classical.choose_spec (cells i hi)⟩
      refine ⟨some ⟨b, off, none⟩, cap, (List.range len).map f, by simp, .inr ⟨by simp; exact h0, b, off, cap, by simp, hb, fun i hi => ?_⟩, fun x hx => ?_, by simpa using hl, hm⟩
      · rw [List.getElem_map, List.getElem_range]
        exact (hf i (by simpa using hi)).2
      · obtain ⟨i, hi, rfl⟩ := List.mem_map.1 hx
        exact (hf i (List.mem_range.1 hi)).1
    · obtain rfl : len = 0 := by omega
      exact ⟨_, _, [], rfl, .inl ⟨rfl, .inr ⟨_, _, rfl⟩⟩, by simp, hl, hm⟩
end
end Go.Proofs.Ytkalgiaapkjplaa
