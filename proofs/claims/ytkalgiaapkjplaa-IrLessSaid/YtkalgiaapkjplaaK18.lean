/- IrMore: a right module with one more function that names nothing, of a new name, is right, if there is room. -/
import Derived.Test.YtkalgiaapkjplaaK17
namespace Go.Proofs.Ytkalgiaapkjplaa
open Go.RowKit

theorem owns_three {W : World} {base n : Nat} {v : Value} {xs : List Value} (h : W.ownsRow base 24 4 v n xs) (a b c : Obj) : (((W.alloc a).alloc b).alloc c).ownsRow base 24 4 v n xs := ((h.alloc a).alloc b).alloc c
/-- the new function's block -/
theorem new_blocks {W : World} {h : Nat} (i1 : W.heap[h]? = some (.cells #[.int .i64 15, .int .i64 0, .int .i64 0, .int .u64 0, .string ⟨#[]⟩, .slice none 0 0] 60 (0, 0))) (b1 : W.heap[h + 1]? = some (.cells #[.int .i64 0, .slice (some ⟨h, 0, none⟩) 1 1, .int .i64 3, .int .i64 0, .int .i64 0, .slice none 0 0, .int .i64 0, .slice none 0 0] 58 (0, 0))) : Blocks W (.slice (some ⟨h + 1, 0, none⟩) 1 1) [nwBk] := by
  refine .inr ⟨by simp, h + 1, 0, 1, rfl, (Array.getElem?_eq_some_iff.1 b1).1, fun j hj => ?_⟩
  obtain rfl : j = 0 := by simpa using hj
  refine ⟨Lib.cell_of_heap b1 0, ⟨some ⟨h, 0, none⟩, 1, Lib.cell_of_heap b1 1, .inr ⟨by simp [nwBk], h, 0, 1, rfl, (Array.getElem?_eq_some_iff.1 i1).1, fun j hj => ?_⟩⟩, Lib.cell_of_heap b1 2, Lib.cell_of_heap b1 3, Lib.cell_of_heap b1 4, ⟨none, 0, Lib.cell_of_heap b1 5, .inl ⟨rfl, .inl rfl⟩⟩, Lib.cell_of_heap b1 6, none, 0, Lib.cell_of_heap b1 7, .inl ⟨rfl, .inl rfl⟩⟩
  obtain rfl : j = 0 := by simpa [nwBk] using hj
  exact ⟨Lib.cell_of_heap i1 0, Lib.cell_of_heap i1 1, Lib.cell_of_heap i1 2, Lib.cell_of_heap i1 3, Lib.cell_of_heap i1 4, none, 0, Lib.cell_of_heap i1 5, .inl ⟨rfl, .inl rfl⟩⟩
def nwCells (s : ByteArray) (h : Nat) : List Value := [.string s, .int .i64 1, .int .i64 0, .slice (some ⟨h + 1, 0, none⟩) 1 1]
theorem three_heap (W : World) (s : ByteArray) : (((W.alloc (.cells #[.int .i64 15, .int .i64 0, .int .i64 0, .int .u64 0, .string ⟨#[]⟩, .slice none 0 0] 60)).alloc (.cells #[.int .i64 0, .slice (some ⟨W.heap.size, 0, none⟩) 1 1, .int .i64 3, .int .i64 0, .int .i64 0, .slice none 0 0, .int .i64 0, .slice none 0 0] 58)).alloc (.cells #[.string s, .int .i64 1, .int .i64 0, .slice (some ⟨W.heap.size + 1, 0, none⟩) 1 1] 24)).heap[W.heap.size]? = some (.cells #[.int .i64 15, .int .i64 0, .int .i64 0, .int .u64 0, .string ⟨#[]⟩, .slice none 0 0] 60 (0, 0)) ∧ (((W.alloc (.cells #[.int .i64 15, .int .i64 0, .int .i64 0, .int .u64 0, .string ⟨#[]⟩, .slice none 0 0] 60)).alloc (.cells #[.int .i64 0, .slice (some ⟨W.heap.size, 0, none⟩) 1 1, .int .i64 3, .int .i64 0, .int .i64 0, .slice none 0 0, .int .i64 0, .slice none 0 0] 58)).alloc (.cells #[.string s, .int .i64 1, .int .i64 0, .slice (some ⟨W.heap.size + 1, 0, none⟩) 1 1] 24)).heap[W.heap.size + 1]? = some (.cells #[.int .i64 0, .slice (some ⟨W.heap.size, 0, none⟩) 1 1, .int .i64 3, .int .i64 0, .int .i64 0, .slice none 0 0, .int .i64 0, .slice none 0 0] 58 (0, 0)) ∧ (((W.alloc (.cells #[.int .i64 15, .int .i64 0, .int .i64 0, .int .u64 0, .string ⟨#[]⟩, .slice none 0 0] 60)).alloc (.cells #[.int .i64 0, .slice (some ⟨W.heap.size, 0, none⟩) 1 1, .int .i64 3, .int .i64 0, .int .i64 0, .slice none 0 0, .int .i64 0, .slice none 0 0] 58)).alloc (.cells #[.string s, .int .i64 1, .int .i64 0, .slice (some ⟨W.heap.size + 1, 0, none⟩) 1 1] 24)).heap[W.heap.size + 1 + 1]? = some (.cells #[.string s, .int .i64 1, .int .i64 0, .slice (some ⟨W.heap.size + 1, 0, none⟩) 1 1] 24 (0, 0)) := by
  have i0 := heap_alloc_new W (.cells #[.int .i64 15, .int .i64 0, .int .i64 0, .int .u64 0, .string ⟨#[]⟩, .slice none 0 0] 60)
  have b0 := heap_alloc_new (W.alloc (.cells #[.int .i64 15, .int .i64 0, .int .i64 0, .int .u64 0, .string ⟨#[]⟩, .slice none 0 0] 60)) (.cells #[.int .i64 0, .slice (some ⟨W.heap.size, 0, none⟩) 1 1, .int .i64 3, .int .i64 0, .int .i64 0, .slice none 0 0, .int .i64 0, .slice none 0 0] 58)
  have f0 := heap_alloc_new ((W.alloc (.cells #[.int .i64 15, .int .i64 0, .int .i64 0, .int .u64 0, .string ⟨#[]⟩, .slice none 0 0] 60)).alloc (.cells #[.int .i64 0, .slice (some ⟨W.heap.size, 0, none⟩) 1 1, .int .i64 3, .int .i64 0, .int .i64 0, .slice none 0 0, .int .i64 0, .slice none 0 0] 58)) (.cells #[.string s, .int .i64 1, .int .i64 0, .slice (some ⟨W.heap.size + 1, 0, none⟩) 1 1] 24)
  rw [World.size_alloc] at b0
  rw [World.size_alloc, World.size_alloc] at f0
  have hb2 := balloc (Below.refl _ ((W.alloc (.cells #[.int .i64 15, .int .i64 0, .int .i64 0, .int .u64 0, .string ⟨#[]⟩, .slice none 0 0] 60)).alloc (.cells #[.int .i64 0, .slice (some ⟨W.heap.size, 0, none⟩) 1 1, .int .i64 3, .int .i64 0, .int .i64 0, .slice none 0 0, .int .i64 0, .slice none 0 0] 58))) (.cells #[.string s, .int .i64 1, .int .i64 0, .slice (some ⟨W.heap.size + 1, 0, none⟩) 1 1] 24)
  have hb1 := balloc (Below.refl _ (W.alloc (.cells #[.int .i64 15, .int .i64 0, .int .i64 0, .int .u64 0, .string ⟨#[]⟩, .slice none 0 0] 60))) (.cells #[.int .i64 0, .slice (some ⟨W.heap.size, 0, none⟩) 1 1, .int .i64 3, .int .i64 0, .int .i64 0, .slice none 0 0, .int .i64 0, .slice none 0 0] 58)
  exact ⟨((bthen hb1 hb2).block _ (Array.getElem?_eq_some_iff.1 i0).1).trans i0, (hb2.block _ (Array.getElem?_eq_some_iff.1 b0).1).trans b0, f0⟩
theorem news_new (W : World) (s : ByteArray) : ∀ (j : Nat) (u : Value), (nwCells s W.heap.size)[j]? = some u → (((W.alloc (.cells #[.int .i64 15, .int .i64 0, .int .i64 0, .int .u64 0, .string ⟨#[]⟩, .slice none 0 0] 60)).alloc (.cells #[.int .i64 0, .slice (some ⟨W.heap.size, 0, none⟩) 1 1, .int .i64 3, .int .i64 0, .int .i64 0, .slice none 0 0, .int .i64 0, .slice none 0 0] 58)).alloc (.cells #[.string s, .int .i64 1, .int .i64 0, .slice (some ⟨W.heap.size + 1, 0, none⟩) 1 1] 24)).cell? ((⟨W.heap.size + 1 + 1, 0, none⟩ : Addr).add j) = some u := fun j u hj => by
  rw [int_add, Nat.zero_add, Lib.cell_of_heap (three_heap W s).2.2 j, List.getElem?_toArray]
  exact hj
theorem nw_one (s : ByteArray) (h : Nat) : ∀ u ∈ nwCells s h, u.oneCell' = true := by
  intro u hu
  simp only [nwCells, List.mem_cons, List.not_mem_nil, or_false] at hu
  rcases hu with rfl | rfl | rfl | rfl <;> rfl
theorem own_form {W : World} {base n : Nat} {v : Value} {xs : List Value} (h : W.ownsRow base 24 4 v n xs) : ∃ A cap, v = .slice A n cap := by
  rcases h.2 with ⟨rfl, rfl⟩ | ⟨g, cap, cur, rfl, _⟩
  · exact ⟨_, _, rfl⟩
  · exact ⟨_, _, rfl⟩
theorem own_block {W : World} {base n : Nat} {v : Value} {xs : List Value} (h : W.ownsRow base 24 4 v n xs) : ∀ r, v.ownBlock = some r → base ≤ r ∧ ∃ cs, W.heap[r]? = some (.cells cs 24 (0, 0)) := by
  intro r e
  rcases h.2 with ⟨rfl, _⟩ | ⟨g, cap, cur, rfl, hb, hg, _⟩
  · cases e
  · obtain rfl : g = r := by simpa [Value.ownBlock] using e
    exact ⟨hb, _, hg⟩
/-- a box of a module lies as it lay when a row of functions grows -/
theorem box_grown {W W' : World} {base n KB : Nat} {v : Value} {xs : List Value} {cs : Array Value} (h : W.ownsRow base 24 4 v n xs) (hg : W.grownBy W' v.ownBlock) (hk : W.heap[KB]? = some (.cells cs 33 (0, 0))) : W'.heap[KB]? = some (.cells cs 33 (0, 0)) :=
  (hg.block KB (Array.getElem?_eq_some_iff.1 hk).1 (fun e => by
    obtain ⟨_, cs', h'⟩ := own_block h KB e.symm
    rw [h'] at hk; cases hk)).trans hk
theorem below_own {W W' : World} {base n : Nat} {v : Value} {xs : List Value} (h : W.ownsRow base 24 4 v n xs) (hg : W.grownBy W' v.ownBlock) (hb : base ≤ W.heap.size) : Below base W W' :=
  below_grown hg hb (fun r e => (own_block h r e).1)
end Go.Proofs.Ytkalgiaapkjplaa
