/- A block that is known whole; lowest: the lowest bytes of a number. -/
import Derived.Test.YtkalgiaapkjplaaP8
import Derived.OwnWalk
import Derived.Laws.OwnMore
import Derived.Lib.UnsafeStr
namespace Go.Proofs.Ytkalgiaapkjplaa
open Go.RowKit

/-- block g is just these cells of type t, none of them frozen -/
def Whole (W : World) (g : Nat) (t : TypeId) (cs : Array Value) : Prop := W.heap[g]? = some (.cells cs t (0, 0))
theorem Whole.lt {W : World} {g : Nat} {t : TypeId} {cs : Array Value} (h : Whole W g t cs) : g < W.heap.size := (Array.getElem?_eq_some_iff.1 h).1
theorem Whole.cell {W : World} {g : Nat} {t : TypeId} {cs : Array Value} (h : Whole W g t cs) (i : Nat) : W.cell? ⟨g, i, none⟩ = cs[i]? := cell_of_row W g i cs t (0, 0) h
theorem Whole.free {W : World} {g : Nat} {t : TypeId} {cs : Array Value} (h : Whole W g t cs) (i : Nat) : W.frozen? ⟨g, i, none⟩ = false := by
  simp [World.frozen?, show W.heap[g]? = _ from h]
theorem Whole.put {W : World} {g : Nat} {t : TypeId} {cs : Array Value} (h : Whole W g t cs) (i : Nat) (u : Value) : Whole (W.setCell ⟨g, i, none⟩ u) g t (cs.setIfInBounds i u) := by
  unfold Whole at h ⊢
  simp [World.setCell, Array.getElem?_modify, h]
theorem Whole.of_full {W : World} {base g n : Nat} {t : TypeId} {size : Nat} {xs : List Value} (h : W.ownsRow base t size (.slice (some ⟨g, 0, none⟩) n n) n xs) : Whole W g t xs.toArray := by
  rcases h.2 with ⟨e, _⟩ | ⟨g', cap, cur, e, _, hb, _, _, hs, hx⟩
  · cases e
  · cases e
    rw [List.take_of_length_le (by simp [hs])] at hx
    unfold Whole
    rw [hb, ← hx]

theorem byteCells_snoc (l : List UInt8) (b : UInt8) : Lib.byteCells (l ++ [b]) = Lib.byteCells l ++ [.int .u8 b.toNat] := by simp [Lib.byteCells]

theorem made_nought (n : Nat) : (madeCells (Value.int .u8 0).cells (n * 1)).toList = List.replicate n (Value.int .u8 0) := by
  apply List.ext_getElem
  · simp [madeCells]
  · intro i h1 h2
    simp [madeCells, Value.cells, Nat.mod_one]

end Go.Proofs.Ytkalgiaapkjplaa
