/- Package bit: instructions and ends laid by a writer. -/
import Derived.Test.YtjldddpchiaalaaU5b
import Derived.Test.YtjldddpchiaalaaU5c
namespace Go.Proofs.Ytjldddpchiaalaa
open Go.RowKit
namespace Q

theorem inst_put {w0 : World} {B b : Nat} {l : List UInt8} {i : In} {A : Option Addr} {c : Nat} {W : World} (hB : w0.heap.size = B) (h : Lies B b W l W) (hw : Below B w0 W) (hN : InN i) (ho : 1 ≤ i.o ∧ i.o ≤ 16) (hS : Ints w0 (.slice A i.l.length c) i.l) (hl : l.length ≤ 98000000) :
    Calls Try.prog 55 #[.pointer (some ⟨b, 0, none⟩), .agg #[.int .i64 i.o, .int .i64 i.a, .int .i64 i.b, .int .u64 i.k, .string i.s, .slice A i.l.length c]] W fun e w' => e = .returned (.tuple #[]) ∧ Lies B b W (l ++ inL i) w' := by
  obtain ⟨o, a, b', k, s, xs⟩ := i
  obtain ⟨-, h2, h3, h4, h5, h6, h7⟩ := hN
  obtain ⟨x, rfl⟩ : ∃ x : Nat, a = x := ⟨a.toNat, by have := h2.1; simp only at this; omega⟩
  obtain ⟨y, rfl⟩ : ∃ x : Nat, b' = x := ⟨b'.toNat, by have := h3.1; simp only at this; omega⟩
  obtain ⟨z, rfl⟩ : ∃ x : Nat, k = x := ⟨k.toNat, by have := h4.1; simp only at this; omega⟩
  have hx : x ≤ 4294967295 := by have := h2.2; simp only at this; omega
  have hy : y ≤ 4294967295 := by have := h3.2; simp only at this; omega
  have hz : z ≤ 18446744073709551615 := by have := h4.2; simp only at this; omega
  simp only at h5 h6 h7 hS ho ⊢
  have ho' : o = 1 ∨ o = 2 ∨ o = 3 ∨ o = 4 ∨ o = 5 ∨ o = 6 ∨ o = 7 ∨ o = 8 ∨ o = 9 ∨ o = 10 ∨ o = 11 ∨ o = 12 ∨ o = 13 ∨ o = 14 ∨ o = 15 ∨ o = 16 := by omega
  rcases ho' with rfl | rfl | rfl | rfl | rfl | rfl | rfl | rfl | rfl | rfl | rfl | rfl | rfl | rfl | rfl | rfl
  · exact inst_put_1 hB h hw rfl h6 hS hx hy hz h5 h7 hl
  · exact inst_put_2 hB h hw rfl h6 hS hx hy hz h5 h7 hl
  · exact inst_put_3 hB h hw rfl h6 hS hx hy hz h5 h7 hl
  · exact inst_put_4 hB h hw rfl h6 hS hx hy hz h5 h7 hl
  · exact inst_put_5 hB h hw rfl h6 hS hx hy hz h5 h7 hl
  · exact inst_put_6 hB h hw rfl h6 hS hx hy hz h5 h7 hl
  · exact inst_put_7 hB h hw rfl h6 hS hx hy hz h5 h7 hl
  · exact inst_put_8 hB h hw rfl h6 hS hx hy hz h5 h7 hl
  · exact inst_put_9 hB h hw rfl h6 hS hx hy hz h5 h7 hl
  · exact inst_put_10 hB h hw rfl h6 hS hx hy hz h5 h7 hl
  · exact inst_put_11 hB h hw rfl h6 hS hx hy hz h5 h7 hl
  · exact inst_put_12 hB h hw rfl h6 hS hx hy hz h5 h7 hl
  · exact inst_put_13 hB h hw rfl h6 hS hx hy hz h5 h7 hl
  · exact inst_put_14 hB h hw rfl h6 hS hx hy hz h5 h7 hl
  · exact inst_put_15 hB h hw rfl h6 hS hx hy hz h5 h7 hl
  · exact inst_put_16 hB h hw rfl h6 hS hx hy hz h5 h7 hl
end Q
end Go.Proofs.Ytjldddpchiaalaa
