/- number: the number of bytes, the lowest first; lowest: the lowest bytes of a number. -/
import Derived.Test.YtkalgiaapkjplaaP5
import Derived.Laws.Shifts
import Derived.Laws.Bits64b
namespace Go.Proofs.Ytkalgiaapkjplaa
open Go.RowKit

theorem pow256 (k : Nat) : 2 ^ (8 * k) = 256 ^ k := by rw [Nat.pow_mul]
/-- one byte more, above all the others -/
theorem or_byte (v : Int) (b k : Nat) (v0 : 0 ≤ v) (v1 : v < 256 ^ k) (hb : b < 256) (hk : k < 8) :
    bits BinOp.or IntKind.u64 v (IntKind.u64.wrap (IntKind.u64.wrap (b : Int) * 2 ^ (8 * k))) = v + (b : Int) * 256 ^ k := by
  obtain ⟨n, rfl⟩ := Int.eq_ofNat_of_zero_le v0
  have hp : (256 : Nat) ^ k ≤ 256 ^ 7 := Nat.pow_le_pow_right (by omega) (by omega)
  have hbp : b * 256 ^ k ≤ 255 * 256 ^ 7 := Nat.mul_le_mul (by omega) hp
  have hv : n < 256 ^ k := Int.ofNat_lt.1 (by rw [Int.natCast_pow]; exact v1)
  have e1 : IntKind.u64.wrap (b : Int) = b := by rw [IntKind.wrap_u64]; omega
  have e2 : (b : Int) * 2 ^ (8 * k) = ((b * 256 ^ k : Nat) : Int) := by rw [← pow256, Int.natCast_mul, Int.natCast_pow]; rfl
  have e3 : IntKind.u64.wrap ((b * 256 ^ k : Nat) : Int) = ((b * 256 ^ k : Nat) : Int) := by rw [IntKind.wrap_u64]; omega
  rw [e1, e2, e3, bits_or_u64_nat n (b * 256 ^ k) (by omega) (by omega)]
  have e4 : n ||| b * 256 ^ k = b * 256 ^ k + n := by
    rw [← pow256, Nat.or_comm, Nat.mul_comm b]
    exact (Nat.two_pow_add_eq_or_of_lt (by rw [pow256]; exact hv) b).symm
  rw [e4, Int.natCast_add, Int.natCast_mul, Int.natCast_pow]
  exact Int.add_comm _ _
theorem take_snoc (s : ByteArray) (k : Nat) (h : k < s.size) : s.data.toList.take (k + 1) = s.data.toList.take k ++ [s[k]] := by
  rw [List.take_succ_eq_append_getElem (by simpa using h)]; rfl

end Go.Proofs.Ytkalgiaapkjplaa
