/- Package bit: bits of a number's bytes. -/
import Derived.Test.YtclbkdnihhmglaaB1
import Derived.Laws.BitsAllLaws
import Derived.Laws.Bits64b
namespace Go.Proofs.Ytclbkdnihhmglaa
namespace Q

theorem b_low (c : Nat) (h : c < 256) : bits BinOp.andNot IntKind.u8 (c : Int) 128 = ((c % 128 : Nat) : Int) := by
  rw [show (128 : Int) = ((128 : Nat) : Int) from rfl, u8_andNot_nat c 128 h (by omega)]
  rw [show 255 - 128 = 2 ^ 7 - 1 by omega, Nat.and_two_pow_sub_one_eq_mod]
theorem and_top : ∀ c : Fin 256, c.val &&& 128 = if 128 ≤ c.val then 128 else 0 := by decide +kernel
theorem or_top : ∀ c : Fin 256, c.val ||| 128 = c.val % 128 + 128 := by decide +kernel
theorem b_top (c : Nat) (h : c < 256) : bits BinOp.and IntKind.u8 (c : Int) 128 = if 128 ≤ c then 128 else 0 := by
  rw [show (128 : Int) = ((128 : Nat) : Int) from rfl, u8_and_nat c 128 h (by omega), and_top ⟨c, h⟩]
  simp only
  split <;> simp
theorem b_set (c : Nat) (h : c < 256) : bits BinOp.or IntKind.u8 (c : Int) 128 = ((c % 128 + 128 : Nat) : Int) := by
  rw [show (128 : Int) = ((128 : Nat) : Int) from rfl, u8_or_nat c 128 h (by omega), or_top ⟨c, h⟩]
theorem or_seven (acc c i : Nat) (ha : acc < 128 ^ i) (hi : i ≤ 9) (hc : c < 128) (h : i ≤ 8 ∨ c < 2) :
    bits BinOp.or IntKind.u64 (acc : Int) (IntKind.u64.wrap ((c : Int) * 2 ^ (7 * i))) = ((acc + c * 128 ^ i : Nat) : Int) := by
  have hp9 : (128 : Nat) ^ i ≤ 128 ^ 9 := Nat.pow_le_pow_right (by omega) hi
  have hb : c * 128 ^ i < 18446744073709551616 := by
    rcases h with h | h
    · have hp : (128 : Nat) ^ i ≤ 128 ^ 8 := Nat.pow_le_pow_right (by omega) h
      have : c * 128 ^ i ≤ 127 * 128 ^ 8 := Nat.mul_le_mul (by omega) hp
      omega
    · have : c * 128 ^ i ≤ 1 * 128 ^ 9 := Nat.mul_le_mul (by omega) hp9
      omega
  have ep : (2 : Nat) ^ (7 * i) = 128 ^ i := by rw [Nat.pow_mul]
  have e2 : (c : Int) * 2 ^ (7 * i) = ((c * 128 ^ i : Nat) : Int) := by rw [← ep, Int.natCast_mul, Int.natCast_pow]; rfl
  have e3 : IntKind.u64.wrap ((c * 128 ^ i : Nat) : Int) = ((c * 128 ^ i : Nat) : Int) := by rw [IntKind.wrap_u64]; omega
  rw [e2, e3, bits_or_u64_nat acc (c * 128 ^ i) (by omega) hb]
  have e4 : acc ||| c * 128 ^ i = c * 128 ^ i + acc := by
    rw [← ep, Nat.or_comm, Nat.mul_comm c]
    exact (Nat.two_pow_add_eq_or_of_lt (by rw [ep]; exact ha) c).symm
  rw [e4, Nat.add_comm]
end Q
end Go.Proofs.Ytclbkdnihhmglaa
