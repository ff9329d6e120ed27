/- RvReckons: what was added is taken off again; a number is its quotient times the divisor and what is left. -/
import Derived.Test.YtopamkbgolhbcaaDoorZNG
import Derived.Laws.BitsAllLaws
namespace Go.Proofs.YtopamkbgolhbcaaDoor
open Go.RowKit

theorem add_sub (a b : Int) (a0 : 0 ≤ a) (a1 : a ≤ 18446744073709551615) : IntKind.u64.wrap (IntKind.u64.wrap (a + b) - b) = a := by
  rw [IntKind.wrap_u64, IntKind.wrap_u64]; omega
theorem xor_xor (a b : Int) (a0 : 0 ≤ a) (a1 : a ≤ 18446744073709551615) (b0 : 0 ≤ b) (b1 : b ≤ 18446744073709551615) : bits .xor .u64 (bits .xor .u64 a b) b = a ∧ 0 ≤ bits .xor .u64 a b ∧ bits .xor .u64 a b ≤ 18446744073709551615 := by
  obtain ⟨x, rfl⟩ := Int.eq_ofNat_of_zero_le a0
  obtain ⟨y, rfl⟩ := Int.eq_ofNat_of_zero_le b0
  have hx : x < 2 ^ 64 := by omega
  have hy : y < 2 ^ 64 := by omega
  have hz : x ^^^ y < 2 ^ 64 := Nat.xor_lt_two_pow hx hy
  have e : bits .xor .u64 (x : Int) (y : Int) = ((x ^^^ y : Nat) : Int) := by
    rw [u64_xor _ _ (by omega) (by omega) (by omega) (by omega)]
    simp only [Int.toNat_natCast]
  rw [e]
  refine ⟨?_, by omega, by omega⟩
  rw [u64_xor _ _ (by omega) (by omega) (by omega) (by omega)]
  simp only [Int.toNat_natCast]
  rw [Nat.xor_assoc, Nat.xor_self, Nat.xor_zero]
theorem div_mod (a b : Int) (a0 : 0 ≤ a) (a1 : a ≤ 18446744073709551615) (b0 : 0 ≤ b) (h : b ≠ 0) : IntKind.u64.wrap (quotI a b * b) = quotI a b * b ∧ IntKind.u64.wrap (quotI a b * b + restI a b) = a ∧ restI a b < b ∧ 0 ≤ restI a b := by
  have e := Int.mul_ediv_add_emod a b
  have l0 : 0 ≤ a % b := Int.emod_nonneg a h
  have l1 : a % b < b := Int.emod_lt_of_pos a (by omega)
  have q0 : 0 ≤ b * (a / b) := Int.mul_nonneg b0 (Int.ediv_nonneg a0 b0)
  unfold quotI restI
  rw [if_neg h, if_neg h]
  rw [Int.mul_comm (a / b) b]
  generalize b * (a / b) = P at *
  refine ⟨?_, ?_, l1, l0⟩ <;> rw [IntKind.wrap_u64] <;> omega

set_option maxRecDepth 100000 in
set_option maxHeartbeats 2000000 in
theorem reckons_walk (a b : Int) (w : World) (T : E.Tabs w) (a0 : 0 ≤ a) (a1 : a ≤ 18446744073709551615) (b0 : 0 ≤ b) (b1 : b ≤ 18446744073709551615) :
    Calls Tryd.prog 11 #[.int .u64 a, .int .u64 b] w fun e w' => e = .returned (.bool true) ∧ Below w.heap.size w w' := by
  have HS := Lib.hid (shown_any w T)
  have s0 : 0 ≤ IntKind.u64.wrap (a + b) ∧ IntKind.u64.wrap (a + b) ≤ 18446744073709551615 := by rw [IntKind.wrap_u64]; omega
  obtain ⟨x1, x2, x3⟩ := xor_xor a b a0 a1 b0 b1
  have HADD := Lib.hid (fun W => does_any 1 0 0 0 0 a b 0 W a0 a1 b0 b1)
  have HDIV := Lib.hid (fun W => does_any 10 0 0 0 0 a b 0 W a0 a1 b0 b1)
  have HREM := Lib.hid (fun W => does_any 11 0 0 0 0 a b 0 W a0 a1 b0 b1)
  have HSUB := Lib.hid (fun W => does_any 2 0 0 0 0 (IntKind.u64.wrap (a + b)) b 0 W s0.1 s0.2 b0 b1)
  have HX1 := Lib.hid (fun W => does_any 5 0 0 0 0 a b 0 W a0 a1 b0 b1)
  have HX2 := Lib.hid (fun W => does_any 5 0 0 0 0 (bits .xor .u64 a b) b 0 W x2 x3 b0 b1)
  have d1 : doesI 1 0 a b 0 = IntKind.u64.wrap (a + b) := by simp [doesI, reckI]
  have d2 : doesI 10 0 a b 0 = quotI a b := by simp [doesI, reckI]
  have d3 : doesI 11 0 a b 0 = restI a b := by simp [doesI, reckI]
  have d4 : doesI 2 0 (IntKind.u64.wrap (a + b)) b 0 = a := by rw [← add_sub a b a0 a1]; simp [doesI, reckI, add_sub a b a0 a1]
  have d5 : doesI 5 0 a b 0 = bits .xor .u64 a b := by simp [doesI, reckI]
  have d6 : doesI 5 0 (bits .xor .u64 a b) b 0 = a := by rw [← x1]; simp [doesI, reckI, x1]
  rw [d1] at HADD
  rw [d2] at HDIV
  rw [d3] at HREM
  rw [d4] at HSUB
  rw [d5] at HX1
  rw [d6] at HX2
  obtain ⟨S, hS⟩ : ∃ S, IntKind.u64.wrap (a + b) = S := ⟨_, rfl⟩
  obtain ⟨X, hX⟩ : ∃ S, bits .xor .u64 a b = S := ⟨_, rfl⟩
  rw [hS] at HADD HSUB
  rw [hX] at HX1 HX2
  have HDM := Lib.hid (div_mod a b a0 a1 b0)
  clear d1 d2 d3 d4 d5 d6 hS hX s0 x1 x2 x3 T
  obtain ⟨Q, hQ⟩ : ∃ S, quotI a b = S := ⟨_, rfl⟩
  obtain ⟨R, hR⟩ : ∃ S, restI a b = S := ⟨_, rfl⟩
  rw [hQ] at HDIV
  rw [hR] at HREM
  rw [hQ, hR] at HDM
  clear hQ hR
  by_cases hb : b = 0
  all_goals
    first
      | (subst hb)
      | (obtain ⟨m1, m2, m3, m4⟩ := HDM.out hb
         have t0 : (b == 0) = false := by simpa using hb
         obtain ⟨P, hP⟩ : ∃ P, Q * b = P := ⟨_, rfl⟩
         rw [hP] at m1 m2
         have t1 : decide (R < b) = true := by simpa using m3
         clear hb)
    go_enter Tryd.func11, Tryd.ntmps11
    go_wp2_with fail
    refine HS.out.mono ?_
    rintro e w1 ⟨rfl, hb1⟩
    have HB1 := Lib.hid hb1
    clear hb1
    go_wp2_with fail
    refine (HADD.out _).mono ?_
    rintro e w2 ⟨rfl, hb2⟩
    have HB2 := Lib.hid (bthen HB1.out hb2)
    clear hb2
    go_wp2_with fail
    refine (HDIV.out _).mono ?_
    rintro e w3 ⟨rfl, hb3⟩
    have HB3 := Lib.hid (bthen HB2.out hb3)
    clear hb3
    go_wp2_with fail
    refine (HREM.out _).mono ?_
    rintro e w4 ⟨rfl, hb4⟩
    have HB4 := Lib.hid (bthen HB3.out hb4)
    clear hb4
    go_wp2_with fail
    refine (HSUB.out _).mono ?_
    rintro e w5 ⟨rfl, hb5⟩
    have HB5 := Lib.hid (bthen HB4.out hb5)
    clear hb5
    go_wp2_with fail
    refine (HX1.out _).mono ?_
    rintro e w6 ⟨rfl, hb6⟩
    have HB6 := Lib.hid (bthen HB5.out hb6)
    clear hb6
    go_wp2_with fail
    refine (HX2.out _).mono ?_
    rintro e w7 ⟨rfl, hb7⟩
    have HB7 := Lib.hid (bthen HB6.out hb7)
    clear hb7
    go_wp2_with fail
    go_ret
    exact ⟨rfl, HB7.out⟩
end Go.Proofs.YtopamkbgolhbcaaDoor
