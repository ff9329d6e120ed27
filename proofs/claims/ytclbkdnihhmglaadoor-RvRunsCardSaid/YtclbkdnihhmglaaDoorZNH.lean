/- The reference's Does and Goes. The reference's Does and Goes; RvDoes. -/
import Derived.Test.YtclbkdnihhmglaaDoorZNA
import Derived.Test.YtclbkdnihhmglaaDoorZNG
namespace Go.Proofs.YtclbkdnihhmglaaDoor
open Go.RowKit

theorem pow_in : ∀ j : Nat, j < 64 → 1 ≤ (2 : Int) ^ j ∧ (2 : Int) ^ j ≤ 9223372036854775808 := by decide +kernel
theorem pow_next (j : Nat) : (2 : Int) ^ j + (2 : Int) ^ j = (2 : Int) ^ (j + 1) := by rw [Int.pow_succ]; omega
theorem rpower_any (N : Nat) (hN : N < 64) (w : World) : Calls Tryd.prog 61 #[.int .u64 N] w fun e w' => e = .returned (.int .u64 ((2 : Int) ^ N)) ∧ w = w' := by
  go_enter Tryd.func61, Tryd.ntmps61
  go_wp2_with fail
  go_loop [0, 3] (fun n v => ∃ r j : Nat, r + j = N ∧ n = .int .u64 (r : Int) ∧ v = .int .u64 ((2 : Int) ^ j)) (fun n _ => (intOf n).toNat)
  case atStart => exact ⟨N, 0, by omega, rfl, rfl⟩
  case round =>
    obtain ⟨r, j, hj, rfl, rfl⟩ := hrel
    cases r with
    | zero =>
      obtain rfl : j = N := by omega
      have g : decide ((0 : Int) < ((0 : Nat) : Int)) = false := by decide
      go_wp2_with fail
      go_ret
      exact ⟨rfl, rfl⟩
    | succ M =>
      obtain ⟨q0, q1⟩ := pow_in (j + 1) (by omega)
      have w1 : IntKind.u64.wrap ((2 : Int) ^ j + (2 : Int) ^ j) = (2 : Int) ^ (j + 1) := by rw [pow_next j, IntKind.wrap_u64]; omega
      have HJ := Lib.hid hj
      rw [show ((M + 1 : Nat) : Int) = (M : Int) + 1 by omega]
      have g : decide ((0 : Int) < (M : Int) + 1) = true := decide_eq_true (by omega)
      have g3 : IntKind.u64.wrap (M : Int) = (M : Int) := by rw [IntKind.wrap_u64]; omega
      have g2 : IntKind.u64.wrap ((M : Int) + 1 - 1) = (M : Int) := by rw [IntKind.wrap_u64]; omega
      obtain ⟨P0, hP0⟩ : ∃ P, (2 : Int) ^ j = P := ⟨_, rfl⟩
      obtain ⟨P1, hP1⟩ : ∃ P, (2 : Int) ^ (j + 1) = P := ⟨_, rfl⟩
      rw [hP0, hP1] at w1
      rw [hP0]
      have HP1 := Lib.hid hP1
      clear hj hP0 hP1 q0 q1
      go_wp2_with fail
      go_round
      case rel => exact ⟨M, j + 1, by have := HJ.out; omega, by go_num, by rw [HP1.out]⟩
      case measure => first | (simp [intOf]; done) | (simp [intOf]; omega)
set_option maxRecDepth 100000 in
theorem rreck_1 (a b : Int) (w : World) (a0 : 0 ≤ a) (a1 : a ≤ 18446744073709551615) (b0 : 0 ≤ b) (b1 : b ≤ 18446744073709551615) : Calls Tryd.prog 47 #[.int .i64 1, .int .u64 a, .int .u64 b] w fun e w' => e = .returned (.int .u64 (reckI 1 a b)) ∧ w = w' := by
  clear a0 a1 b0 b1
  go_enter Tryd.func47, Tryd.ntmps47
  go_wp2_with fail
  all_goals go_ret
  all_goals exact ⟨ret_int (by simp [reckI]), rfl⟩
set_option maxRecDepth 100000 in
theorem rreck_2 (a b : Int) (w : World) (a0 : 0 ≤ a) (a1 : a ≤ 18446744073709551615) (b0 : 0 ≤ b) (b1 : b ≤ 18446744073709551615) : Calls Tryd.prog 47 #[.int .i64 2, .int .u64 a, .int .u64 b] w fun e w' => e = .returned (.int .u64 (reckI 2 a b)) ∧ w = w' := by
  clear a0 a1 b0 b1
  go_enter Tryd.func47, Tryd.ntmps47
  go_wp2_with fail
  all_goals go_ret
  all_goals exact ⟨ret_int (by simp [reckI]), rfl⟩
set_option maxRecDepth 100000 in
theorem rreck_5 (a b : Int) (w : World) (a0 : 0 ≤ a) (a1 : a ≤ 18446744073709551615) (b0 : 0 ≤ b) (b1 : b ≤ 18446744073709551615) : Calls Tryd.prog 47 #[.int .i64 5, .int .u64 a, .int .u64 b] w fun e w' => e = .returned (.int .u64 (reckI 5 a b)) ∧ w = w' := by
  clear a0 a1 b0 b1
  go_enter Tryd.func47, Tryd.ntmps47
  go_wp2_with fail
  all_goals go_ret
  all_goals exact ⟨ret_int (by simp [reckI]), rfl⟩
set_option maxRecDepth 100000 in
theorem rreck_7 (a b : Int) (w : World) (a0 : 0 ≤ a) (a1 : a ≤ 18446744073709551615) (b0 : 0 ≤ b) (b1 : b ≤ 18446744073709551615) : Calls Tryd.prog 47 #[.int .i64 7, .int .u64 a, .int .u64 b] w fun e w' => e = .returned (.int .u64 (reckI 7 a b)) ∧ w = w' := by
  clear a0 a1 b0 b1
  go_enter Tryd.func47, Tryd.ntmps47
  go_wp2_with fail
  all_goals go_ret
  all_goals exact ⟨ret_int (by simp [reckI]), rfl⟩
set_option maxRecDepth 100000 in
theorem rreck_8 (a b : Int) (w : World) (a0 : 0 ≤ a) (a1 : a ≤ 18446744073709551615) (b0 : 0 ≤ b) (b1 : b ≤ 18446744073709551615) : Calls Tryd.prog 47 #[.int .i64 8, .int .u64 a, .int .u64 b] w fun e w' => e = .returned (.int .u64 (reckI 8 a b)) ∧ w = w' := by
  clear a0 a1 b0 b1
  go_enter Tryd.func47, Tryd.ntmps47
  go_wp2_with fail
  all_goals go_ret
  all_goals exact ⟨ret_int (by simp [reckI]), rfl⟩
set_option maxRecDepth 100000 in
theorem rreck_9 (a b : Int) (w : World) (a0 : 0 ≤ a) (a1 : a ≤ 18446744073709551615) (b0 : 0 ≤ b) (b1 : b ≤ 18446744073709551615) : Calls Tryd.prog 47 #[.int .i64 9, .int .u64 a, .int .u64 b] w fun e w' => e = .returned (.int .u64 (reckI 9 a b)) ∧ w = w' := by
  clear a0 a1 b0 b1
  go_enter Tryd.func47, Tryd.ntmps47
  go_wp2_with fail
  all_goals go_ret
  all_goals exact ⟨ret_int (by simp [reckI]), rfl⟩
set_option maxRecDepth 100000 in
theorem rreck_4 (a b : Int) (w : World) (a0 : 0 ≤ a) (a1 : a ≤ 18446744073709551615) (b0 : 0 ≤ b) (b1 : b ≤ 18446744073709551615) : Calls Tryd.prog 47 #[.int .i64 4, .int .u64 a, .int .u64 b] w fun e w' => e = .returned (.int .u64 (reckI 4 a b)) ∧ w = w' := by
  go_enter Tryd.func47, Tryd.ntmps47
  go_wp2_with fail
  all_goals go_ret
  all_goals exact ⟨ret_int (by simp [reckI, belowI]; try omega), rfl⟩
set_option maxRecDepth 100000 in
theorem rreck_3 (a b : Int) (w : World) (a0 : 0 ≤ a) (a1 : a ≤ 18446744073709551615) (b0 : 0 ≤ b) (b1 : b ≤ 18446744073709551615) : Calls Tryd.prog 47 #[.int .i64 3, .int .u64 a, .int .u64 b] w fun e w' => e = .returned (.int .u64 (reckI 3 a b)) ∧ w = w' := by
  obtain ⟨q, hq⟩ := Int.eq_ofNat_of_zero_le (show 0 ≤ b % 64 by omega)
  have hq1 : q < 64 := by omega
  have hqt : b.tmod 64 = (q : Int) := by rw [Int.tmod_eq_emod_of_nonneg b0]; exact hq
  obtain ⟨p0, p1⟩ := pow_in q hq1
  have HP := Lib.hid (fun W => rpower_any q hq1 W)
  have HE := Lib.hid (show reckI 3 a b = IntKind.u64.wrap (a * (2 : Int) ^ q) by simp [reckI, shlI, hq])
  obtain ⟨P, hP⟩ : ∃ P, (2 : Int) ^ q = P := ⟨_, rfl⟩
  rw [hP] at HP HE p0 p1
  clear hP
  clear a0 a1 p0 p1
  go_enter Tryd.func47, Tryd.ntmps47
  go_wp2_with fail
  refine (HP.out _).mono ?_
  rintro e w1 ⟨rfl, rfl⟩
  go_wp2_with fail
  all_goals go_ret
  all_goals exact ⟨ret_int (by rw [HE.out]), rfl⟩
set_option maxRecDepth 100000 in
theorem rreck_6 (a b : Int) (w : World) (a0 : 0 ≤ a) (a1 : a ≤ 18446744073709551615) (b0 : 0 ≤ b) (b1 : b ≤ 18446744073709551615) : Calls Tryd.prog 47 #[.int .i64 6, .int .u64 a, .int .u64 b] w fun e w' => e = .returned (.int .u64 (reckI 6 a b)) ∧ w = w' := by
  obtain ⟨q, hq⟩ := Int.eq_ofNat_of_zero_le (show 0 ≤ b % 64 by omega)
  have hq1 : q < 64 := by omega
  have hqt : b.tmod 64 = (q : Int) := by rw [Int.tmod_eq_emod_of_nonneg b0]; exact hq
  obtain ⟨p0, p1⟩ := pow_in q hq1
  have HP := Lib.hid (fun W => rpower_any q hq1 W)
  have HE := Lib.hid (show reckI 6 a b = a / (2 : Int) ^ q by simp [reckI, shrI, hq])
  have wq : IntKind.u64.wrap (a / (2 : Int) ^ q) = a / (2 : Int) ^ q := by
    have l1 : a / (2 : Int) ^ q ≤ a := Int.ediv_le_self _ a0
    have l0 : 0 ≤ a / (2 : Int) ^ q := Int.ediv_nonneg a0 (by omega)
    rw [IntKind.wrap_u64]; omega
  have td : Int.tdiv a ((2 : Int) ^ q) = a / (2 : Int) ^ q := Int.tdiv_eq_ediv_of_nonneg a0
  obtain ⟨P, hP⟩ : ∃ P, (2 : Int) ^ q = P := ⟨_, rfl⟩
  rw [hP] at HP HE p0 p1 wq td
  clear hP
  have hz : (P == 0) = false := by simp; omega
  obtain ⟨D, hD⟩ : ∃ D, a / P = D := ⟨_, rfl⟩
  rw [hD] at wq td HE
  clear hD
  go_enter Tryd.func47, Tryd.ntmps47
  go_wp2_with fail
  refine (HP.out _).mono ?_
  rintro e w1 ⟨rfl, rfl⟩
  go_wp2_with fail
  all_goals go_ret
  all_goals exact ⟨ret_int (by rw [HE.out]), rfl⟩
set_option maxRecDepth 100000 in
theorem rreck_10 (a b : Int) (w : World) (a0 : 0 ≤ a) (a1 : a ≤ 18446744073709551615) (b0 : 0 ≤ b) (_b1 : b ≤ 18446744073709551615) : Calls Tryd.prog 47 #[.int .i64 10, .int .u64 a, .int .u64 b] w fun e w' => e = .returned (.int .u64 (reckI 10 a b)) ∧ w = w' := by
  have HE := Lib.hid (show reckI 10 a b = quotI a b by simp [reckI])
  rw [HE.out]
  by_cases h : b = 0
  · subst h
    go_enter Tryd.func47, Tryd.ntmps47
    go_wp2_with fail
    go_ret
    exact ⟨ret_int (by simp [quotI]), rfl⟩
  · have t : (b == 0) = false := by simpa using h
    have m : Int.tdiv a b = a / b := Int.tdiv_eq_ediv_of_nonneg a0
    have l1 : a / b ≤ a := Int.ediv_le_self b a0
    have l0 : 0 ≤ a / b := Int.ediv_nonneg a0 b0
    have wq : IntKind.u64.wrap (a / b) = a / b := by rw [IntKind.wrap_u64]; omega
    have HF := Lib.hid (show quotI a b = a / b by simp [quotI, h])
    obtain ⟨q, hq⟩ : ∃ q, a / b = q := ⟨_, rfl⟩
    rw [hq] at m wq HF
    clear hq l0 l1 HE
    go_enter Tryd.func47, Tryd.ntmps47
    go_wp2_with fail
    go_ret
    exact ⟨ret_int (by rw [HF.out]), rfl⟩
set_option maxRecDepth 100000 in
theorem rreck_11 (a b : Int) (w : World) (a0 : 0 ≤ a) (a1 : a ≤ 18446744073709551615) (b0 : 0 ≤ b) (_b1 : b ≤ 18446744073709551615) : Calls Tryd.prog 47 #[.int .i64 11, .int .u64 a, .int .u64 b] w fun e w' => e = .returned (.int .u64 (reckI 11 a b)) ∧ w = w' := by
  have HE := Lib.hid (show reckI 11 a b = restI a b by simp [reckI])
  rw [HE.out]
  by_cases h : b = 0
  · subst h
    go_enter Tryd.func47, Tryd.ntmps47
    go_wp2_with fail
    go_ret
    exact ⟨ret_int (by simp [restI]), rfl⟩
  · have t : (b == 0) = false := by simpa using h
    have m : Int.tmod a b = a % b := Int.tmod_eq_emod_of_nonneg a0
    have l0 : 0 ≤ a % b := Int.emod_nonneg a h
    have l1 : a % b < b := Int.emod_lt_of_pos a (by omega)
    have wq : IntKind.u64.wrap (a % b) = a % b := by rw [IntKind.wrap_u64]; omega
    have HF := Lib.hid (show restI a b = a % b by simp [restI, h])
    obtain ⟨q, hq⟩ : ∃ q, a % b = q := ⟨_, rfl⟩
    rw [hq] at m wq HF
    clear hq l0 l1 HE
    go_enter Tryd.func47, Tryd.ntmps47
    go_wp2_with fail
    go_ret
    exact ⟨ret_int (by rw [HF.out]), rfl⟩
theorem rreck_any (k a b : Int) (w : World) (h1 : 1 ≤ k) (h2 : k ≤ 11) (a0 : 0 ≤ a) (a1 : a ≤ 18446744073709551615) (b0 : 0 ≤ b) (b1 : b ≤ 18446744073709551615) : Calls Tryd.prog 47 #[.int .i64 k, .int .u64 a, .int .u64 b] w fun e w' => e = .returned (.int .u64 (reckI k a b)) ∧ w = w' := by
  have hk : k = 1 ∨ k = 2 ∨ k = 3 ∨ k = 4 ∨ k = 5 ∨ k = 6 ∨ k = 7 ∨ k = 8 ∨ k = 9 ∨ k = 10 ∨ k = 11 := by omega
  rcases hk with rfl | rfl | rfl | rfl | rfl | rfl | rfl | rfl | rfl | rfl | rfl
  · exact rreck_1 a b w a0 a1 b0 b1
  · exact rreck_2 a b w a0 a1 b0 b1
  · exact rreck_3 a b w a0 a1 b0 b1
  · exact rreck_4 a b w a0 a1 b0 b1
  · exact rreck_5 a b w a0 a1 b0 b1
  · exact rreck_6 a b w a0 a1 b0 b1
  · exact rreck_7 a b w a0 a1 b0 b1
  · exact rreck_8 a b w a0 a1 b0 b1
  · exact rreck_9 a b w a0 a1 b0 b1
  · exact rreck_10 a b w a0 a1 b0 b1
  · exact rreck_11 a b w a0 a1 b0 b1
end Go.Proofs.YtclbkdnihhmglaaDoor

namespace Go.Proofs.YtclbkdnihhmglaaDoor
open Go.RowKit

set_option maxRecDepth 100000 in
set_option maxHeartbeats 1000000 in
theorem rdoes_r (k : Int) (h1 : 1 ≤ k) (h2 : k ≤ 11) (rd ra rb i a b pc : Int) (w : World) (a0 : 0 ≤ a) (a1 : a ≤ 18446744073709551615) (b0 : 0 ≤ b) (b1 : b ≤ 18446744073709551615) : Calls Tryd.prog 30 #[.agg #[.int .i64 k, .int .i64 rd, .int .i64 ra, .int .i64 rb, .int .i64 i], .int .u64 a, .int .u64 b, .int .u64 pc] w fun e w' => e = .returned (.int .u64 (doesI k i a b pc)) ∧ Below w.heap.size w w' := by
  have HR := Lib.hid (fun W => rreck_any k a b W h1 h2 a0 a1 b0 b1)
  have HE := Lib.hid (show doesI k i a b pc = reckI k a b by unfold doesI; rw [if_pos ⟨h1, h2⟩])
  have g1 : decide (1 ≤ k) = true := decide_eq_true h1
  have g2 : decide (k ≤ 11) = true := decide_eq_true h2
  obtain ⟨D, hD⟩ : ∃ D, reckI k a b = D := ⟨_, rfl⟩
  rw [hD] at HR HE
  clear hD a0 a1 b0 b1
  go_enter Tryd.func30, Tryd.ntmps30
  go_wp2_with fail
  refine (HR.out _).mono ?_
  rintro e w1 ⟨rfl, rfl⟩
  go_wp2_with fail
  go_ret
  exact ⟨ret_int (by rw [HE.out]), balloc (Below.refl _ _) _⟩
set_option maxRecDepth 100000 in
set_option maxHeartbeats 1000000 in
theorem rdoes_12 (rd ra rb i a b pc : Int) (w : World) (a0 : 0 ≤ a) (a1 : a ≤ 18446744073709551615) (b0 : 0 ≤ b) (b1 : b ≤ 18446744073709551615) : Calls Tryd.prog 30 #[.agg #[.int .i64 12, .int .i64 rd, .int .i64 ra, .int .i64 rb, .int .i64 i], .int .u64 a, .int .u64 b, .int .u64 pc] w fun e w' => e = .returned (.int .u64 (doesI 12 i a b pc)) ∧ Below w.heap.size w w' := by
  have wi : 0 ≤ IntKind.u64.wrap i ∧ IntKind.u64.wrap i ≤ 18446744073709551615 := by rw [IntKind.wrap_u64]; omega
  have HR := Lib.hid (fun W => rreck_any 1 a (IntKind.u64.wrap i) W (by omega) (by omega) a0 a1 wi.1 wi.2)
  have HE := Lib.hid (show doesI 12 i a b pc = reckI 1 a (IntKind.u64.wrap i) by simp [doesI, asR])
  obtain ⟨D, hD⟩ : ∃ D, reckI 1 a (IntKind.u64.wrap i) = D := ⟨_, rfl⟩
  rw [hD] at HR HE
  clear hD a0 a1 b0 b1 wi
  go_enter Tryd.func30, Tryd.ntmps30
  go_wp2_with fail
  refine (HR.out _).mono ?_
  rintro e w1 ⟨rfl, rfl⟩
  go_wp2_with fail
  go_ret
  exact ⟨ret_int (by rw [HE.out]), balloc (balloc (Below.refl _ _) _) _⟩
set_option maxRecDepth 100000 in
set_option maxHeartbeats 1000000 in
theorem rdoes_13 (rd ra rb i a b pc : Int) (w : World) (a0 : 0 ≤ a) (a1 : a ≤ 18446744073709551615) (b0 : 0 ≤ b) (b1 : b ≤ 18446744073709551615) : Calls Tryd.prog 30 #[.agg #[.int .i64 13, .int .i64 rd, .int .i64 ra, .int .i64 rb, .int .i64 i], .int .u64 a, .int .u64 b, .int .u64 pc] w fun e w' => e = .returned (.int .u64 (doesI 13 i a b pc)) ∧ Below w.heap.size w w' := by
  have wi : 0 ≤ IntKind.u64.wrap i ∧ IntKind.u64.wrap i ≤ 18446744073709551615 := by rw [IntKind.wrap_u64]; omega
  have HR := Lib.hid (fun W => rreck_any 4 a (IntKind.u64.wrap i) W (by omega) (by omega) a0 a1 wi.1 wi.2)
  have HE := Lib.hid (show doesI 13 i a b pc = reckI 4 a (IntKind.u64.wrap i) by simp [doesI, asR])
  obtain ⟨D, hD⟩ : ∃ D, reckI 4 a (IntKind.u64.wrap i) = D := ⟨_, rfl⟩
  rw [hD] at HR HE
  clear hD a0 a1 b0 b1 wi
  go_enter Tryd.func30, Tryd.ntmps30
  go_wp2_with fail
  refine (HR.out _).mono ?_
  rintro e w1 ⟨rfl, rfl⟩
  go_wp2_with fail
  go_ret
  exact ⟨ret_int (by rw [HE.out]), balloc (balloc (Below.refl _ _) _) _⟩
set_option maxRecDepth 100000 in
set_option maxHeartbeats 1000000 in
theorem rdoes_14 (rd ra rb i a b pc : Int) (w : World) (a0 : 0 ≤ a) (a1 : a ≤ 18446744073709551615) (b0 : 0 ≤ b) (b1 : b ≤ 18446744073709551615) : Calls Tryd.prog 30 #[.agg #[.int .i64 14, .int .i64 rd, .int .i64 ra, .int .i64 rb, .int .i64 i], .int .u64 a, .int .u64 b, .int .u64 pc] w fun e w' => e = .returned (.int .u64 (doesI 14 i a b pc)) ∧ Below w.heap.size w w' := by
  have wi : 0 ≤ IntKind.u64.wrap i ∧ IntKind.u64.wrap i ≤ 18446744073709551615 := by rw [IntKind.wrap_u64]; omega
  have HR := Lib.hid (fun W => rreck_any 5 a (IntKind.u64.wrap i) W (by omega) (by omega) a0 a1 wi.1 wi.2)
  have HE := Lib.hid (show doesI 14 i a b pc = reckI 5 a (IntKind.u64.wrap i) by simp [doesI, asR])
  obtain ⟨D, hD⟩ : ∃ D, reckI 5 a (IntKind.u64.wrap i) = D := ⟨_, rfl⟩
  rw [hD] at HR HE
  clear hD a0 a1 b0 b1 wi
  go_enter Tryd.func30, Tryd.ntmps30
  go_wp2_with fail
  refine (HR.out _).mono ?_
  rintro e w1 ⟨rfl, rfl⟩
  go_wp2_with fail
  go_ret
  exact ⟨ret_int (by rw [HE.out]), balloc (balloc (Below.refl _ _) _) _⟩
set_option maxRecDepth 100000 in
set_option maxHeartbeats 1000000 in
theorem rdoes_15 (rd ra rb i a b pc : Int) (w : World) (a0 : 0 ≤ a) (a1 : a ≤ 18446744073709551615) (b0 : 0 ≤ b) (b1 : b ≤ 18446744073709551615) : Calls Tryd.prog 30 #[.agg #[.int .i64 15, .int .i64 rd, .int .i64 ra, .int .i64 rb, .int .i64 i], .int .u64 a, .int .u64 b, .int .u64 pc] w fun e w' => e = .returned (.int .u64 (doesI 15 i a b pc)) ∧ Below w.heap.size w w' := by
  have wi : 0 ≤ IntKind.u64.wrap i ∧ IntKind.u64.wrap i ≤ 18446744073709551615 := by rw [IntKind.wrap_u64]; omega
  have HR := Lib.hid (fun W => rreck_any 7 a (IntKind.u64.wrap i) W (by omega) (by omega) a0 a1 wi.1 wi.2)
  have HE := Lib.hid (show doesI 15 i a b pc = reckI 7 a (IntKind.u64.wrap i) by simp [doesI, asR])
  obtain ⟨D, hD⟩ : ∃ D, reckI 7 a (IntKind.u64.wrap i) = D := ⟨_, rfl⟩
  rw [hD] at HR HE
  clear hD a0 a1 b0 b1 wi
  go_enter Tryd.func30, Tryd.ntmps30
  go_wp2_with fail
  refine (HR.out _).mono ?_
  rintro e w1 ⟨rfl, rfl⟩
  go_wp2_with fail
  go_ret
  exact ⟨ret_int (by rw [HE.out]), balloc (balloc (Below.refl _ _) _) _⟩
set_option maxRecDepth 100000 in
set_option maxHeartbeats 1000000 in
theorem rdoes_16 (rd ra rb i a b pc : Int) (w : World) (a0 : 0 ≤ a) (a1 : a ≤ 18446744073709551615) (b0 : 0 ≤ b) (b1 : b ≤ 18446744073709551615) : Calls Tryd.prog 30 #[.agg #[.int .i64 16, .int .i64 rd, .int .i64 ra, .int .i64 rb, .int .i64 i], .int .u64 a, .int .u64 b, .int .u64 pc] w fun e w' => e = .returned (.int .u64 (doesI 16 i a b pc)) ∧ Below w.heap.size w w' := by
  have wi : 0 ≤ IntKind.u64.wrap i ∧ IntKind.u64.wrap i ≤ 18446744073709551615 := by rw [IntKind.wrap_u64]; omega
  have HR := Lib.hid (fun W => rreck_any 8 a (IntKind.u64.wrap i) W (by omega) (by omega) a0 a1 wi.1 wi.2)
  have HE := Lib.hid (show doesI 16 i a b pc = reckI 8 a (IntKind.u64.wrap i) by simp [doesI, asR])
  obtain ⟨D, hD⟩ : ∃ D, reckI 8 a (IntKind.u64.wrap i) = D := ⟨_, rfl⟩
  rw [hD] at HR HE
  clear hD a0 a1 b0 b1 wi
  go_enter Tryd.func30, Tryd.ntmps30
  go_wp2_with fail
  refine (HR.out _).mono ?_
  rintro e w1 ⟨rfl, rfl⟩
  go_wp2_with fail
  go_ret
  exact ⟨ret_int (by rw [HE.out]), balloc (balloc (Below.refl _ _) _) _⟩
set_option maxRecDepth 100000 in
set_option maxHeartbeats 1000000 in
theorem rdoes_17 (rd ra rb i a b pc : Int) (w : World) (a0 : 0 ≤ a) (a1 : a ≤ 18446744073709551615) (b0 : 0 ≤ b) (b1 : b ≤ 18446744073709551615) : Calls Tryd.prog 30 #[.agg #[.int .i64 17, .int .i64 rd, .int .i64 ra, .int .i64 rb, .int .i64 i], .int .u64 a, .int .u64 b, .int .u64 pc] w fun e w' => e = .returned (.int .u64 (doesI 17 i a b pc)) ∧ Below w.heap.size w w' := by
  have wi : 0 ≤ IntKind.u64.wrap i ∧ IntKind.u64.wrap i ≤ 18446744073709551615 := by rw [IntKind.wrap_u64]; omega
  have HR := Lib.hid (fun W => rreck_any 3 a (IntKind.u64.wrap i) W (by omega) (by omega) a0 a1 wi.1 wi.2)
  have HE := Lib.hid (show doesI 17 i a b pc = reckI 3 a (IntKind.u64.wrap i) by simp [doesI, asR])
  obtain ⟨D, hD⟩ : ∃ D, reckI 3 a (IntKind.u64.wrap i) = D := ⟨_, rfl⟩
  rw [hD] at HR HE
  clear hD a0 a1 b0 b1 wi
  go_enter Tryd.func30, Tryd.ntmps30
  go_wp2_with fail
  refine (HR.out _).mono ?_
  rintro e w1 ⟨rfl, rfl⟩
  go_wp2_with fail
  go_ret
  exact ⟨ret_int (by rw [HE.out]), balloc (balloc (Below.refl _ _) _) _⟩
set_option maxRecDepth 100000 in
set_option maxHeartbeats 1000000 in
theorem rdoes_18 (rd ra rb i a b pc : Int) (w : World) (a0 : 0 ≤ a) (a1 : a ≤ 18446744073709551615) (b0 : 0 ≤ b) (b1 : b ≤ 18446744073709551615) : Calls Tryd.prog 30 #[.agg #[.int .i64 18, .int .i64 rd, .int .i64 ra, .int .i64 rb, .int .i64 i], .int .u64 a, .int .u64 b, .int .u64 pc] w fun e w' => e = .returned (.int .u64 (doesI 18 i a b pc)) ∧ Below w.heap.size w w' := by
  have wi : 0 ≤ IntKind.u64.wrap i ∧ IntKind.u64.wrap i ≤ 18446744073709551615 := by rw [IntKind.wrap_u64]; omega
  have HR := Lib.hid (fun W => rreck_any 6 a (IntKind.u64.wrap i) W (by omega) (by omega) a0 a1 wi.1 wi.2)
  have HE := Lib.hid (show doesI 18 i a b pc = reckI 6 a (IntKind.u64.wrap i) by simp [doesI, asR])
  obtain ⟨D, hD⟩ : ∃ D, reckI 6 a (IntKind.u64.wrap i) = D := ⟨_, rfl⟩
  rw [hD] at HR HE
  clear hD a0 a1 b0 b1 wi
  go_enter Tryd.func30, Tryd.ntmps30
  go_wp2_with fail
  refine (HR.out _).mono ?_
  rintro e w1 ⟨rfl, rfl⟩
  go_wp2_with fail
  go_ret
  exact ⟨ret_int (by rw [HE.out]), balloc (balloc (Below.refl _ _) _) _⟩
set_option maxRecDepth 100000 in
set_option maxHeartbeats 1000000 in
theorem rdoes_27 (rd ra rb i a b pc : Int) (w : World) : Calls Tryd.prog 30 #[.agg #[.int .i64 27, .int .i64 rd, .int .i64 ra, .int .i64 rb, .int .i64 i], .int .u64 a, .int .u64 b, .int .u64 pc] w fun e w' => e = .returned (.int .u64 (doesI 27 i a b pc)) ∧ Below w.heap.size w w' := by
  go_enter Tryd.func30, Tryd.ntmps30
  go_wp2_with fail
  go_ret
  exact ⟨ret_int (by simp [doesI]), balloc (Below.refl _ _) _⟩
set_option maxRecDepth 100000 in
set_option maxHeartbeats 1000000 in
theorem rdoes_28 (rd ra rb i a b pc : Int) (w : World) : Calls Tryd.prog 30 #[.agg #[.int .i64 28, .int .i64 rd, .int .i64 ra, .int .i64 rb, .int .i64 i], .int .u64 a, .int .u64 b, .int .u64 pc] w fun e w' => e = .returned (.int .u64 (doesI 28 i a b pc)) ∧ Below w.heap.size w w' := by
  go_enter Tryd.func30, Tryd.ntmps30
  go_wp2_with fail
  go_ret
  exact ⟨ret_int (by simp [doesI]), balloc (Below.refl _ _) _⟩
set_option maxRecDepth 100000 in
set_option maxHeartbeats 1000000 in
theorem rdoes_29 (rd ra rb i a b pc : Int) (w : World) : Calls Tryd.prog 30 #[.agg #[.int .i64 29, .int .i64 rd, .int .i64 ra, .int .i64 rb, .int .i64 i], .int .u64 a, .int .u64 b, .int .u64 pc] w fun e w' => e = .returned (.int .u64 (doesI 29 i a b pc)) ∧ Below w.heap.size w w' := by
  go_enter Tryd.func30, Tryd.ntmps30
  go_wp2_with fail
  go_ret
  exact ⟨ret_int (by simp [doesI]), balloc (Below.refl _ _) _⟩
set_option maxRecDepth 100000 in
set_option maxHeartbeats 1000000 in
theorem rdoes_30 (rd ra rb i a b pc : Int) (w : World) : Calls Tryd.prog 30 #[.agg #[.int .i64 30, .int .i64 rd, .int .i64 ra, .int .i64 rb, .int .i64 i], .int .u64 a, .int .u64 b, .int .u64 pc] w fun e w' => e = .returned (.int .u64 (doesI 30 i a b pc)) ∧ Below w.heap.size w w' := by
  go_enter Tryd.func30, Tryd.ntmps30
  go_wp2_with fail
  go_ret
  exact ⟨ret_int (by simp [doesI]), balloc (Below.refl _ _) _⟩
set_option maxRecDepth 100000 in
set_option maxHeartbeats 1000000 in
theorem rdoes_no (k : Int) (h : ¬ (1 ≤ k ∧ k ≤ 18) ∧ ¬ (27 ≤ k ∧ k ≤ 30)) (rd ra rb i a b pc : Int) (w : World) : Calls Tryd.prog 30 #[.agg #[.int .i64 k, .int .i64 rd, .int .i64 ra, .int .i64 rb, .int .i64 i], .int .u64 a, .int .u64 b, .int .u64 pc] w fun e w' => e = .returned (.int .u64 (doesI k i a b pc)) ∧ Below w.heap.size w w' := by
  have HE := Lib.hid (show doesI k i a b pc = 0 by unfold doesI; rw [if_neg (by omega), if_neg (by omega), if_neg (by omega), if_neg (by omega), if_neg (by omega)])
  have t27 : (k == 27) = false := by simp; omega
  have t28 : (k == 28) = false := by simp; omega
  have t29 : (k == 29) = false := by simp; omega
  have t30 : (k == 30) = false := by simp; omega
  by_cases hl : k < 1
  · have g1 : decide (1 ≤ k) = false := decide_eq_false (by omega)
    have g3 : decide (12 ≤ k) = false := decide_eq_false (by omega)
    clear h
    go_enter Tryd.func30, Tryd.ntmps30
    go_wp2_with fail
    go_ret
    exact ⟨ret_int (by rw [HE.out]), balloc (Below.refl _ _) _⟩
  · have g1 : decide (1 ≤ k) = true := decide_eq_true (by omega)
    have g2 : decide (k ≤ 11) = false := decide_eq_false (by omega)
    have g3 : decide (12 ≤ k) = true := decide_eq_true (by omega)
    have g4 : decide (k ≤ 18) = false := decide_eq_false (by omega)
    clear h
    go_enter Tryd.func30, Tryd.ntmps30
    go_wp2_with fail
    go_ret
    exact ⟨ret_int (by rw [HE.out]), balloc (Below.refl _ _) _⟩
theorem rdoes_any (k rd ra rb i a b pc : Int) (w : World) (a0 : 0 ≤ a) (a1 : a ≤ 18446744073709551615) (b0 : 0 ≤ b) (b1 : b ≤ 18446744073709551615) : Calls Tryd.prog 30 #[.agg #[.int .i64 k, .int .i64 rd, .int .i64 ra, .int .i64 rb, .int .i64 i], .int .u64 a, .int .u64 b, .int .u64 pc] w fun e w' => e = .returned (.int .u64 (doesI k i a b pc)) ∧ Below w.heap.size w w' := by
  by_cases h : ¬ (1 ≤ k ∧ k ≤ 18) ∧ ¬ (27 ≤ k ∧ k ≤ 30)
  · exact rdoes_no k h rd ra rb i a b pc w
  · by_cases h11 : 1 ≤ k ∧ k ≤ 11
    · exact rdoes_r k h11.1 h11.2 rd ra rb i a b pc w a0 a1 b0 b1
    · have hk : k = 12 ∨ k = 13 ∨ k = 14 ∨ k = 15 ∨ k = 16 ∨ k = 17 ∨ k = 18 ∨ k = 27 ∨ k = 28 ∨ k = 29 ∨ k = 30 := by omega
      rcases hk with rfl | rfl | rfl | rfl | rfl | rfl | rfl | rfl | rfl | rfl | rfl
      · exact rdoes_12 rd ra rb i a b pc w a0 a1 b0 b1
      · exact rdoes_13 rd ra rb i a b pc w a0 a1 b0 b1
      · exact rdoes_14 rd ra rb i a b pc w a0 a1 b0 b1
      · exact rdoes_15 rd ra rb i a b pc w a0 a1 b0 b1
      · exact rdoes_16 rd ra rb i a b pc w a0 a1 b0 b1
      · exact rdoes_17 rd ra rb i a b pc w a0 a1 b0 b1
      · exact rdoes_18 rd ra rb i a b pc w a0 a1 b0 b1
      · exact rdoes_27 rd ra rb i a b pc w
      · exact rdoes_28 rd ra rb i a b pc w
      · exact rdoes_29 rd ra rb i a b pc w
      · exact rdoes_30 rd ra rb i a b pc w
set_option maxHeartbeats 1000000 in
theorem rgoes_any (k rd ra rb i a b : Int) (w : World) : Calls Tryd.prog 29 #[.agg #[.int .i64 k, .int .i64 rd, .int .i64 ra, .int .i64 rb, .int .i64 i], .int .u64 a, .int .u64 b] w fun e w' => e = .returned (.bool (goesB k a b)) ∧ Below w.heap.size w w' := by
  by_cases h23 : k = 23
  · subst h23
    go_enter Tryd.func29, Tryd.ntmps29
    go_wp2_with fail
    go_ret
    exact ⟨ret_bool (by simp [goesB]), balloc (Below.refl _ _) _⟩
  by_cases h24 : k = 24
  · subst h24
    go_enter Tryd.func29, Tryd.ntmps29
    go_wp2_with fail
    go_ret
    exact ⟨ret_bool (by simp [goesB]), balloc (Below.refl _ _) _⟩
  by_cases h25 : k = 25
  · subst h25
    go_enter Tryd.func29, Tryd.ntmps29
    go_wp2_with fail
    go_ret
    exact ⟨ret_bool (by simp [goesB]), balloc (Below.refl _ _) _⟩
  by_cases h26 : k = 26
  · subst h26
    go_enter Tryd.func29, Tryd.ntmps29
    go_wp2_with fail
    go_ret
    exact ⟨ret_bool (by simp [goesB]), balloc (Below.refl _ _) _⟩
  have t23 : (k == 23) = false := by simpa using h23
  have t24 : (k == 24) = false := by simpa using h24
  have t25 : (k == 25) = false := by simpa using h25
  have t26 : (k == 26) = false := by simpa using h26
  have HF := Lib.hid (show goesB k a b = false by simp [goesB, h23, h24, h25, h26])
  clear h23 h24 h25 h26
  go_enter Tryd.func29, Tryd.ntmps29
  go_wp2_with fail
  go_ret
  exact ⟨ret_bool (by rw [HF.out]), balloc (Below.refl _ _) _⟩
end Go.Proofs.YtclbkdnihhmglaaDoor
