/- Package eval's reference: a power of two. Package eval's reference: Reckon. EvalReckons: the walk. EvalShifts: the walk. -/
import Derived.Test.YtdjmiaphodfdeaaV1
import Derived.Test.YtdjmiaphodfdeaaVF
namespace Go.Proofs.Ytdjmiaphodfdeaa
open Go.RowKit

theorem two_in {k : Nat} (h : k < 64) : (0 : Int) < 2 ^ k ∧ (2 : Int) ^ k ≤ 9223372036854775808 := by
  constructor
  · exact_mod_cast Nat.two_pow_pos k
  · have := Nat.pow_le_pow_right (show 0 < 2 by omega) (show k ≤ 63 by omega)
    rw [show (2 : Nat) ^ 63 = 9223372036854775808 from rfl] at this
    have e : ((2 ^ k : Nat) : Int) = (2 : Int) ^ k := by rw [Int.natCast_pow]; rfl
    rw [← e]
    exact Int.ofNat_le.2 this
set_option maxRecDepth 100000 in
set_option maxHeartbeats 1000000 in
theorem power_any (n : Nat) (hn : n < 64) (w : World) : Calls Try.prog 68 #[.int .u64 n] w fun e w' => e = .returned (.int .u64 ((2 : Int) ^ n)) ∧ w = w' := by
  have HN := Lib.hid hn
  clear hn
  go_enter Try.func68, Try.ntmps68
  go_wp2_with fail
  go_loop [0, 3] (fun i v => ∃ k : Nat, k ≤ n ∧ i = .int .u64 ((n : Int) - k) ∧ v = .int .u64 ((2 : Int) ^ k)) (fun i _ => (intOf i).toNat)
  case atStart => exact ⟨0, by omega, by simp, by simp⟩
  case round =>
    obtain ⟨k, hk, rfl, rfl⟩ := hrel
    by_cases hlt : k < n
    · have d : decide ((n : Int) - k > 0) = true := by simp; omega
      have d' : decide (0 < (n : Int) - k) = true := by simp; omega
      have H2 := Lib.hid (two_in (show k < 64 by have := HN.out; omega))
      have H3 := Lib.hid (two_in (show k + 1 < 64 by have := HN.out; omega))
      have HS := Lib.hid (show (2 : Int) ^ (k + 1) = 2 ^ k * 2 from Int.pow_succ 2 k)
      have b1 : IntKind.u64.wrap ((2 : Int) ^ k + 2 ^ k) = 2 ^ (k + 1) := by
        rw [IntKind.wrap_u64]; have := H2.out; have := H3.out; have := HS.out; omega
      have b2 : IntKind.u64.wrap ((n : Int) - k - 1) = (n : Int) - (k + 1 : Nat) := by
        rw [IntKind.wrap_u64]; have := HN.out; omega
      go_wp2_with fail
      go_round
      case rel => exact ⟨k + 1, by omega, rfl, rfl⟩
      case measure => simp [intOf]; omega
    · obtain rfl : k = n := by omega
      have d : (k : Int) - k = 0 := by omega
      rw [d]
      go_wp2_with fail
      go_ret
      exact ⟨rfl, rfl⟩
end Go.Proofs.Ytdjmiaphodfdeaa

namespace Go.Proofs.Ytdjmiaphodfdeaa
open Go.RowKit

theorem sub_back (a b : Int) : IntKind.u64.wrap (a + IntKind.u64.wrap (-b)) = IntKind.u64.wrap (a - b) := by
  rw [IntKind.wrap_u64, IntKind.wrap_u64, IntKind.wrap_u64]; omega
set_option maxRecDepth 100000 in
set_option maxHeartbeats 1000000 in
theorem refk_2 (a b : Int) (w : World) : Calls Try.prog 38 #[.int .i64 2, .int .u64 a, .int .u64 b] w fun e w' => e = .returned (.int .u64 (reckE 2 a b)) ∧ w = w' := by
  go_enter Try.func38, Try.ntmps38
  go_wp2_with fail
  go_ret
  exact ⟨ret_int (by simp [reckE]), rfl⟩
set_option maxRecDepth 100000 in
set_option maxHeartbeats 1000000 in
theorem refk_3 (a b : Int) (w : World) : Calls Try.prog 38 #[.int .i64 3, .int .u64 a, .int .u64 b] w fun e w' => e = .returned (.int .u64 (reckE 3 a b)) ∧ w = w' := by
  go_enter Try.func38, Try.ntmps38
  go_wp2_with fail
  go_ret
  exact ⟨ret_int (by simp [reckE, sub_back]), rfl⟩
set_option maxRecDepth 100000 in
set_option maxHeartbeats 1000000 in
theorem refk_4 (a b : Int) (w : World) : Calls Try.prog 38 #[.int .i64 4, .int .u64 a, .int .u64 b] w fun e w' => e = .returned (.int .u64 (reckE 4 a b)) ∧ w = w' := by
  go_enter Try.func38, Try.ntmps38
  go_wp2_with fail
  go_ret
  exact ⟨ret_int (by simp [reckE]), rfl⟩
set_option maxRecDepth 100000 in
set_option maxHeartbeats 1000000 in
theorem refk_5 (a b : Int) (w : World) : Calls Try.prog 38 #[.int .i64 5, .int .u64 a, .int .u64 b] w fun e w' => e = .returned (.int .u64 (reckE 5 a b)) ∧ w = w' := by
  go_enter Try.func38, Try.ntmps38
  go_wp2_with fail
  go_ret
  exact ⟨ret_int (by simp [reckE]), rfl⟩
set_option maxRecDepth 100000 in
set_option maxHeartbeats 1000000 in
theorem refk_6 (a b : Int) (w : World) : Calls Try.prog 38 #[.int .i64 6, .int .u64 a, .int .u64 b] w fun e w' => e = .returned (.int .u64 (reckE 6 a b)) ∧ w = w' := by
  go_enter Try.func38, Try.ntmps38
  go_wp2_with fail
  go_ret
  exact ⟨ret_int (by simp [reckE]), rfl⟩
set_option maxRecDepth 100000 in
set_option maxHeartbeats 1000000 in
theorem refk_7 (a b : Int) (w : World) : Calls Try.prog 38 #[.int .i64 7, .int .u64 a, .int .u64 b] w fun e w' => e = .returned (.int .u64 (reckE 7 a b)) ∧ w = w' := by
  go_enter Try.func38, Try.ntmps38
  go_wp2_with fail
  go_ret
  exact ⟨ret_int (by simp [reckE]), rfl⟩
set_option maxRecDepth 100000 in
set_option maxHeartbeats 1000000 in
theorem refk_8 (a b : Int) (w : World) (b0 : 0 ≤ b) (b1 : b ≤ 18446744073709551615) : Calls Try.prog 38 #[.int .i64 8, .int .u64 a, .int .u64 b] w fun e w' => e = .returned (.int .u64 (reckE 8 a b)) ∧ w = w' := by
  obtain ⟨k, hk⟩ := Int.eq_ofNat_of_zero_le (show 0 ≤ b % 64 by omega)
  have hk64 : k < 64 := by omega
  have HP := Lib.hid (power_any k hk64)
  have HX := Lib.hid (show reckE 8 a b = IntKind.u64.wrap (a * 2 ^ k) by simp only [reckE, shlE, shrE, hk]; simp)
  obtain ⟨p0, p1⟩ := two_in hk64
  obtain ⟨p, hp⟩ : ∃ p, (2 : Int) ^ k = p := ⟨_, rfl⟩
  rw [hp] at HP HX p0 p1
  have p2 : (p == 0) = false := by simp; omega
  have p3 : ¬ p = 0 := by omega
  have km : IntKind.u64.wrap (Int.tmod b 64) = (k : Int) := by rw [Int.tmod_eq_emod_of_nonneg b0, hk, IntKind.wrap_u64]; omega
  clear hp
  go_enter Try.func38, Try.ntmps38
  go_wp2_with fail
  refine (HP.out _).mono ?_
  rintro r w1 ⟨rfl, rfl⟩
  go_wp2_with fail
  go_ret
  exact ⟨ret_int (by rw [HX.out]), rfl⟩
set_option maxRecDepth 100000 in
set_option maxHeartbeats 1000000 in
theorem refk_9 (a b : Int) (w : World) (a0 : 0 ≤ a) (a1 : a ≤ 18446744073709551615) (b0 : 0 ≤ b) (b1 : b ≤ 18446744073709551615) : Calls Try.prog 38 #[.int .i64 9, .int .u64 a, .int .u64 b] w fun e w' => e = .returned (.int .u64 (reckE 9 a b)) ∧ w = w' := by
  obtain ⟨k, hk⟩ := Int.eq_ofNat_of_zero_le (show 0 ≤ b % 64 by omega)
  have hk64 : k < 64 := by omega
  have HP := Lib.hid (power_any k hk64)
  have HX := Lib.hid (show reckE 9 a b = a / 2 ^ k by simp only [reckE, shlE, shrE, hk]; simp)
  obtain ⟨p0, p1⟩ := two_in hk64
  obtain ⟨p, hp⟩ : ∃ p, (2 : Int) ^ k = p := ⟨_, rfl⟩
  rw [hp] at HP HX p0 p1
  have p2 : (p == 0) = false := by simp; omega
  have p3 : ¬ p = 0 := by omega
  have km : IntKind.u64.wrap (Int.tmod b 64) = (k : Int) := by rw [Int.tmod_eq_emod_of_nonneg b0, hk, IntKind.wrap_u64]; omega
  clear hp
  go_enter Try.func38, Try.ntmps38
  go_wp2_with fail
  refine (HP.out _).mono ?_
  rintro r w1 ⟨rfl, rfl⟩
  go_wp2_with fail
  go_ret
  exact ⟨ret_int (by rw [HX.out]), rfl⟩
set_option maxRecDepth 100000 in
set_option maxHeartbeats 1000000 in
theorem refk_10 (a b : Int) (w : World) : Calls Try.prog 38 #[.int .i64 10, .int .u64 a, .int .u64 b] w fun e w' => e = .returned (.int .u64 (reckE 10 a b)) ∧ w = w' := by
  by_cases hl : a < b
  case pos =>
    have d : decide (a < b) = true := by simpa using hl
    go_enter Try.func38, Try.ntmps38
    go_wp2_with fail
    go_ret
    exact ⟨ret_int (by simp [reckE, lessE, hl]), rfl⟩
  have d : decide (a < b) = false := by simpa using hl
  go_enter Try.func38, Try.ntmps38
  go_wp2_with fail
  go_ret
  exact ⟨ret_int (by simp [reckE, lessE, hl]), rfl⟩
/-- of two that are the same no bit differs -/
theorem xor_zero {a b : Int} (a0 : 0 ≤ a) (a1 : a ≤ 18446744073709551615) (b0 : 0 ≤ b) (b1 : b ≤ 18446744073709551615) : bits BinOp.xor IntKind.u64 a b < 1 ↔ a = b := by
  obtain ⟨x, rfl⟩ := Int.eq_ofNat_of_zero_le a0
  obtain ⟨y, rfl⟩ := Int.eq_ofNat_of_zero_le b0
  rw [bits_xor_u64_nat x y (by omega) (by omega)]
  constructor
  · intro h
    have h1 : x ^^^ y = 0 := by omega
    have e : (x ^^^ y) ^^^ y = 0 ^^^ y := by rw [h1]
    rw [Nat.xor_assoc, Nat.xor_self, Nat.xor_zero, Nat.zero_xor] at e
    omega
  · intro h
    have : x = y := by omega
    subst this
    rw [Nat.xor_self]; decide
theorem eq_same {a b : Int} (a0 : 0 ≤ a) (a1 : a ≤ 18446744073709551615) (b0 : 0 ≤ b) (b1 : b ≤ 18446744073709551615) : eqE a b = if a = b then 1 else 0 := by
  unfold eqE
  by_cases h : a = b
  · rw [if_pos ((xor_zero a0 a1 b0 b1).2 h), if_pos h]
  · rw [if_neg (fun h1 => h ((xor_zero a0 a1 b0 b1).1 h1)), if_neg h]
set_option maxRecDepth 100000 in
set_option maxHeartbeats 1000000 in
theorem refk_11 (a b : Int) (w : World) (a0 : 0 ≤ a) (a1 : a ≤ 18446744073709551615) (b0 : 0 ≤ b) (b1 : b ≤ 18446744073709551615) : Calls Try.prog 38 #[.int .i64 11, .int .u64 a, .int .u64 b] w fun e w' => e = .returned (.int .u64 (reckE 11 a b)) ∧ w = w' := by
  have HX := Lib.hid (show reckE 11 a b = if a = b then 1 else 0 by rw [← eq_same a0 a1 b0 b1]; rfl)
  clear a0 a1 b0 b1
  by_cases hl : a = b
  case pos =>
    rw [if_pos hl] at HX
    have d : (a == b) = true := by simpa using hl
    clear hl
    go_enter Try.func38, Try.ntmps38
    go_wp2_with fail
    go_ret
    exact ⟨ret_int (by rw [HX.out]), rfl⟩
  rw [if_neg hl] at HX
  have d : (a == b) = false := by simpa using hl
  go_enter Try.func38, Try.ntmps38
  go_wp2_with fail
  go_ret
  exact ⟨ret_int (by rw [HX.out]), rfl⟩
set_option maxRecDepth 100000 in
set_option maxHeartbeats 1000000 in
theorem refk_no (o a b : Int) (w : World) (h : ¬ (2 ≤ o ∧ o ≤ 11)) : Calls Try.prog 38 #[.int .i64 o, .int .u64 a, .int .u64 b] w fun e w' => e = .returned (.int .u64 (reckE o a b)) ∧ w = w' := by
  have t2 : (o == 2) = false := by simp; omega
  have t3 : (o == 3) = false := by simp; omega
  have t4 : (o == 4) = false := by simp; omega
  have t5 : (o == 5) = false := by simp; omega
  have t6 : (o == 6) = false := by simp; omega
  have t7 : (o == 7) = false := by simp; omega
  have t8 : (o == 8) = false := by simp; omega
  have t9 : (o == 9) = false := by simp; omega
  have t10 : (o == 10) = false := by simp; omega
  have t11 : (o == 11) = false := by simp; omega
  have HX := Lib.hid (show reckE o a b = 0 by unfold reckE; repeat (rw [if_neg (by omega)]))
  clear h
  go_enter Try.func38, Try.ntmps38
  go_wp2_with fail
  go_ret
  exact ⟨ret_int HX.out.symm, rfl⟩
theorem refk_any (o a b : Int) (w : World) (a0 : 0 ≤ a) (a1 : a ≤ 18446744073709551615) (b0 : 0 ≤ b) (b1 : b ≤ 18446744073709551615) : Calls Try.prog 38 #[.int .i64 o, .int .u64 a, .int .u64 b] w fun e w' => e = .returned (.int .u64 (reckE o a b)) ∧ w = w' := by
  by_cases h : 2 ≤ o ∧ o ≤ 11
  · obtain ⟨h1, h2⟩ := h
    rcases (by omega : o = 2 ∨ o = 3 ∨ o = 4 ∨ o = 5 ∨ o = 6 ∨ o = 7 ∨ o = 8 ∨ o = 9 ∨ o = 10 ∨ o = 11) with rfl | rfl | rfl | rfl | rfl | rfl | rfl | rfl | rfl | rfl
    · exact refk_2 a b w
    · exact refk_3 a b w
    · exact refk_4 a b w
    · exact refk_5 a b w
    · exact refk_6 a b w
    · exact refk_7 a b w
    · exact refk_8 a b w b0 b1
    · exact refk_9 a b w a0 a1 b0 b1
    · exact refk_10 a b w
    · exact refk_11 a b w a0 a1 b0 b1
  · exact refk_no o a b w h
end Go.Proofs.Ytdjmiaphodfdeaa

namespace Go.Proofs.Ytdjmiaphodfdeaa
open Go.RowKit

set_option maxRecDepth 100000 in
set_option maxHeartbeats 1000000 in
theorem reckons_all (o a b : Int) (w : World) (a0 : 0 ≤ a) (a1 : a ≤ 18446744073709551615) (b0 : 0 ≤ b) (b1 : b ≤ 18446744073709551615) : Calls Try.prog 8 #[.int .i64 o, .int .u64 a, .int .u64 b] w fun e w' => e = .returned (.bool true) ∧ Below w.heap.size w w' := by
  have HS := Lib.hid (vshown_any w)
  have H1 := Lib.hid (fun W => reck_any o a b W b0 b1)
  have H2 := Lib.hid (fun W => refk_any o a b W a0 a1 b0 b1)
  clear a0 a1 b0 b1
  obtain ⟨x, hx⟩ : ∃ x, reckE o a b = x := ⟨_, rfl⟩
  rw [hx] at H1 H2
  clear hx
  go_enter Try.func8, Try.ntmps8
  go_wp2_with fail
  refine HS.out.mono ?_
  rintro r w1 ⟨rfl, hb⟩
  have HB := Lib.hid hb
  clear hb
  go_wp2_with fail
  refine (H1.out _).mono ?_
  rintro r w2 ⟨rfl, rfl⟩
  go_wp2_with fail
  refine (H2.out _).mono ?_
  rintro r w2 ⟨rfl, rfl⟩
  go_wp2_with fail
  go_ret
  exact ⟨rfl, HB.out⟩
end Go.Proofs.Ytdjmiaphodfdeaa

namespace Go.Proofs.Ytdjmiaphodfdeaa
open Go.RowKit

theorem add_back {a b : Int} (a0 : 0 ≤ a) (a1 : a ≤ 18446744073709551615) : reckE 3 (reckE 2 a b) b = a := by
  simp only [reckE, if_true, show ¬ ((3 : Int) = 2) by decide, if_false]
  rw [IntKind.wrap_u64, IntKind.wrap_u64, IntKind.wrap_u64]; omega
/-- what the statement's calls answer -/
def ShiftsE (a n b L E : Int) : Prop := (reckE 8 a n = shlE a n ∧ reckE 9 (shlE a n) n = IntKind.u64.wrap (a * 2 ^ (n % 64).toNat) / 2 ^ (n % 64).toNat ∧ reckE 10 a b = L ∧ reckE 11 a b = E) ∧ reckE 3 (reckE 2 a b) b = a ∧ reckE 1 a b = 0
set_option maxRecDepth 100000 in
set_option maxHeartbeats 1000000 in
theorem shifts_lt (hs : ∀ w : World, Calls Try.prog 31 #[] w fun e w' => e = .returned (.bool true) ∧ Below w.heap.size w w') (a n b : Int) (w : World) (a0 : 0 ≤ a) (a1 : a ≤ 18446744073709551615) (n0 : 0 ≤ n) (n1 : n ≤ 18446744073709551615) (b0 : 0 ≤ b) (b1 : b ≤ 18446744073709551615) (hp : ShiftsE a n b 1 0) (dl : decide (a < b) = true) (de : (a == b) = false) : Calls Try.prog 14 #[.int .u64 a, .int .u64 n, .int .u64 b] w fun e w' => e = .returned (.bool true) ∧ Below w.heap.size w w' := by
  obtain ⟨⟨p8, p9, p10, p11⟩, p3, p1⟩ := hp
  have HS := Lib.hid (hs w)
  have H8 := Lib.hid (fun W => reck_any 8 a n W n0 n1)
  have H9 := Lib.hid (fun W => reck_any 9 (shlE a n) n W n0 n1)
  have H10 := Lib.hid (fun W => reck_any 10 a b W b0 b1)
  have H11 := Lib.hid (fun W => reck_any 11 a b W b0 b1)
  have H2 := Lib.hid (fun W => reck_any 2 a b W b0 b1)
  have H3 := Lib.hid (fun W => reck_any 3 (reckE 2 a b) b W b0 b1)
  have H1 := Lib.hid (fun W => reck_any 1 a b W b0 b1)
  have H1' := Lib.hid (fun W => refk_any 1 a b W a0 a1 b0 b1)
  rw [p8] at H8
  rw [p9] at H9
  rw [p10] at H10
  rw [p11] at H11
  rw [p3] at H3
  rw [p1] at H1 H1'
  clear p8 p9 p10 p11 p3 p1 hs
  obtain ⟨x8, hx8⟩ : ∃ x, shlE a n = x := ⟨_, rfl⟩
  obtain ⟨x2, hx2⟩ : ∃ x, reckE 2 a b = x := ⟨_, rfl⟩
  rw [hx8] at H8 H9
  rw [hx2] at H2 H3
  clear hx8 hx2
  go_enter Try.func14, Try.ntmps14
  go_wp2_with fail
  refine HS.out.mono ?_
  rintro r w1 ⟨rfl, hb⟩
  have HB := Lib.hid hb
  clear hb HS
  go_wp2_with fail
  refine (H8.out _).mono ?_
  rintro r w2 ⟨rfl, rfl⟩
  go_wp2_with fail
  refine (H9.out _).mono ?_
  rintro r w2 ⟨rfl, rfl⟩
  go_wp2_with fail
  refine (H10.out _).mono ?_
  rintro r w2 ⟨rfl, rfl⟩
  go_wp2_with fail
  refine (H11.out _).mono ?_
  rintro r w2 ⟨rfl, rfl⟩
  go_wp2_with fail
  refine (H2.out _).mono ?_
  rintro r w2 ⟨rfl, rfl⟩
  go_wp2_with fail
  refine (H3.out _).mono ?_
  rintro r w2 ⟨rfl, rfl⟩
  go_wp2_with fail
  refine (H1'.out _).mono ?_
  rintro r w2 ⟨rfl, rfl⟩
  go_wp2_with fail
  refine (H1.out _).mono ?_
  rintro r w2 ⟨rfl, rfl⟩
  go_wp2_with fail
  go_ret
  exact ⟨rfl, HB.out⟩
set_option maxRecDepth 100000 in
set_option maxHeartbeats 1000000 in
theorem shifts_eq (hs : ∀ w : World, Calls Try.prog 31 #[] w fun e w' => e = .returned (.bool true) ∧ Below w.heap.size w w') (a n b : Int) (w : World) (a0 : 0 ≤ a) (a1 : a ≤ 18446744073709551615) (n0 : 0 ≤ n) (n1 : n ≤ 18446744073709551615) (b0 : 0 ≤ b) (b1 : b ≤ 18446744073709551615) (hp : ShiftsE a n b 0 1) (dl : decide (a < b) = false) (de : (a == b) = true) : Calls Try.prog 14 #[.int .u64 a, .int .u64 n, .int .u64 b] w fun e w' => e = .returned (.bool true) ∧ Below w.heap.size w w' := by
  obtain ⟨⟨p8, p9, p10, p11⟩, p3, p1⟩ := hp
  have HS := Lib.hid (hs w)
  have H8 := Lib.hid (fun W => reck_any 8 a n W n0 n1)
  have H9 := Lib.hid (fun W => reck_any 9 (shlE a n) n W n0 n1)
  have H10 := Lib.hid (fun W => reck_any 10 a b W b0 b1)
  have H11 := Lib.hid (fun W => reck_any 11 a b W b0 b1)
  have H2 := Lib.hid (fun W => reck_any 2 a b W b0 b1)
  have H3 := Lib.hid (fun W => reck_any 3 (reckE 2 a b) b W b0 b1)
  have H1 := Lib.hid (fun W => reck_any 1 a b W b0 b1)
  have H1' := Lib.hid (fun W => refk_any 1 a b W a0 a1 b0 b1)
  rw [p8] at H8
  rw [p9] at H9
  rw [p10] at H10
  rw [p11] at H11
  rw [p3] at H3
  rw [p1] at H1 H1'
  clear p8 p9 p10 p11 p3 p1 hs
  obtain ⟨x8, hx8⟩ : ∃ x, shlE a n = x := ⟨_, rfl⟩
  obtain ⟨x2, hx2⟩ : ∃ x, reckE 2 a b = x := ⟨_, rfl⟩
  rw [hx8] at H8 H9
  rw [hx2] at H2 H3
  clear hx8 hx2
  go_enter Try.func14, Try.ntmps14
  go_wp2_with fail
  refine HS.out.mono ?_
  rintro r w1 ⟨rfl, hb⟩
  have HB := Lib.hid hb
  clear hb HS
  go_wp2_with fail
  refine (H8.out _).mono ?_
  rintro r w2 ⟨rfl, rfl⟩
  go_wp2_with fail
  refine (H9.out _).mono ?_
  rintro r w2 ⟨rfl, rfl⟩
  go_wp2_with fail
  refine (H10.out _).mono ?_
  rintro r w2 ⟨rfl, rfl⟩
  go_wp2_with fail
  refine (H11.out _).mono ?_
  rintro r w2 ⟨rfl, rfl⟩
  go_wp2_with fail
  refine (H2.out _).mono ?_
  rintro r w2 ⟨rfl, rfl⟩
  go_wp2_with fail
  refine (H3.out _).mono ?_
  rintro r w2 ⟨rfl, rfl⟩
  go_wp2_with fail
  refine (H1'.out _).mono ?_
  rintro r w2 ⟨rfl, rfl⟩
  go_wp2_with fail
  refine (H1.out _).mono ?_
  rintro r w2 ⟨rfl, rfl⟩
  go_wp2_with fail
  go_ret
  exact ⟨rfl, HB.out⟩
set_option maxRecDepth 100000 in
set_option maxHeartbeats 1000000 in
theorem shifts_gt (hs : ∀ w : World, Calls Try.prog 31 #[] w fun e w' => e = .returned (.bool true) ∧ Below w.heap.size w w') (a n b : Int) (w : World) (a0 : 0 ≤ a) (a1 : a ≤ 18446744073709551615) (n0 : 0 ≤ n) (n1 : n ≤ 18446744073709551615) (b0 : 0 ≤ b) (b1 : b ≤ 18446744073709551615) (hp : ShiftsE a n b 0 0) (dl : decide (a < b) = false) (de : (a == b) = false) : Calls Try.prog 14 #[.int .u64 a, .int .u64 n, .int .u64 b] w fun e w' => e = .returned (.bool true) ∧ Below w.heap.size w w' := by
  obtain ⟨⟨p8, p9, p10, p11⟩, p3, p1⟩ := hp
  have HS := Lib.hid (hs w)
  have H8 := Lib.hid (fun W => reck_any 8 a n W n0 n1)
  have H9 := Lib.hid (fun W => reck_any 9 (shlE a n) n W n0 n1)
  have H10 := Lib.hid (fun W => reck_any 10 a b W b0 b1)
  have H11 := Lib.hid (fun W => reck_any 11 a b W b0 b1)
  have H2 := Lib.hid (fun W => reck_any 2 a b W b0 b1)
  have H3 := Lib.hid (fun W => reck_any 3 (reckE 2 a b) b W b0 b1)
  have H1 := Lib.hid (fun W => reck_any 1 a b W b0 b1)
  have H1' := Lib.hid (fun W => refk_any 1 a b W a0 a1 b0 b1)
  rw [p8] at H8
  rw [p9] at H9
  rw [p10] at H10
  rw [p11] at H11
  rw [p3] at H3
  rw [p1] at H1 H1'
  clear p8 p9 p10 p11 p3 p1 hs
  obtain ⟨x8, hx8⟩ : ∃ x, shlE a n = x := ⟨_, rfl⟩
  obtain ⟨x2, hx2⟩ : ∃ x, reckE 2 a b = x := ⟨_, rfl⟩
  rw [hx8] at H8 H9
  rw [hx2] at H2 H3
  clear hx8 hx2
  go_enter Try.func14, Try.ntmps14
  go_wp2_with fail
  refine HS.out.mono ?_
  rintro r w1 ⟨rfl, hb⟩
  have HB := Lib.hid hb
  clear hb HS
  go_wp2_with fail
  refine (H8.out _).mono ?_
  rintro r w2 ⟨rfl, rfl⟩
  go_wp2_with fail
  refine (H9.out _).mono ?_
  rintro r w2 ⟨rfl, rfl⟩
  go_wp2_with fail
  refine (H10.out _).mono ?_
  rintro r w2 ⟨rfl, rfl⟩
  go_wp2_with fail
  refine (H11.out _).mono ?_
  rintro r w2 ⟨rfl, rfl⟩
  go_wp2_with fail
  refine (H2.out _).mono ?_
  rintro r w2 ⟨rfl, rfl⟩
  go_wp2_with fail
  refine (H3.out _).mono ?_
  rintro r w2 ⟨rfl, rfl⟩
  go_wp2_with fail
  refine (H1'.out _).mono ?_
  rintro r w2 ⟨rfl, rfl⟩
  go_wp2_with fail
  refine (H1.out _).mono ?_
  rintro r w2 ⟨rfl, rfl⟩
  go_wp2_with fail
  go_ret
  exact ⟨rfl, HB.out⟩
theorem shifts_all (hs : ∀ w : World, Calls Try.prog 31 #[] w fun e w' => e = .returned (.bool true) ∧ Below w.heap.size w w') (a n b : Int) (w : World) (a0 : 0 ≤ a) (a1 : a ≤ 18446744073709551615) (n0 : 0 ≤ n) (n1 : n ≤ 18446744073709551615) (b0 : 0 ≤ b) (b1 : b ≤ 18446744073709551615) : Calls Try.prog 14 #[.int .u64 a, .int .u64 n, .int .u64 b] w fun e w' => e = .returned (.bool true) ∧ Below w.heap.size w w' := by
  have p8 : reckE 8 a n = shlE a n := by simp [reckE]
  have p9 : reckE 9 (shlE a n) n = IntKind.u64.wrap (a * 2 ^ (n % 64).toNat) / 2 ^ (n % 64).toNat := by simp [reckE, shrE, shlE]
  have p10 : reckE 10 a b = if a < b then 1 else 0 := by simp [reckE, lessE]
  have p11 : reckE 11 a b = if a = b then 1 else 0 := by rw [← eq_same a0 a1 b0 b1]; rfl
  have p1 : reckE 1 a b = 0 := by simp [reckE]
  by_cases h1 : a < b
  · exact shifts_lt hs a n b w a0 a1 n0 n1 b0 b1 ⟨⟨p8, p9, by rw [p10, if_pos h1], by rw [p11, if_neg (by omega)]⟩, add_back a0 a1, p1⟩ (by simpa using h1) (by simp; omega)
  · by_cases h2 : a = b
    · exact shifts_eq hs a n b w a0 a1 n0 n1 b0 b1 ⟨⟨p8, p9, by rw [p10, if_neg h1], by rw [p11, if_pos h2]⟩, add_back a0 a1, p1⟩ (by simpa using h1) (by simpa using h2)
    · exact shifts_gt hs a n b w a0 a1 n0 n1 b0 b1 ⟨⟨p8, p9, by rw [p10, if_neg h1], by rw [p11, if_neg h2]⟩, add_back a0 a1, p1⟩ (by simpa using h1) (by simpa using h2)
end Go.Proofs.Ytdjmiaphodfdeaa
