/- Package eval: what an operation gives. -/
import Derived.Test.YtkalgiaapkjplaaX1
import Derived.Test.YtkalgiaapkjplaaJ0
namespace Go.Proofs.Ytkalgiaapkjplaa
open Go.RowKit

def shlE (a b : Int) : Int := IntKind.u64.wrap (a * 2 ^ (b % 64).toNat)
def shrE (a b : Int) : Int := a / 2 ^ (b % 64).toNat
def lessE (a b : Int) : Int := if a < b then 1 else 0
def eqE (a b : Int) : Int := if bits BinOp.xor IntKind.u64 a b < 1 then 1 else 0
/-- what an operation gives -/
def reckE (o a b : Int) : Int :=
  if o = 2 then IntKind.u64.wrap (a + b)
  else if o = 3 then IntKind.u64.wrap (a + IntKind.u64.wrap (-b))
  else if o = 4 then IntKind.u64.wrap (a * b)
  else if o = 5 then bits BinOp.and IntKind.u64 a b
  else if o = 6 then bits BinOp.or IntKind.u64 a b
  else if o = 7 then bits BinOp.xor IntKind.u64 a b
  else if o = 8 then shlE a b
  else if o = 9 then shrE a b
  else if o = 10 then lessE a b
  else if o = 11 then eqE a b
  else 0
set_option maxRecDepth 100000 in
set_option maxHeartbeats 1000000 in
theorem reck_2 (a b : Int) (w : World) : Calls Try.prog 117 #[.int .i64 2, .int .u64 a, .int .u64 b] w fun e w' => e = .returned (.int .u64 (reckE 2 a b)) ∧ w = w' := by
  go_enter Try.func117, Try.ntmps117
  repeat (first | (with_reducible refine xt_exit ?_) | (with_reducible refine xb_hit ?_) | (with_reducible refine xb_skip rfl ?_) | (with_reducible refine xt_norm ?_) | (with_reducible refine xb_norm ?_) | (with_reducible refine xt_ret ?_) | (with_reducible refine xb_ret ?_) | (go_big_may; fail) | go_values | go_skip | go_guarded | go_step | go_upon | go_back)
  go_ret
  exact ⟨ret_int (by simp [reckE]), rfl⟩
set_option maxRecDepth 100000 in
set_option maxHeartbeats 1000000 in
theorem reck_3 (a b : Int) (w : World) : Calls Try.prog 117 #[.int .i64 3, .int .u64 a, .int .u64 b] w fun e w' => e = .returned (.int .u64 (reckE 3 a b)) ∧ w = w' := by
  go_enter Try.func117, Try.ntmps117
  repeat (first | (with_reducible refine xt_exit ?_) | (with_reducible refine xb_hit ?_) | (with_reducible refine xb_skip rfl ?_) | (with_reducible refine xt_norm ?_) | (with_reducible refine xb_norm ?_) | (with_reducible refine xt_ret ?_) | (with_reducible refine xb_ret ?_) | (go_big_may; fail) | go_values | go_skip | go_guarded | go_step | go_upon | go_back)
  go_ret
  exact ⟨ret_int (by simp [reckE]), rfl⟩
set_option maxRecDepth 100000 in
set_option maxHeartbeats 1000000 in
theorem reck_4 (a b : Int) (w : World) : Calls Try.prog 117 #[.int .i64 4, .int .u64 a, .int .u64 b] w fun e w' => e = .returned (.int .u64 (reckE 4 a b)) ∧ w = w' := by
  go_enter Try.func117, Try.ntmps117
  repeat (first | (with_reducible refine xt_exit ?_) | (with_reducible refine xb_hit ?_) | (with_reducible refine xb_skip rfl ?_) | (with_reducible refine xt_norm ?_) | (with_reducible refine xb_norm ?_) | (with_reducible refine xt_ret ?_) | (with_reducible refine xb_ret ?_) | (go_big_may; fail) | go_values | go_skip | go_guarded | go_step | go_upon | go_back)
  go_ret
  exact ⟨ret_int (by simp [reckE]), rfl⟩
set_option maxRecDepth 100000 in
set_option maxHeartbeats 1000000 in
theorem reck_5 (a b : Int) (w : World) : Calls Try.prog 117 #[.int .i64 5, .int .u64 a, .int .u64 b] w fun e w' => e = .returned (.int .u64 (reckE 5 a b)) ∧ w = w' := by
  go_enter Try.func117, Try.ntmps117
  repeat (first | (with_reducible refine xt_exit ?_) | (with_reducible refine xb_hit ?_) | (with_reducible refine xb_skip rfl ?_) | (with_reducible refine xt_norm ?_) | (with_reducible refine xb_norm ?_) | (with_reducible refine xt_ret ?_) | (with_reducible refine xb_ret ?_) | (go_big_may; fail) | go_values | go_skip | go_guarded | go_step | go_upon | go_back)
  go_ret
  exact ⟨ret_int (by simp [reckE]), rfl⟩
set_option maxRecDepth 100000 in
set_option maxHeartbeats 1000000 in
theorem reck_6 (a b : Int) (w : World) : Calls Try.prog 117 #[.int .i64 6, .int .u64 a, .int .u64 b] w fun e w' => e = .returned (.int .u64 (reckE 6 a b)) ∧ w = w' := by
  go_enter Try.func117, Try.ntmps117
  repeat (first | (with_reducible refine xt_exit ?_) | (with_reducible refine xb_hit ?_) | (with_reducible refine xb_skip rfl ?_) | (with_reducible refine xt_norm ?_) | (with_reducible refine xb_norm ?_) | (with_reducible refine xt_ret ?_) | (with_reducible refine xb_ret ?_) | (go_big_may; fail) | go_values | go_skip | go_guarded | go_step | go_upon | go_back)
  go_ret
  exact ⟨ret_int (by simp [reckE]), rfl⟩
set_option maxRecDepth 100000 in
set_option maxHeartbeats 1000000 in
theorem reck_7 (a b : Int) (w : World) : Calls Try.prog 117 #[.int .i64 7, .int .u64 a, .int .u64 b] w fun e w' => e = .returned (.int .u64 (reckE 7 a b)) ∧ w = w' := by
  go_enter Try.func117, Try.ntmps117
  repeat (first | (with_reducible refine xt_exit ?_) | (with_reducible refine xb_hit ?_) | (with_reducible refine xb_skip rfl ?_) | (with_reducible refine xt_norm ?_) | (with_reducible refine xb_norm ?_) | (with_reducible refine xt_ret ?_) | (with_reducible refine xb_ret ?_) | (go_big_may; fail) | go_values | go_skip | go_guarded | go_step | go_upon | go_back)
  go_ret
  exact ⟨ret_int (by simp [reckE]), rfl⟩
set_option maxRecDepth 100000 in
set_option maxHeartbeats 1000000 in
theorem reck_8 (a b : Int) (w : World) (b0 : 0 ≤ b) (b1 : b ≤ 18446744073709551615) : Calls Try.prog 117 #[.int .i64 8, .int .u64 a, .int .u64 b] w fun e w' => e = .returned (.int .u64 (reckE 8 a b)) ∧ w = w' := by
  go_enter Try.func117, Try.ntmps117
  repeat (first | (with_reducible refine xt_exit ?_) | (with_reducible refine xb_hit ?_) | (with_reducible refine xb_skip rfl ?_) | (with_reducible refine xt_norm ?_) | (with_reducible refine xb_norm ?_) | (with_reducible refine xt_ret ?_) | (with_reducible refine xb_ret ?_) | (go_big_may; fail) | go_values | go_skip | go_guarded | go_step | go_upon | go_back)
  go_ret
  exact ⟨ret_int (by simp [reckE, shlE]), rfl⟩
set_option maxRecDepth 100000 in
set_option maxHeartbeats 1000000 in
theorem reck_9 (a b : Int) (w : World) (b0 : 0 ≤ b) (b1 : b ≤ 18446744073709551615) : Calls Try.prog 117 #[.int .i64 9, .int .u64 a, .int .u64 b] w fun e w' => e = .returned (.int .u64 (reckE 9 a b)) ∧ w = w' := by
  go_enter Try.func117, Try.ntmps117
  repeat (first | (with_reducible refine xt_exit ?_) | (with_reducible refine xb_hit ?_) | (with_reducible refine xb_skip rfl ?_) | (with_reducible refine xt_norm ?_) | (with_reducible refine xb_norm ?_) | (with_reducible refine xt_ret ?_) | (with_reducible refine xb_ret ?_) | (go_big_may; fail) | go_values | go_skip | go_guarded | go_step | go_upon | go_back)
  go_ret
  exact ⟨ret_int (by simp [reckE, shrE]), rfl⟩
set_option maxRecDepth 100000 in
set_option maxHeartbeats 1000000 in
theorem reck_10 (a b : Int) (w : World) : Calls Try.prog 117 #[.int .i64 10, .int .u64 a, .int .u64 b] w fun e w' => e = .returned (.int .u64 (reckE 10 a b)) ∧ w = w' := by
  by_cases hl : a < b
  case pos =>
    have d : decide (a < b) = true := by simpa using hl
    go_enter Try.func117, Try.ntmps117
    repeat (first | (with_reducible refine xt_exit ?_) | (with_reducible refine xb_hit ?_) | (with_reducible refine xb_skip rfl ?_) | (with_reducible refine xt_norm ?_) | (with_reducible refine xb_norm ?_) | (with_reducible refine xt_ret ?_) | (with_reducible refine xb_ret ?_) | (go_big_may; fail) | go_values | go_skip | go_guarded | go_step | go_upon | go_back)
    go_ret
    exact ⟨ret_int (by simp [reckE, lessE, hl]), rfl⟩
  have d : decide (a < b) = false := by simpa using hl
  go_enter Try.func117, Try.ntmps117
  repeat (first | (with_reducible refine xt_exit ?_) | (with_reducible refine xb_hit ?_) | (with_reducible refine xb_skip rfl ?_) | (with_reducible refine xt_norm ?_) | (with_reducible refine xb_norm ?_) | (with_reducible refine xt_ret ?_) | (with_reducible refine xb_ret ?_) | (go_big_may; fail) | go_values | go_skip | go_guarded | go_step | go_upon | go_back)
  go_ret
  exact ⟨ret_int (by simp [reckE, lessE, hl]), rfl⟩
set_option maxRecDepth 100000 in
set_option maxHeartbeats 1000000 in
theorem reck_11 (a b : Int) (w : World) : Calls Try.prog 117 #[.int .i64 11, .int .u64 a, .int .u64 b] w fun e w' => e = .returned (.int .u64 (reckE 11 a b)) ∧ w = w' := by
  have HE := Lib.hid (show eqE a b = if bits BinOp.xor IntKind.u64 a b < 1 then 1 else 0 from rfl)
  obtain ⟨x, hx⟩ : ∃ x, bits BinOp.xor IntKind.u64 a b = x := ⟨_, rfl⟩
  have hx2 : bits BinOp.xor IntKind.u64 a b = x := hx
  rw [hx] at HE
  by_cases hl : x < 1
  case pos =>
    have d : decide (x < 1) = true := by simpa using hl
    have HX := Lib.hid (show reckE 11 a b = 1 by simp only [reckE]; simp only [show ¬ ((11 : Int) = 2) by decide, show ¬ ((11 : Int) = 3) by decide, show ¬ ((11 : Int) = 4) by decide, show ¬ ((11 : Int) = 5) by decide, show ¬ ((11 : Int) = 6) by decide, show ¬ ((11 : Int) = 7) by decide, show ¬ ((11 : Int) = 8) by decide, show ¬ ((11 : Int) = 9) by decide, show ¬ ((11 : Int) = 10) by decide, if_false, if_true]; rw [HE.out, if_pos hl])
    clear hx2 HE
    go_enter Try.func117, Try.ntmps117
    repeat (first | (with_reducible refine xt_exit ?_) | (with_reducible refine xb_hit ?_) | (with_reducible refine xb_skip rfl ?_) | (with_reducible refine xt_norm ?_) | (with_reducible refine xb_norm ?_) | (with_reducible refine xt_ret ?_) | (with_reducible refine xb_ret ?_) | (go_big_may; fail) | go_values | go_skip | go_guarded | go_step | go_upon | go_back)
    go_ret
    exact ⟨ret_int HX.out.symm, rfl⟩
  have d : decide (x < 1) = false := by simpa using hl
  have HX := Lib.hid (show reckE 11 a b = 0 by simp only [reckE]; simp only [show ¬ ((11 : Int) = 2) by decide, show ¬ ((11 : Int) = 3) by decide, show ¬ ((11 : Int) = 4) by decide, show ¬ ((11 : Int) = 5) by decide, show ¬ ((11 : Int) = 6) by decide, show ¬ ((11 : Int) = 7) by decide, show ¬ ((11 : Int) = 8) by decide, show ¬ ((11 : Int) = 9) by decide, show ¬ ((11 : Int) = 10) by decide, if_false, if_true]; rw [HE.out, if_neg hl])
  clear hx2 HE
  go_enter Try.func117, Try.ntmps117
  repeat (first | (with_reducible refine xt_exit ?_) | (with_reducible refine xb_hit ?_) | (with_reducible refine xb_skip rfl ?_) | (with_reducible refine xt_norm ?_) | (with_reducible refine xb_norm ?_) | (with_reducible refine xt_ret ?_) | (with_reducible refine xb_ret ?_) | (go_big_may; fail) | go_values | go_skip | go_guarded | go_step | go_upon | go_back)
  go_ret
  exact ⟨ret_int HX.out.symm, rfl⟩
set_option maxRecDepth 100000 in
set_option maxHeartbeats 1000000 in
theorem reck_no (o a b : Int) (w : World) (h : ¬ (2 ≤ o ∧ o ≤ 11)) : Calls Try.prog 117 #[.int .i64 o, .int .u64 a, .int .u64 b] w fun e w' => e = .returned (.int .u64 (reckE o a b)) ∧ w = w' := by
  have t2 : (o == 2) = false := by simp; omega
  have t3 : (o == 3) = false := by simp; omega
  have t4 : (o == 4) = false := by simp; omega
  have t5 : (o == 5) = false := by simp; omega
  have t6 : (o == 6) = false := by simp; omega
  have t7 : (o == 7) = false := by simp; omega
  have t8 : (o == 8) = false := by simp; omega
  have t9 : (o == 9) = false := by simp; omega
  have t10 : (o == 10) = false := by simp; omega
  have t11 : (o == 11) = false := by simp; omega
  have HX := Lib.hid (show reckE o a b = 0 by unfold reckE; repeat (rw [if_neg (by omega)]))
  clear h
  go_enter Try.func117, Try.ntmps117
  repeat (first | (with_reducible refine xt_exit ?_) | (with_reducible refine xb_hit ?_) | (with_reducible refine xb_skip rfl ?_) | (with_reducible refine xt_norm ?_) | (with_reducible refine xb_norm ?_) | (with_reducible refine xt_ret ?_) | (with_reducible refine xb_ret ?_) | (go_big_may; fail) | go_values | go_skip | go_guarded | go_step | go_upon | go_back)
  go_ret
  exact ⟨ret_int HX.out.symm, rfl⟩
theorem reck_any (o a b : Int) (w : World) (b0 : 0 ≤ b) (b1 : b ≤ 18446744073709551615) : Calls Try.prog 117 #[.int .i64 o, .int .u64 a, .int .u64 b] w fun e w' => e = .returned (.int .u64 (reckE o a b)) ∧ w = w' := by
  by_cases h : 2 ≤ o ∧ o ≤ 11
  · obtain ⟨h1, h2⟩ := h
    rcases (by omega : o = 2 ∨ o = 3 ∨ o = 4 ∨ o = 5 ∨ o = 6 ∨ o = 7 ∨ o = 8 ∨ o = 9 ∨ o = 10 ∨ o = 11) with rfl | rfl | rfl | rfl | rfl | rfl | rfl | rfl | rfl | rfl
    · exact reck_2 a b w
    · exact reck_3 a b w
    · exact reck_4 a b w
    · exact reck_5 a b w
    · exact reck_6 a b w
    · exact reck_7 a b w
    · exact reck_8 a b w b0 b1
    · exact reck_9 a b w b0 b1
    · exact reck_10 a b w
    · exact reck_11 a b w
  · exact reck_no o a b w h
end Go.Proofs.Ytkalgiaapkjplaa
