/- Package ir: may a name, a binding, a number of parameters be? -/
import Derived.Test.YtkalgiaapkjplaaI1
namespace Go.Proofs.Ytkalgiaapkjplaa
open Go.RowKit

theorem mayBind_any (b : Int) (w : World) : Calls Try.prog 48 #[.int .i64 b] w fun e w' => e = .returned (.bool (decide (1 ≤ b) && decide (b ≤ 3))) ∧ w = w' := by
  by_cases h0 : 1 ≤ b
  · have t0 : decide (1 ≤ b) = true := decide_eq_true h0
    by_cases h1 : b ≤ 3
    · have t1 : decide (b ≤ 3) = true := decide_eq_true h1
      rw [t0, t1]
      clear h0 h1
      go_enter Try.func48, Try.ntmps48
      go_wp2_with fail
      go_ret
      exact ⟨rfl, rfl⟩
    · have t1 : decide (b ≤ 3) = false := decide_eq_false h1
      rw [t0, t1]
      clear h0 h1
      go_enter Try.func48, Try.ntmps48
      go_wp2_with fail
      go_ret
      exact ⟨rfl, rfl⟩
  · have t0 : decide (1 ≤ b) = false := decide_eq_false h0
    rw [t0]
    clear h0
    go_enter Try.func48, Try.ntmps48
    go_wp2_with fail
    go_ret
    exact ⟨rfl, rfl⟩
theorem mayParams_any (b : Int) (w : World) : Calls Try.prog 49 #[.int .i64 b] w fun e w' => e = .returned (.bool (decide (0 ≤ b) && decide (b ≤ 6))) ∧ w = w' := by
  by_cases h0 : 0 ≤ b
  · have t0 : decide (0 ≤ b) = true := decide_eq_true h0
    by_cases h1 : b ≤ 6
    · have t1 : decide (b ≤ 6) = true := decide_eq_true h1
      rw [t0, t1]
      clear h0 h1
      go_enter Try.func49, Try.ntmps49
      go_wp2_with fail
      go_ret
      exact ⟨rfl, rfl⟩
    · have t1 : decide (b ≤ 6) = false := decide_eq_false h1
      rw [t0, t1]
      clear h0 h1
      go_enter Try.func49, Try.ntmps49
      go_wp2_with fail
      go_ret
      exact ⟨rfl, rfl⟩
  · have t0 : decide (0 ≤ b) = false := decide_eq_false h0
    rw [t0]
    clear h0
    go_enter Try.func49, Try.ntmps49
    go_wp2_with fail
    go_ret
    exact ⟨rfl, rfl⟩
theorem mayName_any (s : ByteArray) (w : World) (_hs : s.size < 9223372036854775808) : Calls Try.prog 47 #[.string s] w fun e w' => e = .returned (.bool (decide (1 ≤ (s.size : Int)) && decide ((s.size : Int) ≤ 16))) ∧ w = w' := by
  by_cases h0 : 1 ≤ (s.size : Int)
  · have t0 : decide (1 ≤ (s.size : Int)) = true := decide_eq_true h0
    by_cases h1 : (s.size : Int) ≤ 16
    · have t1 : decide ((s.size : Int) ≤ 16) = true := decide_eq_true h1
      rw [t0, t1]
      clear h0 h1
      go_enter Try.func47, Try.ntmps47
      go_wp2_with fail
      go_ret
      exact ⟨rfl, rfl⟩
    · have t1 : decide ((s.size : Int) ≤ 16) = false := decide_eq_false h1
      rw [t0, t1]
      clear h0 h1
      go_enter Try.func47, Try.ntmps47
      go_wp2_with fail
      go_ret
      exact ⟨rfl, rfl⟩
  · have t0 : decide (1 ≤ (s.size : Int)) = false := decide_eq_false h0
    rw [t0]
    clear h0
    go_enter Try.func47, Try.ntmps47
    go_wp2_with fail
    go_ret
    exact ⟨rfl, rfl⟩
end Go.Proofs.Ytkalgiaapkjplaa
