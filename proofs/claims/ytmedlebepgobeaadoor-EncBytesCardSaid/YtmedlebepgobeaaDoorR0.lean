/- Walks of the small functions of the document's answer for layer 1: form, fixed, reg, power, part, May. -/
import Derived.Test.YtmedlebepgobeaaDoorL1
import Derived.Deep.QuietTactic
import Derived.BigQuiet
import Derived.Outline
namespace Go.Proofs.YtmedlebepgobeaaDoor
open Go.RowKit

def letter (f : Nat) : Int := [82, 73, 72, 83, 66, 85, 74, 69].getD f 69
def pw : Nat → Int
  | 0 => 1
  | n + 1 => pw n + pw n
theorem pw_in {n : Nat} (h : n ≤ 31) : 1 ≤ pw n ∧ pw n ≤ 2147483648 := M.split (P := fun n => 1 ≤ pw n ∧ pw n ≤ 2147483648) (by decide) (by omega)
theorem kinds_cases {P : Nat → Prop} (h : ∀ k ∈ List.range 32, 1 ≤ k → P k) {k : Nat} (k1 : 1 ≤ k) (k2 : k < 32) : P k := h k (by simp [k2]) k1

theorem kind_list {k : Nat} (k1 : 1 ≤ k) (k2 : k < 32) : k = 1 ∨ k = 2 ∨ k = 3 ∨ k = 4 ∨ k = 5 ∨ k = 6 ∨ k = 7 ∨ k = 8 ∨ k = 9 ∨ k = 10 ∨ k = 11 ∨ k = 12 ∨ k = 13 ∨ k = 14 ∨ k = 15 ∨ k = 16 ∨ k = 17 ∨ k = 18 ∨ k = 19 ∨ k = 20 ∨ k = 21 ∨ k = 22 ∨ k = 23 ∨ k = 24 ∨ k = 25 ∨ k = 26 ∨ k = 27 ∨ k = 28 ∨ k = 29 ∨ k = 30 ∨ k = 31 := by omega
set_option maxHeartbeats 4000000 in
theorem form_any (k : Nat) (k1 : 1 ≤ k) (k2 : k < 32) (w : World) : Calls Tryd.prog 25 #[.int .i64 k] w fun e w' => e = .returned (.int .u8 (letter (M.fm k))) ∧ w = w' := by
  rcases kind_list k1 k2 with rfl | rfl | rfl | rfl | rfl | rfl | rfl | rfl | rfl | rfl | rfl | rfl | rfl | rfl | rfl | rfl | rfl | rfl | rfl | rfl | rfl | rfl | rfl | rfl | rfl | rfl | rfl | rfl | rfl | rfl | rfl
  all_goals
    clear k1 k2
    go_enter Tryd.func25, Tryd.ntmps25
    go_wp2
    go_ret
    exact ⟨rfl, rfl⟩
theorem rreg_any (r : Int) (w : World) : Calls Tryd.prog 34 #[.int .i64 r] w fun e w' => e = .returned (.bool (M.reg r true)) ∧ w = w' := by
  go_enter Tryd.func34, Tryd.ntmps34
  go_wp2
  all_goals go_ret
  all_goals exact ⟨ret_bool (by rw [Bool.eq_iff_iff]; simp [M.reg]; omega), rfl⟩

theorem power_any (n : Int) (h0 : 0 ≤ n) (h1 : n ≤ 31) (w : World) : Calls Tryd.prog 27 #[.int .i64 n] w fun e w' => e = .returned (.int .u32 (pw n.toNat)) ∧ w = w' := by
  obtain ⟨N, rfl⟩ := Int.eq_ofNat_of_zero_le h0
  rw [Int.toNat_natCast]
  go_enter Tryd.func27, Tryd.ntmps27
  go_wp2_with fail
  go_loop [0, 3] (fun i v => ∃ j : Nat, j ≤ N ∧ i = .int .i64 ((N : Int) - j) ∧ v = .int .u32 (pw j)) (fun i _ => (intOf i).toNat)
  case atStart => exact ⟨0, Nat.zero_le _, by simp, rfl⟩
  case round =>
    obtain ⟨j, hj, rfl, rfl⟩ := hrel
    obtain ⟨p1, p2⟩ := pw_in (n := j) (by omega)
    by_cases hlt : j < N
    · obtain ⟨q1, q2⟩ := pw_in (n := j + 1) (by omega)
      have q3 : pw j + pw j ≤ 2147483648 := q2
      clear q1 q2
      go_wp2_with fail
      go_round
      case rel => exact ⟨j + 1, by omega, by go_num, rfl⟩
      case measure => simp [intOf]; omega
    · obtain rfl : j = N := by omega
      go_wp2_with fail
      go_ret
      exact ⟨rfl, rfl⟩

end Go.Proofs.YtmedlebepgobeaaDoor
