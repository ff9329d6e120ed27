/- Walks of the small functions of the document's answer for layer 1: form, fixed, reg, power, part, May. Walks of part and May of the document's answer for layer 1. -/
import Derived.Test.YtclbkdnihhmglaaDoorZEC
import Derived.Deep.QuietTactic
import Derived.BigQuiet
import Derived.Outline
namespace Go.Proofs.YtclbkdnihhmglaaDoor.E
open Go.RowKit

def letter (f : Nat) : Int := [82, 73, 72, 83, 66, 85, 74, 69].getD f 69
def pw : Nat → Int
  | 0 => 1
  | n + 1 => pw n + pw n
theorem pw_in {n : Nat} (h : n ≤ 31) : 1 ≤ pw n ∧ pw n ≤ 2147483648 := M.split (P := fun n => 1 ≤ pw n ∧ pw n ≤ 2147483648) (by decide) (by omega)
theorem kinds_cases {P : Nat → Prop} (h : ∀ k ∈ List.range 32, 1 ≤ k → P k) {k : Nat} (k1 : 1 ≤ k) (k2 : k < 32) : P k := h k (by simp [k2]) k1

theorem kind_list {k : Nat} (k1 : 1 ≤ k) (k2 : k < 32) : k = 1 ∨ k = 2 ∨ k = 3 ∨ k = 4 ∨ k = 5 ∨ k = 6 ∨ k = 7 ∨ k = 8 ∨ k = 9 ∨ k = 10 ∨ k = 11 ∨ k = 12 ∨ k = 13 ∨ k = 14 ∨ k = 15 ∨ k = 16 ∨ k = 17 ∨ k = 18 ∨ k = 19 ∨ k = 20 ∨ k = 21 ∨ k = 22 ∨ k = 23 ∨ k = 24 ∨ k = 25 ∨ k = 26 ∨ k = 27 ∨ k = 28 ∨ k = 29 ∨ k = 30 ∨ k = 31 := by omega
set_option maxRecDepth 100000 in
set_option maxHeartbeats 4000000 in
theorem form_any (k : Nat) (k1 : 1 ≤ k) (k2 : k < 32) (w : World) : Calls Tryd.prog 32 #[.int .i64 k] w fun e w' => e = .returned (.int .u8 (letter (M.fm k))) ∧ w = w' := by
  rcases kind_list k1 k2 with rfl | rfl | rfl | rfl | rfl | rfl | rfl | rfl | rfl | rfl | rfl | rfl | rfl | rfl | rfl | rfl | rfl | rfl | rfl | rfl | rfl | rfl | rfl | rfl | rfl | rfl | rfl | rfl | rfl | rfl | rfl
  all_goals
    clear k1 k2
    go_enter Tryd.func32, Tryd.ntmps32
    go_wp2
    go_ret
    exact ⟨rfl, rfl⟩
theorem rreg_any (r : Int) (w : World) : Calls Tryd.prog 48 #[.int .i64 r] w fun e w' => e = .returned (.bool (M.reg r true)) ∧ w = w' := by
  go_enter Tryd.func48, Tryd.ntmps48
  go_wp2
  all_goals go_ret
  all_goals exact ⟨ret_bool (by rw [Bool.eq_iff_iff]; simp [M.reg]; omega), rfl⟩

theorem power_any (n : Int) (h0 : 0 ≤ n) (h1 : n ≤ 31) (w : World) : Calls Tryd.prog 34 #[.int .i64 n] w fun e w' => e = .returned (.int .u32 (pw n.toNat)) ∧ w = w' := by
  obtain ⟨N, rfl⟩ := Int.eq_ofNat_of_zero_le h0
  rw [Int.toNat_natCast]
  go_enter Tryd.func34, Tryd.ntmps34
  go_wp2_with fail
  go_loop [0, 3] (fun i v => ∃ j : Nat, j ≤ N ∧ i = .int .i64 ((N : Int) - j) ∧ v = .int .u32 (pw j)) (fun i _ => (intOf i).toNat)
  case atStart => exact ⟨0, Nat.zero_le _, by simp, rfl⟩
  case round =>
    obtain ⟨j, hj, rfl, rfl⟩ := hrel
    obtain ⟨p1, p2⟩ := pw_in (n := j) (by omega)
    by_cases hlt : j < N
    · obtain ⟨q1, q2⟩ := pw_in (n := j + 1) (by omega)
      have q3 : pw j + pw j ≤ 2147483648 := q2
      clear q1 q2
      go_wp2_with fail
      go_round
      case rel => exact ⟨j + 1, by omega, by go_num, rfl⟩
      case measure => simp [intOf]; omega
    · obtain rfl : j = N := by omega
      go_wp2_with fail
      go_ret
      exact ⟨rfl, rfl⟩

end Go.Proofs.YtclbkdnihhmglaaDoor.E

namespace Go.Proofs.YtclbkdnihhmglaaDoor.E
open Go.RowKit
theorem power_turn (n : Int) (h0 : 0 ≤ n) (h1 : n ≤ 31) (w : World) : Calls Tryd.prog 34 #[.int .i64 n] w fun e w' => e = .returned (.int .u32 (pw n.toNat)) ∧ w' = w :=
  (power_any n h0 h1 w).mono fun _ _ ⟨a, b⟩ => ⟨a, b.symm⟩
def prt (v f m : Int) : Int := v / pw f.toNat % pw m.toNat
set_option maxRecDepth 100000 in
set_option maxHeartbeats 400000 in
theorem part_any (v f m : Int) (v0 : 0 ≤ v) (v1 : v < 4294967296) (f0 : 0 ≤ f) (f1 : f ≤ 31) (m0 : 0 ≤ m) (m1 : m ≤ 31) (w : World) :
    Calls Tryd.prog 35 #[.int .u32 v, .int .i64 f, .int .i64 m] w fun e w' => e = .returned (.int .u32 (prt v f m)) ∧ Below w.heap.size w w' := by
  have HE := Lib.hid (show prt v f m = v / pw f.toNat % pw m.toNat from rfl)
  obtain ⟨p1, p2⟩ := pw_in (n := f.toNat) (by omega)
  obtain ⟨q1, q2⟩ := pw_in (n := m.toNat) (by omega)
  have d0 : 0 ≤ v / pw f.toNat := Int.ediv_nonneg v0 (by omega)
  go_enter Tryd.func35, Tryd.ntmps35
  go_wp2_with fail
  go_quiet ((go_at_call 34; exact Calls.quiet_of_same (power_turn _ (by assumption) (by assumption) _)))
  go_wp2_with fail
  go_ret
  exact ⟨rfl, ⟨rfl, rfl, rfl, Nat.le_refl _, fun _ _ => rfl⟩⟩
theorem part_lit (v f m F Q : Int) (hF : pw f.toNat = F) (hQ : pw m.toNat = Q) (v0 : 0 ≤ v) (v1 : v < 4294967296) (f0 : 0 ≤ f) (f1 : f ≤ 31) (m0 : 0 ≤ m) (m1 : m ≤ 31) (w : World) :
    Calls Tryd.prog 35 #[.int .u32 v, .int .i64 f, .int .i64 m] w fun e w' => e = .returned (.int .u32 (v / F % Q)) ∧ Below w.heap.size w w' := by
  have h := part_any v f m v0 v1 f0 f1 m0 m1 w
  unfold prt at h
  rw [hF, hQ] at h
  exact h
theorem power_lit (n F : Int) (hF : pw n.toNat = F) (h0 : 0 ≤ n) (h1 : n ≤ 31) (w : World) : Calls Tryd.prog 34 #[.int .i64 n] w fun e w' => e = .returned (.int .u32 F) ∧ w = w' := by
  have h := power_any n h0 h1 w
  rw [hF] at h
  exact h
/-- below: a number of so many bits, with a sign -/
theorem below_any (v m h : Int) (hh : pw (m - 1).toNat = h) (v0 : 0 ≤ v) (v1 : v < 4294967296) (m0 : 1 ≤ m) (m1 : m ≤ 32) (h0 : 1 ≤ h) (h1 : h ≤ 2147483648) (w : World) :
    Calls Tryd.prog 46 #[.int .u32 v, .int .i64 m] w fun e w' => e = .returned (.int .i64 (M.sg v h)) ∧ w = w' := by
  have HP := Lib.hid (fun W => power_lit (m - 1) h hh (by omega) (by omega) W)
  clear hh
  by_cases c : h ≤ v
  · have e := Lib.hid (show M.sg v h = v - 2 * h by unfold M.sg; rw [if_neg (by omega)])
    go_enter Tryd.func46, Tryd.ntmps46
    go_wp2_with fail
    refine (HP.out _).mono ?_
    rintro e w1 ⟨rfl, rfl⟩
    go_wp2_with fail
    refine (HP.out _).mono ?_
    rintro e w1 ⟨rfl, rfl⟩
    go_wp2_with fail
    go_ret
    exact ⟨ret_int (by rw [e.out]), rfl⟩
  · have e := Lib.hid (show M.sg v h = v by unfold M.sg; rw [if_pos (by omega)])
    go_enter Tryd.func46, Tryd.ntmps46
    go_wp2_with fail
    refine (HP.out _).mono ?_
    rintro e w1 ⟨rfl, rfl⟩
    go_wp2_with fail
    go_ret
    exact ⟨ret_int (by rw [e.out]), rfl⟩
end Go.Proofs.YtclbkdnihhmglaaDoor.E
