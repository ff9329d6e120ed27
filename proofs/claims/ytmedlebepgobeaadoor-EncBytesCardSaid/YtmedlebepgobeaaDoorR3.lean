/- A walk of May of the document's answer for layer 1. -/
import Derived.Test.YtmedlebepgobeaaDoorR1
namespace Go.Proofs.YtmedlebepgobeaaDoor
open Go.RowKit

theorem tmod_lit (n m : Int) : (n.tmod m == 0) = decide (n % m = 0) := by
  rw [Bool.eq_iff_iff]; simp only [beq_iff_eq, decide_eq_true_eq]
  exact ⟨fun h => Int.emod_eq_zero_of_dvd (Int.dvd_of_tmod_eq_zero h), fun h => Int.tmod_eq_zero_of_dvd (Int.dvd_of_emod_eq_zero h)⟩

theorem may_0 {k : Nat} (e : M.fm k = 0) (rd a b n : Int) : M.may k rd a b n = (M.reg rd true && (M.reg a true && (M.reg b true && (n == 0)))) := by
  rw [Bool.eq_iff_iff]
  simp [M.may, e, M.reg, M.imm, M.hasRd, M.hasA, M.hasB, M.lo, M.hi, M.mu]
  try omega
set_option maxRecDepth 100000 in
set_option maxHeartbeats 4000000 in
theorem rmay_0 (k : Nat) (k1 : 1 ≤ k) (k2 : k < 32) (e : M.fm k = 0) (rd a b n : Int) (w : World) :
    Calls Tryd.prog 18 #[.agg #[.int .i64 k, .int .i64 rd, .int .i64 a, .int .i64 b, .int .i64 n]] w fun e w' => e = .returned (.bool (M.may k rd a b n)) ∧ Below w.heap.size w w' := by
  have t1 : decide ((k : Int) < 1) = false := by simp; omega
  have t2 : decide ((31 : Int) < (k : Int)) = false := by simp; omega
  have HF0 := fun W => form_any k k1 k2 W
  rw [e, show letter 0 = 82 from rfl] at HF0
  have HF := Lib.hid HF0
  clear HF0
  rw [may_0 e]
  clear e
  go_enter Tryd.func18, Tryd.ntmps18
  go_wp2_with (first | (go_at_call 25; refine (HF.out _).mono ?_; rintro e w' ⟨rfl, rfl⟩) | (go_at_call 34; refine (rreg_any _ _).mono ?_; rintro e w' ⟨rfl, rfl⟩))
  all_goals go_ret
  all_goals exact ⟨ret_bool (by first | (simp [*]; done) | (simp [*]; omega)), (Below.refl _ _).alloc (Nat.le_refl _) _⟩

theorem may_1 {k : Nat} (e : M.fm k = 1) (rd a b n : Int) : M.may k rd a b n = (M.reg rd true && (M.reg a true && ((b == 0) && (decide (-2048 ≤ n) && decide (n ≤ 2047))))) := by
  rw [Bool.eq_iff_iff]
  simp [M.may, e, M.reg, M.imm, M.hasRd, M.hasA, M.hasB, M.lo, M.hi, M.mu]
  try omega
set_option maxRecDepth 100000 in
set_option maxHeartbeats 4000000 in
theorem rmay_1 (k : Nat) (k1 : 1 ≤ k) (k2 : k < 32) (e : M.fm k = 1) (rd a b n : Int) (w : World) :
    Calls Tryd.prog 18 #[.agg #[.int .i64 k, .int .i64 rd, .int .i64 a, .int .i64 b, .int .i64 n]] w fun e w' => e = .returned (.bool (M.may k rd a b n)) ∧ Below w.heap.size w w' := by
  have t1 : decide ((k : Int) < 1) = false := by simp; omega
  have t2 : decide ((31 : Int) < (k : Int)) = false := by simp; omega
  have HF0 := fun W => form_any k k1 k2 W
  rw [e, show letter 1 = 73 from rfl] at HF0
  have HF := Lib.hid HF0
  clear HF0
  rw [may_1 e]
  clear e
  go_enter Tryd.func18, Tryd.ntmps18
  go_wp2_with (first | (go_at_call 25; refine (HF.out _).mono ?_; rintro e w' ⟨rfl, rfl⟩) | (go_at_call 34; refine (rreg_any _ _).mono ?_; rintro e w' ⟨rfl, rfl⟩))
  all_goals go_ret
  all_goals exact ⟨ret_bool (by first | (simp [*]; done) | (simp [*]; omega)), (Below.refl _ _).alloc (Nat.le_refl _) _⟩

theorem may_2 {k : Nat} (e : M.fm k = 2) (rd a b n : Int) : M.may k rd a b n = (M.reg rd true && (M.reg a true && ((b == 0) && (decide (0 ≤ n) && decide (n ≤ 63))))) := by
  rw [Bool.eq_iff_iff]
  simp [M.may, e, M.reg, M.imm, M.hasRd, M.hasA, M.hasB, M.lo, M.hi, M.mu]
  try omega
set_option maxRecDepth 100000 in
set_option maxHeartbeats 4000000 in
theorem rmay_2 (k : Nat) (k1 : 1 ≤ k) (k2 : k < 32) (e : M.fm k = 2) (rd a b n : Int) (w : World) :
    Calls Tryd.prog 18 #[.agg #[.int .i64 k, .int .i64 rd, .int .i64 a, .int .i64 b, .int .i64 n]] w fun e w' => e = .returned (.bool (M.may k rd a b n)) ∧ Below w.heap.size w w' := by
  have t1 : decide ((k : Int) < 1) = false := by simp; omega
  have t2 : decide ((31 : Int) < (k : Int)) = false := by simp; omega
  have HF0 := fun W => form_any k k1 k2 W
  rw [e, show letter 2 = 72 from rfl] at HF0
  have HF := Lib.hid HF0
  clear HF0
  rw [may_2 e]
  clear e
  go_enter Tryd.func18, Tryd.ntmps18
  go_wp2_with (first | (go_at_call 25; refine (HF.out _).mono ?_; rintro e w' ⟨rfl, rfl⟩) | (go_at_call 34; refine (rreg_any _ _).mono ?_; rintro e w' ⟨rfl, rfl⟩))
  all_goals go_ret
  all_goals exact ⟨ret_bool (by first | (simp [*]; done) | (simp [*]; omega)), (Below.refl _ _).alloc (Nat.le_refl _) _⟩

theorem may_3 {k : Nat} (e : M.fm k = 3) (rd a b n : Int) : M.may k rd a b n = (M.reg a true && (M.reg b true && ((rd == 0) && (decide (-2048 ≤ n) && decide (n ≤ 2047))))) := by
  rw [Bool.eq_iff_iff]
  simp [M.may, e, M.reg, M.imm, M.hasRd, M.hasA, M.hasB, M.lo, M.hi, M.mu]
  try omega
set_option maxRecDepth 100000 in
set_option maxHeartbeats 4000000 in
theorem rmay_3 (k : Nat) (k1 : 1 ≤ k) (k2 : k < 32) (e : M.fm k = 3) (rd a b n : Int) (w : World) :
    Calls Tryd.prog 18 #[.agg #[.int .i64 k, .int .i64 rd, .int .i64 a, .int .i64 b, .int .i64 n]] w fun e w' => e = .returned (.bool (M.may k rd a b n)) ∧ Below w.heap.size w w' := by
  have t1 : decide ((k : Int) < 1) = false := by simp; omega
  have t2 : decide ((31 : Int) < (k : Int)) = false := by simp; omega
  have HF0 := fun W => form_any k k1 k2 W
  rw [e, show letter 3 = 83 from rfl] at HF0
  have HF := Lib.hid HF0
  clear HF0
  rw [may_3 e]
  clear e
  go_enter Tryd.func18, Tryd.ntmps18
  go_wp2_with (first | (go_at_call 25; refine (HF.out _).mono ?_; rintro e w' ⟨rfl, rfl⟩) | (go_at_call 34; refine (rreg_any _ _).mono ?_; rintro e w' ⟨rfl, rfl⟩))
  all_goals go_ret
  all_goals exact ⟨ret_bool (by first | (simp [*]; done) | (simp [*]; omega)), (Below.refl _ _).alloc (Nat.le_refl _) _⟩

theorem may_4 {k : Nat} (e : M.fm k = 4) (rd a b n : Int) : M.may k rd a b n = (M.reg a true && (M.reg b true && ((rd == 0) && (decide (-4096 ≤ n) && (decide (n ≤ 4094) && (n.tmod 2 == 0)))))) := by
  rw [Bool.eq_iff_iff]
  simp [M.may, e, M.reg, M.imm, M.hasRd, M.hasA, M.hasB, M.lo, M.hi, M.mu, tmod_lit]
  try omega
set_option maxRecDepth 100000 in
set_option maxHeartbeats 4000000 in
theorem rmay_4 (k : Nat) (k1 : 1 ≤ k) (k2 : k < 32) (e : M.fm k = 4) (rd a b n : Int) (w : World) :
    Calls Tryd.prog 18 #[.agg #[.int .i64 k, .int .i64 rd, .int .i64 a, .int .i64 b, .int .i64 n]] w fun e w' => e = .returned (.bool (M.may k rd a b n)) ∧ Below w.heap.size w w' := by
  have t1 : decide ((k : Int) < 1) = false := by simp; omega
  have t2 : decide ((31 : Int) < (k : Int)) = false := by simp; omega
  have HF0 := fun W => form_any k k1 k2 W
  rw [e, show letter 4 = 66 from rfl] at HF0
  have HF := Lib.hid HF0
  clear HF0
  rw [may_4 e]
  clear e
  go_enter Tryd.func18, Tryd.ntmps18
  go_wp2_with (first | (go_at_call 25; refine (HF.out _).mono ?_; rintro e w' ⟨rfl, rfl⟩) | (go_at_call 34; refine (rreg_any _ _).mono ?_; rintro e w' ⟨rfl, rfl⟩))
  all_goals go_ret
  all_goals exact ⟨ret_bool (by first | (simp [*]; done) | (simp [*]; omega)), (Below.refl _ _).alloc (Nat.le_refl _) _⟩

theorem may_5 {k : Nat} (e : M.fm k = 5) (rd a b n : Int) : M.may k rd a b n = (M.reg rd true && ((a == 0) && ((b == 0) && (decide (-2147483648 ≤ n) && (decide (n ≤ 2147479552) && (n.tmod 4096 == 0)))))) := by
  rw [Bool.eq_iff_iff]
  simp [M.may, e, M.reg, M.imm, M.hasRd, M.hasA, M.hasB, M.lo, M.hi, M.mu, tmod_lit]
  try omega
set_option maxRecDepth 100000 in
set_option maxHeartbeats 4000000 in
theorem rmay_5 (k : Nat) (k1 : 1 ≤ k) (k2 : k < 32) (e : M.fm k = 5) (rd a b n : Int) (w : World) :
    Calls Tryd.prog 18 #[.agg #[.int .i64 k, .int .i64 rd, .int .i64 a, .int .i64 b, .int .i64 n]] w fun e w' => e = .returned (.bool (M.may k rd a b n)) ∧ Below w.heap.size w w' := by
  have t1 : decide ((k : Int) < 1) = false := by simp; omega
  have t2 : decide ((31 : Int) < (k : Int)) = false := by simp; omega
  have HF0 := fun W => form_any k k1 k2 W
  rw [e, show letter 5 = 85 from rfl] at HF0
  have HF := Lib.hid HF0
  clear HF0
  rw [may_5 e]
  clear e
  go_enter Tryd.func18, Tryd.ntmps18
  go_wp2_with (first | (go_at_call 25; refine (HF.out _).mono ?_; rintro e w' ⟨rfl, rfl⟩) | (go_at_call 34; refine (rreg_any _ _).mono ?_; rintro e w' ⟨rfl, rfl⟩))
  all_goals go_ret
  all_goals exact ⟨ret_bool (by first | (simp [*]; done) | (simp [*]; omega)), (Below.refl _ _).alloc (Nat.le_refl _) _⟩

theorem may_6 {k : Nat} (e : M.fm k = 6) (rd a b n : Int) : M.may k rd a b n = (M.reg rd true && ((a == 0) && ((b == 0) && (decide (-1048576 ≤ n) && (decide (n ≤ 1048574) && (n.tmod 2 == 0)))))) := by
  rw [Bool.eq_iff_iff]
  simp [M.may, e, M.reg, M.imm, M.hasRd, M.hasA, M.hasB, M.lo, M.hi, M.mu, tmod_lit]
  try omega
set_option maxRecDepth 100000 in
set_option maxHeartbeats 4000000 in
theorem rmay_6 (k : Nat) (k1 : 1 ≤ k) (k2 : k < 32) (e : M.fm k = 6) (rd a b n : Int) (w : World) :
    Calls Tryd.prog 18 #[.agg #[.int .i64 k, .int .i64 rd, .int .i64 a, .int .i64 b, .int .i64 n]] w fun e w' => e = .returned (.bool (M.may k rd a b n)) ∧ Below w.heap.size w w' := by
  have t1 : decide ((k : Int) < 1) = false := by simp; omega
  have t2 : decide ((31 : Int) < (k : Int)) = false := by simp; omega
  have HF0 := fun W => form_any k k1 k2 W
  rw [e, show letter 6 = 74 from rfl] at HF0
  have HF := Lib.hid HF0
  clear HF0
  rw [may_6 e]
  clear e
  go_enter Tryd.func18, Tryd.ntmps18
  go_wp2_with (first | (go_at_call 25; refine (HF.out _).mono ?_; rintro e w' ⟨rfl, rfl⟩) | (go_at_call 34; refine (rreg_any _ _).mono ?_; rintro e w' ⟨rfl, rfl⟩))
  all_goals go_ret
  all_goals exact ⟨ret_bool (by first | (simp [*]; done) | (simp [*]; omega)), (Below.refl _ _).alloc (Nat.le_refl _) _⟩

theorem may_7 {k : Nat} (e : M.fm k = 7) (rd a b n : Int) : M.may k rd a b n = ((rd == 0) && ((a == 0) && ((b == 0) && (n == 0)))) := by
  rw [Bool.eq_iff_iff]
  simp [M.may, e, M.reg, M.imm, M.hasRd, M.hasA, M.hasB, M.lo, M.hi, M.mu]
  try omega
set_option maxRecDepth 100000 in
set_option maxHeartbeats 4000000 in
theorem rmay_7 (k : Nat) (k1 : 1 ≤ k) (k2 : k < 32) (e : M.fm k = 7) (rd a b n : Int) (w : World) :
    Calls Tryd.prog 18 #[.agg #[.int .i64 k, .int .i64 rd, .int .i64 a, .int .i64 b, .int .i64 n]] w fun e w' => e = .returned (.bool (M.may k rd a b n)) ∧ Below w.heap.size w w' := by
  have t1 : decide ((k : Int) < 1) = false := by simp; omega
  have t2 : decide ((31 : Int) < (k : Int)) = false := by simp; omega
  have HF0 := fun W => form_any k k1 k2 W
  rw [e, show letter 7 = 69 from rfl] at HF0
  have HF := Lib.hid HF0
  clear HF0
  rw [may_7 e]
  clear e
  go_enter Tryd.func18, Tryd.ntmps18
  go_wp2_with (first | (go_at_call 25; refine (HF.out _).mono ?_; rintro e w' ⟨rfl, rfl⟩) | (go_at_call 34; refine (rreg_any _ _).mono ?_; rintro e w' ⟨rfl, rfl⟩))
  all_goals go_ret
  all_goals exact ⟨ret_bool (by first | (simp [*]; done) | (simp [*]; omega)), (Below.refl _ _).alloc (Nat.le_refl _) _⟩

theorem rmay_in (k : Nat) (k1 : 1 ≤ k) (k2 : k < 32) (rd a b n : Int) (w : World) :
    Calls Tryd.prog 18 #[.agg #[.int .i64 k, .int .i64 rd, .int .i64 a, .int .i64 b, .int .i64 n]] w fun e w' => e = .returned (.bool (M.may k rd a b n)) ∧ Below w.heap.size w w' := by
  rcases M.fm_cases k2 with e | e | e | e | e | e | e | e
  · exact rmay_0 k k1 k2 e rd a b n w
  · exact rmay_1 k k1 k2 e rd a b n w
  · exact rmay_2 k k1 k2 e rd a b n w
  · exact rmay_3 k k1 k2 e rd a b n w
  · exact rmay_4 k k1 k2 e rd a b n w
  · exact rmay_5 k k1 k2 e rd a b n w
  · exact rmay_6 k k1 k2 e rd a b n w
  · exact rmay_7 k k1 k2 e rd a b n w

set_option maxRecDepth 100000 in
theorem rmay_out (k : Int) (h : k < 1 ∨ 32 ≤ k) (rd a b n : Int) (w : World) :
    Calls Tryd.prog 18 #[.agg #[.int .i64 k, .int .i64 rd, .int .i64 a, .int .i64 b, .int .i64 n]] w fun e w' => e = .returned (.bool false) ∧ Below w.heap.size w w' := by
  rcases h with h | h
  · have t1 : decide (k < 1) = true := by simp; omega
    go_enter Tryd.func18, Tryd.ntmps18
    go_wp2_with fail
    go_ret
    exact ⟨rfl, (Below.refl _ _).alloc (Nat.le_refl _) _⟩
  · have t1 : decide (k < 1) = false := by simp; omega
    have t2 : decide ((31 : Int) < k) = true := by simp; omega
    go_enter Tryd.func18, Tryd.ntmps18
    go_wp2_with fail
    go_ret
    exact ⟨rfl, (Below.refl _ _).alloc (Nat.le_refl _) _⟩
end Go.Proofs.YtmedlebepgobeaaDoor
