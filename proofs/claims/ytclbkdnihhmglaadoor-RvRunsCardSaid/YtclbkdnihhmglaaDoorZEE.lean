/- A walk of fixed of the document's answer for layer 1. A walk of May of the document's answer for layer 1. A walk of Word of the document's answer for layer 1: it is the word that the plain facts speak of. -/
import Derived.Test.YtclbkdnihhmglaaDoorZED
import Derived.Deep.AppendLies
import Derived.Deep.Cut
namespace Go.Proofs.YtclbkdnihhmglaaDoor.E
open Go.RowKit

theorem f3_cells (w : World) (k : Nat) (hk : k < 32) : (w.alloc (.cells #[.int .u32 0, .int .u32 0, .int .u32 0, .int .u32 1, .int .u32 3, .int .u32 4, .int .u32 5, .int .u32 6, .int .u32 7, .int .u32 0, .int .u32 5, .int .u32 7, .int .u32 0, .int .u32 3, .int .u32 4, .int .u32 6, .int .u32 7, .int .u32 1, .int .u32 5, .int .u32 3, .int .u32 4, .int .u32 3, .int .u32 0, .int .u32 0, .int .u32 1, .int .u32 6, .int .u32 7, .int .u32 0, .int .u32 0, .int .u32 0, .int .u32 0, .int .u32 0] 54)).cell? ⟨w.heap.size, k, none⟩ = some (.int .u32 (M.f3 k)) := by
  have h := World.news_of_block (cs := #[.int .u32 0, .int .u32 0, .int .u32 0, .int .u32 1, .int .u32 3, .int .u32 4, .int .u32 5, .int .u32 6, .int .u32 7, .int .u32 0, .int .u32 5, .int .u32 7, .int .u32 0, .int .u32 3, .int .u32 4, .int .u32 6, .int .u32 7, .int .u32 1, .int .u32 5, .int .u32 3, .int .u32 4, .int .u32 3, .int .u32 0, .int .u32 0, .int .u32 1, .int .u32 6, .int .u32 7, .int .u32 0, .int .u32 0, .int .u32 0, .int .u32 0, .int .u32 0]) (t := 54) (fr := (0, 0)) (heap_alloc_new w (.cells #[.int .u32 0, .int .u32 0, .int .u32 0, .int .u32 1, .int .u32 3, .int .u32 4, .int .u32 5, .int .u32 6, .int .u32 7, .int .u32 0, .int .u32 5, .int .u32 7, .int .u32 0, .int .u32 3, .int .u32 4, .int .u32 6, .int .u32 7, .int .u32 1, .int .u32 5, .int .u32 3, .int .u32 4, .int .u32 3, .int .u32 0, .int .u32 0, .int .u32 1, .int .u32 6, .int .u32 7, .int .u32 0, .int .u32 0, .int .u32 0, .int .u32 0, .int .u32 0] 54)) k (.int .u32 (M.f3 k))
  have hl : (#[.int .u32 0, .int .u32 0, .int .u32 0, .int .u32 1, .int .u32 3, .int .u32 4, .int .u32 5, .int .u32 6, .int .u32 7, .int .u32 0, .int .u32 5, .int .u32 7, .int .u32 0, .int .u32 3, .int .u32 4, .int .u32 6, .int .u32 7, .int .u32 1, .int .u32 5, .int .u32 3, .int .u32 4, .int .u32 3, .int .u32 0, .int .u32 0, .int .u32 1, .int .u32 6, .int .u32 7, .int .u32 0, .int .u32 0, .int .u32 0, .int .u32 0, .int .u32 0] : Array Value).toList = (List.range 32).map fun k => Value.int .u32 (M.f3 k) := rfl
  rw [hl] at h
  have h2 := h (by simp [hk])
  have ha : (⟨w.heap.size, 0, none⟩ : Addr).add k = ⟨w.heap.size, k, none⟩ := by unfold Addr.add; split <;> simp_all
  rw [ha] at h2
  exact h2
set_option maxRecDepth 100000 in
set_option maxHeartbeats 8000000 in
theorem fixed_any (k : Nat) (k1 : 1 ≤ k) (k2 : k < 32) (w : World) : Calls Tryd.prog 33 #[.int .i64 k] w fun e w' => e = .returned (.int .u32 (M.op k + 4096 * M.f3 k + 33554432 * M.f7 k)) ∧ Below w.heap.size w w' := by
  have hc := f3_cells w k k2
  have hb := Lib.hid ((Below.refl w.heap.size w).alloc (Nat.le_refl _) (.cells #[.int .u32 0, .int .u32 0, .int .u32 0, .int .u32 1, .int .u32 3, .int .u32 4, .int .u32 5, .int .u32 6, .int .u32 7, .int .u32 0, .int .u32 5, .int .u32 7, .int .u32 0, .int .u32 3, .int .u32 4, .int .u32 6, .int .u32 7, .int .u32 1, .int .u32 5, .int .u32 3, .int .u32 4, .int .u32 3, .int .u32 0, .int .u32 0, .int .u32 1, .int .u32 6, .int .u32 7, .int .u32 0, .int .u32 0, .int .u32 0, .int .u32 0, .int .u32 0] 54))
  obtain ⟨g0, g1⟩ := M.f3_in k2
  go_enter Tryd.func33, Tryd.ntmps33
  go_upto_region 2 with (fail)
  obtain ⟨w1, hw1⟩ : ∃ w1, w1 = w.alloc (.cells #[.int .u32 0, .int .u32 0, .int .u32 0, .int .u32 1, .int .u32 3, .int .u32 4, .int .u32 5, .int .u32 6, .int .u32 7, .int .u32 0, .int .u32 5, .int .u32 7, .int .u32 0, .int .u32 3, .int .u32 4, .int .u32 6, .int .u32 7, .int .u32 1, .int .u32 5, .int .u32 3, .int .u32 4, .int .u32 3, .int .u32 0, .int .u32 0, .int .u32 1, .int .u32 6, .int .u32 7, .int .u32 0, .int .u32 0, .int .u32 0, .int .u32 0, .int .u32 0] 54) := ⟨_, rfl⟩
  rw [← hw1] at hc hb ⊢
  clear hw1
  rcases kind_list k1 k2 with rfl | rfl | rfl | rfl | rfl | rfl | rfl | rfl | rfl | rfl | rfl | rfl | rfl | rfl | rfl | rfl | rfl | rfl | rfl | rfl | rfl | rfl | rfl | rfl | rfl | rfl | rfl | rfl | rfl | rfl | rfl
  all_goals
    clear k1 k2
    go_wp2
    go_ret
    exact ⟨rfl, hb.out⟩
end Go.Proofs.YtclbkdnihhmglaaDoor.E

namespace Go.Proofs.YtclbkdnihhmglaaDoor.E
open Go.RowKit

theorem tmod_lit (n m : Int) : (n.tmod m == 0) = decide (n % m = 0) := by
  rw [Bool.eq_iff_iff]; simp only [beq_iff_eq, decide_eq_true_eq]
  exact ⟨fun h => Int.emod_eq_zero_of_dvd (Int.dvd_of_tmod_eq_zero h), fun h => Int.tmod_eq_zero_of_dvd (Int.dvd_of_emod_eq_zero h)⟩

theorem may_0 {k : Nat} (e : M.fm k = 0) (rd a b n : Int) : M.may k rd a b n = (M.reg rd true && (M.reg a true && (M.reg b true && (n == 0)))) := by
  rw [Bool.eq_iff_iff]
  simp [M.may, e, M.reg, M.imm, M.hasRd, M.hasA, M.hasB, M.lo, M.hi, M.mu]
  try omega
set_option maxRecDepth 100000 in
set_option maxHeartbeats 4000000 in
theorem rmay_0 (k : Nat) (k1 : 1 ≤ k) (k2 : k < 32) (e : M.fm k = 0) (rd a b n : Int) (w : World) :
    Calls Tryd.prog 31 #[.agg #[.int .i64 k, .int .i64 rd, .int .i64 a, .int .i64 b, .int .i64 n]] w fun e w' => e = .returned (.bool (M.may k rd a b n)) ∧ Below w.heap.size w w' := by
  have t1 : decide ((k : Int) < 1) = false := by simp; omega
  have t2 : decide ((31 : Int) < (k : Int)) = false := by simp; omega
  have HF0 := fun W => form_any k k1 k2 W
  rw [e, show letter 0 = 82 from rfl] at HF0
  have HF := Lib.hid HF0
  clear HF0
  rw [may_0 e]
  clear e
  go_enter Tryd.func31, Tryd.ntmps31
  go_wp2_with (first | (go_at_call 32; refine (HF.out _).mono ?_; rintro e w' ⟨rfl, rfl⟩) | (go_at_call 48; refine (rreg_any _ _).mono ?_; rintro e w' ⟨rfl, rfl⟩))
  all_goals go_ret
  all_goals exact ⟨ret_bool (by first | (simp [*]; done) | (simp [*]; omega)), (Below.refl _ _).alloc (Nat.le_refl _) _⟩

theorem may_1 {k : Nat} (e : M.fm k = 1) (rd a b n : Int) : M.may k rd a b n = (M.reg rd true && (M.reg a true && ((b == 0) && (decide (-2048 ≤ n) && decide (n ≤ 2047))))) := by
  rw [Bool.eq_iff_iff]
  simp [M.may, e, M.reg, M.imm, M.hasRd, M.hasA, M.hasB, M.lo, M.hi, M.mu]
  try omega
set_option maxRecDepth 100000 in
set_option maxHeartbeats 4000000 in
theorem rmay_1 (k : Nat) (k1 : 1 ≤ k) (k2 : k < 32) (e : M.fm k = 1) (rd a b n : Int) (w : World) :
    Calls Tryd.prog 31 #[.agg #[.int .i64 k, .int .i64 rd, .int .i64 a, .int .i64 b, .int .i64 n]] w fun e w' => e = .returned (.bool (M.may k rd a b n)) ∧ Below w.heap.size w w' := by
  have t1 : decide ((k : Int) < 1) = false := by simp; omega
  have t2 : decide ((31 : Int) < (k : Int)) = false := by simp; omega
  have HF0 := fun W => form_any k k1 k2 W
  rw [e, show letter 1 = 73 from rfl] at HF0
  have HF := Lib.hid HF0
  clear HF0
  rw [may_1 e]
  clear e
  go_enter Tryd.func31, Tryd.ntmps31
  go_wp2_with (first | (go_at_call 32; refine (HF.out _).mono ?_; rintro e w' ⟨rfl, rfl⟩) | (go_at_call 48; refine (rreg_any _ _).mono ?_; rintro e w' ⟨rfl, rfl⟩))
  all_goals go_ret
  all_goals exact ⟨ret_bool (by first | (simp [*]; done) | (simp [*]; omega)), (Below.refl _ _).alloc (Nat.le_refl _) _⟩

theorem may_2 {k : Nat} (e : M.fm k = 2) (rd a b n : Int) : M.may k rd a b n = (M.reg rd true && (M.reg a true && ((b == 0) && (decide (0 ≤ n) && decide (n ≤ 63))))) := by
  rw [Bool.eq_iff_iff]
  simp [M.may, e, M.reg, M.imm, M.hasRd, M.hasA, M.hasB, M.lo, M.hi, M.mu]
  try omega
set_option maxRecDepth 100000 in
set_option maxHeartbeats 4000000 in
theorem rmay_2 (k : Nat) (k1 : 1 ≤ k) (k2 : k < 32) (e : M.fm k = 2) (rd a b n : Int) (w : World) :
    Calls Tryd.prog 31 #[.agg #[.int .i64 k, .int .i64 rd, .int .i64 a, .int .i64 b, .int .i64 n]] w fun e w' => e = .returned (.bool (M.may k rd a b n)) ∧ Below w.heap.size w w' := by
  have t1 : decide ((k : Int) < 1) = false := by simp; omega
  have t2 : decide ((31 : Int) < (k : Int)) = false := by simp; omega
  have HF0 := fun W => form_any k k1 k2 W
  rw [e, show letter 2 = 72 from rfl] at HF0
  have HF := Lib.hid HF0
  clear HF0
  rw [may_2 e]
  clear e
  go_enter Tryd.func31, Tryd.ntmps31
  go_wp2_with (first | (go_at_call 32; refine (HF.out _).mono ?_; rintro e w' ⟨rfl, rfl⟩) | (go_at_call 48; refine (rreg_any _ _).mono ?_; rintro e w' ⟨rfl, rfl⟩))
  all_goals go_ret
  all_goals exact ⟨ret_bool (by first | (simp [*]; done) | (simp [*]; omega)), (Below.refl _ _).alloc (Nat.le_refl _) _⟩

theorem may_3 {k : Nat} (e : M.fm k = 3) (rd a b n : Int) : M.may k rd a b n = (M.reg a true && (M.reg b true && ((rd == 0) && (decide (-2048 ≤ n) && decide (n ≤ 2047))))) := by
  rw [Bool.eq_iff_iff]
  simp [M.may, e, M.reg, M.imm, M.hasRd, M.hasA, M.hasB, M.lo, M.hi, M.mu]
  try omega
set_option maxRecDepth 100000 in
set_option maxHeartbeats 4000000 in
theorem rmay_3 (k : Nat) (k1 : 1 ≤ k) (k2 : k < 32) (e : M.fm k = 3) (rd a b n : Int) (w : World) :
    Calls Tryd.prog 31 #[.agg #[.int .i64 k, .int .i64 rd, .int .i64 a, .int .i64 b, .int .i64 n]] w fun e w' => e = .returned (.bool (M.may k rd a b n)) ∧ Below w.heap.size w w' := by
  have t1 : decide ((k : Int) < 1) = false := by simp; omega
  have t2 : decide ((31 : Int) < (k : Int)) = false := by simp; omega
  have HF0 := fun W => form_any k k1 k2 W
  rw [e, show letter 3 = 83 from rfl] at HF0
  have HF := Lib.hid HF0
  clear HF0
  rw [may_3 e]
  clear e
  go_enter Tryd.func31, Tryd.ntmps31
  go_wp2_with (first | (go_at_call 32; refine (HF.out _).mono ?_; rintro e w' ⟨rfl, rfl⟩) | (go_at_call 48; refine (rreg_any _ _).mono ?_; rintro e w' ⟨rfl, rfl⟩))
  all_goals go_ret
  all_goals exact ⟨ret_bool (by first | (simp [*]; done) | (simp [*]; omega)), (Below.refl _ _).alloc (Nat.le_refl _) _⟩

theorem may_4 {k : Nat} (e : M.fm k = 4) (rd a b n : Int) : M.may k rd a b n = (M.reg a true && (M.reg b true && ((rd == 0) && (decide (-4096 ≤ n) && (decide (n ≤ 4094) && (n.tmod 2 == 0)))))) := by
  rw [Bool.eq_iff_iff]
  simp [M.may, e, M.reg, M.imm, M.hasRd, M.hasA, M.hasB, M.lo, M.hi, M.mu, tmod_lit]
  try omega
set_option maxRecDepth 100000 in
set_option maxHeartbeats 4000000 in
theorem rmay_4 (k : Nat) (k1 : 1 ≤ k) (k2 : k < 32) (e : M.fm k = 4) (rd a b n : Int) (w : World) :
    Calls Tryd.prog 31 #[.agg #[.int .i64 k, .int .i64 rd, .int .i64 a, .int .i64 b, .int .i64 n]] w fun e w' => e = .returned (.bool (M.may k rd a b n)) ∧ Below w.heap.size w w' := by
  have t1 : decide ((k : Int) < 1) = false := by simp; omega
  have t2 : decide ((31 : Int) < (k : Int)) = false := by simp; omega
  have HF0 := fun W => form_any k k1 k2 W
  rw [e, show letter 4 = 66 from rfl] at HF0
  have HF := Lib.hid HF0
  clear HF0
  rw [may_4 e]
  clear e
  go_enter Tryd.func31, Tryd.ntmps31
  go_wp2_with (first | (go_at_call 32; refine (HF.out _).mono ?_; rintro e w' ⟨rfl, rfl⟩) | (go_at_call 48; refine (rreg_any _ _).mono ?_; rintro e w' ⟨rfl, rfl⟩))
  all_goals go_ret
  all_goals exact ⟨ret_bool (by first | (simp [*]; done) | (simp [*]; omega)), (Below.refl _ _).alloc (Nat.le_refl _) _⟩

theorem may_5 {k : Nat} (e : M.fm k = 5) (rd a b n : Int) : M.may k rd a b n = (M.reg rd true && ((a == 0) && ((b == 0) && (decide (-2147483648 ≤ n) && (decide (n ≤ 2147479552) && (n.tmod 4096 == 0)))))) := by
  rw [Bool.eq_iff_iff]
  simp [M.may, e, M.reg, M.imm, M.hasRd, M.hasA, M.hasB, M.lo, M.hi, M.mu, tmod_lit]
  try omega
set_option maxRecDepth 100000 in
set_option maxHeartbeats 4000000 in
theorem rmay_5 (k : Nat) (k1 : 1 ≤ k) (k2 : k < 32) (e : M.fm k = 5) (rd a b n : Int) (w : World) :
    Calls Tryd.prog 31 #[.agg #[.int .i64 k, .int .i64 rd, .int .i64 a, .int .i64 b, .int .i64 n]] w fun e w' => e = .returned (.bool (M.may k rd a b n)) ∧ Below w.heap.size w w' := by
  have t1 : decide ((k : Int) < 1) = false := by simp; omega
  have t2 : decide ((31 : Int) < (k : Int)) = false := by simp; omega
  have HF0 := fun W => form_any k k1 k2 W
  rw [e, show letter 5 = 85 from rfl] at HF0
  have HF := Lib.hid HF0
  clear HF0
  rw [may_5 e]
  clear e
  go_enter Tryd.func31, Tryd.ntmps31
  go_wp2_with (first | (go_at_call 32; refine (HF.out _).mono ?_; rintro e w' ⟨rfl, rfl⟩) | (go_at_call 48; refine (rreg_any _ _).mono ?_; rintro e w' ⟨rfl, rfl⟩))
  all_goals go_ret
  all_goals exact ⟨ret_bool (by first | (simp [*]; done) | (simp [*]; omega)), (Below.refl _ _).alloc (Nat.le_refl _) _⟩

theorem may_6 {k : Nat} (e : M.fm k = 6) (rd a b n : Int) : M.may k rd a b n = (M.reg rd true && ((a == 0) && ((b == 0) && (decide (-1048576 ≤ n) && (decide (n ≤ 1048574) && (n.tmod 2 == 0)))))) := by
  rw [Bool.eq_iff_iff]
  simp [M.may, e, M.reg, M.imm, M.hasRd, M.hasA, M.hasB, M.lo, M.hi, M.mu, tmod_lit]
  try omega
set_option maxRecDepth 100000 in
set_option maxHeartbeats 4000000 in
theorem rmay_6 (k : Nat) (k1 : 1 ≤ k) (k2 : k < 32) (e : M.fm k = 6) (rd a b n : Int) (w : World) :
    Calls Tryd.prog 31 #[.agg #[.int .i64 k, .int .i64 rd, .int .i64 a, .int .i64 b, .int .i64 n]] w fun e w' => e = .returned (.bool (M.may k rd a b n)) ∧ Below w.heap.size w w' := by
  have t1 : decide ((k : Int) < 1) = false := by simp; omega
  have t2 : decide ((31 : Int) < (k : Int)) = false := by simp; omega
  have HF0 := fun W => form_any k k1 k2 W
  rw [e, show letter 6 = 74 from rfl] at HF0
  have HF := Lib.hid HF0
  clear HF0
  rw [may_6 e]
  clear e
  go_enter Tryd.func31, Tryd.ntmps31
  go_wp2_with (first | (go_at_call 32; refine (HF.out _).mono ?_; rintro e w' ⟨rfl, rfl⟩) | (go_at_call 48; refine (rreg_any _ _).mono ?_; rintro e w' ⟨rfl, rfl⟩))
  all_goals go_ret
  all_goals exact ⟨ret_bool (by first | (simp [*]; done) | (simp [*]; omega)), (Below.refl _ _).alloc (Nat.le_refl _) _⟩

theorem may_7 {k : Nat} (e : M.fm k = 7) (rd a b n : Int) : M.may k rd a b n = ((rd == 0) && ((a == 0) && ((b == 0) && (n == 0)))) := by
  rw [Bool.eq_iff_iff]
  simp [M.may, e, M.reg, M.imm, M.hasRd, M.hasA, M.hasB, M.lo, M.hi, M.mu]
  try omega
set_option maxRecDepth 100000 in
set_option maxHeartbeats 4000000 in
theorem rmay_7 (k : Nat) (k1 : 1 ≤ k) (k2 : k < 32) (e : M.fm k = 7) (rd a b n : Int) (w : World) :
    Calls Tryd.prog 31 #[.agg #[.int .i64 k, .int .i64 rd, .int .i64 a, .int .i64 b, .int .i64 n]] w fun e w' => e = .returned (.bool (M.may k rd a b n)) ∧ Below w.heap.size w w' := by
  have t1 : decide ((k : Int) < 1) = false := by simp; omega
  have t2 : decide ((31 : Int) < (k : Int)) = false := by simp; omega
  have HF0 := fun W => form_any k k1 k2 W
  rw [e, show letter 7 = 69 from rfl] at HF0
  have HF := Lib.hid HF0
  clear HF0
  rw [may_7 e]
  clear e
  go_enter Tryd.func31, Tryd.ntmps31
  go_wp2_with (first | (go_at_call 32; refine (HF.out _).mono ?_; rintro e w' ⟨rfl, rfl⟩) | (go_at_call 48; refine (rreg_any _ _).mono ?_; rintro e w' ⟨rfl, rfl⟩))
  all_goals go_ret
  all_goals exact ⟨ret_bool (by first | (simp [*]; done) | (simp [*]; omega)), (Below.refl _ _).alloc (Nat.le_refl _) _⟩

theorem rmay_in (k : Nat) (k1 : 1 ≤ k) (k2 : k < 32) (rd a b n : Int) (w : World) :
    Calls Tryd.prog 31 #[.agg #[.int .i64 k, .int .i64 rd, .int .i64 a, .int .i64 b, .int .i64 n]] w fun e w' => e = .returned (.bool (M.may k rd a b n)) ∧ Below w.heap.size w w' := by
  rcases M.fm_cases k2 with e | e | e | e | e | e | e | e
  · exact rmay_0 k k1 k2 e rd a b n w
  · exact rmay_1 k k1 k2 e rd a b n w
  · exact rmay_2 k k1 k2 e rd a b n w
  · exact rmay_3 k k1 k2 e rd a b n w
  · exact rmay_4 k k1 k2 e rd a b n w
  · exact rmay_5 k k1 k2 e rd a b n w
  · exact rmay_6 k k1 k2 e rd a b n w
  · exact rmay_7 k k1 k2 e rd a b n w

set_option maxRecDepth 100000 in
theorem rmay_out (k : Int) (h : k < 1 ∨ 32 ≤ k) (rd a b n : Int) (w : World) :
    Calls Tryd.prog 31 #[.agg #[.int .i64 k, .int .i64 rd, .int .i64 a, .int .i64 b, .int .i64 n]] w fun e w' => e = .returned (.bool false) ∧ Below w.heap.size w w' := by
  rcases h with h | h
  · have t1 : decide (k < 1) = true := by simp; omega
    go_enter Tryd.func31, Tryd.ntmps31
    go_wp2_with fail
    go_ret
    exact ⟨rfl, (Below.refl _ _).alloc (Nat.le_refl _) _⟩
  · have t1 : decide (k < 1) = false := by simp; omega
    have t2 : decide ((31 : Int) < k) = true := by simp; omega
    go_enter Tryd.func31, Tryd.ntmps31
    go_wp2_with fail
    go_ret
    exact ⟨rfl, (Below.refl _ _).alloc (Nat.le_refl _) _⟩
end Go.Proofs.YtclbkdnihhmglaaDoor.E

namespace Go.Proofs.YtclbkdnihhmglaaDoor.E
open Go.RowKit

theorem power_lt (n F : Int) (hF : pw n.toNat = F) (h0 : 0 ≤ n) (h1 : n ≤ 31) (w : World) : Calls Tryd.prog 34 #[.int .i64 n] w fun e w' => e = .returned (.int .u32 F) ∧ w' = w :=
  (power_lit n F hF h0 h1 w).mono fun _ _ ⟨a, b⟩ => ⟨a, b.symm⟩
theorem drewN_below (w : World) (n : Nat) : Below w.heap.size w (w.drewN n) := ⟨rfl, rfl, rfl, Nat.le_refl _, fun _ _ => rfl⟩

theorem pw1 : pw ((1 : Int)).toNat = 2 := by decide +kernel
theorem pw4 : pw ((4 : Int)).toNat = 16 := by decide +kernel
theorem pw5 : pw ((5 : Int)).toNat = 32 := by decide +kernel
theorem pw6 : pw ((6 : Int)).toNat = 64 := by decide +kernel
theorem pw7 : pw ((7 : Int)).toNat = 128 := by decide +kernel
theorem pw8 : pw ((8 : Int)).toNat = 256 := by decide +kernel
theorem pw10 : pw ((10 : Int)).toNat = 1024 := by decide +kernel
theorem pw11 : pw ((11 : Int)).toNat = 2048 := by decide +kernel
theorem pw12 : pw ((12 : Int)).toNat = 4096 := by decide +kernel
theorem pw15 : pw ((15 : Int)).toNat = 32768 := by decide +kernel
theorem pw20 : pw ((20 : Int)).toNat = 1048576 := by decide +kernel
theorem pw21 : pw ((21 : Int)).toNat = 2097152 := by decide +kernel
theorem pw25 : pw ((25 : Int)).toNat = 33554432 := by decide +kernel
theorem pw31 : pw ((31 : Int)).toNat = 2147483648 := by decide +kernel
theorem pw0 : pw ((0 : Int)).toNat = 1 := by decide +kernel
end Go.Proofs.YtclbkdnihhmglaaDoor.E
