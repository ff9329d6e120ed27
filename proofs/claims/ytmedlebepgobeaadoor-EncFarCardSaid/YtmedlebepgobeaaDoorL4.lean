/- Walks of the laws EncBack, EncFar and EncFields: they return true for every argument. -/
import Derived.Test.YtmedlebepgobeaaDoorL3
namespace Go.Proofs.YtmedlebepgobeaaDoor
open Go.RowKit

set_option maxHeartbeats 1000000 in
theorem back_walk (k rd a b n v : Int) (w : World) (T : Tabs w) (v0 : 0 ≤ v) (v1 : v < 4294967296) :
    Calls Tryd.prog 5 #[.agg #[.int .i64 k, .int .i64 rd, .int .i64 a, .int .i64 b, .int .i64 n], .int .u32 v] w fun e w' => e = .returned (.bool true) ∧ Below w.heap.size w w' := by
  obtain ⟨x, y, q0, q1, q2, q3, q4, z, hx, HW, HT⟩ : ∃ x y q0 q1 q2 q3 q4 z : Int, ((y == 0) = false ∨ ((y == 0) = true ∧ (z != 0) = false ∧ (q0 == k) = true ∧ (q1 == rd) = true ∧ (q2 == a) = true ∧ (q3 == b) = true ∧ (q4 == n) = true)) ∧
      (∀ W, Tabs W → Calls Tryd.prog 13 #[.agg #[.int .i64 k, .int .i64 rd, .int .i64 a, .int .i64 b, .int .i64 n]] W fun e w' => e = .returned (.tuple #[.int .u32 x, .int .i64 y]) ∧ Below W.heap.size W w') ∧
      (∀ W, Tabs W → Calls Tryd.prog 15 #[.int .u32 x] W fun e w' => e = .returned (.tuple #[.agg #[.int .i64 q0, .int .i64 q1, .int .i64 q2, .int .i64 q3, .int .i64 q4], .int .i64 z]) ∧ Below W.heap.size W w') := by
    cases h : okI k rd a b n
    · obtain ⟨p0, p1, p2, p3, p4, z, _, ht⟩ := take_all 0 (by omega) (by omega)
      exact ⟨0, 1, p0, p1, p2, p3, p4, z, .inl rfl, fun W TW => word_f h W TW, ht⟩
    · exact ⟨_, 0, k, rd, a, b, n, 0, .inr (by simp), fun W TW => word_t h W TW, fun W TW => take_word h W TW⟩
  obtain ⟨p0, p1, p2, p3, p4, g, hg, HT2⟩ := take_all v v0 v1
  obtain ⟨x2, y2, hg2, HW2⟩ : ∃ x2 y2 : Int, ((g != 0) = true ∨ ((g != 0) = false ∧ (y2 == 0) = true ∧ (x2 == v) = true)) ∧
      (∀ W, Tabs W → Calls Tryd.prog 13 #[.agg #[.int .i64 p0, .int .i64 p1, .int .i64 p2, .int .i64 p3, .int .i64 p4]] W fun e w' => e = .returned (.tuple #[.int .u32 x2, .int .i64 y2]) ∧ Below W.heap.size W w') := by
    rcases hg with ⟨rfl, h1, h2⟩ | ⟨rfl, rfl, rfl, rfl, rfl, rfl, _⟩
    · exact ⟨_, 0, .inr (by simp [h2]), fun W TW => word_t h1 W TW⟩
    · exact ⟨0, 1, .inl (by simp), fun W TW => word_f (by decide) W TW⟩
  clear hg
  have H1 := Lib.hid HW
  have H2 := Lib.hid HT
  have H3 := Lib.hid HT2
  have H4 := Lib.hid HW2
  have H0 := Lib.hid T
  clear HW HT HT2 HW2 T
  rcases hx with t1 | ⟨t1, t2, t3, t4, t5, t6, t7⟩ <;> rcases hg2 with s1 | ⟨s1, s2, s3⟩
  all_goals
    go_enter Tryd.func5, Tryd.ntmps5
    go_wp2_with fail
    refine (shown_any _ (H0.out.alloc _)).mono ?_
    rintro e w1 ⟨rfl, hb1⟩
    obtain ⟨hc, hf⟩ := bcell hb1
    have T1 := Lib.hid ((H0.out.alloc _).next hb1)
    have B1 := Lib.hid (bthen (balloc (Below.refl _ _) _) hb1)
    have z1 : w.heap.size < w1.heap.size := by have := hb1.size; simp at this; omega
    clear hb1
    go_wp2_with fail
    refine (H1.out _ T1.out).mono ?_
    rintro e w2 ⟨rfl, hb2⟩
    obtain ⟨hc2, hf2⟩ := bcell hb2
    have T2 := Lib.hid (T1.out.next hb2)
    have B2 := Lib.hid (bthen B1.out hb2)
    have z2 : w.heap.size < w2.heap.size := by have := hb2.size; omega
    clear hb2
    go_wp2_with fail
    refine (H2.out _ T2.out).mono ?_
    rintro e w3 ⟨rfl, hb3⟩
    obtain ⟨hc3, hf3⟩ := bcell hb3
    have T3 := Lib.hid (T2.out.next hb3)
    have B3 := Lib.hid (bthen B2.out hb3)
    have z3 : w.heap.size < w3.heap.size := by have := hb3.size; omega
    clear hb3
    go_wp2_with fail
    refine (H3.out _ (T3.out.alloc _)).mono ?_
    rintro e w4 ⟨rfl, hb4⟩
    have T4 := Lib.hid ((T3.out.alloc _).next hb4)
    have B4 := Lib.hid (bthen (balloc B3.out _) hb4)
    clear hb4
    go_wp2_with fail
    refine (H4.out _ (T4.out.alloc _)).mono ?_
    rintro e w5 ⟨rfl, hb5⟩
    have B5 := Lib.hid (bthen (balloc B4.out _) hb5)
    clear hb5
    go_wp2_with fail
    go_ret
    exact ⟨rfl, B5.out⟩

theorem far_ok {k m : Int} (hk : k = 29 ∧ m = 1048576 ∨ k = 23 ∧ m = 4096) (n : Int) : okI k 0 0 0 n = decide (-m ≤ n ∧ n < m ∧ n % 2 = 0) := by
  rw [Bool.eq_iff_iff]
  rcases hk with ⟨rfl, rfl⟩ | ⟨rfl, rfl⟩ <;> simp [okI, M.may, M.fm, M.fmL, M.reg, M.imm, M.hasRd, M.hasA, M.hasB, M.lo, M.hi, M.mu] <;> omega
theorem tmod_two (n : Int) : (n.tmod 2 == 0) = decide (n % 2 = 0) := by
  rw [Bool.eq_iff_iff]; simp only [beq_iff_eq, decide_eq_true_eq]
  exact ⟨fun h => Int.emod_eq_zero_of_dvd (Int.dvd_of_tmod_eq_zero h), fun h => Int.tmod_eq_zero_of_dvd (Int.dvd_of_emod_eq_zero h)⟩

set_option maxHeartbeats 1000000 in
theorem far_walk (n k : Int) (w : World) (T : Tabs w) :
    Calls Tryd.prog 9 #[.int .i64 n, .int .i64 k] w fun e w' => e = .returned (.bool true) ∧ Below w.heap.size w w' := by
  by_cases k1 : k = 29 ∨ k = 23
  · obtain ⟨m, hm, r1, r2⟩ : ∃ m : Int, (k = 29 ∧ m = 1048576 ∨ k = 23 ∧ m = 4096) ∧ True ∧ True := by
      rcases k1 with rfl | rfl
      · exact ⟨_, .inl ⟨rfl, rfl⟩, trivial, trivial⟩
      · exact ⟨_, .inr ⟨rfl, rfl⟩, trivial, trivial⟩
    clear k1 r1 r2
    have ho := far_ok hm n
    have ht := tmod_two n
    obtain ⟨x, y, q0, q1, q2, q3, q4, z, hx, HW, HT⟩ : ∃ x y q0 q1 q2 q3 q4 z : Int, ((y == 0) = true ∧ (y != 0) = false ∧ (z == 0) = true ∧ (q4 == n) = true ∧ (q0 == k) = true ∧ decide (-m ≤ n) = true ∧ decide (n < m) = true ∧ (n.tmod 2 == 0) = true ∨
        (y == 0) = false ∧ (y != 0) = true ∧ (decide (-m ≤ n) = false ∨ decide (-m ≤ n) = true ∧ decide (n < m) = false ∨ decide (-m ≤ n) = true ∧ decide (n < m) = true ∧ (n.tmod 2 == 0) = false)) ∧
        (∀ W, Tabs W → Calls Tryd.prog 13 #[.agg #[.int .i64 k, .int .i64 0, .int .i64 0, .int .i64 0, .int .i64 n]] W fun e w' => e = .returned (.tuple #[.int .u32 x, .int .i64 y]) ∧ Below W.heap.size W w') ∧
        (∀ W, Tabs W → Calls Tryd.prog 15 #[.int .u32 x] W fun e w' => e = .returned (.tuple #[.agg #[.int .i64 q0, .int .i64 q1, .int .i64 q2, .int .i64 q3, .int .i64 q4], .int .i64 z]) ∧ Below W.heap.size W w') := by
      cases h : okI k 0 0 0 n
      · obtain ⟨p0, p1, p2, p3, p4, z, _, hq⟩ := take_all 0 (by omega) (by omega)
        refine ⟨0, 1, p0, p1, p2, p3, p4, z, .inr ⟨rfl, rfl, ?_⟩, fun W TW => word_f h W TW, hq⟩
        rw [ho] at h
        rw [ht]
        simp at h ⊢
        omega
      · refine ⟨_, 0, k, 0, 0, 0, n, 0, .inl ?_, fun W TW => word_t h W TW, fun W TW => take_word h W TW⟩
        rw [ho] at h
        rw [ht]
        simp at h ⊢
        omega
    clear ho ht
    have H1 := Lib.hid HW
    have H2 := Lib.hid HT
    have H0 := Lib.hid T
    clear HW HT T
    rcases hm with ⟨rfl, rfl⟩ | ⟨rfl, rfl⟩
    all_goals
      rcases hx with ⟨t1, t2, t3, t4, t5, t6, t7, t8⟩ | ⟨t1, t2, t6 | ⟨t6, t7⟩ | ⟨t6, t7, t8⟩⟩
    all_goals
      go_enter Tryd.func9, Tryd.ntmps9
      go_wp2_with fail
      refine (shown_any _ H0.out).mono ?_
      rintro e w1 ⟨rfl, hb1⟩
      have T1 := Lib.hid (H0.out.next hb1)
      have B1 := Lib.hid hb1
      clear hb1
      go_wp2_with fail
      refine (H1.out _ T1.out).mono ?_
      rintro e w2 ⟨rfl, hb2⟩
      have T2 := Lib.hid (T1.out.next hb2)
      have B2 := Lib.hid (bthen B1.out hb2)
      clear hb2
      go_wp2_with fail
      refine (H2.out _ T2.out).mono ?_
      rintro e w3 ⟨rfl, hb3⟩
      have B3 := Lib.hid (bthen B2.out hb3)
      clear hb3
      go_wp2_with fail
      go_ret
      exact ⟨rfl, balloc B3.out _⟩
  · have t1 : (k != 29) = true := by simp; omega
    have t2 : (k != 23) = true := by simp; omega
    clear k1
    have H0 := Lib.hid T
    clear T
    go_enter Tryd.func9, Tryd.ntmps9
    go_wp2_with fail
    refine (shown_any _ H0.out).mono ?_
    rintro e w1 ⟨rfl, hb1⟩
    go_wp2_with fail
    go_ret
    exact ⟨rfl, hb1⟩
end Go.Proofs.YtmedlebepgobeaaDoor
