/- A walk of the law EncFields: it returns true for every argument. -/
import Derived.Test.YtmedlebepgobeaaDoorL1
namespace Go.Proofs.YtmedlebepgobeaaDoor
open Go.RowKit

theorem fields_of {k rd a b n : Int} (h : okI k rd a b n = true) : (M.hasRd (M.fm k.toNat) = true → (wordI k rd a b n / 128 % 32 == rd) = true) ∧ (M.hasA (M.fm k.toNat) = true → (wordI k rd a b n / 32768 % 32 == a) = true) ∧ (M.hasB (M.fm k.toNat) = true → (wordI k rd a b n / 1048576 % 32 == b) = true) := by
  obtain ⟨h1, h2, h3⟩ := okI_parts h
  obtain ⟨_, e1, e2, e3, _⟩ := M.of_may (k := k.toNat) (by omega) h3
  unfold M.tRd at e1
  unfold M.tA at e2
  unfold M.tB at e3
  refine ⟨fun t => ?_, fun t => ?_, fun t => ?_⟩
  · rw [if_pos t] at e1; exact beq_iff_eq.2 e1
  · rw [if_pos t] at e2; exact beq_iff_eq.2 e2
  · rw [if_pos t] at e3; exact beq_iff_eq.2 e3
theorem fm_R {k : Nat} (h1 : 1 ≤ k) (h2 : k ≤ 11) : M.fm k = 0 := M.split (P := fun k => 1 ≤ k → k ≤ 11 → M.fm k = 0) (by decide) (by omega) h1 h2

set_option maxHeartbeats 2000000 in
theorem fields_walk (k rd a b n : Int) (w : World) (T : Tabs w) :
    Calls Tryd.prog 10 #[.agg #[.int .i64 k, .int .i64 rd, .int .i64 a, .int .i64 b, .int .i64 n]] w fun e w' => e = .returned (.bool true) ∧ Below w.heap.size w w' := by
  have H0 := Lib.hid T
  clear T
  by_cases c : (1 ≤ k ∧ k ≤ 11) ∨ k = 19 ∨ k = 21
  · obtain ⟨r, m, c, x, y, hm, hx, x0, x1, HW⟩ : ∃ r m c x y : Int, (((1 ≤ k ∧ k ≤ 11) ∧ r = rd ∧ m = b ∧ c = 0) ∨ (k = 19 ∧ r = rd ∧ m = 0 ∧ c = n) ∨ (k = 21 ∧ r = 0 ∧ m = b ∧ c = n)) ∧
        ((y != 0) = true ∧ (x == 0) = true ∨ (y != 0) = false ∧ ((k == 21) = true ∨ (k == 21) = false ∧ (x / 128 % 32 == rd) = true) ∧ (x / 32768 % 32 == a) = true ∧ ((k == 19) = true ∨ (k == 19) = false ∧ (x / 1048576 % 32 == b) = true)) ∧ 0 ≤ x ∧ x < 4294967296 ∧
        ∀ W, Tabs W → Calls Tryd.prog 13 #[.agg #[.int .i64 k, .int .i64 r, .int .i64 a, .int .i64 m, .int .i64 c]] W fun e w' => e = .returned (.tuple #[.int .u32 x, .int .i64 y]) ∧ Below W.heap.size W w' := by
      have G : ∀ r m c : Int, (((1 ≤ k ∧ k ≤ 11) ∧ r = rd ∧ m = b ∧ c = 0) ∨ (k = 19 ∧ r = rd ∧ m = 0 ∧ c = n) ∨ (k = 21 ∧ r = 0 ∧ m = b ∧ c = n)) → ∃ x y : Int,
          ((y != 0) = true ∧ (x == 0) = true ∨ (y != 0) = false ∧ ((k == 21) = true ∨ (k == 21) = false ∧ (x / 128 % 32 == rd) = true) ∧ (x / 32768 % 32 == a) = true ∧ ((k == 19) = true ∨ (k == 19) = false ∧ (x / 1048576 % 32 == b) = true)) ∧ 0 ≤ x ∧ x < 4294967296 ∧
          ∀ W, Tabs W → Calls Tryd.prog 13 #[.agg #[.int .i64 k, .int .i64 r, .int .i64 a, .int .i64 m, .int .i64 c]] W fun e w' => e = .returned (.tuple #[.int .u32 x, .int .i64 y]) ∧ Below W.heap.size W w' := by
        intro r m c hm
        cases h : okI k r a m c
        · exact ⟨0, 1, .inl ⟨rfl, rfl⟩, by omega, by omega, fun W TW => word_f h W TW⟩
        · refine ⟨_, 0, .inr ⟨rfl, ?_⟩, (wordI_in h).1, (wordI_in h).2, fun W TW => word_t h W TW⟩
          obtain ⟨f1, f2, f3⟩ := fields_of h
          rcases hm with ⟨hk, rfl, rfl, rfl⟩ | ⟨rfl, rfl, rfl, rfl⟩ | ⟨rfl, rfl, rfl, rfl⟩
          · have e := fm_R (k := k.toNat) (by omega) (by omega)
            rw [e] at f1 f2 f3
            exact ⟨.inr ⟨by simp; omega, f1 rfl⟩, f2 rfl, .inr ⟨by simp; omega, f3 rfl⟩⟩
          · exact ⟨.inr ⟨rfl, f1 rfl⟩, f2 rfl, .inl rfl⟩
          · exact ⟨.inl rfl, f2 rfl, .inr ⟨rfl, f3 rfl⟩⟩
      rcases c with c | c | c
      · obtain ⟨x, y, h⟩ := G rd b 0 (.inl ⟨c, rfl, rfl, rfl⟩)
        exact ⟨rd, b, 0, x, y, .inl ⟨c, rfl, rfl, rfl⟩, h⟩
      · obtain ⟨x, y, h⟩ := G rd 0 n (.inr (.inl ⟨c, rfl, rfl, rfl⟩))
        exact ⟨rd, 0, n, x, y, .inr (.inl ⟨c, rfl, rfl, rfl⟩), h⟩
      · obtain ⟨x, y, h⟩ := G 0 b n (.inr (.inr ⟨c, rfl, rfl, rfl⟩))
        exact ⟨0, b, n, x, y, .inr (.inr ⟨c, rfl, rfl, rfl⟩), h⟩
    have H1 := Lib.hid HW
    clear HW
    have u1 : decide (k < 1) = false := by simp; omega
    have u2 : decide (22 < k) = false := by simp; omega
    rcases hm with ⟨⟨g1, g2⟩, rfl, rfl, rfl⟩ | ⟨rfl, rfl, rfl, rfl⟩ | ⟨rfl, rfl, rfl, rfl⟩
    · have u3 : decide (11 < k) = false := by simp; omega
      have u4 : (k == 19) = false := by simp; omega
      have u5 : (k == 21) = false := by simp; omega
      clear c
      rcases hx with ⟨t1, t2⟩ | ⟨t1, t2, t3, t4⟩
      all_goals
        try simp only [u4, u5, Bool.false_eq_true, false_or, true_and] at t2 t4
        go_enter Tryd.func10, Tryd.ntmps10
        go_wp2_with fail
        refine (shown_any _ (H0.out.alloc _)).mono ?_
        rintro e w1 ⟨rfl, hb1⟩
        have T1 := Lib.hid ((H0.out.alloc _).next hb1)
        have B1 := Lib.hid (bthen (balloc (Below.refl _ _) _) hb1)
        clear hb1
        go_wp2_with fail
        refine (H1.out _ (T1.out.alloc _)).mono ?_
        rintro e w2 ⟨rfl, hb2⟩
        have B2 := Lib.hid (bthen (balloc B1.out _) hb2)
        clear hb2
        go_wp2_with fail
        go_ret
        exact ⟨rfl, B2.out⟩
    all_goals
      clear c
      rcases hx with ⟨t1, t2⟩ | ⟨t1, t2, t3, t4⟩
      all_goals
        try simp at t2
        try simp at t4
        go_enter Tryd.func10, Tryd.ntmps10
        go_wp2_with fail
        refine (shown_any _ (H0.out.alloc _)).mono ?_
        rintro e w1 ⟨rfl, hb1⟩
        have T1 := Lib.hid ((H0.out.alloc _).next hb1)
        have B1 := Lib.hid (bthen (balloc (Below.refl _ _) _) hb1)
        clear hb1
        go_wp2_with fail
        refine (H1.out _ (T1.out.alloc _)).mono ?_
        rintro e w2 ⟨rfl, hb2⟩
        have B2 := Lib.hid (bthen (balloc B1.out _) hb2)
        clear hb2
        go_wp2_with fail
        go_ret
        exact ⟨rfl, B2.out⟩
  · have hk : k < 1 ∨ (1 ≤ k ∧ 22 < k) ∨ (1 ≤ k ∧ k ≤ 22 ∧ 11 < k ∧ k ≠ 19 ∧ k ≠ 21) := by omega
    clear c
    have hq : (decide (k < 1) = true) ∨ (decide (k < 1) = false ∧ decide (22 < k) = true) ∨ (decide (k < 1) = false ∧ decide (22 < k) = false ∧ decide (11 < k) = true ∧ (k != 19) = true ∧ (k != 21) = true) := by simp; omega
    clear hk
    rcases hq with t1 | ⟨t1, t2⟩ | ⟨t1, t2, t3, t4, t5⟩
    all_goals
      go_enter Tryd.func10, Tryd.ntmps10
      go_wp2_with fail
      refine (shown_any _ (H0.out.alloc _)).mono ?_
      rintro e w1 ⟨rfl, hb1⟩
      have B1 := Lib.hid (bthen (balloc (Below.refl _ _) _) hb1)
      clear hb1
      go_wp2_with fail
      go_ret
      exact ⟨rfl, B1.out⟩
end Go.Proofs.YtmedlebepgobeaaDoor
