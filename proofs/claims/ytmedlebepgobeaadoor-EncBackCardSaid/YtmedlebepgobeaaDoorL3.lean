/- Walks of the laws over single instructions: EncBack and EncApart return true for every argument. -/
import Derived.Test.YtmedlebepgobeaaDoorL1
namespace Go.Proofs.YtmedlebepgobeaaDoor
open Go.RowKit

/-- what Word comes to, whatever the instruction is -/
theorem word_all (k rd a b n : Int) : ∃ x y : Int, (y = 0 ∧ okI k rd a b n = true ∧ x = wordI k rd a b n ∨ y = 1 ∧ okI k rd a b n = false ∧ x = 0) ∧ (0 ≤ x ∧ x < 4294967296) ∧ ∀ W, Tabs W →
    Calls Tryd.prog 13 #[.agg #[.int .i64 k, .int .i64 rd, .int .i64 a, .int .i64 b, .int .i64 n]] W fun e w' => e = .returned (.tuple #[.int .u32 x, .int .i64 y]) ∧ Below W.heap.size W w' := by
  cases h : okI k rd a b n
  · exact ⟨0, 1, .inr ⟨rfl, rfl, rfl⟩, by omega, fun W TW => word_f h W TW⟩
  · exact ⟨_, 0, .inl ⟨rfl, rfl, rfl⟩, wordI_in h, fun W TW => word_t h W TW⟩
/-- what Take comes to, whatever the word is -/
theorem take_all (v : Int) (v0 : 0 ≤ v) (v1 : v < 4294967296) : ∃ p0 p1 p2 p3 p4 z : Int, (z = 0 ∧ okI p0 p1 p2 p3 p4 = true ∧ wordI p0 p1 p2 p3 p4 = v ∨ z = 5 ∧ p0 = 0 ∧ p1 = 0 ∧ p2 = 0 ∧ p3 = 0 ∧ p4 = 0 ∧ ∀ K : Nat, 1 ≤ K → K < 32 → M.okAt v K = false) ∧ ∀ W, Tabs W →
    Calls Tryd.prog 15 #[.int .u32 v] W fun e w' => e = .returned (.tuple #[.agg #[.int .i64 p0, .int .i64 p1, .int .i64 p2, .int .i64 p3, .int .i64 p4], .int .i64 z]) ∧ Below W.heap.size W w' := by
  by_cases h : ∃ K : Nat, 1 ≤ K ∧ K < 32 ∧ M.okAt v K = true
  · obtain ⟨K, k1, k2, hok⟩ := h
    obtain ⟨h1, h2⟩ := take_okI k1 k2 hok
    exact ⟨_, _, _, _, _, _, .inl ⟨rfl, h1, h2⟩, fun W TW => take_t v K k1 k2 hok W v0 v1 TW⟩
  · have hno : ∀ K : Nat, 1 ≤ K → K < 32 → M.okAt v K = false := fun K h1 h2 => by
      cases e : M.okAt v K
      · rfl
      · exact absurd ⟨K, h1, h2, e⟩ h
    exact ⟨_, _, _, _, _, _, .inr ⟨rfl, rfl, rfl, rfl, rfl, rfl, hno⟩, fun W TW => take_f v hno W v0 v1 TW⟩
/-- a word tells its instruction -/
theorem word_one {k rd a b n k' rd' a' b' n' : Int} (h : okI k rd a b n = true) (h' : okI k' rd' a' b' n' = true) (e : wordI k rd a b n = wordI k' rd' a' b' n') : k = k' ∧ rd = rd' ∧ a = a' ∧ b = b' ∧ n = n' := by
  obtain ⟨h1, h2, h3⟩ := okI_parts h
  obtain ⟨g1, g2, g3⟩ := okI_parts h'
  have o1 := wordI_ok h
  have o2 := wordI_ok h'
  rw [← e] at o2
  have hk := M.ok_one_kind (by omega) (by omega) (by omega) (by omega) o1 o2
  obtain ⟨_, e1, e2, e3, e4, _, _⟩ := M.of_may (k := k.toNat) (by omega) h3
  obtain ⟨_, d1, d2, d3, d4, _, _⟩ := M.of_may (k := k'.toNat) (by omega) g3
  have hw : M.word k.toNat rd a b n = M.word k'.toNat rd' a' b' n' := e
  rw [← hk] at d1 d2 d3 d4 hw
  rw [← hw] at d1 d2 d3 d4
  exact ⟨by omega, by rw [← e1, ← d1], by rw [← e2, ← d2], by rw [← e3, ← d3], by rw [← e4, ← d4]⟩

set_option maxHeartbeats 1000000 in
theorem apart_walk (k rd a b n k' rd' a' b' n' : Int) (w : World) (T : Tabs w) :
    Calls Tryd.prog 6 #[.agg #[.int .i64 k, .int .i64 rd, .int .i64 a, .int .i64 b, .int .i64 n], .agg #[.int .i64 k', .int .i64 rd', .int .i64 a', .int .i64 b', .int .i64 n']] w fun e w' => e = .returned (.bool true) ∧ Below w.heap.size w w' := by
  obtain ⟨x, y, hx, ⟨x0, x1⟩, HW⟩ := word_all k rd a b n
  obtain ⟨x', y', hx', ⟨x0', x1'⟩, HW'⟩ := word_all k' rd' a' b' n'
  have hcases : ((y != 0) = true) ∨ ((y != 0) = false ∧ (y' != 0) = true) ∨ ((y != 0) = false ∧ (y' != 0) = false ∧ (x == x') = true ∧ (k == k') = true ∧ (rd == rd') = true ∧ (a == a') = true ∧ (b == b') = true ∧ (n == n') = true) ∨
      ((y != 0) = false ∧ (y' != 0) = false ∧ (x == x') = false ∧ ((k == k') = false ∨ ((k == k') = true ∧ (rd == rd') = false) ∨ ((k == k') = true ∧ (rd == rd') = true ∧ (a == a') = false) ∨ ((k == k') = true ∧ (rd == rd') = true ∧ (a == a') = true ∧ (b == b') = false) ∨ ((k == k') = true ∧ (rd == rd') = true ∧ (a == a') = true ∧ (b == b') = true ∧ (n == n') = false))) := by
    rcases hx with ⟨rfl, o, hxw⟩ | ⟨rfl, _, _⟩
    · rcases hx' with ⟨rfl, o', hxw'⟩ | ⟨rfl, _, _⟩
      · by_cases e : x = x'
        · obtain ⟨rfl, rfl, rfl, rfl, rfl⟩ := word_one o o' (by rw [← hxw, ← hxw', e])
          exact .inr (.inr (.inl (by simp [e])))
        · refine .inr (.inr (.inr ⟨by simp, by simp, by simp [e], ?_⟩))
          by_cases q0 : k = k'
          · by_cases q1 : rd = rd'
            · by_cases q2 : a = a'
              · by_cases q3 : b = b'
                · by_cases q4 : n = n'
                  · subst q0 q1 q2 q3 q4
                    exact absurd (hxw.trans hxw'.symm) e
                  · simp [q0, q1, q2, q3, q4]
                · simp [q0, q1, q2, q3]
              · simp [q0, q1, q2]
            · simp [q0, q1]
          · simp [q0]
      · exact .inr (.inl (by simp))
    · exact .inl (by simp)
  clear hx hx'
  have H1 := Lib.hid HW
  have H2 := Lib.hid HW'
  have H0 := Lib.hid T
  clear HW HW' T
  rcases hcases with t1 | ⟨t1, t2⟩ | ⟨t1, t2, t3, t4, t5, t6, t7, t8⟩ | ⟨t1, t2, t3, t4 | ⟨t4, t5⟩ | ⟨t4, t5, t6⟩ | ⟨t4, t5, t6, t7⟩ | ⟨t4, t5, t6, t7, t8⟩⟩
  all_goals
    go_enter Tryd.func6, Tryd.ntmps6
    go_wp2_with fail
    refine (shown_any _ ((H0.out.alloc _).alloc _)).mono ?_
    rintro e w1 ⟨rfl, hb1⟩
    obtain ⟨hc, hf⟩ := bcell hb1
    have T1 := Lib.hid (((H0.out.alloc _).alloc _).next hb1)
    have B1 := Lib.hid (bthen (balloc (balloc (Below.refl _ _) _) _) hb1)
    have z1 : w.heap.size + 1 < w1.heap.size := by have := hb1.size; simp at this; omega
    have z1' : w.heap.size < w1.heap.size := by omega
    clear hb1
    go_wp2_with fail
    refine (H1.out _ T1.out).mono ?_
    rintro e w2 ⟨rfl, hb2⟩
    obtain ⟨hc2, hf2⟩ := bcell hb2
    have T2 := Lib.hid (T1.out.next hb2)
    have B2 := Lib.hid (bthen B1.out hb2)
    have z2 : w.heap.size + 1 < w2.heap.size := by have := hb2.size; omega
    have z2' : w.heap.size < w2.heap.size := by omega
    clear hb2
    go_wp2_with fail
    refine (H2.out _ T2.out).mono ?_
    rintro e w3 ⟨rfl, hb3⟩
    obtain ⟨hc3, hf3⟩ := bcell hb3
    have B3 := Lib.hid (bthen B2.out hb3)
    clear hb3
    go_wp2_with fail
    go_ret
    exact ⟨rfl, B3.out⟩
end Go.Proofs.YtmedlebepgobeaaDoor
