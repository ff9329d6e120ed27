/- Walks of the laws over single instructions: EncLow, EncBack, EncApart return true for every argument. -/
import Derived.Test.YtmedlebepgobeaaDoorL1
namespace Go.Proofs.YtmedlebepgobeaaDoor
open Go.RowKit

theorem low_of {k rd a b n : Int} (h : okI k rd a b n = true) : (wordI k rd a b n % 4 == 3) = true := by
  obtain ⟨h1, h2, h3⟩ := okI_parts h
  have := M.word_low (k := k.toNat) (by omega) (by omega) h3
  simpa [wordI] using this

/-- EncLow, behind its case: whether o may be (q), whether v is a word (p) -/
theorem low_walk (k rd a b n v : Int) (w : World) (T : Tabs w) (v0 : 0 ≤ v) (v1 : v < 4294967296) :
    Calls Tryd.prog 8 #[.agg #[.int .i64 k, .int .i64 rd, .int .i64 a, .int .i64 b, .int .i64 n], .int .u32 v] w fun e w' => e = .returned (.bool true) ∧ Below w.heap.size w w' := by
  obtain ⟨x, y, hx, x0, HW⟩ : ∃ x y : Int, ((y != 0) = true ∨ ((y != 0) = false ∧ (x % 4 == 3) = true)) ∧ 0 ≤ x ∧ ∀ W, Tabs W →
      Calls Tryd.prog 13 #[.agg #[.int .i64 k, .int .i64 rd, .int .i64 a, .int .i64 b, .int .i64 n]] W fun e w' => e = .returned (.tuple #[.int .u32 x, .int .i64 y]) ∧ Below W.heap.size W w' := by
    cases h : okI k rd a b n
    · exact ⟨0, 1, .inl rfl, by omega, fun W TW => word_f h W TW⟩
    · exact ⟨_, 0, .inr ⟨rfl, low_of h⟩, (wordI_in h).1, fun W TW => word_t h W TW⟩
  obtain ⟨p0, p1, p2, p3, p4, z, hz, HT⟩ : ∃ p0 p1 p2 p3 p4 z : Int, ((v % 4 == 3) = true ∨ ((v % 4 == 3) = false ∧ (z == 5) = true)) ∧ ∀ W, Tabs W →
      Calls Tryd.prog 15 #[.int .u32 v] W fun e w' => e = .returned (.tuple #[.agg #[.int .i64 p0, .int .i64 p1, .int .i64 p2, .int .i64 p3, .int .i64 p4], .int .i64 z]) ∧ Below W.heap.size W w' := by
    by_cases h : ∃ K : Nat, 1 ≤ K ∧ K < 32 ∧ M.okAt v K = true
    · obtain ⟨K, k1, k2, hok⟩ := h
      obtain ⟨h1, h2⟩ := take_okI k1 k2 hok
      have h3 := low_of h1
      rw [h2] at h3
      exact ⟨_, _, _, _, _, _, .inl h3, fun W TW => take_t v K k1 k2 hok W v0 v1 TW⟩
    · have hno : ∀ K : Nat, 1 ≤ K → K < 32 → M.okAt v K = false := fun K h1 h2 => by
        cases e : M.okAt v K
        · rfl
        · exact absurd ⟨K, h1, h2, e⟩ h
      refine ⟨_, _, _, _, _, _, ?_, fun W TW => take_f v hno W v0 v1 TW⟩
      cases e : (v % 4 == 3)
      · exact .inr ⟨rfl, rfl⟩
      · exact .inl rfl
  have H1 := Lib.hid HW
  have H2 := Lib.hid HT
  have H0 := Lib.hid T
  clear HW HT T
  rcases hx with hx | ⟨hx, hx'⟩ <;> rcases hz with hz | ⟨hz, hz'⟩
  all_goals
    go_enter Tryd.func8, Tryd.ntmps8
    go_wp2_with fail
    refine (shown_any _ (H0.out.alloc _)).mono ?_
    rintro e w1 ⟨rfl, hb1⟩
    obtain ⟨hc, hf⟩ := bcell hb1
    have T1 := Lib.hid ((H0.out.alloc _).next hb1)
    have B1 := Lib.hid (bthen (balloc (Below.refl _ _) _) hb1)
    clear hb1
    go_wp2_with fail
    refine (H1.out _ T1.out).mono ?_
    rintro e w2 ⟨rfl, hb2⟩
    clear hc hf
    have T2 := Lib.hid (T1.out.next hb2)
    have B2 := Lib.hid (bthen B1.out hb2)
    clear hb2
    go_wp2_with fail
    refine (H2.out _ T2.out).mono ?_
    rintro e w3 ⟨rfl, hb3⟩
    have B3 := Lib.hid (bthen B2.out hb3)
    clear hb3
    go_wp2_with fail
    go_ret
    exact ⟨rfl, balloc B3.out _⟩
end Go.Proofs.YtmedlebepgobeaaDoor
