/- Walks of the laws over single instructions: EncLow, EncFields, EncFar, EncBack, EncApart return true for every argument. -/
import Derived.Test.YtmedlebepgobeaaDoorW4
namespace Go.Proofs.YtmedlebepgobeaaDoor
open Go.RowKit

theorem Tabs.next {W w' : World} (T : Tabs W) (hb : Below W.heap.size W w') : Tabs w' := T.below hb T.size
theorem bthen {w W w' : World} (h : Below w.heap.size w W) (hb : Below W.heap.size W w') : Below w.heap.size w w' := h.trans (hb.mono h.size)
theorem balloc {w W : World} (h : Below w.heap.size w W) (o : Obj) : Below w.heap.size w (W.alloc o) := h.alloc h.size o

/-- may an instruction be, whatever its kind is? -/
def okI (k rd a b n : Int) : Bool := decide (1 ≤ k) && (decide (k < 32) && M.may k.toNat rd a b n)
theorem okI_parts {k rd a b n : Int} (h : okI k rd a b n = true) : 1 ≤ k ∧ k < 32 ∧ M.may k.toNat rd a b n = true := by
  simpa [okI, Bool.and_eq_true] using h
def wordI (k rd a b n : Int) : Int := M.word k.toNat rd a b n

theorem word_t {k rd a b n : Int} (h : okI k rd a b n = true) (w : World) (T : Tabs w) :
    Calls Tryd.prog 13 #[.agg #[.int .i64 k, .int .i64 rd, .int .i64 a, .int .i64 b, .int .i64 n]] w fun e w' => e = .returned (.tuple #[.int .u32 (wordI k rd a b n), .int .i64 0]) ∧ Below w.heap.size w w' := by
  obtain ⟨h1, h2, h3⟩ := okI_parts h
  obtain ⟨K, rfl⟩ := Int.eq_ofNat_of_zero_le (show 0 ≤ k by omega)
  exact word_yes K (by omega) (by omega) rd a b n w T h3
theorem word_f {k rd a b n : Int} (h : okI k rd a b n = false) (w : World) (T : Tabs w) :
    Calls Tryd.prog 13 #[.agg #[.int .i64 k, .int .i64 rd, .int .i64 a, .int .i64 b, .int .i64 n]] w fun e w' => e = .returned (.tuple #[.int .u32 0, .int .i64 1]) ∧ Below w.heap.size w w' := by
  by_cases h1 : 1 ≤ k
  · by_cases h2 : k < 32
    · obtain ⟨K, rfl⟩ := Int.eq_ofNat_of_zero_le (show 0 ≤ k by omega)
      refine word_no K (by omega) (by omega) rd a b n w T ?_
      simpa [okI, h1, h2] using h
    · exact word_out k (.inr (by omega)) rd a b n w
  · exact word_out k (.inl (by omega)) rd a b n w
theorem wordI_in {k rd a b n : Int} (h : okI k rd a b n = true) : 0 ≤ wordI k rd a b n ∧ wordI k rd a b n < 4294967296 := by
  obtain ⟨h1, h2, h3⟩ := okI_parts h
  obtain ⟨_, _, _, _, _, h5, h6⟩ := M.of_may (by omega) h3
  exact ⟨h5, h6⟩
theorem wordI_ok {k rd a b n : Int} (h : okI k rd a b n = true) : M.okAt (wordI k rd a b n) k.toNat = true := by
  obtain ⟨h1, h2, h3⟩ := okI_parts h
  exact M.okAt_word (by omega) h3

/-- the fields of the instruction that Take finds, by its kind -/
theorem take_t (v : Int) (K : Nat) (k1 : 1 ≤ K) (k2 : K < 32) (hok : M.okAt v K = true) (w : World) (v0 : 0 ≤ v) (v1 : v < 4294967296) (T : Tabs w) :
    Calls Tryd.prog 15 #[.int .u32 v] w fun e w' => e = .returned (.tuple #[.agg #[.int .i64 K, .int .i64 (M.tRd K v), .int .i64 (M.tA K v), .int .i64 (M.tB K v), .int .i64 (M.tI K v)], .int .i64 0]) ∧ Below w.heap.size w w' := by
  refine (take_any v w v0 v1 T).mono ?_
  rintro e w' ⟨⟨k, h1, h2, h3, rfl⟩ | ⟨h1, rfl⟩, hb⟩
  · obtain rfl := M.ok_one_kind h2 k2 h1 k1 h3 hok
    exact ⟨rfl, hb⟩
  · rw [h1 K k1 k2] at hok; cases hok
theorem take_f (v : Int) (hno : ∀ K : Nat, 1 ≤ K → K < 32 → M.okAt v K = false) (w : World) (v0 : 0 ≤ v) (v1 : v < 4294967296) (T : Tabs w) :
    Calls Tryd.prog 15 #[.int .u32 v] w fun e w' => e = .returned (.tuple #[.agg #[.int .i64 0, .int .i64 0, .int .i64 0, .int .i64 0, .int .i64 0], .int .i64 5]) ∧ Below w.heap.size w w' := by
  refine (take_any v w v0 v1 T).mono ?_
  rintro e w' ⟨⟨k, h1, h2, h3, rfl⟩ | ⟨h1, rfl⟩, hb⟩
  · rw [hno k h1 h2] at h3; cases h3
  · exact ⟨rfl, hb⟩
theorem take_word {k rd a b n : Int} (h : okI k rd a b n = true) (w : World) (T : Tabs w) :
    Calls Tryd.prog 15 #[.int .u32 (wordI k rd a b n)] w fun e w' => e = .returned (.tuple #[.agg #[.int .i64 k, .int .i64 rd, .int .i64 a, .int .i64 b, .int .i64 n], .int .i64 0]) ∧ Below w.heap.size w w' := by
  obtain ⟨h1, h2, h3⟩ := okI_parts h
  obtain ⟨i0, i1⟩ := wordI_in h
  have ho := wordI_ok h
  obtain ⟨K, rfl⟩ := Int.eq_ofNat_of_zero_le (show 0 ≤ k by omega)
  have hc := take_t _ K (by omega) (by omega) ho w i0 i1 T
  obtain ⟨_, e1, e2, e3, e4, _, _⟩ := M.of_may (k := K) (by omega) h3
  have hw : wordI K rd a b n = M.word K rd a b n := rfl
  rw [hw] at hc ⊢
  rw [e1, e2, e3, e4] at hc
  exact hc
/-- what Take finds may be, and has the word that it was taken from -/
theorem take_okI {v : Int} {K : Nat} (k1 : 1 ≤ K) (k2 : K < 32) (hok : M.okAt v K = true) : okI K (M.tRd K v) (M.tA K v) (M.tB K v) (M.tI K v) = true ∧ wordI K (M.tRd K v) (M.tA K v) (M.tB K v) (M.tI K v) = v := by
  obtain ⟨h1, h2⟩ := M.okAt_parts hok
  exact ⟨by simp [okI, h1]; omega, h2⟩

set_option maxHeartbeats 400000 in
theorem shown_any (w : World) (T : Tabs w) : Calls Tryd.prog 12 #[] w fun e w' => e = .returned (.bool true) ∧ Below w.heap.size w w' := by
  have h1 := Lib.hid (show okI 12 1 2 0 (-1) = true by decide)
  have h2 := Lib.hid (show okI 29 0 0 0 (-4) = true by decide)
  have e1 : (wordI 12 1 2 0 (-1) == 4293984403) = true := by decide
  have e2 : (wordI 29 0 0 0 (-4) == 4292866159) = true := by decide
  have HT := Lib.hid T
  clear T
  go_enter Tryd.func12, Tryd.ntmps12
  go_wp2_with fail
  refine (word_t h1.out _ HT.out).mono ?_
  rintro e w1 ⟨rfl, hb1⟩
  have HB1 := Lib.hid hb1
  clear hb1
  go_wp2_with fail
  refine (word_t h2.out _ (HT.out.next HB1.out)).mono ?_
  rintro e w2 ⟨rfl, hb2⟩
  go_wp2_with fail
  go_ret
  exact ⟨rfl, bthen HB1.out hb2⟩
end Go.Proofs.YtmedlebepgobeaaDoor
