/- A walk of Word of the document's answer for layer 1, whatever the instruction is. -/
import Derived.Test.YtmedlebepgobeaaDoorR4a
import Derived.Test.YtmedlebepgobeaaDoorR4b
namespace Go.Proofs.YtmedlebepgobeaaDoor
open Go.RowKit

theorem rword_yes (k : Nat) (k1 : 1 ≤ k) (k2 : k < 32) (rd a b n : Int) (w : World) (hy : M.may k rd a b n = true) :
    Calls Tryd.prog 14 #[.agg #[.int .i64 k, .int .i64 rd, .int .i64 a, .int .i64 b, .int .i64 n]] w fun e w' => e = .returned (.tuple #[.int .u32 (M.word k rd a b n), .int .i64 0]) ∧ Below w.heap.size w w' := by
  rcases M.fm_cases k2 with e | e | e | e | e | e | e | e
  · exact rword_0 k k1 k2 e rd a b n w hy
  · exact rword_1 k k1 k2 e rd a b n w hy
  · exact rword_2 k k1 k2 e rd a b n w hy
  · exact rword_3 k k1 k2 e rd a b n w hy
  · exact rword_4 k k1 k2 e rd a b n w hy
  · exact rword_5 k k1 k2 e rd a b n w hy
  · exact rword_6 k k1 k2 e rd a b n w hy
  · exact rword_7 k k1 k2 e rd a b n w hy

set_option maxRecDepth 100000 in
set_option maxHeartbeats 1000000 in
theorem rword_f {k rd a b n : Int} (h : okI k rd a b n = false) (w : World) :
    Calls Tryd.prog 14 #[.agg #[.int .i64 k, .int .i64 rd, .int .i64 a, .int .i64 b, .int .i64 n]] w fun e w' => e = .returned (.tuple #[.int .u32 0, .int .i64 1]) ∧ Below w.heap.size w w' := by
  have HM : ∀ W, Calls Tryd.prog 18 #[.agg #[.int .i64 k, .int .i64 rd, .int .i64 a, .int .i64 b, .int .i64 n]] W fun e w' => e = .returned (.bool false) ∧ Below W.heap.size W w' := by
    intro W
    by_cases h1 : 1 ≤ k
    · by_cases h2 : k < 32
      · obtain ⟨K, rfl⟩ := Int.eq_ofNat_of_zero_le (show 0 ≤ k by omega)
        have hn : M.may K rd a b n = false := by simpa [okI, h1, h2] using h
        have hc := rmay_in K (by omega) (by omega) rd a b n W
        rw [hn] at hc
        exact hc
      · exact rmay_out k (.inr (by omega)) rd a b n W
    · exact rmay_out k (.inl (by omega)) rd a b n W
  have H1 := Lib.hid HM
  clear HM h
  go_enter Tryd.func14, Tryd.ntmps14
  go_wp2_with fail
  refine (H1.out _).mono ?_
  rintro e w1 ⟨rfl, hb1⟩
  go_wp2_with fail
  go_ret2
  exact ⟨rfl, bthen (balloc (Below.refl _ _) _) hb1⟩
theorem rword_t {k rd a b n : Int} (h : okI k rd a b n = true) (w : World) :
    Calls Tryd.prog 14 #[.agg #[.int .i64 k, .int .i64 rd, .int .i64 a, .int .i64 b, .int .i64 n]] w fun e w' => e = .returned (.tuple #[.int .u32 (wordI k rd a b n), .int .i64 0]) ∧ Below w.heap.size w w' := by
  obtain ⟨h1, h2, h3⟩ := okI_parts h
  obtain ⟨K, rfl⟩ := Int.eq_ofNat_of_zero_le (show 0 ≤ k by omega)
  exact rword_yes K (by omega) (by omega) rd a b n w h3
end Go.Proofs.YtmedlebepgobeaaDoor
