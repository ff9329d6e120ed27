/- RvBranches: of two numbers one branch of each pair goes. -/
import Derived.Test.YtopamkbgolhbcaaDoorZNG
namespace Go.Proofs.YtopamkbgolhbcaaDoor
open Go.RowKit

set_option maxRecDepth 100000 in
set_option maxHeartbeats 2000000 in
theorem branches_walk (a b : Int) (w : World) (T : E.Tabs w) : Calls Tryd.prog 12 #[.int .u64 a, .int .u64 b] w fun e w' => e = .returned (.bool true) ∧ Below w.heap.size w w' := by
  have HS := Lib.hid (shown_any w T)
  have H23 := Lib.hid (fun W => goes_any 23 0 0 0 0 a b W)
  have H24 := Lib.hid (fun W => goes_any 24 0 0 0 0 a b W)
  have H25 := Lib.hid (fun W => goes_any 25 0 0 0 0 a b W)
  have H26 := Lib.hid (fun W => goes_any 26 0 0 0 0 a b W)
  obtain ⟨X, hX⟩ : ∃ X : Bool, (a == b) = X := ⟨_, rfl⟩
  obtain ⟨Y, hY⟩ : ∃ Y : Bool, decide (a < b) = Y := ⟨_, rfl⟩
  have e23 : goesB 23 a b = X := by rw [← hX]; simp [goesB]
  have e24 : goesB 24 a b = !X := by rw [← hX]; simp [goesB, bne]
  have e25 : goesB 25 a b = Y := by rw [← hY]; simp [goesB]
  have e26 : goesB 26 a b = !Y := by
    have e : goesB 26 a b = decide (b ≤ a) := by simp [goesB]
    rw [e, ← hY]
    by_cases h : a < b
    · have h' : ¬ b ≤ a := by omega
      simp [h, h']
    · have h' : b ≤ a := by omega
      simp [h, h']
  rw [e23] at H23
  rw [e24] at H24
  rw [e25] at H25
  rw [e26] at H26
  clear e23 e24 e25 e26 T
  cases X <;> cases Y
  all_goals
    go_enter Tryd.func12, Tryd.ntmps12
    go_wp2_with fail
    refine HS.out.mono ?_
    rintro e w1 ⟨rfl, hb1⟩
    have HB1 := Lib.hid hb1
    clear hb1
    go_wp2_with fail
    refine (H23.out _).mono ?_
    rintro e w2 ⟨rfl, hb2⟩
    have HB2 := Lib.hid (bthen HB1.out hb2)
    clear hb2
    go_wp2_with fail
    refine (H25.out _).mono ?_
    rintro e w3 ⟨rfl, hb3⟩
    have HB3 := Lib.hid (bthen HB2.out hb3)
    clear hb3
    go_wp2_with fail
    refine (H24.out _).mono ?_
    rintro e w4 ⟨rfl, hb4⟩
    have HB4 := Lib.hid (bthen HB3.out hb4)
    clear hb4
    go_wp2_with fail
    refine (H26.out _).mono ?_
    rintro e w5 ⟨rfl, hb5⟩
    have HB5 := Lib.hid (bthen HB4.out hb5)
    clear hb5
    go_wp2_with fail
    go_ret
    exact ⟨rfl, HB5.out⟩
end Go.Proofs.YtopamkbgolhbcaaDoor
