/- A walk of the law EncCuts: it returns true for every string. -/
import Derived.Test.YtmedlebepgobeaaDoorW5
namespace Go.Proofs.YtmedlebepgobeaaDoor
open Go.RowKit

set_option maxHeartbeats 1000000 in
theorem cuts_walk (s : ByteArray) (w : World) (T : Tabs w) (hs : s.size ≤ maxLen) :
    Calls Tryd.prog 11 #[.string s] w fun e w' => e = .returned (.bool true) ∧ Below w.heap.size w w' := by
  unfold maxLen at hs
  have H0 := Lib.hid T
  clear T
  by_cases h2 : s.size ≤ 2000
  · have t1 : decide ((2000 : Int) < (s.size : Int)) = false := by simp; omega
    by_cases h4 : s.size % 4 = 0
    · have t2 : (((s.size : Int) % 4) != 0) = false := by simp; omega
      have H4 := Lib.hid h4
      clear h4
      go_enter Tryd.func11, Tryd.ntmps11
      go_wp2_with fail
      refine (shown_any _ H0.out).mono ?_
      rintro e w1 ⟨rfl, hb1⟩
      have T1 := Lib.hid (H0.out.next hb1)
      have B1 := Lib.hid hb1
      clear hb1
      go_wp2_with fail
      refine (back_any s _ h2 H4.out T1.out).mono ?_
      rintro e w2 ⟨⟨v, _, rfl, _⟩ | ⟨_, rfl⟩, hb2⟩
      all_goals
        have B2 := Lib.hid (bthen B1.out hb2)
        clear hb2
        go_wp2_with fail
        go_ret
        exact ⟨rfl, B2.out⟩
    · have t2 : (((s.size : Int) % 4) != 0) = true := by simp; omega
      have H4 := Lib.hid h4
      clear h4
      go_enter Tryd.func11, Tryd.ntmps11
      go_wp2_with fail
      refine (shown_any _ H0.out).mono ?_
      rintro e w1 ⟨rfl, hb1⟩
      have B1 := Lib.hid hb1
      clear hb1
      go_wp2_with fail
      refine (back_cut s _ h2 H4.out).mono ?_
      rintro e w2 ⟨rfl, hb2⟩
      have B2 := Lib.hid (bthen B1.out hb2)
      clear hb2
      go_wp2_with fail
      go_ret
      exact ⟨rfl, B2.out⟩
  · have t1 : decide ((2000 : Int) < (s.size : Int)) = true := by simp; omega
    go_enter Tryd.func11, Tryd.ntmps11
    go_wp2_with fail
    refine (shown_any _ H0.out).mono ?_
    rintro e w1 ⟨rfl, hb1⟩
    go_wp2_with fail
    go_ret
    exact ⟨rfl, hb1⟩
end Go.Proofs.YtmedlebepgobeaaDoor
