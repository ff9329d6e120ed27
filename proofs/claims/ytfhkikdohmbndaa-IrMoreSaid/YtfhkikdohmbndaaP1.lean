/- Walks of the small functions of package page: what each call comes to, for every argument. -/
import Derived.Test.YtfhkikdohmbndaaProg
import Derived.WalkKit
import Derived.WalkLawsBesides
import Derived.Lib.Hide
import Derived.Below
import Derived.Outline
import Derived.Test.YtfhkikdohmbndaaM2
namespace Go.Proofs.Ytfhkikdohmbndaa
open Go.RowKit
theorem ret_int {k : IntKind} {a b : Int} (h : a = b) : Ending.returned (.int k a) = .returned (.int k b) := by rw [h]
theorem ret_bool {a b : Bool} (h : a = b) : Ending.returned (.bool a) = .returned (.bool b) := by rw [h]
theorem bthen {w W w' : World} (h : Below w.heap.size w W) (hb : Below W.heap.size W w') : Below w.heap.size w w' := h.trans (hb.mono h.size)
theorem balloc {w W : World} (h : Below w.heap.size w W) (o : Obj) : Below w.heap.size w (W.alloc o) := h.alloc h.size o

theorem perm_any (p : Int) (w : World) : Calls Try.prog 143 #[.int .i64 p] w fun e w' => e = .returned (.bool (M.okPerm p)) ∧ w = w' := by
  go_enter Try.func143, Try.ntmps143
  go_wp2
  all_goals go_ret
  all_goals exact ⟨ret_bool (by rw [Bool.eq_iff_iff]; simp [M.okPerm]; omega), rfl⟩
theorem page_any (a p : Int) (d : ByteArray) (a0 : 0 ≤ a) (w : World) :
    Calls Try.prog 151 #[.agg #[.int .u64 a, .int .i64 p, .string d]] w fun e w' => e = .returned (.bool (M.okPg ⟨a, p, d⟩)) ∧ Below w.heap.size w w' := by
  by_cases h1 : a % 256 = 0
  · have t1 : ((a % 256 == 0) : Bool) = true := by simp [h1]
    cases h2 : M.okPerm p
    · have HP := Lib.hid (fun W => (perm_any p W).mono fun e w' h => (by rw [h2] at h; exact h : e = .returned (.bool false) ∧ W = w'))
      have HE := Lib.hid (show M.okPg ⟨a, p, d⟩ = false by simp [M.okPg, h2])
      clear h2 h1
      go_enter Try.func151, Try.ntmps151
      go_wp2_with (go_at_call 143; refine (HP.out _).mono ?_; rintro e w' ⟨rfl, rfl⟩)
      all_goals go_ret
      all_goals exact ⟨ret_bool HE.out.symm, balloc (Below.refl _ _) _⟩
    · have HP := Lib.hid (fun W => (perm_any p W).mono fun e w' h => (by rw [h2] at h; exact h : e = .returned (.bool true) ∧ W = w'))
      have HE := Lib.hid (show M.okPg ⟨a, p, d⟩ = ((d.size : Int) == 256) by rw [Bool.eq_iff_iff]; simp [M.okPg, h2, h1]; omega)
      clear h2 h1
      go_enter Try.func151, Try.ntmps151
      go_wp2_with (go_at_call 143; refine (HP.out _).mono ?_; rintro e w' ⟨rfl, rfl⟩)
      all_goals go_ret
      all_goals exact ⟨ret_bool HE.out.symm, balloc (Below.refl _ _) _⟩
  · have t1 : ((a % 256 == 0) : Bool) = false := by simp [h1]
    have HE := Lib.hid (show M.okPg ⟨a, p, d⟩ = false by simp [M.okPg, h1])
    clear h1
    go_enter Try.func151, Try.ntmps151
    go_wp2_with fail
    all_goals go_ret
    all_goals exact ⟨ret_bool HE.out.symm, balloc (Below.refl _ _) _⟩
/-- is one of n places from a on beyond the last one? -/
def beyondB (a n : Int) : Bool := decide (0 < n ∧ 18446744073709551615 < a + (n - 1))
theorem beyond_any (a n : Int) (a0 : 0 ≤ a) (a1 : a ≤ 18446744073709551615) (n1 : n ≤ 9223372036854775807) (w : World) :
    Calls Try.prog 144 #[.int .u64 a, .int .i64 n] w fun e w' => e = .returned (.bool (beyondB a n)) ∧ w = w' := by
  by_cases h : 0 < n
  · go_enter Try.func144, Try.ntmps144
    go_wp2_with fail
    all_goals go_ret
    all_goals exact ⟨ret_bool (by rw [Bool.eq_iff_iff]; simp [beyondB]; omega), rfl⟩
  · have t1 : decide (0 < n) = false := by simp; omega
    go_enter Try.func144, Try.ntmps144
    go_wp2_with fail
    all_goals go_ret
    all_goals exact ⟨ret_bool (by rw [Bool.eq_iff_iff]; simp [beyondB]; omega), rfl⟩
end Go.Proofs.Ytfhkikdohmbndaa
