/- Walks of part and May of the document's answer for layer 1. -/
import Derived.Test.YtmedlebepgobeaaDoorR0
namespace Go.Proofs.YtmedlebepgobeaaDoor
open Go.RowKit
theorem power_turn (n : Int) (h0 : 0 ≤ n) (h1 : n ≤ 31) (w : World) : Calls Tryd.prog 27 #[.int .i64 n] w fun e w' => e = .returned (.int .u32 (pw n.toNat)) ∧ w' = w :=
  (power_any n h0 h1 w).mono fun _ _ ⟨a, b⟩ => ⟨a, b.symm⟩
def prt (v f m : Int) : Int := v / pw f.toNat % pw m.toNat
set_option maxHeartbeats 400000 in
theorem part_any (v f m : Int) (v0 : 0 ≤ v) (v1 : v < 4294967296) (f0 : 0 ≤ f) (f1 : f ≤ 31) (m0 : 0 ≤ m) (m1 : m ≤ 31) (w : World) :
    Calls Tryd.prog 28 #[.int .u32 v, .int .i64 f, .int .i64 m] w fun e w' => e = .returned (.int .u32 (prt v f m)) ∧ Below w.heap.size w w' := by
  have HE := Lib.hid (show prt v f m = v / pw f.toNat % pw m.toNat from rfl)
  obtain ⟨p1, p2⟩ := pw_in (n := f.toNat) (by omega)
  obtain ⟨q1, q2⟩ := pw_in (n := m.toNat) (by omega)
  have d0 : 0 ≤ v / pw f.toNat := Int.ediv_nonneg v0 (by omega)
  go_enter Tryd.func28, Tryd.ntmps28
  go_wp2_with fail
  go_quiet ((go_at_call 27; exact Calls.quiet_of_same (power_turn _ (by assumption) (by assumption) _)))
  go_wp2_with fail
  go_ret
  exact ⟨rfl, ⟨rfl, rfl, rfl, Nat.le_refl _, fun _ _ => rfl⟩⟩
theorem part_lit (v f m F Q : Int) (hF : pw f.toNat = F) (hQ : pw m.toNat = Q) (v0 : 0 ≤ v) (v1 : v < 4294967296) (f0 : 0 ≤ f) (f1 : f ≤ 31) (m0 : 0 ≤ m) (m1 : m ≤ 31) (w : World) :
    Calls Tryd.prog 28 #[.int .u32 v, .int .i64 f, .int .i64 m] w fun e w' => e = .returned (.int .u32 (v / F % Q)) ∧ Below w.heap.size w w' := by
  have h := part_any v f m v0 v1 f0 f1 m0 m1 w
  unfold prt at h
  rw [hF, hQ] at h
  exact h
theorem power_lit (n F : Int) (hF : pw n.toNat = F) (h0 : 0 ≤ n) (h1 : n ≤ 31) (w : World) : Calls Tryd.prog 27 #[.int .i64 n] w fun e w' => e = .returned (.int .u32 F) ∧ w = w' := by
  have h := power_any n h0 h1 w
  rw [hF] at h
  exact h
/-- below: a number of so many bits, with a sign -/
theorem below_any (v m h : Int) (hh : pw (m - 1).toNat = h) (v0 : 0 ≤ v) (v1 : v < 4294967296) (m0 : 1 ≤ m) (m1 : m ≤ 32) (h0 : 1 ≤ h) (h1 : h ≤ 2147483648) (w : World) :
    Calls Tryd.prog 31 #[.int .u32 v, .int .i64 m] w fun e w' => e = .returned (.int .i64 (M.sg v h)) ∧ w = w' := by
  have HP := Lib.hid (fun W => power_lit (m - 1) h hh (by omega) (by omega) W)
  clear hh
  by_cases c : h ≤ v
  · have e := Lib.hid (show M.sg v h = v - 2 * h by unfold M.sg; rw [if_neg (by omega)])
    go_enter Tryd.func31, Tryd.ntmps31
    go_wp2_with fail
    refine (HP.out _).mono ?_
    rintro e w1 ⟨rfl, rfl⟩
    go_wp2_with fail
    refine (HP.out _).mono ?_
    rintro e w1 ⟨rfl, rfl⟩
    go_wp2_with fail
    go_ret
    exact ⟨ret_int (by rw [e.out]), rfl⟩
  · have e := Lib.hid (show M.sg v h = v by unfold M.sg; rw [if_pos (by omega)])
    go_enter Tryd.func31, Tryd.ntmps31
    go_wp2_with fail
    refine (HP.out _).mono ?_
    rintro e w1 ⟨rfl, rfl⟩
    go_wp2_with fail
    go_ret
    exact ⟨ret_int (by rw [e.out]), rfl⟩
end Go.Proofs.YtmedlebepgobeaaDoor
