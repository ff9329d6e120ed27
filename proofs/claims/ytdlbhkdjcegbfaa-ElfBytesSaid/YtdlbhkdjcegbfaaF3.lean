/- Package elf: mayBegin and May. -/
import Derived.Test.YtdlbhkdjcegbfaaF2
namespace Go.Proofs.Ytdlbhkdjcegbfaa
open Go.RowKit

/-- is the entry a place of this segment that holds instructions? -/
def atB (e : Int) (s : Sg) : Bool := decide (s.p % 2 = 1) && (decide (s.a ≤ e) && decide (e < s.a + s.z))
def beginB (l : List Sg) (e : Int) : Bool := l.any (atB e)
def mayB (l : List Sg) (e : Int) : Bool := segsB l && beginB l e
theorem segs_all {l : List Sg} : ∀ {e : Int}, goB e l = true → ∀ s ∈ l, segB s = true := by
  induction l with
  | nil => intro e _ s hs; cases hs
  | cons g t ih =>
    intro e h s hs
    simp only [goB, Bool.and_eq_true] at h
    rcases List.mem_cons.1 hs with rfl | hs
    · exact h.1
    · exact ih h.2.2 s hs
set_option maxRecDepth 100000 in
set_option maxHeartbeats 2000000 in
theorem beg1_any (s : Sg) (hs : SgIn s) (hb : segB s = true) (e : Int) (bl : Nat) (w : World) (he : w.cell? ⟨bl, 0, none⟩ = some (.int .u64 e)) :
    Calls Try.prog 142 #[sgV s, .pointer (some ⟨bl, 0, none⟩)] w fun ee w' => ee = .returned (.bool (atB e s)) ∧ Below w.heap.size w w' := by
  obtain ⟨a, p, d, z⟩ := s
  obtain ⟨-, ga, gp, -, gz, -⟩ := segB_parts hb
  obtain ⟨⟨a0, a1⟩, -, ⟨z0, z1⟩, -⟩ := hs
  obtain ⟨p1, p7, p3⟩ := permB_parts gp
  simp only at ga gz a0 a1 z0 z1 p1 p7 p3
  have hsum : IntKind.u64.wrap (a + z) = a + z := by rw [IntKind.wrap_u64]; omega
  have hlt := World.block_lt_of_cell? w _ he
  have hew : (w.alloc (.cells #[.int .u64 a, .int .i64 p, .string d, .int .u64 z] 41)).cell? ⟨bl, 0, none⟩ = some (.int .u64 e) := by
    rw [World.cell?_alloc_lt _ _ _ hlt]; exact he
  clear hb he hlt gp
  unfold sgV
  have : p = 1 ∨ p = 2 ∨ p = 4 ∨ p = 5 ∨ p = 6 := by omega
  rcases this with rfl | rfl | rfl | rfl | rfl
  · by_cases h1 : a ≤ e
    · have t1 : decide (a ≤ e) = true := decide_eq_true h1
      have HE := Lib.hid (show atB e ⟨a, 1, d, z⟩ = decide (e < a + z) by unfold atB; simp [h1])
      clear h1 p1 p7 p3
      go_enter Try.func142, Try.ntmps142
      have hb1 : (bits BinOp.and IntKind.i64 1 1 != 0) = true := by decide +kernel
      go_wp2_with fail
      go_ret
      exact ⟨ret_bool (by rw [HE.out]), balloc (Below.refl _ _) _⟩
    · have t1 : decide (a ≤ e) = false := decide_eq_false h1
      have HE := Lib.hid (show atB e ⟨a, 1, d, z⟩ = false by unfold atB; simp [h1])
      clear h1 p1 p7 p3
      go_enter Try.func142, Try.ntmps142
      have hb1 : (bits BinOp.and IntKind.i64 1 1 != 0) = true := by decide +kernel
      go_wp2_with fail
      go_ret
      exact ⟨ret_bool (by rw [HE.out]), balloc (Below.refl _ _) _⟩
  · have HE := Lib.hid (show atB e ⟨a, 2, d, z⟩ = false by unfold atB; simp)
    clear p1 p7 p3
    go_enter Try.func142, Try.ntmps142
    have hb1 : (bits BinOp.and IntKind.i64 2 1 != 0) = false := by decide +kernel
    go_wp2_with fail
    go_ret
    exact ⟨ret_bool (by rw [HE.out]), balloc (Below.refl _ _) _⟩
  · have HE := Lib.hid (show atB e ⟨a, 4, d, z⟩ = false by unfold atB; simp)
    clear p1 p7 p3
    go_enter Try.func142, Try.ntmps142
    have hb1 : (bits BinOp.and IntKind.i64 4 1 != 0) = false := by decide +kernel
    go_wp2_with fail
    go_ret
    exact ⟨ret_bool (by rw [HE.out]), balloc (Below.refl _ _) _⟩
  · by_cases h1 : a ≤ e
    · have t1 : decide (a ≤ e) = true := decide_eq_true h1
      have HE := Lib.hid (show atB e ⟨a, 5, d, z⟩ = decide (e < a + z) by unfold atB; simp [h1])
      clear h1 p1 p7 p3
      go_enter Try.func142, Try.ntmps142
      have hb1 : (bits BinOp.and IntKind.i64 5 1 != 0) = true := by decide +kernel
      go_wp2_with fail
      go_ret
      exact ⟨ret_bool (by rw [HE.out]), balloc (Below.refl _ _) _⟩
    · have t1 : decide (a ≤ e) = false := decide_eq_false h1
      have HE := Lib.hid (show atB e ⟨a, 5, d, z⟩ = false by unfold atB; simp [h1])
      clear h1 p1 p7 p3
      go_enter Try.func142, Try.ntmps142
      have hb1 : (bits BinOp.and IntKind.i64 5 1 != 0) = true := by decide +kernel
      go_wp2_with fail
      go_ret
      exact ⟨ret_bool (by rw [HE.out]), balloc (Below.refl _ _) _⟩
  · have HE := Lib.hid (show atB e ⟨a, 6, d, z⟩ = false by unfold atB; simp)
    clear p1 p7 p3
    go_enter Try.func142, Try.ntmps142
    have hb1 : (bits BinOp.and IntKind.i64 6 1 != 0) = false := by decide +kernel
    go_wp2_with fail
    go_ret
    exact ⟨ret_bool (by rw [HE.out]), balloc (Below.refl _ _) _⟩
end Go.Proofs.Ytdlbhkdjcegbfaa
