/- Same, of two slices that hold the same pages. -/
import Derived.Test.YtopamkbgolhbcaaPA
import Derived.BigQuiet
import Derived.Deep.QuietTactic
namespace Go.Proofs.Ytopamkbgolhbcaa
open Go.RowKit

set_option maxRecDepth 100000 in
set_option maxHeartbeats 4000000 in
theorem equal_none (A A' : Option Addr) (cap cap' : Nat) (w : World) : Calls Try.prog 40 #[.slice A 0 cap, .slice A' 0 cap'] w fun e w' => e = .returned (.bool true) ∧ Below w.heap.size w w' := by
  go_enter Try.func40, Try.ntmps40
  go_wp2_with fail
  go_loopw [13] (fun i wr => i = .int .i64 0 ∧ Below w.heap.size w wr) (fun _ _ => 0)
  case atStart => exact ⟨rfl, Below.refl _ _⟩
  case round =>
    obtain ⟨rfl, hb⟩ := hrel
    have HB := Lib.hid hb
    clear hb
    go_wp2_with fail
    go_ret
    exact ⟨rfl, HB.out⟩

set_option maxRecDepth 100000 in
set_option maxHeartbeats 4000000 in
theorem equal_some (b off b' off' n cap cap' : Nat) (m : List M.Pg) (w : World) (hn : m.length = n) (n1 : n ≤ 1000000) (hO : PagesIn w b off m) (hO' : PagesIn w b' off' m) :
    Calls Try.prog 40 #[.slice (some ⟨b, off, none⟩) n cap, .slice (some ⟨b', off', none⟩) n cap'] w fun e w' => e = .returned (.bool true) ∧ Below w.heap.size w w' := by
  have HO := Lib.hid hO
  have HO' := Lib.hid hO'
  have HN := Lib.hid hn
  clear hO hO' hn
  go_enter Try.func40, Try.ntmps40
  go_wp2_with fail
  go_loopw [13] (fun i wr => ∃ k : Nat, k ≤ n ∧ i = .int .i64 k ∧ Below w.heap.size w wr) (fun i _ => n - (intOf i).toNat)
  case atStart => exact ⟨0, Nat.zero_le _, rfl, Below.refl _ _⟩
  case round =>
    obtain ⟨k, hk, rfl, hb⟩ := hrel
    have HB := Lib.hid hb
    have OR := Lib.hid (HO.out.next hb)
    have OR' := Lib.hid (HO'.out.next hb)
    clear hb
    by_cases hlt : k < n
    · have hm : k < m.length := by rw [HN.out]; exact hlt
      obtain ⟨e0, e1, e2⟩ := OR.out.2 k hm
      obtain ⟨g0, g1, g2⟩ := OR'.out.2 k hm
      obtain ⟨pa, hpa⟩ : ∃ pa, m[k].a = pa := ⟨_, rfl⟩
      obtain ⟨pp, hpp⟩ : ∃ pa, m[k].p = pa := ⟨_, rfl⟩
      obtain ⟨pd, hpd⟩ : ∃ pa, m[k].d = pa := ⟨_, rfl⟩
      rw [hpa] at e0 g0
      rw [hpp] at e1 g1
      rw [hpd] at e2 g2
      clear hpa hpp hpd
      have hk0 : (0 : Int) ≤ (k : Int) := Int.natCast_nonneg _
      have hk1 : (k : Int) < (n : Int) := by omega
      go_wp2_with fail
      go_quiet (fail)
      go_wp2_with fail
      go_roundw
      case rel => exact ⟨k + 1, by omega, by go_num, bthen HB.out ⟨rfl, rfl, rfl, Nat.le_refl _, fun _ _ => rfl⟩⟩
      case measure => simp [intOf]; omega
    · have hnlt : decide ((k : Int) < (n : Int)) = false := by simp; omega
      go_wp2_with fail
      go_ret
      exact ⟨rfl, HB.out⟩
theorem equal_t {v v' : Value} {m : List M.Pg} {w : World} (hO : Pages w v m) (hO' : Pages w v' m) (n1 : m.length ≤ 1000000) :
    Calls Try.prog 40 #[v, v'] w fun e w' => e = .returned (.bool true) ∧ Below w.heap.size w w' := by
  rcases hO with ⟨rfl, h⟩ | ⟨h0, b, off, cap, rfl, h⟩
  · rcases hO' with ⟨_, h'⟩ | ⟨h0, _⟩
    · obtain ⟨A, cap, rfl⟩ : ∃ A cap, v = .slice A 0 cap := by rcases h with rfl | ⟨a, cap, rfl⟩ <;> exact ⟨_, _, rfl⟩
      obtain ⟨A', cap', rfl⟩ : ∃ A cap, v' = .slice A 0 cap := by rcases h' with rfl | ⟨a, cap, rfl⟩ <;> exact ⟨_, _, rfl⟩
      exact equal_none A A' cap cap' w
    · simp at h0
  · rcases hO' with ⟨h1, _⟩ | ⟨_, b', off', cap', rfl, h'⟩
    · rw [h1] at h0; simp at h0
    · exact equal_some b off b' off' _ cap cap' m w rfl n1 h h'
theorem same_t {v v' : Value} {m : List M.Pg} {w : World} (hO : Pages w v m) (hO' : Pages w v' m) (n1 : m.length ≤ 1000000) :
    Calls Try.prog 17 #[v, v'] w fun e w' => e = .returned (.bool true) ∧ Below w.heap.size w w' := by
  have HE := Lib.hid (equal_t hO hO' n1)
  obtain ⟨A, cap, rfl⟩ := hO.slice
  obtain ⟨A', cap', rfl⟩ := hO'.slice
  clear hO hO'
  obtain ⟨n, hn⟩ : ∃ n, m.length = n := ⟨_, rfl⟩
  rw [hn] at HE ⊢
  clear hn n1
  go_enter Try.func17, Try.ntmps17
  go_wp2_with fail
  refine HE.out.mono ?_
  rintro e w1 ⟨rfl, hb⟩
  go_wp2_with fail
  go_ret
  exact ⟨rfl, hb⟩
end Go.Proofs.Ytopamkbgolhbcaa
