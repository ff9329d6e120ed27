/- Package ir: slices.Equal of ints, are two instructions the same, how many values a block has. -/
import Derived.Test.YtkalgiaapkjplaaJ1
import Derived.BigQuiet
import Derived.Deep.QuietTactic
namespace Go.Proofs.Ytkalgiaapkjplaa
open Go.RowKit

set_option maxRecDepth 100000 in
set_option maxHeartbeats 4000000 in
theorem iequal_any (m k : List Int) (A A' : Option Addr) (n n' cap cap' : Nat) (w : World) (hS : Ints w (.slice A n cap) m) (hS' : Ints w (.slice A' n' cap') k) (hn9 : n ≤ 9223372036854775807) :
    Calls Try.prog 125 #[.slice A n cap, .slice A' n' cap'] w fun e w' => e = .returned (.bool (decide (m = k))) ∧ Below w.heap.size w w' := by
  have hn := hS.len
  have hn' := hS'.len
  by_cases hne : n = n'
  · subst hne
    have HS := Lib.hid hS
    have HS' := Lib.hid hS'
    have HN := Lib.hid hn
    have HN' := Lib.hid hn'
    have n1 : (n : Int) ≤ 9223372036854775807 := by omega
    clear hS hS' hn hn' hn9
    go_enter Try.func125, Try.ntmps125
    go_wp2_with fail
    go_loopw [13] (fun iv wr => ∃ i : Nat, i ≤ n ∧ iv = .int .i64 i ∧ m.take i = k.take i ∧ Below w.heap.size w wr) (fun iv _ => n - (intOf iv).toNat)
    case atStart => exact ⟨0, Nat.zero_le _, rfl, by simp, Below.refl _ _⟩
    case round =>
      obtain ⟨i, hi, rfl, hs, hb⟩ := hrel
      have HB := Lib.hid hb
      have HT := Lib.hid hs
      clear hb hs
      by_cases hlt : i < n
      · have hm : i < m.length := by rw [HN.out]; exact hlt
        have hk : i < k.length := by rw [HN'.out]; exact hlt
        obtain ⟨b, off, hA, e0⟩ := (HS.out.next HB.out).at_ hm
        obtain ⟨b', off', hA', g0⟩ := (HS'.out.next HB.out).at_ hk
        subst hA hA'
        have HDIF := Lib.hid (show m[i] ≠ k[i] → decide (m = k) = false from fun h => by
          rw [decide_eq_false_iff_not]
          rintro rfl
          exact h rfl)
        have HSAME := Lib.hid (show m[i] = k[i] → m.take (i + 1) = k.take (i + 1) from fun e => by
          rw [List.take_succ_eq_append_getElem hm, List.take_succ_eq_append_getElem hk, HT.out, e])
        obtain ⟨x, hx⟩ : ∃ x, m[i] = x := ⟨_, rfl⟩
        obtain ⟨y, hy⟩ : ∃ x, k[i] = x := ⟨_, rfl⟩
        rw [hx] at e0 HDIF HSAME
        rw [hy] at g0 HDIF HSAME
        clear hx hy hm hk
        have HLT := Lib.hid hlt
        have i0 : (0 : Int) ≤ (i : Int) := by omega
        have i1 : (i : Int) < (n : Int) := by omega
        clear hlt
        by_cases hxy : x = y
        · subst hxy
          have HNX := Lib.hid (HSAME.out rfl)
          clear HDIF HSAME
          go_wp2_with fail
          go_quiet (fail)
          have HB2 := Lib.hid (bthen HB.out (drewN_below' _ nq))
          clear e0 g0
          generalize wr.drewN nq = wz at *
          go_wp2_with fail
          go_roundw
          case rel => exact ⟨i + 1, HLT.out, by go_num, HNX.out, HB2.out⟩
          case measure => have := HLT.out; simp [intOf]; omega
        · have q1 : (x != y) = true := by simpa using hxy
          have HNX := Lib.hid (HDIF.out hxy)
          clear HDIF HSAME hxy
          go_wp2_with fail
          go_quiet (fail)
          have HB2 := Lib.hid (bthen HB.out (drewN_below' _ nq))
          clear e0 g0
          generalize wr.drewN nq = wz at *
          go_wp2_with fail
          go_ret
          exact ⟨by rw [HNX.out]; rfl, HB2.out⟩
      · have i1 : ¬ (i : Int) < (n : Int) := by omega
        have HF := Lib.hid (show decide (m = k) = true by
          rw [decide_eq_true_iff]
          have h := HT.out
          rwa [List.take_of_length_le (by have := HN.out; omega), List.take_of_length_le (by have := HN'.out; omega)] at h)
        clear hlt
        go_wp2_with fail
        go_ret
        exact ⟨by rw [HF.out]; rfl, HB.out⟩
  · have e1 : ((n : Int) != (n' : Int)) = true := by simp; omega
    have HF := Lib.hid (show decide (m = k) = false by
      rw [decide_eq_false_iff_not]
      rintro rfl
      omega)
    clear hS hS' hn hn' hn9 hne
    go_enter Try.func125, Try.ntmps125
    go_wp2_with fail
    go_ret
    exact ⟨by rw [HF.out]; rfl, Below.refl _ _⟩
end Go.Proofs.Ytkalgiaapkjplaa
