/- The reference's Has. -/
import Derived.Test.YtoglmdadpchhoaaRg
namespace Go.Proofs.Ytoglmdadpchhoaa
open Go.RowKit

set_option maxRecDepth 100000 in
set_option maxHeartbeats 4000000 in
theorem refHas_any (xs : List ByteArray) (s : ByteArray) (A : Option Addr) (n c : Nat) (w : World) (hn : xs.length = n) (h9 : n ≤ 9223372036854775807) (hS : Strs w (.slice A n c) xs) :
    Calls Try.prog 24 #[.slice A n c, .string s] w fun e w' => e = .returned (.bool (xs.any fun x => x == s)) ∧ w = w' := by
  have HN := Lib.hid (show xs.length ≤ n ∧ n ≤ xs.length by omega)
  have HS := Lib.hid hS
  have n1 : (n : Int) ≤ 9223372036854775807 := by omega
  obtain ⟨V, hV⟩ : ∃ V, (xs.any fun x => x == s) = V := ⟨_, rfl⟩
  have HE := Lib.hid hV
  rw [hV]
  clear hV hS hn h9
  go_enter Try.func24, Try.ntmps24
  go_wp2_with fail
  go_loopw [5] (fun iv wr => ∃ i : Nat, i ≤ n ∧ iv = .int .i64 i ∧ (∀ t (ht : t < xs.length), t < i → (xs[t] == s) = false) ∧ w = wr) (fun iv _ => n - (intOf iv).toNat)
  case atStart => exact ⟨0, Nat.zero_le _, rfl, fun t _ h => by omega, rfl⟩
  case round =>
    obtain ⟨i, hi, rfl, hs, rfl⟩ := hrel
    have HT := Lib.hid hs
    clear hs
    by_cases hlt : i < n
    · have hm : i < xs.length := by have := HN.out; omega
      obtain ⟨b1, off, hA, hbl, e0⟩ := RowOf.at_ HS.out hm
      subst hA
      simp only [Nat.mul_one] at e0
      have HY := Lib.hid (show (xs[i] == s) = true → V = true from fun h => by rw [← HE.out]; exact List.any_eq_true.2 ⟨_, List.getElem_mem hm, h⟩)
      have HNX := Lib.hid (show (xs[i] == s) = false → ∀ t (ht : t < xs.length), t < i + 1 → (xs[t] == s) = false from fun h t ht hti => by
        by_cases e : t = i
        · subst e; exact h
        · exact HT.out t ht (by omega))
      obtain ⟨x, hx⟩ : ∃ x, xs[i] = x := ⟨_, rfl⟩
      rw [hx] at e0 HY HNX
      have hk0 : (0 : Int) ≤ (i : Int) := Int.natCast_nonneg _
      have hk1 : (i : Int) < (n : Int) := by omega
      have HLT := Lib.hid hlt
      clear hx hm hlt hbl
      cases hq : x == s with
      | true =>
        have h1 : (x.toList == s.toList) = true := by rw [← beq_toListBytes]; exact hq
        have HV := Lib.hid (HY.out hq)
        clear hq
        go_wp2_with fail
        go_ret
        exact ⟨by rw [HV.out]; rfl, rfl⟩
      | false =>
        have h1 : (x.toList == s.toList) = false := by rw [← beq_toListBytes]; exact hq
        have HV := Lib.hid (HNX.out hq)
        clear hq
        go_wp2_with fail
        go_roundw
        case rel => exact ⟨i + 1, HLT.out, by go_num, HV.out, trivial⟩
        case measure => have := HLT.out; simp [intOf]; omega
    · have hd : decide ((i : Int) < (n : Int)) = false := by simp; omega
      have HV := Lib.hid (show V = false by
        rw [← HE.out, List.any_eq_false]
        intro x hx
        obtain ⟨t, ht, rfl⟩ := List.getElem_of_mem hx
        have := HT.out t ht (by have := HN.out; omega)
        simp [this])
      go_wp2_with fail
      go_ret
      exact ⟨by rw [HV.out]; rfl, rfl⟩
end Go.Proofs.Ytoglmdadpchhoaa
