/- Package bit: the reference's TakeNum. -/
import Derived.Test.YtclbkdnihhmglaaB5
import Derived.Shelf.RegionOpenPlain
namespace Go.Proofs.Ytclbkdnihhmglaa
open Go.RowKit
namespace Q

theorem tk_of {s : ByteArray} {k : Nat} {v : Nat} {l : List UInt8} {e : Int} (h : (v, l, e) = tn 10 s.data.toList 0) (hl : l = s.data.toList.drop k) : tkV s = v ∧ tkR s = s.extract k s.size ∧ tkE s = e := by
  unfold tkV tkR tkE
  rw [← h]
  exact ⟨rfl, by simp only; rw [hl, drop_ext], rfl⟩
theorem tk_no {s : ByteArray} {e : Int} (h : ((0 : Nat), ([] : List UInt8), e) = tn 10 s.data.toList 0) : tkV s = 0 ∧ tkR s = ⟨#[]⟩ ∧ tkE s = e := by
  unfold tkV tkR tkE
  rw [← h]
  exact ⟨rfl, rfl, rfl⟩
set_option maxRecDepth 100000 in
set_option maxHeartbeats 4000000 in
theorem refTakeNum_any (s : ByteArray) (w : World) (hs : s.size < 9223372036854775808) :
    Calls Try.prog 55 #[.string s] w fun e w' => e = .returned (.tuple #[.int .u64 (tkV s), .string (tkR s), .int .i64 (tkE s)]) ∧ Below w.heap.size w w' := by
  obtain ⟨z, hz⟩ : ∃ z, s.size = z := ⟨_, rfl⟩
  go_enter Try.func55, Try.ntmps55
  go_wp2_with fail
  go_loop [5, 6, 7] (fun v f i => ∃ (k acc : Nat) (x y : Int), k ≤ 10 ∧ i = .int .i64 k ∧ v = .int .u64 x ∧ f = .int .u64 y ∧ (k ≤ 9 → x = (acc : Int) ∧ y = ((128 ^ k : Nat) : Int)) ∧ acc < 128 ^ k ∧ tn (10 - k) (s.data.toList.drop k) acc = tn 10 s.data.toList 0) (fun _ _ i => 10 - (intOf i).toNat)
  case atStart => exact ⟨0, 0, 0, 1, Nat.zero_le _, rfl, rfl, rfl, fun _ => ⟨rfl, rfl⟩, by simp, rfl⟩
  case round =>
    obtain ⟨k, acc, x, y, hk, rfl, rfl, rfl, hx, ha, ht⟩ := hrel
    have HXY := Lib.hid hx
    have HA := Lib.hid ha
    have HT := Lib.hid ht
    clear hx ha ht
    by_cases hlt : k < 10
    · by_cases hkz : k < z
      · have HLT := Lib.hid hlt
        have hks : k < s.size := by omega
        have hk9 : k ≤ 9 := by omega
        have i0 : (0 : Int) ≤ (k : Int) := by omega
        have i1 : (k : Int) < (z : Int) := by omega
        have e10 : decide ((k : Int) < 10) = true := decide_eq_true (by omega)
        have ez : decide ((z : Int) ≤ (k : Int)) = false := decide_eq_false (by omega)
        have hdrop : s.data.toList.drop k = s[k] :: s.data.toList.drop (k + 1) := List.drop_eq_getElem_cons (by simpa using hks)
        obtain ⟨c, hc⟩ : ∃ c, s[k].toNat = c := ⟨_, rfl⟩
        have hc8 : c < 256 := by rw [← hc]; exact s[k].toNat_lt
        have HS := Lib.hid (show tn (10 - k) (s.data.toList.drop k) acc = if 128 ≤ c then tn (10 - (k + 1)) (s.data.toList.drop (k + 1)) (acc + (c - 128) * 128 ^ k) else if meB k c = true then (acc + c * 128 ^ k, s.data.toList.drop (k + 1), 0) else (0, [], 3) by
          rw [hdrop, show 10 - k = (9 - k) + 1 by omega, tn, hc, show 9 - (9 - k) = k by omega, show 10 - (k + 1) = 9 - k by omega]
          unfold meB
          simp only [decide_eq_true_eq]
          congr 1
          have : (9 - k = 9 ∨ 0 < c ∧ (9 - k ≠ 0 ∨ c < 2)) ↔ (k = 0 ∨ 0 < c ∧ (k ≠ 9 ∨ c < 2)) := by omega
          simp only [this])
        obtain ⟨rfl, rfl⟩ := HXY.out hk9
        have hm : (c : Int).tmod 128 = ((c % 128 : Nat) : Int) := by rw [Int.tmod_eq_emod_of_nonneg (by omega)]; omega
        obtain ⟨d, hd⟩ : ∃ d, c % 128 = d := ⟨_, rfl⟩
        rw [hd] at hm
        have wd8 : IntKind.u8.wrap (d : Int) = d := by rw [IntKind.wrap_u8']; omega
        have wd : IntKind.u64.wrap (d : Int) = d := by rw [IntKind.wrap_u64]; omega
        have hpow : (128 : Nat) ^ k ≤ 128 ^ 9 := Nat.pow_le_pow_right (by omega) hk9
        have HK9 := Lib.hid hk9
        have hdp : k ≤ 8 ∨ c ≤ 1 → d * 128 ^ k < 9223372036854775809 ∧ acc + d * 128 ^ k < 18446744073709551616 := fun h => by
          have ha := HA.out
          rcases h with h | h
          · have hp8 : (128 : Nat) ^ k ≤ 128 ^ 8 := Nat.pow_le_pow_right (by omega) h
            have : d * 128 ^ k ≤ 127 * 128 ^ 8 := Nat.mul_le_mul (by omega) hp8
            omega
          · have : d * 128 ^ k ≤ 1 * 128 ^ 9 := Nat.mul_le_mul (by omega) hpow
            omega
        have HDP := Lib.hid hdp
        obtain ⟨P, hP⟩ : ∃ P, (128 : Nat) ^ k = P := ⟨_, rfl⟩
        have HPP := Lib.hid hP
        rw [hP] at HS HA HDP
        have hPc : (128 : Int) ^ k = (P : Int) := by rw [← hP, Int.natCast_pow]; rfl
        have HDC := Lib.hid (show d < 128 ∧ (c < 128 → c = d) ∧ (128 ≤ c → c - 128 = d) by omega)
        clear hdrop hpow hdp hd hP
        by_cases h91 : k = 9 ∧ 1 < c
        · have e9 : ((k : Int) == 9) = true := by simp; omega
          have eg : decide ((1 : Int) < (c : Int)) = true := decide_eq_true (by omega)
          have HE := Lib.hid (tk_no (s := s) (e := 3) (by
            rw [← HT.out, HS.out]
            by_cases h : 128 ≤ c
            · rw [if_pos h, h91.1]; rfl
            · rw [if_neg h, if_neg]
              unfold meB
              simp
              omega))
          clear h91 hlt hkz hc8 HDC HDP HA HS
          go_wp2_with fail
          go_ret3
          exact ⟨by rw [HE.out.1, HE.out.2.1, HE.out.2.2]; rfl, Below.refl _ _⟩
        · have hdd := HDP.out (by omega)
          have w1 : IntKind.u64.wrap ((d : Int) * (P : Int)) = ((d * P : Nat) : Int) := by rw [IntKind.wrap_u64, ← Int.natCast_mul]; omega
          have w2 : IntKind.u64.wrap ((acc : Int) + ((d * P : Nat) : Int)) = ((acc + d * P : Nat) : Int) := by rw [IntKind.wrap_u64]; omega
          obtain ⟨V, hV⟩ : ∃ V, acc + d * P = V := ⟨_, rfl⟩
          obtain ⟨U, hU⟩ : ∃ U, d * P = U := ⟨_, rfl⟩
          have HV := Lib.hid hV
          rw [hV] at w2
          rw [hU] at w1 w2
          have eg : (((k : Int) == 9) && decide ((1 : Int) < (c : Int))) = false := by
            cases h : (((k : Int) == 9) && decide ((1 : Int) < (c : Int))) with
            | false => rfl
            | true => exfalso; apply h91; simp at h; omega
          by_cases hc1 : 128 ≤ c
          · have e9 : ((k : Int) == 9) = false := by simp; omega
            have el : decide ((c : Int) < 128) = false := decide_eq_false (by omega)
            have hcd := HDC.out.2.2 hc1
            rw [if_pos hc1, hcd, hV] at HS
            have HC1 := Lib.hid (show k ≤ 8 by omega)
            have wk : IntKind.i64.wrap ((k : Int) + 1) = (k : Int) + 1 := by rw [IntKind.wrap_i64]; omega
            have hPb : P * 128 < 18446744073709551616 := by
              rw [← HPP.out, ← Nat.pow_succ]
              have : (128 : Nat) ^ (k + 1) ≤ 128 ^ 9 := Nat.pow_le_pow_right (by omega) (by omega)
              omega
            have w3 : IntKind.u64.wrap ((P : Int) * 128) = ((P * 128 : Nat) : Int) := by rw [IntKind.wrap_u64]; omega
            clear h91 hlt hkz hc8 hc1 hcd hdd hPb hV hU eg
            go_wp2_with fail
            go_round
            case rel =>
              refine ⟨k + 1, V, _, _, HLT.out, by go_num, rfl, rfl, fun h => ⟨rfl, ?_⟩, ?_, ?_⟩
              · rw [Nat.pow_succ, HPP.out]; rfl
              · rw [Nat.pow_succ, HPP.out]
                have h1 := HA.out
                have h2 := HDC.out.1
                have h3 : d * P ≤ 127 * P := Nat.mul_le_mul_right _ (by omega)
                have h4 := HV.out
                omega
              · rw [← HS.out, HT.out]
            case measure => have := HLT.out; simp [intOf]; omega
          · have el : decide ((c : Int) < 128) = true := decide_eq_true (by omega)
            have hcd := HDC.out.2.1 (by omega)
            rw [if_neg hc1] at HS
            by_cases h00 : 0 < k ∧ c = 0
            · have ek : decide (0 < k) = true := decide_eq_true h00.1
              have ek2 : decide ((0 : Int) < (k : Int)) = true := decide_eq_true (by omega)
              have ec : ((c : Int) == 0) = true := by simp; omega
              have HE := Lib.hid (tk_no (s := s) (e := 3) (by
                rw [← HT.out, HS.out, if_neg]
                unfold meB
                simp
                omega))
              have h9 : decide ((1 : Int) < (c : Int)) = false := decide_eq_false (by omega)
              clear h91 hlt hkz hc8 hc1 hcd hdd h00 HDC HDP HA HS HPP hV hU HV
              cases e9 : ((k : Int) == 9) with
              | true =>
                go_wp2_with fail
                go_ret3
                exact ⟨by rw [HE.out.1, HE.out.2.1, HE.out.2.2]; rfl, Below.refl _ _⟩
              | false =>
                go_wp2_with fail
                go_ret3
                exact ⟨by rw [HE.out.1, HE.out.2.1, HE.out.2.2]; rfl, Below.refl _ _⟩
            · have hme : meB k c = true := by unfold meB; exact decide_eq_true (by omega)
              have HE := Lib.hid (tk_of (s := s) (k := k + 1) (v := V) (e := 0) (by rw [← HT.out, HS.out, if_pos hme, ← hV, ← HDC.out.2.1 (by omega)]) rfl)
              have i3 : (k : Int) + 1 ≤ (z : Int) := by omega
              have hst : k + 1 ≤ s.size := hks
              have wk : IntKind.i64.wrap ((k : Int) + 1) = (k : Int) + 1 := by rw [IntKind.wrap_i64]; omega
              have mixed : Try.prog.follows .mixedOrders = true := by kernel_rfl
              rw [hz] at HE
              have H91 := Lib.hid h91
              have H00 := Lib.hid h00
              clear h91 hlt hkz hc1 hcd hdd h00 HDC HDP HA HS HPP hV hU HV hme
              by_cases h9 : k = 9
              · have e9 : ((k : Int) == 9) = true := by simp; omega
                have eg : decide ((1 : Int) < (c : Int)) = false := decide_eq_false (by have := H91.out; omega)
                have ek : decide (0 < k) = true := decide_eq_true (by omega)
                have ek2 : decide ((0 : Int) < (k : Int)) = true := decide_eq_true (by omega)
                have ec : ((c : Int) == 0) = false := by have := H00.out; simp; omega
                clear h9 hc8
                go_wp2_with fail
                go_region_o
                all_goals
                  go_wp2_with fail
                  go_ret3
                  refine ⟨?_, Below.drew (Below.refl _ _)⟩
                  rw [HE.out.1, HE.out.2.1, HE.out.2.2]
                  rfl
              · have e9 : ((k : Int) == 9) = false := by simp; omega
                by_cases hk0 : 0 < k
                · have ek : decide (0 < k) = true := decide_eq_true hk0
                  have ek2 : decide ((0 : Int) < (k : Int)) = true := decide_eq_true (by omega)
                  have ec : ((c : Int) == 0) = false := by have := H00.out; simp; omega
                  clear h9 hk0 hc8
                  go_wp2_with fail
                  go_region_o
                  all_goals
                    go_wp2_with fail
                    go_ret3
                    refine ⟨?_, Below.drew (Below.refl _ _)⟩
                    rw [HE.out.1, HE.out.2.1, HE.out.2.2]
                    rfl
                · have ek : decide (0 < k) = false := decide_eq_false hk0
                  have ek2 : decide ((0 : Int) < (k : Int)) = false := decide_eq_false (by omega)
                  clear h9 hk0 hc8
                  go_wp2_with fail
                  go_region_o
                  all_goals
                    go_wp2_with fail
                    go_ret3
                    refine ⟨?_, Below.drew (Below.refl _ _)⟩
                    rw [HE.out.1, HE.out.2.1, HE.out.2.2]
                    rfl
      · have e10 : decide ((k : Int) < 10) = true := decide_eq_true (by omega)
        have ez : decide ((z : Int) ≤ (k : Int)) = true := decide_eq_true (by omega)
        have HE := Lib.hid (tk_no (s := s) (e := 2) (by
          rw [← HT.out, List.drop_eq_nil_of_le (by simp; omega), show 10 - k = (9 - k) + 1 by omega]
          rfl))
        have hzk : z ≤ k := by omega
        clear hkz
        go_wp2_with fail
        go_ret3
        exact ⟨by rw [HE.out.1, HE.out.2.1, HE.out.2.2]; rfl, Below.refl _ _⟩
    · obtain rfl : k = 10 := by omega
      have HE := Lib.hid (tk_no (s := s) (e := 3) (by
        rw [← HT.out]
        rfl))
      clear hlt
      go_wp2_with fail
      go_ret3
      exact ⟨by rw [HE.out.1, HE.out.2.1, HE.out.2.2]; rfl, Below.refl _ _⟩
end Q
end Go.Proofs.Ytclbkdnihhmglaa
