/- Package bit: TakeNum, of every string. -/
import Derived.Test.YtclbkdnihhmglaaB4
import Derived.Test.YtclbkdnihhmglaaP2
import Derived.RegionTactic
import Derived.Deep.RegionWith
import Derived.Deep.RegionWith
import Derived.Deep.RegionWith
import Derived.Shelf.RegionOpenPlain
import Derived.IntWalk
namespace Go.Proofs.Ytclbkdnihhmglaa
open Go.RowKit
namespace Q

/-- may a number's last byte be that? -/
def meB (i c : Nat) : Bool := decide (i = 0 ∨ (0 < c ∧ (i ≠ 9 ∨ c < 2)))
theorem mayEnd_any (i c : Nat) (w : World) : Calls Try.prog 100 #[.int .i64 i, .int .u8 c] w fun e w' => e = .returned (.bool (meB i c)) ∧ w = w' := by
  by_cases h0 : i = 0
  · subst h0
    have HE := Lib.hid (show meB 0 c = true by simp [meB])
    go_enter Try.func100, Try.ntmps100
    go_wp2_with fail
    go_ret
    exact ⟨ret_bool HE.out.symm, rfl⟩
  · have e0 : ((i : Int) == 0) = false := by simp; omega
    by_cases h9 : i = 9
    · subst h9
      obtain ⟨q, hq⟩ : ∃ q, decide (0 < c) = q := ⟨_, rfl⟩
      obtain ⟨r, hr⟩ : ∃ q, decide ((c : Int) < 2) = q := ⟨_, rfl⟩
      have HE := Lib.hid (show meB 9 c = (q && r) by rw [← hq, ← hr]; unfold meB; rw [← Bool.decide_and]; apply decide_eq_decide.2; omega)
      clear h0 e0
      cases q
      · clear hr
        go_enter Try.func100, Try.ntmps100
        go_wp2_with fail
        go_ret
        exact ⟨ret_bool (by rw [HE.out]; rfl), rfl⟩
      · go_enter Try.func100, Try.ntmps100
        go_wp2_with fail
        go_ret
        exact ⟨ret_bool (by rw [HE.out]; rfl), rfl⟩
    · have e9 : ((i : Int) == 9) = false := by simp; omega
      have HE := Lib.hid (show meB i c = decide (0 < c) by unfold meB; apply decide_eq_decide.2; omega)
      clear h0 h9
      go_enter Try.func100, Try.ntmps100
      go_wp2_with fail
      go_ret
      exact ⟨ret_bool HE.out.symm, rfl⟩
theorem drop_ext (s : ByteArray) (k : Nat) : (⟨(s.data.toList.drop k).toArray⟩ : ByteArray) = s.extract k s.size := by
  apply ByteArray.ext
  apply Array.toList_inj.1
  rw [ByteArray.data_extract, Array.toList_extract, List.extract_eq_take_drop, List.take_of_length_le]
  rw [List.length_drop]
  exact Nat.le_refl _
set_option maxRecDepth 100000 in
set_option maxHeartbeats 2000000 in
theorem takeNum_any (s : ByteArray) (w : World) (hs : s.size < 9223372036854775808) :
    Calls Try.prog 54 #[.string s] w fun e w' => e = .returned (.tuple #[.int .u64 (tkV s), .string (tkR s), .int .i64 (tkE s)]) ∧ Below w.heap.size w w' := by
  obtain ⟨z, hz⟩ : ∃ z, s.size = z := ⟨_, rfl⟩
  by_cases h10 : (10 : Int) < (z : Int)
  · skip
    go_enter Try.func54, Try.ntmps54
    go_wp2_with fail
    go_loop [5, 11] (fun v i => ∃ k acc : Nat, ∃ x : Int, k ≤ 10 ∧ i = .int .i64 k ∧ v = .int .u64 x ∧ (k ≤ 9 → x = acc) ∧ acc < 128 ^ k ∧ tn (10 - k) (s.data.toList.drop k) acc = tn 10 s.data.toList 0) (fun _ i => 10 - (intOf i).toNat)
    case atStart => exact ⟨0, 0, 0, Nat.zero_le _, rfl, rfl, fun _ => rfl, by simp, rfl⟩
    case round =>
      obtain ⟨k, acc, x, hk, rfl, rfl, hx, ha, ht⟩ := hrel
      have HX := Lib.hid hx
      have HA := Lib.hid ha
      have HT := Lib.hid ht
      clear hx ha ht
      by_cases hlt : k < 10
      · have hks : k < s.size := by omega
        have HLT := Lib.hid hlt
        have hk9 : k ≤ 9 := by omega
        have i0 : (0 : Int) ≤ (k : Int) := by omega
        have i1 : (k : Int) < (10 : Int) := by omega
        have i2 : (k : Int) < (z : Int) := by omega
        have hdrop : s.data.toList.drop k = s[k] :: s.data.toList.drop (k + 1) := List.drop_eq_getElem_cons (by simpa using hks)
        obtain ⟨c, hc⟩ : ∃ c, s[k].toNat = c := ⟨_, rfl⟩
        have hc8 : c < 256 := by rw [← hc]; exact s[k].toNat_lt
        have HS := Lib.hid (show tn (10 - k) (s.data.toList.drop k) acc = if 128 ≤ c then tn (10 - (k + 1)) (s.data.toList.drop (k + 1)) (acc + (c - 128) * 128 ^ k) else if meB k c = true then (acc + c * 128 ^ k, s.data.toList.drop (k + 1), 0) else (0, [], 3) by
          rw [hdrop, show 10 - k = (9 - k) + 1 by omega, tn, hc, show 9 - (9 - k) = k by omega, show 10 - (k + 1) = 9 - k by omega]
          unfold meB
          simp only [decide_eq_true_eq]
          congr 1
          have : (9 - k = 9 ∨ 0 < c ∧ (9 - k ≠ 0 ∨ c < 2)) ↔ (k = 0 ∨ 0 < c ∧ (k ≠ 9 ∨ c < 2)) := by omega
          simp only [this])
        have w7 : IntKind.i64.wrap (7 * (k : Int)) = 7 * (k : Int) := IntWalk.i64_in _ (by omega)
        have w70 : (0 : Int) ≤ 7 * (k : Int) := by omega
        have wt : (7 * (k : Int)).toNat = 7 * k := by omega
        have wl : bits BinOp.andNot IntKind.u8 (c : Int) 128 = ((c % 128 : Nat) : Int) := b_low c hc8
        have HO := Lib.hid (fun (h : k ≤ 8 ∨ c % 128 < 2) => or_seven acc (c % 128) k HA.out hk9 (by omega) h)
        obtain ⟨d, hd⟩ : ∃ d, c % 128 = d := ⟨_, rfl⟩
        rw [hd] at wl HO
        have wd : IntKind.u64.wrap (d : Int) = d := by rw [IntKind.wrap_u64]; omega
        have HK9 := Lib.hid hk9
        clear hdrop hk9 hlt
        by_cases hc1 : 128 ≤ c
        · have wb : bits BinOp.and IntKind.u8 (c : Int) 128 = 128 := by rw [b_top c hc8, if_pos hc1]
          rw [if_pos hc1] at HS
          have hcd : c - 128 = d := by omega
          rw [hcd] at HS
          have HC1 := Lib.hid hc1
          have HD := Lib.hid (show d < 128 by omega)
          clear hc1 hc8 hd hcd
          go_wp2_with fail
          go_round
          case rel =>
            refine ⟨k + 1, acc + d * 128 ^ k, _, HLT.out, by go_num, rfl, fun h => ?_, ?_, ?_⟩
            · rw [HX.out HK9.out, HO.out (.inl (by omega))]
            · have h1 := HA.out
              have h2 := HD.out
              have h3 : d * 128 ^ k ≤ 127 * 128 ^ k := Nat.mul_le_mul_right _ (by omega)
              rw [Nat.pow_succ]
              omega
            · rw [← HS.out, HT.out]
          case measure => have := HLT.out; simp [intOf]; omega
        · have wb : bits BinOp.and IntKind.u8 (c : Int) 128 = 0 := by rw [b_top c hc8, if_neg hc1]
          rw [if_neg hc1] at HS
          have hcd : c = d := by omega
          subst hcd
          have HM := Lib.hid (fun W => mayEnd_any k c W)
          cases hme : meB k c with
          | true =>
            rw [hme] at HM HS
            have hcc : k ≤ 8 ∨ c < 2 := by unfold meB at hme; have := of_decide_eq_true hme; have := HK9.out; omega
            have hst : k + 1 ≤ s.size := hks
            have i3 : (k : Int) + 1 ≤ (z : Int) := by omega
            have w1 : IntKind.i64.wrap ((k : Int) + 1) = (k : Int) + 1 := IntWalk.i64_in _ (by omega)
            have HE := Lib.hid (show (tkV s : Int) = (acc + c * 128 ^ k : Nat) ∧ tkR s = s.extract (k + 1) z ∧ tkE s = 0 by
              unfold tkV tkR tkE
              rw [← HT.out, HS.out, if_pos rfl]
              exact ⟨rfl, by rw [drop_ext, hz], rfl⟩)
            have HV := Lib.hid (HO.out hcc)
            clear hme hc1 hc8 hcc
            go_wp2_with fail
            refine (HM.out _).mono ?_
            rintro e w' ⟨rfl, rfl⟩
            go_wp2_with fail
            have mixed : Try.prog.follows .mixedOrders = true := by kernel_rfl
            go_region_o
            all_goals
              go_wp2_with fail
              go_ret3
              refine ⟨?_, Below.drew (Below.refl _ _)⟩
              rw [HE.out.1, HE.out.2.1, HE.out.2.2, HX.out HK9.out]
              first | rfl | (rw [HV.out]; rfl)
          | false =>
            rw [hme] at HM HS
            have HE := Lib.hid (show tkV s = 0 ∧ tkR s = ⟨#[]⟩ ∧ tkE s = 3 by
              unfold tkV tkR tkE
              rw [← HT.out, HS.out, if_neg (by decide)]
              exact ⟨rfl, rfl, rfl⟩)
            clear hme hc1 hc8
            go_wp2_with fail
            refine (HM.out _).mono ?_
            rintro e w' ⟨rfl, rfl⟩
            go_wp2_with fail
            go_ret3
            exact ⟨by rw [HE.out.1, HE.out.2.1, HE.out.2.2]; rfl, Below.refl _ _⟩
      · obtain rfl : k = 10 := by omega
        have HE := Lib.hid (show tkV s = 0 ∧ tkR s = ⟨#[]⟩ ∧ tkE s = 3 by
          unfold tkV tkR tkE
          rw [← HT.out]
          exact ⟨rfl, rfl, rfl⟩)
        have e1 : decide ((z : Int) < 10) = false := decide_eq_false (by omega)
        go_wp2_with fail
        go_ret3
        exact ⟨by rw [HE.out.1, HE.out.2.1, HE.out.2.2]; rfl, Below.refl _ _⟩
  · skip
    go_enter Try.func54, Try.ntmps54
    go_wp2_with fail
    go_loop [5, 11] (fun v i => ∃ k acc : Nat, ∃ x : Int, k ≤ z ∧ i = .int .i64 k ∧ v = .int .u64 x ∧ (k ≤ 9 → x = acc) ∧ acc < 128 ^ k ∧ tn (10 - k) (s.data.toList.drop k) acc = tn 10 s.data.toList 0) (fun _ i => z - (intOf i).toNat)
    case atStart => exact ⟨0, 0, 0, Nat.zero_le _, rfl, rfl, fun _ => rfl, by simp, rfl⟩
    case round =>
      obtain ⟨k, acc, x, hk, rfl, rfl, hx, ha, ht⟩ := hrel
      have HX := Lib.hid hx
      have HA := Lib.hid ha
      have HT := Lib.hid ht
      clear hx ha ht
      by_cases hlt : k < z
      · have hks : k < s.size := by omega
        have HLT := Lib.hid hlt
        have hk9 : k ≤ 9 := by omega
        have i0 : (0 : Int) ≤ (k : Int) := by omega
        have i1 : (k : Int) < (z : Int) := by omega
        have i2 : (k : Int) < (z : Int) := by omega
        have hdrop : s.data.toList.drop k = s[k] :: s.data.toList.drop (k + 1) := List.drop_eq_getElem_cons (by simpa using hks)
        obtain ⟨c, hc⟩ : ∃ c, s[k].toNat = c := ⟨_, rfl⟩
        have hc8 : c < 256 := by rw [← hc]; exact s[k].toNat_lt
        have HS := Lib.hid (show tn (10 - k) (s.data.toList.drop k) acc = if 128 ≤ c then tn (10 - (k + 1)) (s.data.toList.drop (k + 1)) (acc + (c - 128) * 128 ^ k) else if meB k c = true then (acc + c * 128 ^ k, s.data.toList.drop (k + 1), 0) else (0, [], 3) by
          rw [hdrop, show 10 - k = (9 - k) + 1 by omega, tn, hc, show 9 - (9 - k) = k by omega, show 10 - (k + 1) = 9 - k by omega]
          unfold meB
          simp only [decide_eq_true_eq]
          congr 1
          have : (9 - k = 9 ∨ 0 < c ∧ (9 - k ≠ 0 ∨ c < 2)) ↔ (k = 0 ∨ 0 < c ∧ (k ≠ 9 ∨ c < 2)) := by omega
          simp only [this])
        have w7 : IntKind.i64.wrap (7 * (k : Int)) = 7 * (k : Int) := IntWalk.i64_in _ (by omega)
        have w70 : (0 : Int) ≤ 7 * (k : Int) := by omega
        have wt : (7 * (k : Int)).toNat = 7 * k := by omega
        have wl : bits BinOp.andNot IntKind.u8 (c : Int) 128 = ((c % 128 : Nat) : Int) := b_low c hc8
        have HO := Lib.hid (fun (h : k ≤ 8 ∨ c % 128 < 2) => or_seven acc (c % 128) k HA.out hk9 (by omega) h)
        obtain ⟨d, hd⟩ : ∃ d, c % 128 = d := ⟨_, rfl⟩
        rw [hd] at wl HO
        have wd : IntKind.u64.wrap (d : Int) = d := by rw [IntKind.wrap_u64]; omega
        have HK9 := Lib.hid hk9
        clear hdrop hk9 hlt
        by_cases hc1 : 128 ≤ c
        · have wb : bits BinOp.and IntKind.u8 (c : Int) 128 = 128 := by rw [b_top c hc8, if_pos hc1]
          rw [if_pos hc1] at HS
          have hcd : c - 128 = d := by omega
          rw [hcd] at HS
          have HC1 := Lib.hid hc1
          have HD := Lib.hid (show d < 128 by omega)
          clear hc1 hc8 hd hcd
          go_wp2_with fail
          go_round
          case rel =>
            refine ⟨k + 1, acc + d * 128 ^ k, _, HLT.out, by go_num, rfl, fun h => ?_, ?_, ?_⟩
            · rw [HX.out HK9.out, HO.out (.inl (by omega))]
            · have h1 := HA.out
              have h2 := HD.out
              have h3 : d * 128 ^ k ≤ 127 * 128 ^ k := Nat.mul_le_mul_right _ (by omega)
              rw [Nat.pow_succ]
              omega
            · rw [← HS.out, HT.out]
          case measure => have := HLT.out; simp [intOf]; omega
        · have wb : bits BinOp.and IntKind.u8 (c : Int) 128 = 0 := by rw [b_top c hc8, if_neg hc1]
          rw [if_neg hc1] at HS
          have hcd : c = d := by omega
          subst hcd
          have HM := Lib.hid (fun W => mayEnd_any k c W)
          cases hme : meB k c with
          | true =>
            rw [hme] at HM HS
            have hcc : k ≤ 8 ∨ c < 2 := by unfold meB at hme; have := of_decide_eq_true hme; have := HK9.out; omega
            have hst : k + 1 ≤ s.size := hks
            have i3 : (k : Int) + 1 ≤ (z : Int) := by omega
            have w1 : IntKind.i64.wrap ((k : Int) + 1) = (k : Int) + 1 := IntWalk.i64_in _ (by omega)
            have HE := Lib.hid (show (tkV s : Int) = (acc + c * 128 ^ k : Nat) ∧ tkR s = s.extract (k + 1) z ∧ tkE s = 0 by
              unfold tkV tkR tkE
              rw [← HT.out, HS.out, if_pos rfl]
              exact ⟨rfl, by rw [drop_ext, hz], rfl⟩)
            have HV := Lib.hid (HO.out hcc)
            clear hme hc1 hc8 hcc
            go_wp2_with fail
            refine (HM.out _).mono ?_
            rintro e w' ⟨rfl, rfl⟩
            go_wp2_with fail
            have mixed : Try.prog.follows .mixedOrders = true := by kernel_rfl
            go_region_o
            all_goals
              go_wp2_with fail
              go_ret3
              refine ⟨?_, Below.drew (Below.refl _ _)⟩
              rw [HE.out.1, HE.out.2.1, HE.out.2.2, HX.out HK9.out]
              first | rfl | (rw [HV.out]; rfl)
          | false =>
            rw [hme] at HM HS
            have HE := Lib.hid (show tkV s = 0 ∧ tkR s = ⟨#[]⟩ ∧ tkE s = 3 by
              unfold tkV tkR tkE
              rw [← HT.out, HS.out, if_neg (by decide)]
              exact ⟨rfl, rfl, rfl⟩)
            clear hme hc1 hc8
            go_wp2_with fail
            refine (HM.out _).mono ?_
            rintro e w' ⟨rfl, rfl⟩
            go_wp2_with fail
            go_ret3
            exact ⟨by rw [HE.out.1, HE.out.2.1, HE.out.2.2]; rfl, Below.refl _ _⟩
      · obtain rfl : k = z := by omega
        by_cases h9 : k < 10
        · have HE := Lib.hid (show tkV s = 0 ∧ tkR s = ⟨#[]⟩ ∧ tkE s = 2 by
            unfold tkV tkR tkE
            rw [← HT.out, List.drop_eq_nil_of_le (by simp; omega), show 10 - k = (9 - k) + 1 by omega]
            exact ⟨rfl, rfl, rfl⟩)
          have e1 : decide ((k : Int) < 10) = true := decide_eq_true (by omega)
          go_wp2_with fail
          go_ret3
          exact ⟨by rw [HE.out.1, HE.out.2.1, HE.out.2.2]; rfl, Below.refl _ _⟩
        · have HE := Lib.hid (show tkV s = 0 ∧ tkR s = ⟨#[]⟩ ∧ tkE s = 3 by
            unfold tkV tkR tkE
            rw [← HT.out, show 10 - k = 0 by omega]
            exact ⟨rfl, rfl, rfl⟩)
          have e1 : decide ((k : Int) < 10) = false := decide_eq_false (by omega)
          go_wp2_with fail
          go_ret3
          exact ⟨by rw [HE.out.1, HE.out.2.1, HE.out.2.2]; rfl, Below.refl _ _⟩
end Q
end Go.Proofs.Ytclbkdnihhmglaa
