/- PageFills: what was filled in is there, byte by byte, and nothing else changed where it is not. -/
import Derived.Test.YthfognbckacllaaP36
namespace Go.Proofs.Ythfognbckacllaa
open Go.RowKit

attribute [local go_sem] Oper.semAt_some

theorem fillErr_zero {m : List M.Pg} {a n : Int} (h : fillErr m a n = 0) : rightB m = true ∧ allGrantB m a n 0 = true := by
  unfold fillErr at h
  cases hr : rightB m
  · rw [hr] at h; simp at h
  · rw [hr] at h
    cases hg : allGrantB m a n 0
    · rw [hg] at h; simp at h
    · exact ⟨rfl, rfl⟩
theorem fills_of {m : List M.Pg} (hR : M.Right m) {a : Int} {s : ByteArray} (a0 : 0 ≤ a) (a1 : a ≤ 18446744073709551615) (hg : allGrantB m a s.size 0 = true) (o : Int) (o0 : 0 ≤ o) (o1 : o ≤ 18446744073709551615) :
    numErr (laid m a s.data.toList) o 1 0 = numErr m o 1 0 ∧ (¬ (a ≤ o ∧ o < a + s.size) → loadV (laid m a s.data.toList) o 1 0 = loadV m o 1 0) ∧
    (∀ (i : Nat) (hi : i < s.size), a + (i : Int) ≤ 18446744073709551615 ∧ numErr (laid m a s.data.toList) (a + i) 1 0 = 0 ∧ loadV (laid m a s.data.toList) (a + i) 1 0 = ((s[i]).toNat : Int)) := by
  have hl : s.data.toList.length = s.size := by simp
  have hK := laid_right hR a s.data.toList
  obtain ⟨f1, f2⟩ := one_num hK o0 o1
  obtain ⟨g1, g2⟩ := one_num hR o0 o1
  have hk := (granted_in hR a0 a1 hg).1
  refine ⟨laid_num hR _ _ _ _ _, fun ho => ?_, fun i hi => ?_⟩
  · rw [f2, g2, laid_there]
    cases hc : M.there m (o - o % 256)
    · rfl
    · rw [if_pos rfl, if_pos rfl, laid_byte hR _ _ _ hc, if_neg (by rw [hl]; exact ho)]
  · have ht := there_of a0 hg (a + i) (by omega) (by omega)
    obtain ⟨h1, h2⟩ := one_num hK (t := a + i) (by omega) (by omega)
    rw [laid_there, ht] at h1 h2
    refine ⟨by omega, h1, ?_⟩
    rw [h2]
    show ((M.byteAt (laid m a s.data.toList) (a + i)).toNat : Int) = _
    rw [laid_byte hR _ _ _ ht, if_pos (by rw [hl]; omega), show (a + (i : Int) - a).toNat = i by omega, List.getD_eq_getElem?_getD, List.getElem?_eq_getElem (by rw [hl]; exact hi)]
    rfl

set_option maxRecDepth 100000 in
set_option maxHeartbeats 4000000 in
theorem fills_walk {m : List M.Pg} {A : Option Addr} {nv cap : Nat} (a : Int) (s : ByteArray) (i o : Int) (w : World) (hP : Pages w (.slice A nv cap) m) (hw : Wf m) (a0 : 0 ≤ a) (a1 : a ≤ 18446744073709551615) (o0 : 0 ≤ o) (o1 : o ≤ 18446744073709551615) :
    Calls Try.prog 10 #[.agg #[.slice A nv cap, .int .u64 a, .string s, .int .i64 i, .int .u64 o]] w fun e w' => e = .returned (.bool true) ∧ Below w.heap.size w w' := by
  have HNV := Lib.hid hP.len
  have HP := Lib.hid hP
  by_cases hout : 64 < nv ∨ 1000 < s.size
  · clear hP hw
    go_enter Try.func10, Try.ntmps10
    go_wp2_with fail
    refine (shown_any _).mono ?_
    rintro e w1 ⟨rfl, hb1⟩
    have HB1 := Lib.hid (bthen (balloc (Below.refl _ w) _) hb1)
    clear hb1
    by_cases h1 : 64 < nv
    · go_wp2_with fail
      go_ret
      exact ⟨rfl, HB1.out⟩
    · have h2 : 1000 < s.size := by omega
      clear hout
      go_wp2_with fail
      go_ret
      exact ⟨rfl, HB1.out⟩
  · have x1 : ¬ 64 < nv := by omega
    have x2 : ¬ 1000 < s.size := by omega
    have HF := Lib.hid (fun (W : World) (hb : Below w.heap.size w W) => fill_any a s (hP.next hb) hw (by have := HNV.out; omega) a0 a1 (by omega))
    by_cases h0 : fillErr m a s.size = 0
    · obtain ⟨hr, hg⟩ := fillErr_zero h0
      have hR := Right.of hr hw.a0 hw.a1
      obtain ⟨c1, c2, c3⟩ := fills_of hR a0 a1 hg o o0 o1
      have HV := Lib.hid (show fillM m a s = laid m a s.data.toList by unfold fillM; rw [if_pos h0])
      rw [h0, HV.out] at HF
      have hK := laid_right hR a s.data.toList
      have HLN := Lib.hid ((laid_length m a s.data.toList).trans HNV.out.symm)
      obtain ⟨k, hk⟩ : ∃ k, laid m a s.data.toList = k := ⟨_, rfl⟩
      rw [hk] at HF c1 c2 c3 hK HLN
      have HLm := Lib.hid (fun (W : World) (hb : Below w.heap.size w W) => refLoad_one o (HP.out.next hb) hR o0 o1)
      have HLk := Lib.hid (fun (v : Value) (W : World) (h : Pages W v k) => refLoad_one o h hK o0 o1)
      obtain ⟨X, hX⟩ : ∃ X, loadV m o 1 0 = X := ⟨_, rfl⟩
      obtain ⟨Y, hY⟩ : ∃ X, loadV k o 1 0 = X := ⟨_, rfl⟩
      obtain ⟨E, hE⟩ : ∃ X, numErr m o 1 0 = X := ⟨_, rfl⟩
      rw [hX, hE] at HLm
      rw [c1, hY, hE] at HLk
      rw [hX, hY] at c2
      have C2 := Lib.hid c2
      have C3 := Lib.hid (fun (j : Nat) (hj : j < s.size) (v : Value) (W : World) (h : Pages W v k) => (refLoad_one (a + j) h hK (by omega) (c3 j hj).1).mono fun e w' h => (by rw [(c3 j hj).2.1, (c3 j hj).2.2] at h; exact h : e = .returned (.tuple #[.int .u64 ((s[j]).toNat : Int), .int .i64 0]) ∧ Below W.heap.size W w'))
      have C4 := Lib.hid (fun (j : Nat) (hj : j < s.size) => (c3 j hj).1)
      have wr : a ≤ o → IntKind.u64.wrap (o - a) = o - a := fun h => by rw [IntKind.wrap_u64]; omega
      have wS : IntKind.u64.wrap (s.size : Int) = (s.size : Int) := by rw [IntKind.wrap_u64]; omega
      have YX : (Y = X) ∨ (a ≤ o ∧ o - a < (s.size : Int)) := by
        by_cases h : a ≤ o ∧ o < a + s.size
        · exact .inr ⟨h.1, by omega⟩
        · exact .inl (c2 h)
      have HYX := Lib.hid YX
      clear hP hw h0 hr hg hR c1 c2 c3 hk hX hY hE hK HV hout YX
      go_enter Try.func10, Try.ntmps10
      go_wp2_with fail
      refine (shown_any _).mono ?_
      rintro e w1 ⟨rfl, hb1⟩
      have HB1 := Lib.hid (bthen (balloc (Below.refl _ w) _) hb1)
      clear hb1
      go_wp2_with fail
      refine (HF.out _ HB1.out).mono ?_
      rintro e w2 ⟨kv, rfl, hown, hb2⟩
      have HB2 := Lib.hid (bthen HB1.out hb2)
      have K2 := Lib.hid hown.pages
      obtain ⟨A2, cap2, hv2⟩ := hown.pages.slice
      rw [HLN.out] at hv2
      subst hv2
      clear hown hb2
      go_wp2_with fail
      refine (HLm.out _ HB2.out).mono ?_
      rintro e w3 ⟨rfl, hb3⟩
      have HB3 := Lib.hid (bthen HB2.out hb3)
      have K3 := Lib.hid (K2.out.next hb3)
      clear hb3
      go_wp2_with fail
      refine (HLk.out _ _ K3.out).mono ?_
      rintro e w4 ⟨rfl, hb4⟩
      have HB4 := Lib.hid (bthen HB3.out hb4)
      have K4 := Lib.hid (K3.out.next hb4)
      clear hb4
      by_cases hxy : X = Y
      · subst hxy
        clear HYX wr C2
        by_cases i0 : i < 0
        · go_wp2_with fail
          go_ret
          exact ⟨rfl, HB4.out⟩
        · obtain ⟨j, rfl⟩ := Int.eq_ofNat_of_zero_le (show 0 ≤ i by omega)
          by_cases j1 : j < s.size
          · have jw : IntKind.u64.wrap (j : Int) = (j : Int) := by rw [IntKind.wrap_u64]; omega
            have aw : IntKind.u64.wrap (a + (j : Int)) = a + (j : Int) := by have := C4.out j j1; rw [IntKind.wrap_u64]; omega
            have zz := (s[j]).toNat_lt
            have z2 : IntKind.u64.wrap ((s[j]).toNat : Int) = ((s[j]).toNat : Int) := by rw [IntKind.wrap_u64]; omega
            have j2 : ¬ s.size ≤ j := by omega
            have j3 : (0 : Int) ≤ (j : Int) := Int.natCast_nonneg _
            have j4 : (j : Int) < (s.size : Int) := by omega
            go_wp2_with fail
            refine (C3.out j j1 _ _ K4.out).mono ?_
            rintro e w5 ⟨rfl, hb5⟩
            have HB5 := Lib.hid (bthen HB4.out hb5)
            clear hb5
            go_wp2_with fail
            go_ret
            exact ⟨rfl, HB5.out⟩
          · have j2 : s.size ≤ j := by omega
            go_wp2_with fail
            go_ret
            exact ⟨rfl, HB4.out⟩
      · have hn : (X != Y) = true := by simpa using hxy
        obtain ⟨d1, d2⟩ : a ≤ o ∧ o - a < (s.size : Int) := by
          rcases HYX.out with h | h
          · exact absurd h.symm hxy
          · exact h
        have d3 := wr d1
        have d4 : ¬ (o < a) := by omega
        have d5 : ¬ ((s.size : Int) ≤ o - a) := by omega
        clear HYX wr C2
        by_cases i0 : i < 0
        · go_wp2_with fail
          go_ret
          exact ⟨rfl, HB4.out⟩
        · obtain ⟨j, rfl⟩ := Int.eq_ofNat_of_zero_le (show 0 ≤ i by omega)
          by_cases j1 : j < s.size
          · have jw : IntKind.u64.wrap (j : Int) = (j : Int) := by rw [IntKind.wrap_u64]; omega
            have aw : IntKind.u64.wrap (a + (j : Int)) = a + (j : Int) := by have := C4.out j j1; rw [IntKind.wrap_u64]; omega
            have zz := (s[j]).toNat_lt
            have z2 : IntKind.u64.wrap ((s[j]).toNat : Int) = ((s[j]).toNat : Int) := by rw [IntKind.wrap_u64]; omega
            have j2 : ¬ s.size ≤ j := by omega
            have j3 : (0 : Int) ≤ (j : Int) := Int.natCast_nonneg _
            have j4 : (j : Int) < (s.size : Int) := by omega
            go_wp2_with fail
            refine (C3.out j j1 _ _ K4.out).mono ?_
            rintro e w5 ⟨rfl, hb5⟩
            have HB5 := Lib.hid (bthen HB4.out hb5)
            clear hb5
            go_wp2_with fail
            go_ret
            exact ⟨rfl, HB5.out⟩
          · have j2 : s.size ≤ j := by omega
            go_wp2_with fail
            go_ret
            exact ⟨rfl, HB4.out⟩
    · have HV := Lib.hid (show fillM m a s = m by unfold fillM; rw [if_neg h0])
      obtain ⟨r, hr⟩ : ∃ r, fillErr m a s.size = r := ⟨_, rfl⟩
      rw [hr] at h0 HF
      rw [HV.out] at HF
      have z0 : (r != 0) = true := by simpa using h0
      have HE := Lib.hid (fun (v v' : Value) (W : World) (h : Pages W v m) (h' : Pages W v' m) => same_t h h' (by have := HNV.out; omega))
      clear hP hw hr h0 HV hout
      go_enter Try.func10, Try.ntmps10
      go_wp2_with fail
      refine (shown_any _).mono ?_
      rintro e w1 ⟨rfl, hb1⟩
      have HB1 := Lib.hid (bthen (balloc (Below.refl _ w) _) hb1)
      clear hb1
      go_wp2_with fail
      refine (HF.out _ HB1.out).mono ?_
      rintro e w2 ⟨kv, rfl, hown, hb2⟩
      have HB2 := Lib.hid (bthen HB1.out hb2)
      have K2 := Lib.hid hown.pages
      obtain ⟨A2, cap2, hv2⟩ := hown.pages.slice
      rw [← HNV.out] at hv2
      subst hv2
      clear hown hb2
      go_wp2_with fail
      refine (HE.out _ _ _ K2.out (HP.out.next HB2.out)).mono ?_
      rintro e w3 ⟨rfl, hb3⟩
      have HB3 := Lib.hid (bthen HB2.out hb3)
      clear hb3
      go_wp2_with fail
      go_ret
      exact ⟨rfl, HB3.out⟩
end Go.Proofs.Ythfognbckacllaa
