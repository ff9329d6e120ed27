/- PageBack: what was stored is loaded, where it may be read; bytes at other places are as they were. -/
import Derived.Test.YthfognbckacllaaP27
namespace Go.Proofs.Ythfognbckacllaa
open Go.RowKit

attribute [local go_sem] Oper.semAt_some

set_option maxRecDepth 100000 in
set_option maxHeartbeats 4000000 in
theorem back_walk {m : List M.Pg} {A : Option Addr} {nv cap : Nat} (a : Int) (V : Nat) (b : Int) (w : World) (hP : Pages w (.slice A nv cap) m) (hw : Wf m) (a0 : 0 ≤ a) (a1 : a ≤ 18446744073709551615) (hV : V < 18446744073709551616) (b0 : 0 ≤ b) (b1 : b ≤ 18446744073709551615) :
    Calls Try.prog 5 #[.agg #[.slice A nv cap, .int .u64 a, .int .u64 V, .int .u64 b]] w fun e w' => e = .returned (.bool true) ∧ Below w.heap.size w w' := by
  have HNV := Lib.hid hP.len
  by_cases hl : 200 < nv
  · have t1 : decide ((200 : Int) < (nv : Int)) = true := by simp; omega
    clear hP hw
    go_enter Try.func5, Try.ntmps5
    go_wp2_with fail
    refine (shown_any _).mono ?_
    rintro e w1 ⟨rfl, hb1⟩
    have HB1 := Lib.hid (bthen (balloc (Below.refl _ w) _) hb1)
    clear hb1
    go_wp2_with fail
    go_ret
    exact ⟨rfl, HB1.out⟩
  · have t1 : decide ((200 : Int) < (nv : Int)) = false := by simp; omega
    have HP := Lib.hid hP
    have HS := Lib.hid (fun (W : World) (hb : Below w.heap.size w W) => store_any a 8 V (hP.next hb) hw (by have := HNV.out; omega) a0 a1 hV)
    by_cases h0 : numErr m a 8 2 = 0
    · obtain ⟨e1, e2, e3, e4⟩ := back_of hw.a0 hw.a1 a0 hV h0 b
      obtain ⟨_, _, hr, _⟩ := numErr_zero h0
      have hR := Right.of hr hw.a0 hw.a1
      have HK := Lib.hid (show storeM m a 8 V = laid m a (M.lowest V 8) by unfold storeM; rw [if_pos h0]; rfl)
      rw [h0, HK.out] at HS
      have HW := Lib.hid (laid_wf hR a (M.lowest V 8))
      have HM := Lib.hid hw
      have HLN := Lib.hid (show (laid m a (M.lowest V 8)).length = nv by rw [laid_length]; exact HNV.out.symm)
      obtain ⟨k, hk⟩ : ∃ k, laid m a (M.lowest V 8) = k := ⟨_, rfl⟩
      rw [hk] at HS HW HLN e1 e2 e3 e4
      obtain ⟨X, hX⟩ : ∃ X, loadV m b 1 0 = X := ⟨_, rfl⟩
      obtain ⟨Y, hY⟩ : ∃ Y, loadV k b 1 0 = Y := ⟨_, rfl⟩
      obtain ⟨E, hE⟩ : ∃ E, numErr m b 1 0 = E := ⟨_, rfl⟩
      have HL1 := Lib.hid (fun (v : Value) (W : World) (hP : Pages W v k) => load_any a 8 0 hP HW.out a0 a1)
      have HL2 := Lib.hid (fun (W : World) (hb : Below w.heap.size w W) => load_any b 1 0 (HP.out.next hb) HM.out b0 b1)
      have HL3 := Lib.hid (fun (v : Value) (W : World) (hP : Pages W v k) => load_any b 1 0 hP HW.out b0 b1)
      rw [e1, e2] at HL1
      rw [hX, hE] at HL2
      rw [e3, hY, hE] at HL3
      have HXY := Lib.hid (fun (h : ¬ (a ≤ b ∧ b < a + 8)) => (hY.symm.trans ((e4 h b0).trans hX) : Y = X))
      clear e1 e2 e3 e4 hr hR hk hX hY hE hP hw h0 HK
      have wrp : a ≤ b → IntKind.u64.wrap (b - a) = b - a := fun h => by rw [IntKind.wrap_u64]; omega
      go_enter Try.func5, Try.ntmps5
      go_wp2_with fail
      refine (shown_any _).mono ?_
      rintro e w1 ⟨rfl, hb1⟩
      have HB1 := Lib.hid (bthen (balloc (Below.refl _ w) _) hb1)
      clear hb1
      go_wp2_with fail
      refine (HS.out _ HB1.out).mono ?_
      rintro e w2 ⟨kv, rfl, hown, hb2⟩
      have HB2 := Lib.hid (bthen HB1.out hb2)
      have HK2 := Lib.hid hown.pages
      obtain ⟨A2, cap2, hv2⟩ := hown.pages.slice
      rw [HLN.out] at hv2
      subst hv2
      clear hown hb2
      go_wp2_with fail
      refine (HL1.out _ _ HK2.out).mono ?_
      rintro e w3 ⟨rfl, hb3⟩
      have HB3 := Lib.hid (bthen HB2.out hb3)
      have HK3 := Lib.hid (HK2.out.next hb3)
      clear hb3
      go_wp2_with fail
      refine (HL2.out _ HB3.out).mono ?_
      rintro e w4 ⟨rfl, hb4⟩
      have HB4 := Lib.hid (bthen HB3.out hb4)
      have HK4 := Lib.hid (HK3.out.next hb4)
      clear hb4
      go_wp2_with fail
      refine (HL3.out _ _ HK4.out).mono ?_
      rintro e w5 ⟨rfl, hb5⟩
      have HB5 := Lib.hid (bthen HB4.out hb5)
      clear hb5
      by_cases c1 : a ≤ b
      · have wr := wrp c1
        by_cases c2 : b < a + 8
        · have c3 : b - a < 8 := by omega
          clear wrp HXY
          go_wp2_with fail
          go_ret
          exact ⟨rfl, HB5.out⟩
        · have c3 : ¬ (b - a < 8) := by omega
          obtain rfl := HXY.out (by omega)
          clear wrp HXY
          go_wp2_with fail
          go_ret
          exact ⟨rfl, HB5.out⟩
      · obtain rfl := HXY.out (by omega)
        clear wrp HXY
        go_wp2_with fail
        go_ret
        exact ⟨rfl, HB5.out⟩
    · have HV := Lib.hid (show storeM m a 8 V = m by unfold storeM; rw [if_neg h0])
      obtain ⟨r, hr⟩ : ∃ r, numErr m a 8 2 = r := ⟨_, rfl⟩
      rw [hr] at h0 HS
      rw [HV.out] at HS
      have t0 : (r != 0) = true := by simpa using h0
      have HE := Lib.hid (fun (v v' : Value) (W : World) (h : Pages W v m) (h' : Pages W v' m) => same_t h h' (by have := HNV.out; omega))
      clear hP hw hr h0 HV
      go_enter Try.func5, Try.ntmps5
      go_wp2_with fail
      refine (shown_any _).mono ?_
      rintro e w1 ⟨rfl, hb1⟩
      have HB1 := Lib.hid (bthen (balloc (Below.refl _ w) _) hb1)
      clear hb1
      go_wp2_with fail
      refine (HS.out _ HB1.out).mono ?_
      rintro e w2 ⟨kv, rfl, hown, hb2⟩
      have HB2 := Lib.hid (bthen HB1.out hb2)
      have HK2 := Lib.hid hown.pages
      obtain ⟨A2, cap2, hv2⟩ := hown.pages.slice
      rw [← HNV.out] at hv2
      subst hv2
      clear hown hb2
      go_wp2_with fail
      refine (HE.out _ _ _ HK2.out (HP.out.next HB2.out)).mono ?_
      rintro e w3 ⟨rfl, hb3⟩
      have HB3 := Lib.hid (bthen HB2.out hb3)
      clear hb3
      go_wp2_with fail
      go_ret
      exact ⟨rfl, HB3.out⟩
end Go.Proofs.Ythfognbckacllaa
