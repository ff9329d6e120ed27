/- PageNew's walk. -/
import Derived.Test.YthfognbckacllaaP33
namespace Go.Proofs.Ythfognbckacllaa
open Go.RowKit

attribute [local go_sem] Oper.semAt_some

set_option maxRecDepth 100000 in
set_option maxHeartbeats 4000000 in
theorem new_walk {m : List M.Pg} {A : Option Addr} {nv cap : Nat} (a n perm t : Int) (w : World) (hP : Pages w (.slice A nv cap) m) (hw : Wf m) (hc1 : nv ≤ cap) (hc2 : cap ≤ maxLen) (hsz : nv * 32 ≤ 140737488355328) (a0 : 0 ≤ a) (a1 : a ≤ 18446744073709551615) (t0 : 0 ≤ t) (t1 : t ≤ 18446744073709551615) :
    Calls Try.prog 8 #[.agg #[.slice A nv cap, .int .u64 a, .int .i64 n, .int .i64 perm, .int .u64 t]] w fun e w' => e = .returned (.bool true) ∧ Below w.heap.size w w' := by
  have HNV := Lib.hid hP.len
  have HP := Lib.hid hP
  have HM := Lib.hid (fun (W : World) (hb : Below w.heap.size w W) => map_any a n perm (hP.next hb) hw (by rw [← HNV.out]; exact hsz) ⟨A, nv, cap, rfl, hc1, hc2⟩ a0 a1)
  by_cases h0 : mapErr m a n perm = 0
  · obtain ⟨hr, hm, n1, n64, hpm, hby, hany, hlen⟩ := mapErr_zero h0
    have hR := Right.of hr hw.a0 hw.a1
    obtain ⟨N, rfl⟩ := Int.eq_ofNat_of_zero_le (show 0 ≤ n by omega)
    obtain ⟨c1, c2, c3, c4⟩ := new_of hR a0 h0 t0 t1
    rw [h0] at HM
    have HW := Lib.hid c2
    have HWm := Lib.hid hw
    obtain ⟨k, hk⟩ : ∃ k, mapM m a N perm = k := ⟨_, rfl⟩
    rw [hk] at HM c1 c3 c4 HW
    have HLN := Lib.hid (show k.length = nv + N by rw [c1, HNV.out])
    have HLk := Lib.hid (fun (v : Value) (W : World) (h : Pages W v k) => load_any t 1 0 h HW.out t0 t1)
    have HLm := Lib.hid (fun (W : World) (hb : Below w.heap.size w W) => load_any t 1 0 (HP.out.next hb) HWm.out t0 t1)
    obtain ⟨X, hX⟩ : ∃ X, loadV k t 1 0 = X := ⟨_, rfl⟩
    obtain ⟨Y, hY⟩ : ∃ X, loadV m t 1 0 = X := ⟨_, rfl⟩
    obtain ⟨E, hE⟩ : ∃ X, numErr k t 1 0 = X := ⟨_, rfl⟩
    obtain ⟨F, hF⟩ : ∃ X, numErr m t 1 0 = X := ⟨_, rfl⟩
    rw [hX, hE] at HLk c3 c4
    rw [hY, hF] at HLm
    rw [hF] at c3 c4
    rw [hY] at c4
    have C3 := Lib.hid c3
    have C4 := Lib.hid c4
    have n64' : nv + N ≤ 64 := by have := HNV.out; omega
    have l64 : ¬ (64 < nv) := by omega
    have tl : decide ((64 : Int) < (nv : Int)) = false := by simp; omega
    have wN : IntKind.u64.wrap (N : Int) = (N : Int) := by rw [IntKind.wrap_u64]; omega
    have wr : a ≤ t → IntKind.u64.wrap (t - a) = t - a := fun h => by rw [IntKind.wrap_u64]; omega
    have wL : IntKind.i64.wrap ((nv : Int) + (N : Int)) = (nv : Int) + (N : Int) := by rw [IntKind.wrap_i64]; omega
    clear hP hw hc1 hc2 hsz h0 hr hm hpm hby hany hlen hR c1 c2 c3 c4 hk hX hY hE hF
    go_enter Try.func8, Try.ntmps8
    go_wp2_with fail
    refine (shown_any _).mono ?_
    rintro e w1 ⟨rfl, hb1⟩
    have HB1 := Lib.hid (bthen (balloc (Below.refl _ w) _) hb1)
    clear hb1
    go_wp2_with fail
    refine (HM.out _ HB1.out).mono ?_
    rintro e w2 ⟨kv, rfl, hown, hb2⟩
    have HB2 := Lib.hid (bthen HB1.out hb2)
    have K2 := Lib.hid hown.pages
    obtain ⟨A2, cap2, hv2⟩ := hown.pages.slice
    rw [HLN.out] at hv2
    subst hv2
    clear hown hb2
    by_cases d1 : a ≤ t
    · have wt := wr d1
      have d4 : Int.tdiv (t - a) 256 = (t - a) / 256 := Int.tdiv_eq_ediv_of_nonneg (by omega)
      have d5 : IntKind.u64.wrap ((t - a) / 256) = (t - a) / 256 := by rw [IntKind.wrap_u64]; omega
      by_cases d2 : (t - a) / 256 < (N : Int)
      · obtain ⟨x1, x2, x3⟩ := C3.out ⟨d1, d2⟩
        subst x1 x2 x3
        clear wr C3 C4
        go_wp2_with fail
        refine (HLk.out _ _ K2.out).mono ?_
        rintro e w3 ⟨rfl, hb3⟩
        have HB3 := Lib.hid (bthen HB2.out hb3)
        clear hb3
        go_wp2_with fail
        refine (HLm.out _ HB3.out).mono ?_
        rintro e w4 ⟨rfl, hb4⟩
        have HB4 := Lib.hid (bthen HB3.out hb4)
        clear hb4
        go_wp2_with fail
        go_ret
        exact ⟨rfl, HB4.out⟩
      · obtain ⟨x1, x2⟩ := C4.out (by omega)
        subst x1 x2
        clear wr C3 C4
        go_wp2_with fail
        refine (HLk.out _ _ K2.out).mono ?_
        rintro e w3 ⟨rfl, hb3⟩
        have HB3 := Lib.hid (bthen HB2.out hb3)
        clear hb3
        go_wp2_with fail
        refine (HLm.out _ HB3.out).mono ?_
        rintro e w4 ⟨rfl, hb4⟩
        have HB4 := Lib.hid (bthen HB3.out hb4)
        clear hb4
        go_wp2_with fail
        go_ret
        exact ⟨rfl, HB4.out⟩
    · obtain ⟨x1, x2⟩ := C4.out (by omega)
      subst x1 x2
      clear wr C3 C4
      go_wp2_with fail
      refine (HLk.out _ _ K2.out).mono ?_
      rintro e w3 ⟨rfl, hb3⟩
      have HB3 := Lib.hid (bthen HB2.out hb3)
      clear hb3
      go_wp2_with fail
      refine (HLm.out _ HB3.out).mono ?_
      rintro e w4 ⟨rfl, hb4⟩
      have HB4 := Lib.hid (bthen HB3.out hb4)
      clear hb4
      go_wp2_with fail
      go_ret
      exact ⟨rfl, HB4.out⟩
  · have HV := Lib.hid (show mapM m a n perm = m by unfold mapM; rw [if_neg h0])
    obtain ⟨r, hr⟩ : ∃ r, mapErr m a n perm = r := ⟨_, rfl⟩
    rw [hr] at h0 HM
    rw [HV.out] at HM
    have z0 : (r != 0) = true := by simpa using h0
    by_cases hl : 64 < nv
    · have tl : decide ((64 : Int) < (nv : Int)) = true := by simp; omega
      clear hP hw hr h0 HV hc1 hc2 hsz
      go_enter Try.func8, Try.ntmps8
      go_wp2_with fail
      refine (shown_any _).mono ?_
      rintro e w1 ⟨rfl, hb1⟩
      have HB1 := Lib.hid (bthen (balloc (Below.refl _ w) _) hb1)
      clear hb1
      go_wp2_with fail
      refine (HM.out _ HB1.out).mono ?_
      rintro e w2 ⟨kv, rfl, hown, hb2⟩
      have HB2 := Lib.hid (bthen HB1.out hb2)
      obtain ⟨A2, cap2, hv2⟩ := hown.pages.slice
      rw [← HNV.out] at hv2
      subst hv2
      clear hown hb2
      go_wp2_with fail
      go_ret
      exact ⟨rfl, HB2.out⟩
    · have tl : decide ((64 : Int) < (nv : Int)) = false := by simp; omega
      have HE := Lib.hid (fun (v v' : Value) (W : World) (h : Pages W v m) (h' : Pages W v' m) => same_t h h' (by have := HNV.out; omega))
      clear hP hw hr h0 HV hc1 hc2 hsz
      go_enter Try.func8, Try.ntmps8
      go_wp2_with fail
      refine (shown_any _).mono ?_
      rintro e w1 ⟨rfl, hb1⟩
      have HB1 := Lib.hid (bthen (balloc (Below.refl _ w) _) hb1)
      clear hb1
      go_wp2_with fail
      refine (HM.out _ HB1.out).mono ?_
      rintro e w2 ⟨kv, rfl, hown, hb2⟩
      have HB2 := Lib.hid (bthen HB1.out hb2)
      have K2 := Lib.hid hown.pages
      obtain ⟨A2, cap2, hv2⟩ := hown.pages.slice
      rw [← HNV.out] at hv2
      subst hv2
      clear hown hb2
      go_wp2_with fail
      refine (HE.out _ _ _ K2.out (HP.out.next HB2.out)).mono ?_
      rintro e w3 ⟨rfl, hb3⟩
      have HB3 := Lib.hid (bthen HB2.out hb3)
      clear hb3
      go_wp2_with fail
      go_ret
      exact ⟨rfl, HB3.out⟩
end Go.Proofs.Ythfognbckacllaa
