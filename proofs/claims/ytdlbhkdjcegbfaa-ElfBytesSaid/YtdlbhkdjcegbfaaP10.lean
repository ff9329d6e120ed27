/- numberError, fillError, Load. -/
import Derived.Test.YtdlbhkdjcegbfaaP8
import Derived.Test.YtdlbhkdjcegbfaaP9
namespace Go.Proofs.Ytdlbhkdjcegbfaa
open Go.RowKit

/-- pages whose places are numbers of 64 bits -/
structure Wf (m : List M.Pg) : Prop where
  len : m.length ≤ 9223372036854775807
  a0 : ∀ x ∈ m, 0 ≤ x.a
  a1 : ∀ x ∈ m, x.a ≤ 18446744073709551615

def numErr (m : List M.Pg) (a n perm : Int) : Int :=
  if n < 1 ∨ 8 < n ∨ rightB m = false then 1 else if allGrantB m a n perm = false then 6 else 0
def fillErr (m : List M.Pg) (a n : Int) : Int := if rightB m = false then 1 else if allGrantB m a n 0 = false then 8 else 0

set_option maxHeartbeats 1000000 in
theorem numErr_any {m : List M.Pg} {v : Value} (a n perm : Int) {w : World} (hP : Pages w v m) (hw : Wf m) (a0 : 0 ≤ a) (a1 : a ≤ 18446744073709551615) :
    Calls Try.prog 63 #[v, .int .u64 a, .int .i64 n, .int .i64 perm] w fun e w' => e = .returned (.int .i64 (numErr m a n perm)) ∧ Below w.heap.size w w' := by
  have HR := Lib.hid (right_any hP hw.len hw.a0)
  have HG := Lib.hid (fun (hr : rightB m = true) (W : World) (hb : Below w.heap.size w W) (n1 : n ≤ 9223372036854775807) =>
    allGrant_any a n perm (hP.next hb) (Nat.le_trans (Right.of hr hw.a0 hw.a1).len (by omega)) (Right.of hr hw.a0 hw.a1).up a0 a1 n1)
  obtain ⟨A, cap, hv⟩ := hP.slice
  obtain ⟨nv, hnv⟩ : ∃ nv, m.length = nv := ⟨_, rfl⟩
  rw [hnv] at hv
  subst hv
  clear hP hnv hw
  by_cases h1 : n < 1
  · have HE := Lib.hid (show numErr m a n perm = 1 by simp [numErr, h1])
    go_enter Try.func63, Try.ntmps63
    go_wp2_with fail
    go_ret
    exact ⟨by rw [HE.out]; rfl, Below.refl _ _⟩
  · by_cases h2 : 8 < n
    · have HE := Lib.hid (show numErr m a n perm = 1 by simp [numErr, h2])
      have t1 : decide (n < 1) = false := by simp; omega
      go_enter Try.func63, Try.ntmps63
      go_wp2_with fail
      go_ret
      exact ⟨by rw [HE.out]; rfl, Below.refl _ _⟩
    · have t1 : decide (n < 1) = false := by simp; omega
      have t2 : decide (8 < n) = false := by simp; omega
      cases hr : rightB m
      · have HE := Lib.hid (show numErr m a n perm = 1 by simp [numErr, hr])
        rw [hr] at HR
        clear hr h1 h2
        go_enter Try.func63, Try.ntmps63
        go_wp2_with fail
        refine HR.out.mono ?_
        rintro e w1 ⟨rfl, hb1⟩
        have HB1 := Lib.hid hb1
        clear hb1
        go_wp2_with fail
        go_ret
        exact ⟨by rw [HE.out]; rfl, HB1.out⟩
      · have HG2 := Lib.hid (fun (W : World) (hb : Below w.heap.size w W) => HG.out hr W hb (by omega))
        rw [hr] at HR
        cases hg : allGrantB m a n perm
        all_goals
          rw [hg] at HG2
          first
            | (have HE := Lib.hid (show numErr m a n perm = 6 by simp [numErr, hr, hg]; omega))
            | (have HE := Lib.hid (show numErr m a n perm = 0 by simp [numErr, hr, hg]; omega))
          clear hr h1 h2 hg
          go_enter Try.func63, Try.ntmps63
          go_wp2_with fail
          refine HR.out.mono ?_
          rintro e w1 ⟨rfl, hb1⟩
          have HB1 := Lib.hid hb1
          clear hb1
          go_wp2_with fail
          refine (HG2.out _ HB1.out).mono ?_
          rintro e w2 ⟨rfl, hb2⟩
          have HB2 := Lib.hid (bthen HB1.out hb2)
          clear hb2
          go_wp2_with fail
          go_ret
          exact ⟨by rw [HE.out]; rfl, HB2.out⟩

set_option maxHeartbeats 1000000 in
theorem fillErr_any {m : List M.Pg} {v : Value} (a : Int) (s : ByteArray) {w : World} (hP : Pages w v m) (hw : Wf m) (a0 : 0 ≤ a) (a1 : a ≤ 18446744073709551615) (hs : s.size ≤ 9223372036854775807) :
    Calls Try.prog 70 #[v, .int .u64 a, .string s] w fun e w' => e = .returned (.int .i64 (fillErr m a s.size)) ∧ Below w.heap.size w w' := by
  have HR := Lib.hid (right_any hP hw.len hw.a0)
  have HG := Lib.hid (fun (hr : rightB m = true) (W : World) (hb : Below w.heap.size w W) =>
    allGrant_any a s.size 0 (hP.next hb) (Nat.le_trans (Right.of hr hw.a0 hw.a1).len (by omega)) (Right.of hr hw.a0 hw.a1).up a0 a1 (by omega))
  obtain ⟨A, cap, hv⟩ := hP.slice
  obtain ⟨nv, hnv⟩ : ∃ nv, m.length = nv := ⟨_, rfl⟩
  rw [hnv] at hv
  subst hv
  clear hP hnv hw
  cases hr : rightB m
  · have HE := Lib.hid (show fillErr m a s.size = 1 by simp [fillErr, hr])
    rw [hr] at HR
    clear hr
    go_enter Try.func70, Try.ntmps70
    go_wp2_with fail
    refine HR.out.mono ?_
    rintro e w1 ⟨rfl, hb1⟩
    have HB1 := Lib.hid hb1
    clear hb1
    go_wp2_with fail
    go_ret
    exact ⟨by rw [HE.out]; rfl, HB1.out⟩
  · have HG2 := Lib.hid (fun (W : World) (hb : Below w.heap.size w W) => HG.out hr W hb)
    rw [hr] at HR
    have HE := Lib.hid (show fillErr m a s.size = bif allGrantB m a s.size 0 then 0 else 8 by cases h : allGrantB m a s.size 0 <;> simp [fillErr, hr, h])
    cases hg : allGrantB m a s.size 0
    all_goals
      rw [hg] at HG2 HE
      clear hr hg
      go_enter Try.func70, Try.ntmps70
      go_wp2_with fail
      refine HR.out.mono ?_
      rintro e w1 ⟨rfl, hb1⟩
      have HB1 := Lib.hid hb1
      clear hb1
      go_wp2_with fail
      refine (HG2.out _ HB1.out).mono ?_
      rintro e w2 ⟨rfl, hb2⟩
      have HB2 := Lib.hid (bthen HB1.out hb2)
      clear hb2
      go_wp2_with fail
      go_ret
      exact ⟨by rw [HE.out]; rfl, HB2.out⟩

/-- what is granted has its pages -/
theorem granted_in {m : List M.Pg} (hr : M.Right m) {a k perm : Int} (a0 : 0 ≤ a) (a1 : a ≤ 18446744073709551615) (hg : allGrantB m a k perm = true) :
    a + k ≤ 18446744073709551616 ∧ ∀ s ∈ M.strs a k, InPg m s := by
  simp only [allGrantB, Bool.and_eq_true, Bool.not_eq_true', List.all_eq_true] at hg
  obtain ⟨hb, hg⟩ := hg
  have hk : a + k ≤ 18446744073709551616 := by simp [beyondB] at hb; omega
  refine ⟨hk, fun s hs => ⟨(M.strs_ok a0 hk s hs).1, ?_⟩⟩
  have h := hg s hs
  simp only [grantB, Bool.and_eq_true] at h
  obtain ⟨h1, h2⟩ := (M.there_iff hr.up s.pg).1 h.1
  exact ⟨_, h1, rfl, h.1, hr.size h1⟩
theorem numErr_zero {m : List M.Pg} {a n perm : Int} (h : numErr m a n perm = 0) : 1 ≤ n ∧ n ≤ 8 ∧ rightB m = true ∧ allGrantB m a n perm = true := by
  unfold numErr at h
  split at h
  · omega
  · rename_i h1
    split at h
    · omega
    · rename_i h2
      refine ⟨by omega, by omega, ?_, by simpa using h2⟩
      cases hr : rightB m
      · exact absurd (.inr (.inr hr)) h1
      · rfl
/-- what Load comes to -/
def loadV (m : List M.Pg) (a n perm : Int) : Int := if numErr m a n perm = 0 then M.num (M.bytesOf m a n.toNat) else 0

set_option maxHeartbeats 1000000 in
theorem load_any {m : List M.Pg} {v : Value} (a n perm : Int) {w : World} (hP : Pages w v m) (hw : Wf m) (a0 : 0 ≤ a) (a1 : a ≤ 18446744073709551615) :
    Calls Try.prog 26 #[v, .int .u64 a, .int .i64 n, .int .i64 perm] w fun e w' => e = .returned (.tuple #[.int .u64 (loadV m a n perm), .int .i64 (numErr m a n perm)]) ∧ Below w.heap.size w w' := by
  have HE := Lib.hid (numErr_any a n perm hP hw a0 a1)
  by_cases h0 : numErr m a n perm = 0
  · have HV := Lib.hid (show loadV m a n perm = M.num (M.bytesOf m a n.toNat) by unfold loadV; rw [if_pos h0])
    obtain ⟨n1, n8, hr, hg⟩ := numErr_zero h0
    have hR := Right.of hr hw.a0 hw.a1
    obtain ⟨hk, hin⟩ := granted_in hR a0 a1 hg
    obtain ⟨s0, hs0, _⟩ := M.strs_has (n := n) a0 a (by omega) (by omega)
    have hlen : 0 < m.length := by
      obtain ⟨_, i, hi, _⟩ := hin s0 hs0
      omega
    rcases hP with ⟨rfl, _⟩ | ⟨_, b, off, cap, rfl, h⟩
    · simp at hlen
    · have HB := Lib.hid (fun (W : World) (hb : Below w.heap.size w W) => bytesAt_some m b off cap a n W (Nat.le_trans hR.len (by omega)) hR.up (h.next hb) hlen a0 a1 (by omega) hk hin)
      have HN := Lib.hid (fun W => number_any ⟨(M.bytesOf m a n.toNat).toArray⟩ W (by
        show (M.bytesOf m a n.toNat).toArray.size ≤ 8
        rw [List.size_toArray, M.bytesOf_length]; omega))
      have HD := Lib.hid (show ((⟨(M.bytesOf m a n.toNat).toArray⟩ : ByteArray)).data.toList = M.bytesOf m a n.toNat by simp)
      rw [HD.out] at HN
      rw [HV.out]
      rw [h0] at HE ⊢
      obtain ⟨nv, hnv⟩ : ∃ nv, m.length = nv := ⟨_, rfl⟩
      rw [hnv] at HE HB ⊢
      obtain ⟨r, hr'⟩ : ∃ r, M.num (M.bytesOf m a n.toNat) = r := ⟨_, rfl⟩
      rw [hr'] at HN ⊢
      clear hr' hnv hin hlen hs0 h0 hr hg HD HV
      go_enter Try.func26, Try.ntmps26
      go_wp2_with fail
      refine HE.out.mono ?_
      rintro e w1 ⟨rfl, hb1⟩
      have HB1 := Lib.hid hb1
      clear hb1
      go_wp2_with fail
      refine (HB.out _ HB1.out).mono ?_
      rintro e w2 ⟨rfl, hb2⟩
      have HB2 := Lib.hid (bthen HB1.out hb2)
      clear hb2
      go_wp2_with fail
      refine (HN.out _).mono ?_
      rintro e w3 ⟨rfl, rfl⟩
      go_wp2_with fail
      go_ret2
      exact ⟨rfl, HB2.out⟩
  · have HV := Lib.hid (show loadV m a n perm = 0 by unfold loadV; rw [if_neg h0])
    obtain ⟨A, cap, hv⟩ := hP.slice
    obtain ⟨nv, hnv⟩ : ∃ nv, m.length = nv := ⟨_, rfl⟩
    rw [hnv] at hv
    subst hv
    rw [HV.out]
    obtain ⟨r, hr⟩ : ∃ r, numErr m a n perm = r := ⟨_, rfl⟩
    rw [hr] at h0 HE ⊢
    have t0 : (r != 0) = true := by simpa using h0
    clear hP hw hnv hr h0
    go_enter Try.func26, Try.ntmps26
    go_wp2_with fail
    refine HE.out.mono ?_
    rintro e w1 ⟨rfl, hb1⟩
    have HB1 := Lib.hid hb1
    clear hb1
    go_wp2_with fail
    go_ret2
    exact ⟨rfl, HB1.out⟩
end Go.Proofs.Ytdlbhkdjcegbfaa
