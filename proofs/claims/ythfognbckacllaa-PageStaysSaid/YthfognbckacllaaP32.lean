/- PageStays: right memory stays right, whatever is done with it. -/
import Derived.Test.YthfognbckacllaaP31
namespace Go.Proofs.Ythfognbckacllaa
open Go.RowKit

attribute [local go_sem] Oper.semAt_some

set_option maxRecDepth 100000 in
set_option maxHeartbeats 4000000 in
theorem stays_walk {m : List M.Pg} {A : Option Addr} {nv cap : Nat} (a n perm : Int) (V : Nat) (s : ByteArray) (w : World) (hP : Pages w (.slice A nv cap) m) (hw : Wf m) (hc1 : nv ≤ cap) (hc2 : cap ≤ maxLen) (a0 : 0 ≤ a) (a1 : a ≤ 18446744073709551615) (hV : V < 18446744073709551616) :
    Calls Try.prog 6 #[.agg #[.slice A nv cap, .int .u64 a, .int .i64 n, .int .i64 perm, .int .u64 V, .string s]] w fun e w' => e = .returned (.bool true) ∧ Below w.heap.size w w' := by
  have HNV := Lib.hid hP.len
  have HP := Lib.hid hP
  have HR := Lib.hid (fun (W : World) (hb : Below w.heap.size w W) => refRight_any (hP.next hb) hw.a0)
  by_cases hr : rightB m = true
  · rw [hr] at HR
    by_cases hs : 1000 < s.size
    · have ts : decide ((1000 : Int) < (s.size : Int)) = true := by simp; omega
      clear hP hw hr hc1 hc2
      go_enter Try.func6, Try.ntmps6
      go_wp2_with fail
      refine (shown_any _).mono ?_
      rintro e w1 ⟨rfl, hb1⟩
      have HB1 := Lib.hid (bthen (balloc (Below.refl _ w) _) hb1)
      clear hb1
      go_wp2_with fail
      refine (HR.out _ HB1.out).mono ?_
      rintro e w2 ⟨rfl, hb2⟩
      have HB2 := Lib.hid (bthen HB1.out hb2)
      clear hb2
      go_wp2_with fail
      go_ret
      exact ⟨rfl, HB2.out⟩
    · have hR := Right.of hr hw.a0 hw.a1
      have hln := hR.len
      have HM := Lib.hid (fun (W : World) (hb : Below w.heap.size w W) => map_any a n perm (hP.next hb) hw (by omega) ⟨A, nv, cap, rfl, hc1, hc2⟩ a0 a1)
      have HS := Lib.hid (fun (W : World) (hb : Below w.heap.size w W) => store_any a n V (hP.next hb) hw (by omega) a0 a1 hV)
      have HF := Lib.hid (fun (W : World) (hb : Below w.heap.size w W) => fill_any a s (hP.next hb) hw (by omega) a0 a1 (by omega))
      have R1 := mapM_right hR (n := n) (perm := perm) a0
      have R2 := storeM_right hR a n V
      have R3 := fillM_right hR a s
      obtain ⟨k1, hk1⟩ : ∃ k, mapM m a n perm = k := ⟨_, rfl⟩
      obtain ⟨k2, hk2⟩ : ∃ k, storeM m a n V = k := ⟨_, rfl⟩
      obtain ⟨k3, hk3⟩ : ∃ k, fillM m a s = k := ⟨_, rfl⟩
      rw [hk1] at HM R1
      rw [hk2] at HS R2
      rw [hk3] at HF R3
      obtain ⟨E1, hE1⟩ : ∃ E, mapErr m a n perm = E := ⟨_, rfl⟩
      obtain ⟨E2, hE2⟩ : ∃ E, numErr m a n 2 = E := ⟨_, rfl⟩
      obtain ⟨E3, hE3⟩ : ∃ E, fillErr m a s.size = E := ⟨_, rfl⟩
      rw [hE1] at HM
      rw [hE2] at HS
      rw [hE3] at HF
      have L2 := Lib.hid (R2.2.trans HNV.out.symm)
      have L3 := Lib.hid (R3.2.trans HNV.out.symm)
      have Q1 := Lib.hid (fun (v : Value) (W : World) (h : Pages W v k1) => (refRight_any h R1.ge).mono fun e w' h => (by rw [Right.rb R1] at h; exact h : e = .returned (.bool true) ∧ Below W.heap.size W w'))
      have Q2 := Lib.hid (fun (v : Value) (W : World) (h : Pages W v k2) => (refRight_any h R2.1.ge).mono fun e w' h => (by rw [Right.rb R2.1] at h; exact h : e = .returned (.bool true) ∧ Below W.heap.size W w'))
      have Q3 := Lib.hid (fun (v : Value) (W : World) (h : Pages W v k3) => (refRight_any h R3.1.ge).mono fun e w' h => (by rw [Right.rb R3.1] at h; exact h : e = .returned (.bool true) ∧ Below W.heap.size W w'))
      have ts : decide ((1000 : Int) < (s.size : Int)) = false := by simp; omega
      clear hP hw hr hc1 hc2 hR hln R1 R2 R3 hk1 hk2 hk3 hE1 hE2 hE3
      go_enter Try.func6, Try.ntmps6
      go_wp2_with fail
      refine (shown_any _).mono ?_
      rintro e w1 ⟨rfl, hb1⟩
      have HB1 := Lib.hid (bthen (balloc (Below.refl _ w) _) hb1)
      clear hb1
      go_wp2_with fail
      refine (HR.out _ HB1.out).mono ?_
      rintro e w2 ⟨rfl, hb2⟩
      have HB2 := Lib.hid (bthen HB1.out hb2)
      clear hb2
      go_wp2_with fail
      refine (HM.out _ HB2.out).mono ?_
      rintro e w3 ⟨v3, rfl, ho3, hb3⟩
      have HB3 := Lib.hid (bthen HB2.out hb3)
      have K3 := Lib.hid ho3.pages
      obtain ⟨A3, c3, hv3⟩ := ho3.pages.slice
      obtain ⟨n3, hn3⟩ : ∃ n, k1.length = n := ⟨_, rfl⟩
      rw [hn3] at hv3
      subst hv3
      clear ho3 hb3 hn3
      go_wp2_with fail
      refine (HS.out _ HB3.out).mono ?_
      rintro e w4 ⟨v4, rfl, ho4, hb4⟩
      have HB4 := Lib.hid (bthen HB3.out hb4)
      have K3' := Lib.hid (K3.out.next hb4)
      have K4 := Lib.hid ho4.pages
      obtain ⟨A4, c4, hv4⟩ := ho4.pages.slice
      rw [L2.out] at hv4
      subst hv4
      clear ho4 hb4
      go_wp2_with fail
      refine (HF.out _ HB4.out).mono ?_
      rintro e w5 ⟨v5, rfl, ho5, hb5⟩
      have HB5 := Lib.hid (bthen HB4.out hb5)
      have K3'' := Lib.hid (K3'.out.next hb5)
      have K4' := Lib.hid (K4.out.next hb5)
      have K5 := Lib.hid ho5.pages
      obtain ⟨A5, c5, hv5⟩ := ho5.pages.slice
      rw [L3.out] at hv5
      subst hv5
      clear ho5 hb5
      go_wp2_with fail
      refine (Q1.out _ _ K3''.out).mono ?_
      rintro e w6 ⟨rfl, hb6⟩
      have HB6 := Lib.hid (bthen HB5.out hb6)
      have K46 := Lib.hid (K4'.out.next hb6)
      have K56 := Lib.hid (K5.out.next hb6)
      clear hb6
      go_wp2_with fail
      refine (Q2.out _ _ K46.out).mono ?_
      rintro e w7 ⟨rfl, hb7⟩
      have HB7 := Lib.hid (bthen HB6.out hb7)
      have K57 := Lib.hid (K56.out.next hb7)
      clear hb7
      go_wp2_with fail
      refine (Q3.out _ _ K57.out).mono ?_
      rintro e w8 ⟨rfl, hb8⟩
      have HB8 := Lib.hid (bthen HB7.out hb8)
      clear hb8
      go_wp2_with fail
      go_ret
      exact ⟨rfl, HB8.out⟩
  · have hr' : rightB m = false := by simpa using hr
    rw [hr'] at HR
    clear hP hw hr hr' hc1 hc2
    go_enter Try.func6, Try.ntmps6
    go_wp2_with fail
    refine (shown_any _).mono ?_
    rintro e w1 ⟨rfl, hb1⟩
    have HB1 := Lib.hid (bthen (balloc (Below.refl _ w) _) hb1)
    clear hb1
    go_wp2_with fail
    refine (HR.out _ HB1.out).mono ?_
    rintro e w2 ⟨rfl, hb2⟩
    have HB2 := Lib.hid (bthen HB1.out hb2)
    clear hb2
    go_wp2_with fail
    go_ret
    exact ⟨rfl, HB2.out⟩
end Go.Proofs.Ythfognbckacllaa
