/- PageBytes: what is loaded of several bytes is, byte by byte, what is loaded of each. -/
import Derived.Test.YthfognbckacllaaP24
namespace Go.Proofs.Ythfognbckacllaa
open Go.RowKit

theorem num_one {m : List M.Pg} {a n perm : Int} (a0 : 0 ≤ a) (h : numErr m a n perm = 0) (k : Nat) (hk : (k : Int) < n) :
    numErr m (a + k) 1 perm = 0 ∧ loadV m (a + k) 1 perm = ((M.byteAt m (a + k)).toNat : Int) ∧ a + k ≤ 18446744073709551615 := by
  obtain ⟨n1, n8, hr, hg⟩ := numErr_zero h
  simp only [allGrantB, Bool.and_eq_true, Bool.not_eq_true', List.all_eq_true] at hg
  obtain ⟨hb, hg⟩ := hg
  have hb' : a + (n - 1) ≤ 18446744073709551615 := by simp [beyondB] at hb; omega
  obtain ⟨s, hs, e, _, _⟩ := M.strs_has a0 (n := n) (a + k) (by omega) (by omega)
  have h1 := hg s hs
  rw [e] at h1
  have h2 : allGrantB m (a + k) 1 perm = true := by
    have hmin : min (1 : Int) (256 - (a + k) % 256) = 1 := by omega
    simp only [allGrantB, Bool.and_eq_true, Bool.not_eq_true', List.all_eq_true]
    refine ⟨by simp [beyondB]; omega, fun t ht => ?_⟩
    rw [M.strs_cons (by omega), hmin, M.strs_nil (by omega), List.mem_singleton] at ht
    rw [ht]
    exact h1
  have h0 : numErr m (a + k) 1 perm = 0 := by simp [numErr, hr, h2]
  refine ⟨h0, ?_, by omega⟩
  unfold loadV
  rw [if_pos h0]
  show M.num [M.byteAt m (a + k)] = _
  simp [M.num]
theorem num_step (m : List M.Pg) (a : Int) (n k : Nat) (h : k < n) : M.num (M.bytesOf m (a + k) (n - k)) = ((M.byteAt m (a + k)).toNat : Int) + 256 * M.num (M.bytesOf m (a + (k + 1 : Nat)) (n - (k + 1))) := by
  rw [show n - k = (n - (k + 1)) + 1 by omega]
  show M.num (M.byteAt m (a + k) :: M.bytesOf m (a + k + 1) (n - (k + 1))) = _
  rw [M.num, show a + (k : Int) + 1 = a + (k + 1 : Nat) by omega]

theorem pow_small : ∀ q : Nat, q < 9 → (256 : Int) ^ q ≤ 18446744073709551616 := by decide +kernel

set_option maxRecDepth 100000 in
set_option maxHeartbeats 2000000 in
theorem bytes_walk {m : List M.Pg} {A : Option Addr} {nv cap : Nat} (a n perm : Int) (w : World) (hP : Pages w (.slice A nv cap) m) (hw : Wf m) (a0 : 0 ≤ a) (a1 : a ≤ 18446744073709551615) (n0 : -9223372036854775808 ≤ n) (n1 : n ≤ 9223372036854775807) :
    Calls Try.prog 9 #[.agg #[.slice A nv cap, .int .u64 a, .int .i64 n, .int .i64 perm]] w fun e w' => e = .returned (.bool true) ∧ Below w.heap.size w w' := by
  have HL := Lib.hid (fun (b n : Int) (W : World) (hb : Below w.heap.size w W) (b0 : 0 ≤ b) (b1 : b ≤ 18446744073709551615) => load_any b n perm (hP.next hb) hw b0 b1)
  have HNV := Lib.hid hP.len
  clear hP hw
  go_enter Try.func9, Try.ntmps9
  go_wp2_with fail
  refine (shown_any _).mono ?_
  rintro e w1 ⟨rfl, hb1⟩
  have HB1 := Lib.hid (bthen (balloc (Below.refl _ w) _) hb1)
  clear hb1
  go_wp2_with fail
  refine (HL.out a n _ HB1.out a0 a1).mono ?_
  rintro e w2 ⟨rfl, hb2⟩
  have HB2 := Lib.hid (bthen HB1.out hb2)
  clear hb2
  by_cases h0 : numErr m a n perm = 0
  · obtain ⟨x1, x8, hr, hg⟩ := numErr_zero h0
    have HV := Lib.hid (show loadV m a n perm = M.num (M.bytesOf m a n.toNat) by unfold loadV; rw [if_pos h0])
    have H1 := Lib.hid (fun k hk => num_one a0 h0 k hk)
    obtain ⟨N, rfl⟩ := Int.eq_ofNat_of_zero_le (show 0 ≤ n by omega)
    rw [h0]
    obtain ⟨V, hV⟩ : ∃ V, loadV m a (N : Int) perm = V := ⟨_, rfl⟩
    rw [hV] at HV ⊢
    rw [show ((N : Int)).toNat = N by omega] at HV
    clear hr hg h0 hV
    by_cases hl : 64 < nv
    · have t1 : decide ((64 : Int) < (nv : Int)) = true := by simp; omega
      go_wp2_with fail
      go_ret
      exact ⟨rfl, HB2.out⟩
    · have t1 : decide ((64 : Int) < (nv : Int)) = false := by simp; omega
      have t2 : decide ((N : Int) < 1) = false := by simp; omega
      have t3 : decide (8 < (N : Int)) = false := by simp; omega
      go_wp2_with fail
      clear t1 t2 t3
      go_loopw [8, 10] (fun v i wr => ∃ k : Nat, k ≤ N ∧ i = .int .i64 k ∧ v = .int .u64 (M.num (M.bytesOf m (a + k) (N - k))) ∧ Below w.heap.size w wr) (fun _ i _ => N - (intOf i).toNat)
      case atStart => exact ⟨0, Nat.zero_le _, rfl, by rw [HV.out]; simp, HB2.out⟩
      case round =>
        obtain ⟨k, hk, rfl, rfl, hb⟩ := hrel
        have HB := Lib.hid hb
        clear hb
        by_cases hlt : k < N
        · obtain ⟨e1, e2, e3⟩ := H1.out k (by omega)
          have HS := Lib.hid (num_step m a N k hlt)
          have HC := Lib.hid (HL.out (a + k) 1 wr HB.out (by omega) e3)
          rw [e1, e2] at HC
          have hB := (M.byteAt m (a + k)).toNat_lt
          have hR := M.num_nonneg (M.bytesOf m (a + (k + 1 : Nat)) (N - (k + 1)))
          have hR2 : M.num (M.bytesOf m (a + (k + 1 : Nat)) (N - (k + 1))) < 18446744073709551616 := by
            have h := M.num_lt (M.bytesOf m (a + (k + 1 : Nat)) (N - (k + 1)))
            rw [M.bytesOf_length] at h
            have h2 := pow_small (N - (k + 1)) (by omega)
            omega
          have hX := M.num_nonneg (M.bytesOf m (a + k) (N - k))
          obtain ⟨B, hBe⟩ : ∃ B, (M.byteAt m (a + k)).toNat = B := ⟨_, rfl⟩
          obtain ⟨R, hRe⟩ : ∃ R, M.num (M.bytesOf m (a + (k + 1 : Nat)) (N - (k + 1))) = R := ⟨_, rfl⟩
          obtain ⟨X, hXe⟩ : ∃ X, M.num (M.bytesOf m (a + k) (N - k)) = X := ⟨_, rfl⟩
          rw [hBe] at HC hB HS
          rw [hRe] at HS hR hR2
          have w3 : IntKind.u64.wrap R = R := by rw [IntKind.wrap_u64]; omega
          rw [hXe] at HS hX ⊢
          have HRE := Lib.hid hRe
          have hs := HS.out
          have m1 : X % 256 = (B : Int) := by omega
          have m2 : X / 256 = R := by omega
          have m3 : Int.tmod X 256 = (B : Int) := by rw [Int.tmod_eq_emod_of_nonneg hX]; exact m1
          have m4 : Int.tdiv X 256 = R := by rw [Int.tdiv_eq_ediv_of_nonneg hX]; exact m2
          have w1 : IntKind.u64.wrap (k : Int) = (k : Int) := by rw [IntKind.wrap_u64]; omega
          have w2 : IntKind.u64.wrap (a + (k : Int)) = a + (k : Int) := by rw [IntKind.wrap_u64]; omega
          clear hRe hXe hBe e1 e2 hs
          go_wp2_with fail
          refine HC.out.mono ?_
          rintro e w5 ⟨rfl, hb5⟩
          have HB5 := Lib.hid (bthen HB.out hb5)
          clear hb5
          go_wp2_with fail
          go_roundw
          case rel => exact ⟨k + 1, by omega, by go_num, by rw [HRE.out], HB5.out⟩
          case measure => simp [intOf]; omega
        · obtain rfl : k = N := by omega
          have h0 : M.num (M.bytesOf m (a + k) (k - k)) = 0 := by rw [Nat.sub_self]; rfl
          rw [h0]
          go_wp2_with fail
          go_ret
          exact ⟨rfl, HB.out⟩
  · obtain ⟨r, hr⟩ : ∃ r, numErr m a n perm = r := ⟨_, rfl⟩
    rw [hr] at h0 ⊢
    have t0 : (r != 0) = true := by simpa using h0
    obtain ⟨V, hV⟩ : ∃ V, loadV m a n perm = V := ⟨_, rfl⟩
    rw [hV]
    by_cases hl : 64 < nv
    · have t1 : decide ((64 : Int) < (nv : Int)) = true := by simp; omega
      go_wp2_with fail
      go_ret
      exact ⟨rfl, HB2.out⟩
    · have t1 : decide ((64 : Int) < (nv : Int)) = false := by simp; omega
      go_wp2_with fail
      go_ret
      exact ⟨rfl, HB2.out⟩
end Go.Proofs.Ythfognbckacllaa
