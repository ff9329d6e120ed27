/- Store and Fill. -/
import Derived.Test.YtdlbhkdjcegbfaaP10
import Derived.Test.YtdlbhkdjcegbfaaP17
namespace Go.Proofs.Ytdlbhkdjcegbfaa
open Go.RowKit

/-- a new row of the call's own with these pages, and an error's number -/
def NewPagesE (m : List M.Pg) (err : Int) (w : World) (e : Ending) (w' : World) : Prop := ∃ v', e = .returned (.tuple #[v', .int .i64 err]) ∧ OwnsP w' w.heap.size v' m ∧ Below w.heap.size w w'
def storeM (m : List M.Pg) (a n : Int) (v : Nat) : List M.Pg := if numErr m a n 2 = 0 then laid m a (M.lowest v n.toNat) else m
def fillM (m : List M.Pg) (a : Int) (l : ByteArray) : List M.Pg := if fillErr m a l.size = 0 then laid m a l.data.toList else m
theorem ownsP_base {W : World} {base base' : Nat} {v : Value} {m : List M.Pg} (h : OwnsP W base v m) (hb : base' ≤ base) : OwnsP W base' v m := by
  have h' : W.ownsRow base 39 3 v m.length (cellsOf m) := h
  exact ⟨h'.1, by
    rcases h'.2 with ⟨e, e2⟩ | ⟨g', cap', cur, e, e2, e3⟩
    · exact .inl ⟨e, e2⟩
    · exact .inr ⟨g', cap', cur, e, by omega, e3⟩⟩

set_option maxHeartbeats 1000000 in
theorem store_any {m : List M.Pg} {v : Value} (a n : Int) (x : Nat) {w : World} (hP : Pages w v m) (hw : Wf m) (hn : m.length * 32 ≤ 140737488355328) (a0 : 0 ≤ a) (a1 : a ≤ 18446744073709551615) (hx : x < 18446744073709551616) :
    Calls Try.prog 27 #[v, .int .u64 a, .int .i64 n, .int .u64 x] w (NewPagesE (storeM m a n x) (numErr m a n 2) w) := by
  have HE := Lib.hid (numErr_any a n 2 hP hw a0 a1)
  have HP := Lib.hid hP
  obtain ⟨A, cap, hv⟩ := hP.slice
  obtain ⟨nv, hnv⟩ : ∃ nv, m.length = nv := ⟨_, rfl⟩
  have HNV := Lib.hid hnv
  rw [hnv] at hv
  by_cases h0 : numErr m a n 2 = 0
  · have HV := Lib.hid (show storeM m a n x = laid m a (M.lowest x n.toNat) by unfold storeM; rw [if_pos h0])
    obtain ⟨n1, n8, hr, hg⟩ := numErr_zero h0
    have hR := Right.of hr hw.a0 hw.a1
    obtain ⟨hk, hin⟩ := granted_in hR a0 a1 hg
    obtain ⟨N, rfl⟩ := Int.eq_ofNat_of_zero_le (show 0 ≤ n by omega)
    rw [show ((N : Int)).toNat = N by omega] at HV
    have hsz : ((⟨(M.lowest x N).toArray⟩ : ByteArray)).size = N := by
      show (M.lowest x N).toArray.size = N
      rw [List.size_toArray, M.lowest_length]
    have HL := Lib.hid (fun (W : World) (hb : Below w.heap.size w W) => lay_any a ⟨(M.lowest x N).toArray⟩ (hP.next hb) hR a0 a1 (by rw [hsz]; omega) (by rw [hsz]; exact hk) (by rw [hsz]; exact hin))
    have HD := Lib.hid (show ((⟨(M.lowest x N).toArray⟩ : ByteArray)).data.toList = M.lowest x N by simp)
    rw [HD.out] at HL
    have HLO := Lib.hid (fun W => lowest_any x N W hx (by omega))
    rw [HV.out]
    rw [h0] at HE ⊢
    subst hv
    clear hP hw hn hnv h0 hr hg hin hk hsz HD HV
    go_enter Try.func27, Try.ntmps27
    go_wp2_with fail
    refine HE.out.mono ?_
    rintro e w1 ⟨rfl, hb1⟩
    have HB1 := Lib.hid hb1
    clear hb1
    go_wp2_with fail
    refine (HLO.out _).mono ?_
    rintro e w2 ⟨rfl, hb2⟩
    have HB2 := Lib.hid (bthen HB1.out hb2)
    clear hb2
    go_wp2_with fail
    refine (HL.out _ HB2.out).mono ?_
    rintro e w3 ⟨ov, rfl, hown, hb3⟩
    have HB3 := Lib.hid (bthen HB2.out hb3)
    have HO := Lib.hid (ownsP_base hown HB2.out.size)
    obtain ⟨A2, cap2, hv2⟩ := hown.pages.slice
    obtain ⟨n2, hn2⟩ : ∃ n2, (laid m a (M.lowest x N)).length = n2 := ⟨_, rfl⟩
    rw [hn2] at hv2
    subst hv2
    clear hb3 hown hn2
    go_wp2_with fail
    go_ret2
    exact ⟨_, rfl, HO.out, HB3.out⟩
  · have HV := Lib.hid (show storeM m a n x = m by unfold storeM; rw [if_neg h0])
    have HC := Lib.hid (fun (W : World) (hb : Below w.heap.size w W) => clone_any (hP.next hb) hn)
    rw [HV.out]
    obtain ⟨r, hr⟩ : ∃ r, numErr m a n 2 = r := ⟨_, rfl⟩
    rw [hr] at h0 HE ⊢
    have t0 : (r != 0) = true := by simpa using h0
    subst hv
    clear hP hw hn hnv hr h0 HV
    go_enter Try.func27, Try.ntmps27
    go_wp2_with fail
    refine HE.out.mono ?_
    rintro e w1 ⟨rfl, hb1⟩
    have HB1 := Lib.hid hb1
    clear hb1
    go_wp2_with fail
    refine (HC.out _ HB1.out).mono ?_
    rintro e w3 ⟨ov, rfl, hown, hb3⟩
    have HB3 := Lib.hid (bthen HB1.out hb3)
    have HO := Lib.hid (ownsP_base hown HB1.out.size)
    obtain ⟨A2, cap2, hv2⟩ := hown.pages.slice
    rw [HNV.out] at hv2
    subst hv2
    clear hb3 hown
    go_wp2_with fail
    go_ret2
    exact ⟨_, rfl, HO.out, HB3.out⟩

set_option maxHeartbeats 1000000 in
theorem fill_any {m : List M.Pg} {v : Value} (a : Int) (l : ByteArray) {w : World} (hP : Pages w v m) (hw : Wf m) (hn : m.length * 32 ≤ 140737488355328) (a0 : 0 ≤ a) (a1 : a ≤ 18446744073709551615) (hl : l.size ≤ 100000) :
    Calls Try.prog 29 #[v, .int .u64 a, .string l] w (NewPagesE (fillM m a l) (fillErr m a l.size) w) := by
  have HE := Lib.hid (fillErr_any a l hP hw a0 a1 (by omega))
  have HP := Lib.hid hP
  obtain ⟨A, cap, hv⟩ := hP.slice
  obtain ⟨nv, hnv⟩ : ∃ nv, m.length = nv := ⟨_, rfl⟩
  have HNV := Lib.hid hnv
  rw [hnv] at hv
  by_cases h0 : fillErr m a l.size = 0
  · have HV := Lib.hid (show fillM m a l = laid m a l.data.toList by unfold fillM; rw [if_pos h0])
    obtain ⟨hr, hg⟩ : rightB m = true ∧ allGrantB m a l.size 0 = true := by
      unfold fillErr at h0
      split at h0
      · omega
      · rename_i h1
        split at h0
        · omega
        · rename_i h2
          exact ⟨by simpa using h1, by simpa using h2⟩
    have hR := Right.of hr hw.a0 hw.a1
    obtain ⟨hk, hin⟩ := granted_in hR a0 a1 hg
    have HL := Lib.hid (fun (W : World) (hb : Below w.heap.size w W) => lay_any a l (hP.next hb) hR a0 a1 hl hk hin)
    rw [HV.out]
    rw [h0] at HE ⊢
    subst hv
    clear hP hw hn hnv h0 hr hg hin hk HV
    go_enter Try.func29, Try.ntmps29
    go_wp2_with fail
    refine HE.out.mono ?_
    rintro e w1 ⟨rfl, hb1⟩
    have HB1 := Lib.hid hb1
    clear hb1
    go_wp2_with fail
    refine (HL.out _ HB1.out).mono ?_
    rintro e w3 ⟨ov, rfl, hown, hb3⟩
    have HB3 := Lib.hid (bthen HB1.out hb3)
    have HO := Lib.hid (ownsP_base hown HB1.out.size)
    obtain ⟨A2, cap2, hv2⟩ := hown.pages.slice
    obtain ⟨n2, hn2⟩ : ∃ n2, (laid m a l.data.toList).length = n2 := ⟨_, rfl⟩
    rw [hn2] at hv2
    subst hv2
    clear hb3 hown hn2
    go_wp2_with fail
    go_ret2
    exact ⟨_, rfl, HO.out, HB3.out⟩
  · have HV := Lib.hid (show fillM m a l = m by unfold fillM; rw [if_neg h0])
    have HC := Lib.hid (fun (W : World) (hb : Below w.heap.size w W) => clone_any (hP.next hb) hn)
    rw [HV.out]
    obtain ⟨r, hr⟩ : ∃ r, fillErr m a l.size = r := ⟨_, rfl⟩
    rw [hr] at h0 HE ⊢
    have t0 : (r != 0) = true := by simpa using h0
    subst hv
    clear hP hw hn hnv hr h0 HV
    go_enter Try.func29, Try.ntmps29
    go_wp2_with fail
    refine HE.out.mono ?_
    rintro e w1 ⟨rfl, hb1⟩
    have HB1 := Lib.hid hb1
    clear hb1
    go_wp2_with fail
    refine (HC.out _ HB1.out).mono ?_
    rintro e w3 ⟨ov, rfl, hown, hb3⟩
    have HB3 := Lib.hid (bthen HB1.out hb3)
    have HO := Lib.hid (ownsP_base hown HB1.out.size)
    obtain ⟨A2, cap2, hv2⟩ := hown.pages.slice
    rw [HNV.out] at hv2
    subst hv2
    clear hb3 hown
    go_wp2_with fail
    go_ret2
    exact ⟨_, rfl, HO.out, HB3.out⟩
end Go.Proofs.Ytdlbhkdjcegbfaa
