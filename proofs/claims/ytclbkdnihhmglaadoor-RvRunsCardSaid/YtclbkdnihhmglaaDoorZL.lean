/- The reference's Fill. -/
import Derived.Test.YtclbkdnihhmglaaDoorZK
namespace Go.Proofs.YtclbkdnihhmglaaDoor
open Go.RowKit

attribute [local go_sem] Oper.semAt_some

theorem fill_all {m : List M.Pg} {a : Int} {l : ByteArray} {N : Nat} (hN : l.size = N) (hr : rightB m = true) (a0 : 0 ≤ a) :
    ((∀ j : Nat, j < N → placeB m (a + j) 0 = true) → fillErr m a N = 0 ∧ fillM m a l = laid m a l.data.toList) ∧
    ((∃ j : Nat, j < N ∧ placeB m (a + j) 0 = false) → fillErr m a N = 8 ∧ fillM m a l = m) := by
  constructor
  · intro h
    have hg : allGrantB m a N 0 = true := by
      by_cases h0 : 1 ≤ N
      · exact (all_places a0 h0).2 h
      · obtain rfl : N = 0 := by omega
        simp [allGrantB, beyondB, M.strs_nil]
    have e : fillErr m a N = 0 := by simp [fillErr, hr, hg]
    exact ⟨e, by unfold fillM; rw [hN, if_pos e]⟩
  · rintro ⟨j, hj, h⟩
    have hf : allGrantB m a N 0 = false := by
      cases hc : allGrantB m a N 0
      · rfl
      · have := (all_places a0 (by omega)).1 hc j hj
        rw [h] at this; cases this
    have e : fillErr m a N = 8 := by simp [fillErr, hr, hf]
    exact ⟨e, by unfold fillM; rw [hN, if_neg (by omega)]⟩

set_option maxRecDepth 100000 in
set_option maxHeartbeats 4000000 in
theorem refFill_any {m : List M.Pg} {v : Value} (a : Int) (l : ByteArray) {w : World} (hP : Pages w v m) (hw : Wf m) (a0 : 0 ≤ a) (a1 : a ≤ 18446744073709551615) (hl : l.size ≤ 100000) :
    Calls Tryd.prog 11 #[v, .int .u64 a, .string l] w (RefPages (fillM m a l) (fillErr m a l.size) w) := by
  have HQ := Lib.hid (refRight_any hP hw.a0)
  have HPP := Lib.hid hP
  obtain ⟨A, cap, hv⟩ := hP.slice
  obtain ⟨nv, hnv⟩ : ∃ n, m.length = n := ⟨_, rfl⟩
  rw [hnv] at hv
  subst hv
  cases hr : rightB m
  · have HE : fillErr m a l.size = 1 := by simp [fillErr, hr]
    have HV : fillM m a l = m := by simp [fillM, HE]
    rw [HE, HV]
    rw [hr] at HQ
    clear hP hw HE HV hnv hr
    go_enter Tryd.func11, Tryd.ntmps11
    go_wp2_with fail
    refine HQ.out.mono ?_
    rintro e w1 ⟨rfl, hb1⟩
    have HB1 := Lib.hid hb1
    clear hb1
    go_wp2_with fail
    go_ret2
    exact ⟨_, rfl, HPP.out.next HB1.out, HB1.out⟩
  · have hR := Right.of hr hw.a0 hw.a1
    obtain ⟨N, hNs⟩ : ∃ N, l.size = N := ⟨_, rfl⟩
    obtain ⟨g0, g6⟩ := fill_all hNs hr a0
    have HA := Lib.hid (fun (W : World) (hb : Below w.heap.size w W) (t : Int) (t0 : 0 ≤ t) (t1 : t ≤ 18446744073709551615) => refAt_any t (hP.next hb) hR t0 t1)
    have HN := Lib.hid hnv
    have HRR := Lib.hid hR
    have HL0 := Lib.hid (show laid m a (l.data.toList.take 0) = m from laid_none hR a)
    have HTK := Lib.hid (show ∀ k, (h : k < l.size) → laid (laid m a (l.data.toList.take k)) (a + k) [l[k]] = laid m a (l.data.toList.take (k + 1)) from fun k h => by
      have h1 := laid_snoc m a (l.data.toList.take k) l[k]
      rw [List.length_take, ← Lib.size_eq, show min k l.size = k by omega] at h1
      rw [h1, take_snoc l k h])
    have HTA := Lib.hid (show l.data.toList.take N = l.data.toList from List.take_of_length_le (by rw [← Lib.size_eq]; omega))
    rw [hr] at HQ
    rw [hNs] at hl ⊢
    obtain ⟨E, hE⟩ : ∃ E, fillErr m a N = E := ⟨_, rfl⟩
    obtain ⟨S, hS⟩ : ∃ S, fillM m a l = S := ⟨_, rfl⟩
    rw [hE, hS] at g0 g6 ⊢
    have G0 := Lib.hid g0
    have G6 := Lib.hid g6
    have HNS := Lib.hid hNs
    clear hP hw hR hr hnv hE hS g0 g6 hNs
    go_enter Tryd.func11, Tryd.ntmps11
    go_wp2_with fail
    refine HQ.out.mono ?_
    rintro e w1 ⟨rfl, hb1⟩
    have HB1 := Lib.hid hb1
    clear hb1
    go_wp2_with fail
    go_loopw [9, 10] (fun o i wr => ∃ k : Nat, k ≤ N ∧ i = .int .i64 k ∧ (∃ A' cap', o = .slice A' nv cap' ∧ Pages wr (.slice A' nv cap') (laid m a (l.data.toList.take k))) ∧ (∀ j : Nat, j < k → placeB m (a + j) 0 = true) ∧ Below w.heap.size w wr) (fun _ i _ => N - (intOf i).toNat)
    case atStart => exact ⟨0, Nat.zero_le _, rfl, ⟨_, _, rfl, by rw [HL0.out]; exact HPP.out.next HB1.out⟩, fun j h => absurd h (Nat.not_lt_zero _), HB1.out⟩
    case round =>
      obtain ⟨k, hk, rfl, ⟨A', cap', rfl, ho⟩, hpl, hb⟩ := hrel
      have HB := Lib.hid hb
      have HPL := Lib.hid hpl
      have HO := Lib.hid ho
      clear hb hpl ho
      by_cases hlt : k < N
      · have wk : IntKind.u64.wrap (k : Int) = (k : Int) := by rw [IntKind.wrap_u64]; omega
        have hks : k < l.size := by have := HNS.out; omega
        have lk : ((k : Int) < (l.size : Int)) := by omega
        have lk0 : ((0 : Int) ≤ (k : Int)) := by omega
        by_cases hov : a + (k : Int) ≤ 18446744073709551615
        · have wt : IntKind.u64.wrap (a + (k : Int)) = a + (k : Int) := by rw [IntKind.wrap_u64]; omega
          have lt : decide (a + (k : Int) < a) = false := by simp; omega
          have HC := Lib.hid (HA.out wr HB.out (a + k) (by omega) hov)
          cases hc : M.there m (a + (k : Int) - (a + (k : Int)) % 256)
          · have hA : atI m (a + k) = -1 := by unfold atI; rw [hc]; rfl
            rw [hA] at HC
            have HF := Lib.hid (G6.out ⟨k, hlt, by unfold placeB grantB; rw [hc]; simp⟩)
            clear hA hc
            go_wp2_with fail
            refine HC.out.mono ?_
            rintro e w2 ⟨rfl, rfl⟩
            go_wp2_with fail
            go_ret2
            exact ⟨_, by rw [HF.out.1]; rfl, by rw [HF.out.2]; exact HPP.out.next HB.out, HB.out⟩
          · have hA : atI m (a + k) = M.low m (a + (k : Int) - (a + (k : Int)) % 256) := by unfold atI; rw [hc]; rfl
            rw [hA] at HC
            obtain ⟨hi, he⟩ := (M.there_iff HRR.out.up _).1 hc
            have hgr : placeB m (a + k) 0 = true := by
              unfold placeB grantB
              rw [hc, List.getElem?_eq_getElem hi]
              simp [hov, okBits_zero]
            have HNX := Lib.hid (fun (j : Nat) (hj : j < k + 1) => (show placeB m (a + j) 0 = true from by
              by_cases e : j = k
              · subst e; exact hgr
              · exact HPL.out j (by omega)))
            have HPU := Lib.hid (fun (W : World) (o : Value) (hO : Pages W o (laid m a (l.data.toList.take k))) => refPut_any (a + k) (l[k].toNat) hO (laid_right HRR.out a _) (by omega) hov (by rw [laid_there]; exact hc) (l[k]).toNat_lt)
            rw [show UInt8.ofNat (l[k].toNat) = l[k] by simp, HTK.out k hks] at HPU
            obtain ⟨i, hie⟩ : ∃ i, M.low m (a + (k : Int) - (a + (k : Int)) % 256) = i := ⟨_, rfl⟩
            rw [hie] at HC
            have i2 : decide ((i : Int) < 0) = false := by simp
            clear hgr he hA hie hc hi
            go_wp2_with fail
            refine HC.out.mono ?_
            rintro e w2 ⟨rfl, rfl⟩
            go_wp2_with fail
            refine (HPU.out _ _ HO.out).mono ?_
            intro e w4 hnew
            obtain ⟨A4, cap4, rfl, hp4, hb4⟩ := new_pages hnew HB.out nv (by rw [laid_length]; exact HN.out)
            have HP4 := Lib.hid hp4
            have HB4 := Lib.hid hb4
            clear hnew hp4 hb4
            go_wp2_with fail
            go_roundw
            case rel => exact ⟨k + 1, by omega, by go_num, ⟨_, _, rfl, HP4.out⟩, HNX.out, HB4.out⟩
            case measure => simp [intOf]; omega
        · have HQ6 := Lib.hid (G6.out ⟨k, hlt, by unfold placeB; simp [hov]⟩)
          have wt : IntKind.u64.wrap (a + (k : Int)) = a + (k : Int) - 18446744073709551616 := by rw [IntKind.wrap_u64]; omega
          have lt : decide (a + (k : Int) - 18446744073709551616 < a) = true := by simp; omega
          have HC := Lib.hid (HA.out wr HB.out (a + k - 18446744073709551616) (by omega) (by omega))
          obtain ⟨z, hz⟩ : ∃ z, atI m (a + k - 18446744073709551616) = z := ⟨_, rfl⟩
          rw [hz] at HC
          clear hz
          by_cases hz0 : z < 0
          all_goals
            go_wp2_with fail
            refine HC.out.mono ?_
            rintro e w2 ⟨rfl, rfl⟩
            go_wp2_with fail
            go_ret2
            exact ⟨_, by rw [HQ6.out.1]; rfl, by rw [HQ6.out.2]; exact HPP.out.next HB.out, HB.out⟩
      · obtain rfl : k = N := by omega
        have HQ0 := Lib.hid (G0.out HPL.out)
        have lk : ¬ ((k : Int) < (l.size : Int)) := by have := HNS.out; omega
        go_wp2_with fail
        go_ret2
        exact ⟨_, by rw [HQ0.out.1]; rfl, by rw [HQ0.out.2, ← HTA.out]; exact HO.out, HB.out⟩
end Go.Proofs.YtclbkdnihhmglaaDoor
