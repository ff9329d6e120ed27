/- The reference's Store. -/
import Derived.Test.YtopamkbgolhbcaaP40
namespace Go.Proofs.Ytopamkbgolhbcaa
open Go.RowKit

attribute [local go_sem] Oper.semAt_some

/-- a slice of these pages, and an error's number -/
def RefPages (m : List M.Pg) (err : Int) (w : World) (e : Ending) (w' : World) : Prop := ∃ v', e = .returned (.tuple #[v', .int .i64 err]) ∧ Pages w' v' m ∧ Below w.heap.size w w'
theorem store_all {m : List M.Pg} {a : Int} {N x : Nat} (hr : rightB m = true) (a0 : 0 ≤ a) (h1 : 1 ≤ N) (h8 : N ≤ 8) :
    ((∀ j : Nat, j < N → placeB m (a + j) 2 = true) → numErr m a N 2 = 0 ∧ storeM m a N x = laid m a (M.lowest x N)) ∧
    ((∃ j : Nat, j < N ∧ placeB m (a + j) 2 = false) → numErr m a N 2 = 6 ∧ storeM m a N x = m) := by
  obtain ⟨g0, g6⟩ := num_all (m := m) (perm := 2) hr a0 h1 h8
  exact ⟨fun h => ⟨(g0 h).1, by unfold storeM; rw [if_pos (g0 h).1]; simp⟩, fun h => ⟨(g6 h).1, by unfold storeM; rw [if_neg (by have := (g6 h).1; omega)]⟩⟩
/-- one byte more -/
theorem laid_next {m : List M.Pg} (a : Int) (x k : Nat) : laid (laid m a (M.lowest x k)) (a + k) [UInt8.ofNat (x / 256 ^ k % 256)] = laid m a (M.lowest x (k + 1)) := by
  have h := laid_snoc m a (M.lowest x k) (UInt8.ofNat (x / 256 ^ k % 256))
  rw [M.lowest_length] at h
  rw [h, M.lowest_snoc]
theorem new_pages {K : List M.Pg} {w W : World} {e : Ending} {w' : World} (h : NewPages K W e w') (hb : Below w.heap.size w W) (nv : Nat) (hn : K.length = nv) : ∃ A cap, e = .returned (.slice A nv cap) ∧ Pages w' (.slice A nv cap) K ∧ Below w.heap.size w w' := by
  obtain ⟨v', rfl, ho, hb'⟩ := h
  have hp := ho.pages
  obtain ⟨A, cap, rfl⟩ := hp.slice
  rw [hn] at hp ⊢
  exact ⟨A, cap, rfl, hp, bthen hb hb'⟩

set_option maxRecDepth 100000 in
set_option maxHeartbeats 4000000 in
theorem refStore_any {m : List M.Pg} {v : Value} (a n : Int) (x : Nat) {w : World} (hP : Pages w v m) (hw : Wf m) (a0 : 0 ≤ a) (a1 : a ≤ 18446744073709551615) (n0 : -9223372036854775808 ≤ n) (n1 : n ≤ 9223372036854775807) (hx : x < 18446744073709551616) :
    Calls Try.prog 21 #[v, .int .u64 a, .int .i64 n, .int .u64 x] w (RefPages (storeM m a n x) (numErr m a n 2) w) := by
  have HQ := Lib.hid (refRight_any hP hw.a0)
  have HPP := Lib.hid hP
  obtain ⟨A, cap, hv⟩ := hP.slice
  obtain ⟨nv, hnv⟩ : ∃ n, m.length = n := ⟨_, rfl⟩
  rw [hnv] at hv
  subst hv
  by_cases hbad : n < 1 ∨ 8 < n ∨ rightB m = false
  · have HE : numErr m a n 2 = 1 := by simp [numErr, hbad]
    have HV : storeM m a n x = m := by simp [storeM, HE]
    rw [HE, HV]
    obtain ⟨r, hr⟩ : ∃ r, rightB m = r := ⟨_, rfl⟩
    rw [hr] at HQ hbad
    clear hP hw HE HV hnv hr
    by_cases c1 : n < 1
    · have t1 : decide (n < 1) = true := by simpa using c1
      clear hbad
      go_enter Try.func21, Try.ntmps21
      go_wp2_with fail
      refine HQ.out.mono ?_
      rintro e w1 ⟨rfl, hb1⟩
      have HB1 := Lib.hid hb1
      clear hb1
      go_wp2_with fail
      go_ret2
      exact ⟨_, rfl, HPP.out.next HB1.out, HB1.out⟩
    · have t1 : decide (n < 1) = false := by simpa using c1
      by_cases c2 : 8 < n
      · have t2 : decide (8 < n) = true := by simpa using c2
        clear hbad
        go_enter Try.func21, Try.ntmps21
        go_wp2_with fail
        refine HQ.out.mono ?_
        rintro e w1 ⟨rfl, hb1⟩
        have HB1 := Lib.hid hb1
        clear hb1
        go_wp2_with fail
        go_ret2
        exact ⟨_, rfl, HPP.out.next HB1.out, HB1.out⟩
      · have t2 : decide (8 < n) = false := by simpa using c2
        obtain rfl : r = false := by rcases hbad with h | h | h; omega; omega; exact h
        clear hbad
        go_enter Try.func21, Try.ntmps21
        go_wp2_with fail
        refine HQ.out.mono ?_
        rintro e w1 ⟨rfl, hb1⟩
        have HB1 := Lib.hid hb1
        clear hb1
        go_wp2_with fail
        go_ret2
        exact ⟨_, rfl, HPP.out.next HB1.out, HB1.out⟩
  · have hr : rightB m = true := by cases h : rightB m; exact absurd (.inr (.inr h)) hbad; rfl
    have b1 : 1 ≤ n := by omega
    have b8 : n ≤ 8 := by omega
    clear hbad
    have hR := Right.of hr hw.a0 hw.a1
    obtain ⟨N, rfl⟩ := Int.eq_ofNat_of_zero_le (show 0 ≤ n by omega)
    obtain ⟨g0, g6⟩ := store_all (x := x) hr a0 (show 1 ≤ N by omega) (show N ≤ 8 by omega)
    have HA := Lib.hid (fun (W : World) (hb : Below w.heap.size w W) (t : Int) (t0 : 0 ≤ t) (t1 : t ≤ 18446744073709551615) => refAt_any t (hP.next hb) hR t0 t1)
    have HI := Lib.hid (fun (t : Int) (ht : M.there m t = true) => there_row hP hR ht)
    have HN := Lib.hid hnv
    have HRR := Lib.hid hR
    have HL0 := Lib.hid (show laid m a (M.lowest x 0) = m from laid_none hR a)
    rw [hr] at HQ
    obtain ⟨E, hE⟩ : ∃ E, numErr m a N 2 = E := ⟨_, rfl⟩
    obtain ⟨S, hS⟩ : ∃ S, storeM m a N x = S := ⟨_, rfl⟩
    rw [hE, hS] at g0 g6 ⊢
    have G0 := Lib.hid g0
    have G6 := Lib.hid g6
    have t1 : decide ((N : Int) < 1) = false := by simp; omega
    have t2 : decide (8 < (N : Int)) = false := by simp; omega
    clear hP hw hR hr hnv hE hS g0 g6
    go_enter Try.func21, Try.ntmps21
    go_wp2_with fail
    refine HQ.out.mono ?_
    rintro e w1 ⟨rfl, hb1⟩
    have HB1 := Lib.hid hb1
    clear hb1
    go_wp2_with fail
    clear t1 t2
    go_loopw [3, 11, 12] (fun y o i wr => ∃ k : Nat, k ≤ N ∧ i = .int .i64 k ∧ y = .int .u64 ((x / 256 ^ k : Nat) : Int) ∧ (∃ A' cap', o = .slice A' nv cap' ∧ Pages wr (.slice A' nv cap') (laid m a (M.lowest x k))) ∧ (∀ j : Nat, j < k → placeB m (a + j) 2 = true) ∧ Below w.heap.size w wr) (fun _ _ i _ => N - (intOf i).toNat)
    case atStart => exact ⟨0, Nat.zero_le _, rfl, by simp, ⟨_, _, rfl, by rw [HL0.out]; exact HPP.out.next HB1.out⟩, fun j h => absurd h (Nat.not_lt_zero _), HB1.out⟩
    case round =>
      obtain ⟨k, hk, rfl, rfl, ⟨A', cap', rfl, ho⟩, hpl, hb⟩ := hrel
      have HB := Lib.hid hb
      have HPL := Lib.hid hpl
      have HO := Lib.hid ho
      clear hb hpl ho
      by_cases hlt : k < N
      · obtain ⟨Y, hY⟩ : ∃ Y, x / 256 ^ k = Y := ⟨_, rfl⟩
        have hY1 : Y < 18446744073709551616 := by rw [← hY]; exact Nat.lt_of_le_of_lt (Nat.div_le_self _ _) hx
        have hYN : x / 256 ^ (k + 1) = Y / 256 := by rw [Nat.pow_succ, ← Nat.div_div_eq_div_mul, hY]
        have wk : IntKind.u64.wrap (k : Int) = (k : Int) := by rw [IntKind.wrap_u64]; omega
        have lk : ((k : Int) < (N : Int)) := by omega
        by_cases hov : a + (k : Int) ≤ 18446744073709551615
        · have wt : IntKind.u64.wrap (a + (k : Int)) = a + (k : Int) := by rw [IntKind.wrap_u64]; omega
          have lt : decide (a + (k : Int) < a) = false := by simp; omega
          have HC := Lib.hid (HA.out wr HB.out (a + k) (by omega) hov)
          cases hc : M.there m (a + (k : Int) - (a + (k : Int)) % 256)
          · have hA : atI m (a + k) = -1 := by unfold atI; rw [hc]; rfl
            rw [hA] at HC
            have HF := Lib.hid (G6.out ⟨k, hlt, by unfold placeB grantB; rw [hc]; simp⟩)
            rw [hY]
            clear hY hYN hA hc
            go_wp2_with fail
            refine HC.out.mono ?_
            rintro e w2 ⟨rfl, rfl⟩
            go_wp2_with fail
            go_ret2
            exact ⟨_, by rw [HF.out.1]; rfl, by rw [HF.out.2]; exact HPP.out.next HB.out, HB.out⟩
          · obtain ⟨b, off, rfl, hPI, hi, he⟩ := HI.out _ hc
            have hA : atI m (a + k) = M.low m (a + (k : Int) - (a + (k : Int)) % 256) := by unfold atI; rw [hc]; rfl
            rw [hA] at HC
            have hgr : placeB m (a + k) 2 = okBits (m[M.low m (a + (k : Int) - (a + (k : Int)) % 256)]).p 2 := by
              unfold placeB grantB
              rw [hc, List.getElem?_eq_getElem hi]
              simp [hov]
            have HPU := Lib.hid (fun (W : World) (o : Value) (hO : Pages W o (laid m a (M.lowest x k))) => refPut_any (a + k) (Y % 256) hO (laid_right HRR.out a _) (by omega) hov (by rw [laid_there]; exact hc) (Nat.mod_lt _ (by omega)))
            rw [← hY, laid_next, hY] at HPU
            obtain ⟨i, hie⟩ : ∃ i, M.low m (a + (k : Int) - (a + (k : Int)) % 256) = i := ⟨_, rfl⟩
            have G := Lib.hid (fun W => refGrants_any m[M.low m (a + (k : Int) - (a + (k : Int)) % 256)] 2 W)
            simp only [hie] at hi he hgr G HC
            have HPI := Lib.hid hPI
            have cells := (fun (W : World) (hb : Below w.heap.size w W) => (HPI.out.next hb).2 i hi)
            obtain ⟨pa, hpa⟩ : ∃ x, (m[i]).a = x := ⟨_, rfl⟩
            obtain ⟨pp, hpp⟩ : ∃ x, (m[i]).p = x := ⟨_, rfl⟩
            obtain ⟨pd, hpd⟩ : ∃ x, (m[i]).d = x := ⟨_, rfl⟩
            simp only [hpa, hpp, hpd] at cells G he hgr
            have HCE := Lib.hid cells
            have il : i < nv := by have := HN.out; omega
            have i0 : (0 : Int) ≤ (i : Int) := Int.natCast_nonneg _
            have i1 : (i : Int) < (nv : Int) := by omega
            have i2 : decide ((i : Int) < 0) = false := by simp
            have HGR := Lib.hid hgr
            obtain ⟨e0, e1, e2⟩ := HCE.out _ HB.out
            have HYN := Lib.hid hYN
            rw [hY]
            clear hPI cells hpa hpp hpd hgr he hA hie hc hYN hY
            cases hq : okBits pp 2
            · have HQ6 := Lib.hid (G6.out ⟨k, hlt, by rw [HGR.out, hq]⟩)
              rw [hq] at G
              clear hq
              go_wp2_with fail
              refine HC.out.mono ?_
              rintro e w2 ⟨rfl, rfl⟩
              go_wp2_with fail
              refine (G.out _).mono ?_
              rintro e w3 ⟨rfl, hb3⟩
              have HB3 := Lib.hid (bthen HB.out hb3)
              clear hb3
              go_wp2_with fail
              go_ret2
              exact ⟨_, by rw [HQ6.out.1]; rfl, by rw [HQ6.out.2]; exact HPP.out.next HB3.out, HB3.out⟩
            · rw [hq] at G
              have HNX := Lib.hid (fun (j : Nat) (hj : j < k + 1) => (show placeB m (a + j) 2 = true from by
                by_cases e : j = k
                · subst e; rw [HGR.out]; exact hq
                · exact HPL.out j (by omega)))
              have m3 : Int.tmod (Y : Int) 256 = ((Y % 256 : Nat) : Int) := by rw [Int.tmod_eq_emod_of_nonneg (by omega)]; rfl
              have m3' : (Y : Int) % 256 = ((Y % 256 : Nat) : Int) := rfl
              have m4 : Int.tdiv (Y : Int) 256 = ((Y / 256 : Nat) : Int) := by rw [Int.tdiv_eq_ediv_of_nonneg (by omega)]; rfl
              have m4' : (Y : Int) / 256 = ((Y / 256 : Nat) : Int) := rfl
              have w8 : IntKind.u8.wrap ((Y % 256 : Nat) : Int) = ((Y % 256 : Nat) : Int) := by rw [IntKind.wrap_u8]; omega
              have w9 : IntKind.u64.wrap ((Y / 256 : Nat) : Int) = ((Y / 256 : Nat) : Int) := by rw [IntKind.wrap_u64]; omega
              obtain ⟨Z, hZ⟩ : ∃ Z, Y % 256 = Z := ⟨_, rfl⟩
              obtain ⟨Q, hQ⟩ : ∃ Z, Y / 256 = Z := ⟨_, rfl⟩
              rw [hZ] at m3 m3' w8 HPU
              rw [hQ] at m4 m4' w9 HYN
              clear hq hZ hQ
              go_wp2_with fail
              refine HC.out.mono ?_
              rintro e w2 ⟨rfl, rfl⟩
              go_wp2_with fail
              refine (G.out _).mono ?_
              rintro e w3 ⟨rfl, hb3⟩
              have HB3 := Lib.hid (bthen HB.out hb3)
              have HO3 := Lib.hid (HO.out.next hb3)
              clear hb3 e0 e1 e2
              go_wp2_with fail
              refine (HPU.out _ _ HO3.out).mono ?_
              intro e w4 hnew
              obtain ⟨A4, cap4, rfl, hp4, hb4⟩ := new_pages hnew HB3.out nv (by rw [laid_length]; exact HN.out)
              have HP4 := Lib.hid hp4
              have HB4 := Lib.hid hb4
              clear hnew hp4 hb4
              go_wp2_with fail
              go_roundw
              case rel => exact ⟨k + 1, by omega, by go_num, by rw [HYN.out], ⟨_, _, rfl, HP4.out⟩, HNX.out, HB4.out⟩
              case measure => simp [intOf]; omega
        · have HQ6 := Lib.hid (G6.out ⟨k, hlt, by unfold placeB; simp [hov]⟩)
          have wt : IntKind.u64.wrap (a + (k : Int)) = a + (k : Int) - 18446744073709551616 := by rw [IntKind.wrap_u64]; omega
          have lt : decide (a + (k : Int) - 18446744073709551616 < a) = true := by simp; omega
          have HC := Lib.hid (HA.out wr HB.out (a + k - 18446744073709551616) (by omega) (by omega))
          obtain ⟨z, hz⟩ : ∃ z, atI m (a + k - 18446744073709551616) = z := ⟨_, rfl⟩
          rw [hz] at HC
          rw [hY]
          clear hz hY hYN
          by_cases hz0 : z < 0
          all_goals
            go_wp2_with fail
            refine HC.out.mono ?_
            rintro e w2 ⟨rfl, rfl⟩
            go_wp2_with fail
            go_ret2
            exact ⟨_, by rw [HQ6.out.1]; rfl, by rw [HQ6.out.2]; exact HPP.out.next HB.out, HB.out⟩
      · obtain rfl : k = N := by omega
        have HQ0 := Lib.hid (G0.out HPL.out)
        obtain ⟨Y, hY⟩ : ∃ Y, x / 256 ^ k = Y := ⟨_, rfl⟩
        rw [hY]
        clear hY
        go_wp2_with fail
        go_ret2
        exact ⟨_, by rw [HQ0.out.1]; rfl, by rw [HQ0.out.2]; exact HO.out, HB.out⟩
end Go.Proofs.Ytopamkbgolhbcaa
