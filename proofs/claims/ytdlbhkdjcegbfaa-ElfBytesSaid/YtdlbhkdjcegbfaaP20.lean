/- mapError: why there can't be new pages. -/
import Derived.Test.YtdlbhkdjcegbfaaP10
import Derived.Test.YtdlbhkdjcegbfaaPA
import Derived.Test.YtdlbhkdjcegbfaaP19
namespace Go.Proofs.Ytdlbhkdjcegbfaa
open Go.RowKit

set_option maxHeartbeats 2000000 in
theorem mapErr_any {m : List M.Pg} {v : Value} (a n perm : Int) {w : World} (hP : Pages w v m) (hw : Wf m) (a0 : 0 ≤ a) (a1 : a ≤ 18446744073709551615) :
    Calls Try.prog 108 #[v, .int .u64 a, .int .i64 n, .int .i64 perm] w fun e w' => e = .returned (.int .i64 (mapErr m a n perm)) ∧ Below w.heap.size w w' := by
  have HR := Lib.hid (right_any hP hw.len hw.a0)
  have HG := Lib.hid (fun (h : mapArg m a n perm = true) (W : World) (hb : Below w.heap.size w W) => by
    simp only [mapArg, Bool.and_eq_true, decide_eq_true_eq, Bool.not_eq_true'] at h
    obtain ⟨hr, _, h1, h2, _, hby⟩ := h
    have hR := Right.of hr hw.a0 hw.a1
    exact anyThere_in a n (hP.next hb) (Nat.le_trans hR.len (by omega)) hR.up a0 a1 h1 h2 (by simp [beyondB] at hby; omega))
  have HL := Lib.hid (fun (h : rightB m = true) => (Right.of h hw.a0 hw.a1).len)
  obtain ⟨A, cap, hv⟩ := hP.slice
  obtain ⟨nv, hnv⟩ : ∃ nv, m.length = nv := ⟨_, rfl⟩
  have HN := Lib.hid hnv
  rw [hnv] at hv
  subst hv
  clear hP hnv hw
  have T1 := Lib.hid (fun h : mapArg m a n perm = false => (show mapErr m a n perm = 1 by unfold mapErr; rw [if_pos h]))
  cases hr : rightB m
  · have HE := Lib.hid (T1.out (by simp [mapArg, hr]))
    rw [hr] at HR
    clear hr
    go_enter Try.func108, Try.ntmps108
    go_wp2_with fail
    refine HR.out.mono ?_
    rintro e w1 ⟨rfl, hb1⟩
    have HB1 := Lib.hid hb1
    clear hb1
    go_wp2_with fail
    go_ret
    exact ⟨by rw [HE.out]; rfl, HB1.out⟩
  · have hlen := HL.out hr
    rw [HN.out] at hlen
    rw [hr] at HR
    by_cases h1 : a % 256 = 0
    · have t1 : (a % 256 != 0) = false := by simp [h1]
      by_cases h2 : 1 ≤ n
      · have t2 : decide (n < 1) = false := by simp; omega
        by_cases h3 : n ≤ 64
        · have t3 : decide (64 < n) = false := by simp; omega
          cases hp : M.okPerm perm
          · have HE := Lib.hid (T1.out (by simp [mapArg, hr, h1, h2, h3, hp]))
            have HPM := Lib.hid (fun W => perm_any perm W)
            rw [hp] at HPM
            clear hr h1 hp
            go_enter Try.func108, Try.ntmps108
            go_wp2_with fail
            refine HR.out.mono ?_
            rintro e w1 ⟨rfl, hb1⟩
            have HB1 := Lib.hid hb1
            clear hb1
            go_wp2_with fail
            refine (HPM.out _).mono ?_
            rintro e w2 ⟨rfl, rfl⟩
            go_wp2_with fail
            go_ret
            exact ⟨by rw [HE.out]; rfl, HB1.out⟩
          · have HPM := Lib.hid (fun W => perm_any perm W)
            rw [hp] at HPM
            have HBY := Lib.hid (fun W => beyond_any a (n * 256) a0 a1 (by omega) W)
            cases hb : beyondB a (n * 256)
            · have hma : mapArg m a n perm = true := by simp [mapArg, hr, h1, h2, h3, hp, hb]
              have HA := Lib.hid (fun (W : World) (hb : Below w.heap.size w W) => HG.out hma W hb)
              have HAE := Lib.hid (show anyB m a n = (M.strs a (n * 256)).any (fun s => M.there m s.pg) from rfl)
              rw [hb] at HBY
              have T2 := Lib.hid (show mapErr m a n perm = bif anyB m a n then 9 else if 64 < (nv : Int) + n then 4 else 0 by
                unfold mapErr
                rw [if_neg (by simp [hma]), HN.out]
                cases anyB m a n <;> simp)
              rw [← HAE.out] at HA
              cases hq : anyB m a n
              · rw [hq] at HA T2
                have hsum : IntKind.i64.wrap ((nv : Int) + n) = (nv : Int) + n := by rw [IntKind.wrap_i64]; omega
                by_cases h6 : 64 < (nv : Int) + n
                · have HE := Lib.hid (T2.out.trans (show (bif false then 9 else if 64 < (nv : Int) + n then (4 : Int) else 0) = 4 by simp [h6]))
                  clear hr h1 hp hb hma hq
                  go_enter Try.func108, Try.ntmps108
                  go_wp2_with fail
                  refine HR.out.mono ?_
                  rintro e w1 ⟨rfl, hb1⟩
                  have HB1 := Lib.hid hb1
                  clear hb1
                  go_wp2_with fail
                  refine (HPM.out _).mono ?_
                  rintro e w2 ⟨rfl, rfl⟩
                  go_wp2_with fail
                  refine (HBY.out _).mono ?_
                  rintro e w2 ⟨rfl, rfl⟩
                  go_wp2_with fail
                  refine (HA.out _ HB1.out).mono ?_
                  rintro e w2 ⟨rfl, hb2⟩
                  have HB2 := Lib.hid (bthen HB1.out hb2)
                  clear hb2
                  go_wp2_with fail
                  go_ret
                  exact ⟨by rw [HE.out]; rfl, HB2.out⟩
                · have HE := Lib.hid (T2.out.trans (show (bif false then 9 else if 64 < (nv : Int) + n then (4 : Int) else 0) = 0 by simp [h6]))
                  have t6 : decide (64 < (nv : Int) + n) = false := by simp; omega
                  clear hr h1 hp hb hma hq h6
                  go_enter Try.func108, Try.ntmps108
                  go_wp2_with fail
                  refine HR.out.mono ?_
                  rintro e w1 ⟨rfl, hb1⟩
                  have HB1 := Lib.hid hb1
                  clear hb1
                  go_wp2_with fail
                  refine (HPM.out _).mono ?_
                  rintro e w2 ⟨rfl, rfl⟩
                  go_wp2_with fail
                  refine (HBY.out _).mono ?_
                  rintro e w2 ⟨rfl, rfl⟩
                  go_wp2_with fail
                  refine (HA.out _ HB1.out).mono ?_
                  rintro e w2 ⟨rfl, hb2⟩
                  have HB2 := Lib.hid (bthen HB1.out hb2)
                  clear hb2
                  go_wp2_with fail
                  go_ret
                  exact ⟨by rw [HE.out]; rfl, HB2.out⟩
              · rw [hq] at HA T2
                clear hr h1 hp hb hma hq
                go_enter Try.func108, Try.ntmps108
                go_wp2_with fail
                refine HR.out.mono ?_
                rintro e w1 ⟨rfl, hb1⟩
                have HB1 := Lib.hid hb1
                clear hb1
                go_wp2_with fail
                refine (HPM.out _).mono ?_
                rintro e w2 ⟨rfl, rfl⟩
                go_wp2_with fail
                refine (HBY.out _).mono ?_
                rintro e w2 ⟨rfl, rfl⟩
                go_wp2_with fail
                refine (HA.out _ HB1.out).mono ?_
                rintro e w2 ⟨rfl, hb2⟩
                have HB2 := Lib.hid (bthen HB1.out hb2)
                clear hb2
                go_wp2_with fail
                go_ret
                exact ⟨by rw [T2.out]; rfl, HB2.out⟩
            · have HE := Lib.hid (T1.out (by simp [mapArg, hb]))
              rw [hb] at HBY
              clear hr h1 hp hb
              go_enter Try.func108, Try.ntmps108
              go_wp2_with fail
              refine HR.out.mono ?_
              rintro e w1 ⟨rfl, hb1⟩
              have HB1 := Lib.hid hb1
              clear hb1
              go_wp2_with fail
              refine (HPM.out _).mono ?_
              rintro e w2 ⟨rfl, rfl⟩
              go_wp2_with fail
              refine (HBY.out _).mono ?_
              rintro e w2 ⟨rfl, rfl⟩
              go_wp2_with fail
              go_ret
              exact ⟨by rw [HE.out]; rfl, HB1.out⟩
        · have HE := Lib.hid (T1.out (by simp [mapArg, h3]))
          have t3 : decide (64 < n) = true := by simp; omega
          clear hr h1 h3
          go_enter Try.func108, Try.ntmps108
          go_wp2_with fail
          refine HR.out.mono ?_
          rintro e w1 ⟨rfl, hb1⟩
          have HB1 := Lib.hid hb1
          clear hb1
          go_wp2_with fail
          go_ret
          exact ⟨by rw [HE.out]; rfl, HB1.out⟩
      · have HE := Lib.hid (T1.out (by simp [mapArg, h2]))
        have t2 : decide (n < 1) = true := by simp; omega
        clear hr h1 h2
        go_enter Try.func108, Try.ntmps108
        go_wp2_with fail
        refine HR.out.mono ?_
        rintro e w1 ⟨rfl, hb1⟩
        have HB1 := Lib.hid hb1
        clear hb1
        go_wp2_with fail
        go_ret
        exact ⟨by rw [HE.out]; rfl, HB1.out⟩
    · have HE := Lib.hid (T1.out (by simp [mapArg, h1]))
      have t1 : (a % 256 != 0) = true := by simp [h1]
      clear hr h1
      go_enter Try.func108, Try.ntmps108
      go_wp2_with fail
      refine HR.out.mono ?_
      rintro e w1 ⟨rfl, hb1⟩
      have HB1 := Lib.hid hb1
      clear hb1
      go_wp2_with fail
      go_ret
      exact ⟨by rw [HE.out]; rfl, HB1.out⟩
end Go.Proofs.Ytdlbhkdjcegbfaa
