/- PageUses: what is loaded, stored and filled in is as the reference's. -/
import Derived.Test.YtopamkbgolhbcaaP24
import Derived.Test.YtopamkbgolhbcaaP42
import Derived.Test.YtopamkbgolhbcaaP43
namespace Go.Proofs.Ytopamkbgolhbcaa
open Go.RowKit

set_option maxRecDepth 100000 in
set_option maxHeartbeats 4000000 in
theorem uses_walk {m : List M.Pg} {A : Option Addr} {nv cap : Nat} (a n perm : Int) (V : Nat) (s : ByteArray) (w : World) (hP : Pages w (.slice A nv cap) m) (hw : Wf m) (a0 : 0 ≤ a) (a1 : a ≤ 18446744073709551615)
    (n0 : -9223372036854775808 ≤ n) (n1 : n ≤ 9223372036854775807) (hV : V < 18446744073709551616) :
    Calls Try.prog 4 #[.agg #[.slice A nv cap, .int .u64 a, .int .i64 n, .int .i64 perm, .int .u64 V, .string s]] w fun e w' => e = .returned (.bool true) ∧ Below w.heap.size w w' := by
  have HNV := Lib.hid hP.len
  have HP := Lib.hid hP
  by_cases h200 : 200 < nv
  · have t1 : decide ((200 : Int) < (nv : Int)) = true := by simp; omega
    clear hP hw
    go_enter Try.func4, Try.ntmps4
    go_wp2_with fail
    refine (shown_any _).mono ?_
    rintro e w1 ⟨rfl, hb1⟩
    have HB1 := Lib.hid (bthen (balloc (Below.refl _ w) _) hb1)
    clear hb1
    go_wp2_with fail
    go_ret
    exact ⟨rfl, HB1.out⟩
  · have t1 : decide ((200 : Int) < (nv : Int)) = false := by simp; omega
    by_cases h1000 : 1000 < s.size
    · have t2 : decide ((1000 : Int) < (s.size : Int)) = true := by simp; omega
      clear hP hw
      go_enter Try.func4, Try.ntmps4
      go_wp2_with fail
      refine (shown_any _).mono ?_
      rintro e w1 ⟨rfl, hb1⟩
      have HB1 := Lib.hid (bthen (balloc (Below.refl _ w) _) hb1)
      clear hb1
      go_wp2_with fail
      go_ret
      exact ⟨rfl, HB1.out⟩
    · have t2 : decide ((1000 : Int) < (s.size : Int)) = false := by simp; omega
      have hml : m.length ≤ 200 := by have := HNV.out; omega
      have L1 := Lib.hid (fun (W : World) (hb : Below w.heap.size w W) => load_any a n perm (hP.next hb) hw a0 a1)
      have L2 := Lib.hid (fun (W : World) (hb : Below w.heap.size w W) => refLoad_any a n perm (hP.next hb) hw a0 a1 n0 n1)
      have S1 := Lib.hid (fun (W : World) (hb : Below w.heap.size w W) => store_any a n V (hP.next hb) hw (by omega) a0 a1 hV)
      have S2 := Lib.hid (fun (W : World) (hb : Below w.heap.size w W) => refStore_any a n V (hP.next hb) hw a0 a1 n0 n1 hV)
      have F1 := Lib.hid (fun (W : World) (hb : Below w.heap.size w W) => fill_any a s (hP.next hb) hw (by omega) a0 a1 (by omega))
      have F2 := Lib.hid (fun (W : World) (hb : Below w.heap.size w W) => refFill_any a s (hP.next hb) hw a0 a1 (by omega))
      have K1 := Lib.hid (show (storeM m a n V).length ≤ 1000000 by unfold storeM; split; rw [laid_length]; omega; omega)
      have K2 := Lib.hid (show (fillM m a s).length ≤ 1000000 by unfold fillM; split; rw [laid_length]; omega; omega)
      obtain ⟨SM, hSM⟩ : ∃ k, storeM m a n V = k := ⟨_, rfl⟩
      obtain ⟨FM, hFM⟩ : ∃ k, fillM m a s = k := ⟨_, rfl⟩
      obtain ⟨e1, he1⟩ : ∃ k, numErr m a n perm = k := ⟨_, rfl⟩
      obtain ⟨e2, he2⟩ : ∃ k, numErr m a n 2 = k := ⟨_, rfl⟩
      obtain ⟨e3, he3⟩ : ∃ k, fillErr m a s.size = k := ⟨_, rfl⟩
      obtain ⟨lv, hlv⟩ : ∃ k, loadV m a n perm = k := ⟨_, rfl⟩
      rw [he1, hlv] at L1 L2
      rw [he2, hSM] at S1 S2
      rw [he3, hFM] at F1 F2
      rw [hSM] at K1
      rw [hFM] at K2
      clear hP hw he1 he2 he3 hlv hSM hFM hml h200 h1000
      go_enter Try.func4, Try.ntmps4
      go_wp2_with fail
      refine (shown_any _).mono ?_
      rintro e w1 ⟨rfl, hb1⟩
      have HB1 := Lib.hid (bthen (balloc (Below.refl _ w) _) hb1)
      clear hb1
      go_wp2_with fail
      refine (L1.out _ HB1.out).mono ?_
      rintro e w2 ⟨rfl, hb2⟩
      have HB2 := Lib.hid (bthen HB1.out hb2)
      clear hb2
      go_wp2_with fail
      refine (L2.out _ HB2.out).mono ?_
      rintro e w3 ⟨rfl, hb3⟩
      have HB3 := Lib.hid (bthen HB2.out hb3)
      clear hb3
      go_wp2_with fail
      refine (S1.out _ HB3.out).mono ?_
      rintro e w4 ⟨v4, rfl, ho4, hb4⟩
      have HB4 := Lib.hid (bthen HB3.out hb4)
      have P4 := Lib.hid ho4.pages
      obtain ⟨A4, c4, hv4⟩ := ho4.pages.slice
      obtain ⟨n4, hn4⟩ : ∃ n, SM.length = n := ⟨_, rfl⟩
      rw [hn4] at hv4
      subst hv4
      clear hb4 ho4 hn4
      go_wp2_with fail
      refine (S2.out _ HB4.out).mono ?_
      rintro e w5 ⟨v5, rfl, hp5, hb5⟩
      have HB5 := Lib.hid (bthen HB4.out hb5)
      have P4 := Lib.hid (P4.out.next hb5)
      have P5 := Lib.hid hp5
      obtain ⟨A5, c5, hv5⟩ := hp5.slice
      obtain ⟨n5, hn5⟩ : ∃ n, SM.length = n := ⟨_, rfl⟩
      rw [hn5] at hv5
      subst hv5
      clear hb5 hp5 hn5
      go_wp2_with fail
      refine (F1.out _ HB5.out).mono ?_
      rintro e w6 ⟨v6, rfl, ho6, hb6⟩
      have HB6 := Lib.hid (bthen HB5.out hb6)
      have P4 := Lib.hid (P4.out.next hb6)
      have P5 := Lib.hid (P5.out.next hb6)
      have P6 := Lib.hid ho6.pages
      obtain ⟨A6, c6, hv6⟩ := ho6.pages.slice
      obtain ⟨n6, hn6⟩ : ∃ n, FM.length = n := ⟨_, rfl⟩
      rw [hn6] at hv6
      subst hv6
      clear hb6 ho6 hn6
      go_wp2_with fail
      refine (F2.out _ HB6.out).mono ?_
      rintro e w7 ⟨v7, rfl, hp7, hb7⟩
      have HB7 := Lib.hid (bthen HB6.out hb7)
      have P4 := Lib.hid (P4.out.next hb7)
      have P5 := Lib.hid (P5.out.next hb7)
      have P6 := Lib.hid (P6.out.next hb7)
      have P7 := Lib.hid hp7
      obtain ⟨A7, c7, hv7⟩ := hp7.slice
      obtain ⟨n7, hn7⟩ : ∃ n, FM.length = n := ⟨_, rfl⟩
      rw [hn7] at hv7
      subst hv7
      clear hb7 hp7 hn7
      have Q1 := Lib.hid (rsame_any P4.out P5.out K1.out)
      rw [(sameB_iff SM SM).2 rfl] at Q1
      go_wp2_with fail
      refine (Q1.out).mono ?_
      rintro e w8 ⟨rfl, hb8⟩
      have HB8 := Lib.hid (bthen HB7.out hb8)
      have Q2 := Lib.hid (rsame_any (P6.out.next hb8) (P7.out.next hb8) K2.out)
      rw [(sameB_iff FM FM).2 rfl] at Q2
      clear hb8
      go_wp2_with fail
      refine (Q2.out).mono ?_
      rintro e w9 ⟨rfl, hb9⟩
      have HB9 := Lib.hid (bthen HB8.out hb9)
      clear hb9
      go_wp2_with fail
      go_ret
      exact ⟨rfl, HB9.out⟩
end Go.Proofs.Ytopamkbgolhbcaa
