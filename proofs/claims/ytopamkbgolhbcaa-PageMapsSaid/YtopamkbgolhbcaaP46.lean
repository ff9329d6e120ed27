/- PageMaps: whether memory is right, and memory with more pages, is as the reference's; and which memories are the same. -/
import Derived.Test.YtopamkbgolhbcaaP24
import Derived.Test.YtopamkbgolhbcaaP43
import Derived.Test.YtopamkbgolhbcaaP45
namespace Go.Proofs.Ytopamkbgolhbcaa
open Go.RowKit

set_option maxRecDepth 100000 in
set_option maxHeartbeats 4000000 in
theorem maps_walk {m k : List M.Pg} {A A' : Option Addr} {nv cap nv' cap' : Nat} (a n perm : Int) (w : World) (hP : Pages w (.slice A nv cap) m) (hw : Wf m) (hc : Cap (.slice A nv cap)) (hK : Pages w (.slice A' nv' cap') k) (a0 : 0 ≤ a) (a1 : a ≤ 18446744073709551615) :
    Calls Try.prog 3 #[.agg #[.slice A nv cap, .int .u64 a, .int .i64 n, .int .i64 perm, .slice A' nv' cap']] w fun e w' => e = .returned (.bool true) ∧ Below w.heap.size w w' := by
  have HNV := Lib.hid hP.len
  by_cases h200 : 200 < nv
  · have t1 : decide ((200 : Int) < (nv : Int)) = true := by simp; omega
    clear hP hw hK hc
    go_enter Try.func3, Try.ntmps3
    go_wp2_with fail
    refine (shown_any _).mono ?_
    rintro e w1 ⟨rfl, hb1⟩
    have HB1 := Lib.hid (bthen (balloc (Below.refl _ w) _) hb1)
    clear hb1
    go_wp2_with fail
    go_ret
    exact ⟨rfl, HB1.out⟩
  · have t1 : decide ((200 : Int) < (nv : Int)) = false := by simp; omega
    have hml : m.length ≤ 200 := by have := HNV.out; omega
    have M1 := Lib.hid (fun (W : World) (hb : Below w.heap.size w W) => map_any a n perm (hP.next hb) hw (by omega) hc a0 a1)
    have M2 := Lib.hid (fun (W : World) (hb : Below w.heap.size w W) => refMap_any a n perm (hP.next hb) hw a0 a1)
    have R1 := Lib.hid (fun (W : World) (hb : Below w.heap.size w W) => right_any (hP.next hb) hw.len hw.a0)
    have R2 := Lib.hid (fun (W : World) (hb : Below w.heap.size w W) => refRight_any (hP.next hb) hw.a0)
    have S1 := Lib.hid (fun (W : World) (hb : Below w.heap.size w W) => psame_any (hP.next hb) (hK.next hb) (by omega))
    have S2 := Lib.hid (fun (W : World) (hb : Below w.heap.size w W) => rsame_any (hP.next hb) (hK.next hb) (by omega))
    have K1 := Lib.hid (show (mapM m a n perm).length ≤ 1000000 by
      by_cases he : mapErr m a n perm = 0
      · obtain ⟨_, hm, b1, b64, _, _, _, hl⟩ := mapErr_zero he
        obtain ⟨N, rfl⟩ := Int.eq_ofNat_of_zero_le (show 0 ≤ n by omega)
        unfold mapM
        rw [if_pos he, new_full a perm N hm]
        have h1 := List.length_take_le (M.low m a) m
        have h2 := M.low_le m a
        simp only [List.length_append, List.length_map, List.length_range, List.length_drop]
        omega
      · unfold mapM; rw [if_neg he]; omega)
    obtain ⟨SM, hSM⟩ : ∃ k, mapM m a n perm = k := ⟨_, rfl⟩
    obtain ⟨e1, he1⟩ : ∃ k, mapErr m a n perm = k := ⟨_, rfl⟩
    obtain ⟨rb, hrb⟩ : ∃ k, rightB m = k := ⟨_, rfl⟩
    obtain ⟨sb, hsb⟩ : ∃ b, sameB m k = b := ⟨_, rfl⟩
    rw [hSM, he1] at M1 M2
    rw [hrb] at R1 R2
    rw [hsb] at S1 S2
    rw [hSM] at K1
    clear hP hw hK hc hSM he1 hrb hsb hml h200
    go_enter Try.func3, Try.ntmps3
    go_wp2_with fail
    refine (shown_any _).mono ?_
    rintro e w1 ⟨rfl, hb1⟩
    have HB1 := Lib.hid (bthen (balloc (Below.refl _ w) _) hb1)
    clear hb1
    go_wp2_with fail
    refine (M1.out _ HB1.out).mono ?_
    rintro e w4 ⟨v4, rfl, ho4, hb4⟩
    have HB4 := Lib.hid (bthen HB1.out hb4)
    have P4 := Lib.hid ho4.pages
    obtain ⟨A4, c4, hv4⟩ := ho4.pages.slice
    obtain ⟨n4, hn4⟩ : ∃ n, SM.length = n := ⟨_, rfl⟩
    rw [hn4] at hv4
    subst hv4
    clear hb4 ho4 hn4
    go_wp2_with fail
    refine (M2.out _ HB4.out).mono ?_
    rintro e w5 ⟨v5, rfl, hp5, hb5⟩
    have HB5 := Lib.hid (bthen HB4.out hb5)
    have P4 := Lib.hid (P4.out.next hb5)
    have P5 := Lib.hid hp5
    obtain ⟨A5, c5, hv5⟩ := hp5.slice
    obtain ⟨n5, hn5⟩ : ∃ n, SM.length = n := ⟨_, rfl⟩
    rw [hn5] at hv5
    subst hv5
    clear hb5 hp5 hn5
    have Q1 := Lib.hid (rsame_any P4.out P5.out K1.out)
    rw [(sameB_iff SM SM).2 rfl] at Q1
    go_wp2_with fail
    refine (Q1.out).mono ?_
    rintro e w8 ⟨rfl, hb8⟩
    have HB8 := Lib.hid (bthen HB5.out hb8)
    clear hb8
    go_wp2_with fail
    refine (R1.out _ HB8.out).mono ?_
    rintro e w9 ⟨rfl, hb9⟩
    have HB9 := Lib.hid (bthen HB8.out hb9)
    clear hb9
    go_wp2_with fail
    refine (R2.out _ HB9.out).mono ?_
    rintro e wa ⟨rfl, hba⟩
    have HBA := Lib.hid (bthen HB9.out hba)
    clear hba
    go_wp2_with fail
    refine (S1.out _ HBA.out).mono ?_
    rintro e wb ⟨rfl, hbb⟩
    have HBB := Lib.hid (bthen HBA.out hbb)
    clear hbb
    go_wp2_with fail
    refine (S2.out _ HBB.out).mono ?_
    rintro e wc ⟨rfl, hbc⟩
    have HBC := Lib.hid (bthen HBB.out hbc)
    clear hbc
    go_wp2_with fail
    go_ret
    exact ⟨rfl, HBC.out⟩
end Go.Proofs.Ytopamkbgolhbcaa
