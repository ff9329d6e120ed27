/- The reference's Inst: four classes of operations. -/
import Derived.Test.YtcfniagmnkngfaaBN
namespace Go.Proofs.Ytcfniagmnkngfaa
open Go.RowKit

set_option maxRecDepth 100000 in
set_option maxHeartbeats 8000000 in
theorem refInst_m (i : In) (n : Int) (A : Option Addr) (cap : Nat) (w : World) (hS : Ints w (.slice A i.l.length cap) i.l) (hn : i.l.length * 8 ≤ 140737488355328) (hs : i.s.size < 9223372036854775808) (ho : i.o = 8) :
    Calls Try.prog 135 #[inV i (.slice A i.l.length cap), .int .i64 n] w fun e w' => e = .returned (.bool (instB n i)) ∧ Below w.heap.size w w' := by
  have HU := Lib.hid (fun (W : World) (hb : Below w.heap.size w W) => refUses_any i A cap W (hS.next hb) hn)
  have HUL := Lib.hid (show (usesI i).length * 8 ≤ 140737488355328 from by
    unfold usesI usesL
    repeat' split
    all_goals first | exact hn | simp)
  obtain ⟨o, a, b, k, s, l⟩ := i
  have HE := Lib.hid (instB_is n o a b k s l)
  unfold inV at HU ⊢
  simp only at hS hn hs HU HUL ho ⊢
  have HO := Lib.hid (show o ≤ 8 ∧ 8 ≤ o by omega)
  clear ho
  obtain ⟨nl, hnl⟩ : ∃ x, l.length = x := ⟨_, rfl⟩
  have HNL := Lib.hid (show decide (l = []) = decide (nl = 0) by rw [← hnl]; cases l <;> simp)
  have HME := Lib.hid (fun W : World => refName_any s W hs)
  have HNM := Lib.hid (fun W : World => refNamed_any o a b k s (.slice A nl cap) W)
  rw [hnl] at HU HE ⊢
  obtain ⟨U, hU⟩ : ∃ U, usesI ⟨o, a, b, k, s, l⟩ = U := ⟨_, rfl⟩
  rw [hU] at HU HE HUL
  obtain ⟨AM, hAM⟩ : ∃ x, amongB n U = x := ⟨_, rfl⟩
  have HBL := Lib.hid (fun (W : World) (A2 : Option Addr) (m c2 : Nat) (hm : U.length = m) (hI : Ints W (.slice A2 m c2) U) => refBelow_any n U A2 m c2 W hI (by have := HUL.out; omega))
  rw [hAM] at HE HBL
  rw [HNL.out] at HE
  clear hS hn hs hnl hU hAM HNL
  go_enter Try.func135, Try.ntmps135
  go_wp2_with fail
  have HBX := Lib.hid (balloc (Below.refl _ w) (.cells #[.int .i64 o, .int .i64 a, .int .i64 b, .int .u64 k, .string s, .slice A nl cap] 85))
  have HIX := Lib.hid (heap_alloc_new w (.cells #[.int .i64 o, .int .i64 a, .int .i64 b, .int .u64 k, .string s, .slice A nl cap] 85))
  generalize w.alloc (.cells #[.int .i64 o, .int .i64 a, .int .i64 b, .int .u64 k, .string s, .slice A nl cap] 85) = W1 at *
  refine (HU.out _ HBX.out).mono ?_
  rintro r w2 ⟨v', rfl, ho, hb⟩
  have HI2 := Lib.hid ho.ints
  obtain ⟨A2, c2, hv2⟩ := HI2.out.slice
  obtain ⟨nu, hnu⟩ : ∃ x, U.length = x := ⟨_, rfl⟩
  have HNU := Lib.hid (show U.length ≤ nu ∧ nu ≤ U.length by omega)
  have HI3 := Lib.hid (show Ints w2 (.slice A2 nu c2) U by rw [← hnu, ← hv2]; exact HI2.out)
  rw [hnu] at hv2
  subst hv2
  have HB2 := Lib.hid (bthen HBX.out hb)
  have HIX2 := Lib.hid ((hb.block _ (Array.getElem?_eq_some_iff.1 HIX.out).1).trans HIX.out)
  clear ho hb hnu
  go_wp2_with fail
  refine (HBL.out w2 A2 nu c2 (by have := HNU.out; omega) HI3.out).mono ?_
  rintro r w3 ⟨rfl, hb⟩
  have HB3 := Lib.hid (bthen HB2.out hb)
  have hix3 := (hb.block _ (Array.getElem?_eq_some_iff.1 HIX2.out).1).trans HIX2.out
  have c0 := Lib.cell_of_heap hix3 0
  have c1 := Lib.cell_of_heap hix3 1
  have c2 := Lib.cell_of_heap hix3 2
  have c3 := Lib.cell_of_heap hix3 3
  have c4 := Lib.cell_of_heap hix3 4
  have c5 := Lib.cell_of_heap hix3 5
  simp only [List.getElem?_toArray, List.getElem?_cons_zero, List.getElem?_cons_succ] at c0 c1 c2 c3 c4 c5
  have HIX3 := Lib.hid hix3
  clear hb hix3
  obtain rfl : o = 8 := by have := HO.out; omega
  have t1 : decide ((8 : Int) < 1) = false := rfl
  have t2 : decide ((16 : Int) < 8) = false := rfl
  cases AM with
  | false =>
    have HV := Lib.hid (show instB n ⟨8, a, b, k, s, l⟩ = false by rw [HE.out]; simp)
    go_wp2_with fail
    go_ret
    exact ⟨by rw [HV.out]; rfl, HB3.out⟩
  | true =>
  by_cases h6 : nl ≤ 6
  case neg =>
    have t3 : decide (6 < nl) = true := decide_eq_true (by omega)
    have t3' : decide ((6 : Int) < (nl : Int)) = true := decide_eq_true (by omega)
    have HV := Lib.hid (show instB n ⟨8, a, b, k, s, l⟩ = false by rw [HE.out]; simp [h6])
    go_wp2_with fail
    go_ret
    exact ⟨by rw [HV.out]; rfl, HB3.out⟩
  have t3 : decide (6 < nl) = false := decide_eq_false (by omega)
  have t3' : decide ((6 : Int) < (nl : Int)) = false := decide_eq_false (by omega)
  have HE := Lib.hid (show instB n ⟨8, a, b, k, s, l⟩ = ((aB 8 || a == 0) && (bB 8 || b == 0) && ((8 : Int) == 1 || k == 0) && ((8 : Int) == 14 || decide (nl = 0)) && (if hasB 8 then nameB s else s == ByteArray.empty)) by rw [HE.out, decide_eq_true (show 1 ≤ (8 : Int) by have := HO.out; omega), decide_eq_true (show (8 : Int) ≤ 16 by have := HO.out; omega), decide_eq_true h6]; rfl)
  clear h6
  rw [show aB 8 = true from rfl, show bB 8 = true from rfl, show hasB 8 = false from rfl, show ((8 : Int) == 1) = false from rfl, show ((8 : Int) == 14) = false from rfl] at HE
  rw [show hasB 8 = false from rfl] at HNM
  by_cases hk : k = 0
  case neg =>
    have hk1 : (k == 0) = false := by simpa using hk
    have hk2 : (k != 0) = true := by simpa using hk
    have hk3 : decide (k = 0) = false := decide_eq_false hk
    have HV := Lib.hid (show instB n ⟨8, a, b, k, s, l⟩ = false by rw [HE.out]; simp [hk])
    go_wp2_with fail
    go_ret
    exact ⟨by rw [HV.out]; rfl, HB3.out⟩
  subst hk
  by_cases hz : nl = 0
  case neg =>
    have t0 : decide (0 < nl) = true := decide_eq_true (by omega)
    have t0' : decide ((0 : Int) < (nl : Int)) = true := decide_eq_true (by omega)
    have HV := Lib.hid (show instB n ⟨8, a, b, 0, s, l⟩ = false by rw [HE.out]; simp [hz])
    go_wp2_with fail
    go_ret
    exact ⟨by rw [HV.out]; rfl, HB3.out⟩
  have t0 : decide (0 < nl) = false := decide_eq_false (by omega)
  have t0' : decide ((0 : Int) < (nl : Int)) = false := decide_eq_false (by omega)
  have HV := Lib.hid (show instB n ⟨8, a, b, 0, s, l⟩ = (s == ByteArray.empty) by rw [HE.out]; simp [hz])
  clear hz
  go_wp2_with fail
  refine (HNM.out _).mono ?_
  rintro r w4 ⟨rfl, hb4⟩
  have HB4 := Lib.hid (bthen HB3.out hb4)
  have d4 := Lib.cell_of_heap ((hb4.block _ (Array.getElem?_eq_some_iff.1 HIX3.out).1).trans HIX3.out) 4
  simp only [List.getElem?_toArray, List.getElem?_cons_zero, List.getElem?_cons_succ] at d4
  clear hb4 c0 c1 c2 c3 c4 c5
  go_wp2_with fail
  go_ret
  exact ⟨by rw [HV.out, ← ba_isEmpty]; rfl, HB4.out⟩
set_option maxRecDepth 100000 in
set_option maxHeartbeats 8000000 in
theorem refInst_n (i : In) (n : Int) (A : Option Addr) (cap : Nat) (w : World) (hS : Ints w (.slice A i.l.length cap) i.l) (hn : i.l.length * 8 ≤ 140737488355328) (hs : i.s.size < 9223372036854775808) (ho : i.o = 9) :
    Calls Try.prog 135 #[inV i (.slice A i.l.length cap), .int .i64 n] w fun e w' => e = .returned (.bool (instB n i)) ∧ Below w.heap.size w w' := by
  have HU := Lib.hid (fun (W : World) (hb : Below w.heap.size w W) => refUses_any i A cap W (hS.next hb) hn)
  have HUL := Lib.hid (show (usesI i).length * 8 ≤ 140737488355328 from by
    unfold usesI usesL
    repeat' split
    all_goals first | exact hn | simp)
  obtain ⟨o, a, b, k, s, l⟩ := i
  have HE := Lib.hid (instB_is n o a b k s l)
  unfold inV at HU ⊢
  simp only at hS hn hs HU HUL ho ⊢
  have HO := Lib.hid (show o ≤ 9 ∧ 9 ≤ o by omega)
  clear ho
  obtain ⟨nl, hnl⟩ : ∃ x, l.length = x := ⟨_, rfl⟩
  have HNL := Lib.hid (show decide (l = []) = decide (nl = 0) by rw [← hnl]; cases l <;> simp)
  have HME := Lib.hid (fun W : World => refName_any s W hs)
  have HNM := Lib.hid (fun W : World => refNamed_any o a b k s (.slice A nl cap) W)
  rw [hnl] at HU HE ⊢
  obtain ⟨U, hU⟩ : ∃ U, usesI ⟨o, a, b, k, s, l⟩ = U := ⟨_, rfl⟩
  rw [hU] at HU HE HUL
  obtain ⟨AM, hAM⟩ : ∃ x, amongB n U = x := ⟨_, rfl⟩
  have HBL := Lib.hid (fun (W : World) (A2 : Option Addr) (m c2 : Nat) (hm : U.length = m) (hI : Ints W (.slice A2 m c2) U) => refBelow_any n U A2 m c2 W hI (by have := HUL.out; omega))
  rw [hAM] at HE HBL
  rw [HNL.out] at HE
  clear hS hn hs hnl hU hAM HNL
  go_enter Try.func135, Try.ntmps135
  go_wp2_with fail
  have HBX := Lib.hid (balloc (Below.refl _ w) (.cells #[.int .i64 o, .int .i64 a, .int .i64 b, .int .u64 k, .string s, .slice A nl cap] 85))
  have HIX := Lib.hid (heap_alloc_new w (.cells #[.int .i64 o, .int .i64 a, .int .i64 b, .int .u64 k, .string s, .slice A nl cap] 85))
  generalize w.alloc (.cells #[.int .i64 o, .int .i64 a, .int .i64 b, .int .u64 k, .string s, .slice A nl cap] 85) = W1 at *
  refine (HU.out _ HBX.out).mono ?_
  rintro r w2 ⟨v', rfl, ho, hb⟩
  have HI2 := Lib.hid ho.ints
  obtain ⟨A2, c2, hv2⟩ := HI2.out.slice
  obtain ⟨nu, hnu⟩ : ∃ x, U.length = x := ⟨_, rfl⟩
  have HNU := Lib.hid (show U.length ≤ nu ∧ nu ≤ U.length by omega)
  have HI3 := Lib.hid (show Ints w2 (.slice A2 nu c2) U by rw [← hnu, ← hv2]; exact HI2.out)
  rw [hnu] at hv2
  subst hv2
  have HB2 := Lib.hid (bthen HBX.out hb)
  have HIX2 := Lib.hid ((hb.block _ (Array.getElem?_eq_some_iff.1 HIX.out).1).trans HIX.out)
  clear ho hb hnu
  go_wp2_with fail
  refine (HBL.out w2 A2 nu c2 (by have := HNU.out; omega) HI3.out).mono ?_
  rintro r w3 ⟨rfl, hb⟩
  have HB3 := Lib.hid (bthen HB2.out hb)
  have hix3 := (hb.block _ (Array.getElem?_eq_some_iff.1 HIX2.out).1).trans HIX2.out
  have c0 := Lib.cell_of_heap hix3 0
  have c1 := Lib.cell_of_heap hix3 1
  have c2 := Lib.cell_of_heap hix3 2
  have c3 := Lib.cell_of_heap hix3 3
  have c4 := Lib.cell_of_heap hix3 4
  have c5 := Lib.cell_of_heap hix3 5
  simp only [List.getElem?_toArray, List.getElem?_cons_zero, List.getElem?_cons_succ] at c0 c1 c2 c3 c4 c5
  have HIX3 := Lib.hid hix3
  clear hb hix3
  obtain rfl : o = 9 := by have := HO.out; omega
  have t1 : decide ((9 : Int) < 1) = false := rfl
  have t2 : decide ((16 : Int) < 9) = false := rfl
  cases AM with
  | false =>
    have HV := Lib.hid (show instB n ⟨9, a, b, k, s, l⟩ = false by rw [HE.out]; simp)
    go_wp2_with fail
    go_ret
    exact ⟨by rw [HV.out]; rfl, HB3.out⟩
  | true =>
  by_cases h6 : nl ≤ 6
  case neg =>
    have t3 : decide (6 < nl) = true := decide_eq_true (by omega)
    have t3' : decide ((6 : Int) < (nl : Int)) = true := decide_eq_true (by omega)
    have HV := Lib.hid (show instB n ⟨9, a, b, k, s, l⟩ = false by rw [HE.out]; simp [h6])
    go_wp2_with fail
    go_ret
    exact ⟨by rw [HV.out]; rfl, HB3.out⟩
  have t3 : decide (6 < nl) = false := decide_eq_false (by omega)
  have t3' : decide ((6 : Int) < (nl : Int)) = false := decide_eq_false (by omega)
  have HE := Lib.hid (show instB n ⟨9, a, b, k, s, l⟩ = ((aB 9 || a == 0) && (bB 9 || b == 0) && ((9 : Int) == 1 || k == 0) && ((9 : Int) == 14 || decide (nl = 0)) && (if hasB 9 then nameB s else s == ByteArray.empty)) by rw [HE.out, decide_eq_true (show 1 ≤ (9 : Int) by have := HO.out; omega), decide_eq_true (show (9 : Int) ≤ 16 by have := HO.out; omega), decide_eq_true h6]; rfl)
  clear h6
  rw [show aB 9 = true from rfl, show bB 9 = true from rfl, show hasB 9 = false from rfl, show ((9 : Int) == 1) = false from rfl, show ((9 : Int) == 14) = false from rfl] at HE
  rw [show hasB 9 = false from rfl] at HNM
  by_cases hk : k = 0
  case neg =>
    have hk1 : (k == 0) = false := by simpa using hk
    have hk2 : (k != 0) = true := by simpa using hk
    have hk3 : decide (k = 0) = false := decide_eq_false hk
    have HV := Lib.hid (show instB n ⟨9, a, b, k, s, l⟩ = false by rw [HE.out]; simp [hk])
    go_wp2_with fail
    go_ret
    exact ⟨by rw [HV.out]; rfl, HB3.out⟩
  subst hk
  by_cases hz : nl = 0
  case neg =>
    have t0 : decide (0 < nl) = true := decide_eq_true (by omega)
    have t0' : decide ((0 : Int) < (nl : Int)) = true := decide_eq_true (by omega)
    have HV := Lib.hid (show instB n ⟨9, a, b, 0, s, l⟩ = false by rw [HE.out]; simp [hz])
    go_wp2_with fail
    go_ret
    exact ⟨by rw [HV.out]; rfl, HB3.out⟩
  have t0 : decide (0 < nl) = false := decide_eq_false (by omega)
  have t0' : decide ((0 : Int) < (nl : Int)) = false := decide_eq_false (by omega)
  have HV := Lib.hid (show instB n ⟨9, a, b, 0, s, l⟩ = (s == ByteArray.empty) by rw [HE.out]; simp [hz])
  clear hz
  go_wp2_with fail
  refine (HNM.out _).mono ?_
  rintro r w4 ⟨rfl, hb4⟩
  have HB4 := Lib.hid (bthen HB3.out hb4)
  have d4 := Lib.cell_of_heap ((hb4.block _ (Array.getElem?_eq_some_iff.1 HIX3.out).1).trans HIX3.out) 4
  simp only [List.getElem?_toArray, List.getElem?_cons_zero, List.getElem?_cons_succ] at d4
  clear hb4 c0 c1 c2 c3 c4 c5
  go_wp2_with fail
  go_ret
  exact ⟨by rw [HV.out, ← ba_isEmpty]; rfl, HB4.out⟩
set_option maxRecDepth 100000 in
set_option maxHeartbeats 8000000 in
theorem refInst_p (i : In) (n : Int) (A : Option Addr) (cap : Nat) (w : World) (hS : Ints w (.slice A i.l.length cap) i.l) (hn : i.l.length * 8 ≤ 140737488355328) (hs : i.s.size < 9223372036854775808) (ho : i.o = 10) :
    Calls Try.prog 135 #[inV i (.slice A i.l.length cap), .int .i64 n] w fun e w' => e = .returned (.bool (instB n i)) ∧ Below w.heap.size w w' := by
  have HU := Lib.hid (fun (W : World) (hb : Below w.heap.size w W) => refUses_any i A cap W (hS.next hb) hn)
  have HUL := Lib.hid (show (usesI i).length * 8 ≤ 140737488355328 from by
    unfold usesI usesL
    repeat' split
    all_goals first | exact hn | simp)
  obtain ⟨o, a, b, k, s, l⟩ := i
  have HE := Lib.hid (instB_is n o a b k s l)
  unfold inV at HU ⊢
  simp only at hS hn hs HU HUL ho ⊢
  have HO := Lib.hid (show o ≤ 10 ∧ 10 ≤ o by omega)
  clear ho
  obtain ⟨nl, hnl⟩ : ∃ x, l.length = x := ⟨_, rfl⟩
  have HNL := Lib.hid (show decide (l = []) = decide (nl = 0) by rw [← hnl]; cases l <;> simp)
  have HME := Lib.hid (fun W : World => refName_any s W hs)
  have HNM := Lib.hid (fun W : World => refNamed_any o a b k s (.slice A nl cap) W)
  rw [hnl] at HU HE ⊢
  obtain ⟨U, hU⟩ : ∃ U, usesI ⟨o, a, b, k, s, l⟩ = U := ⟨_, rfl⟩
  rw [hU] at HU HE HUL
  obtain ⟨AM, hAM⟩ : ∃ x, amongB n U = x := ⟨_, rfl⟩
  have HBL := Lib.hid (fun (W : World) (A2 : Option Addr) (m c2 : Nat) (hm : U.length = m) (hI : Ints W (.slice A2 m c2) U) => refBelow_any n U A2 m c2 W hI (by have := HUL.out; omega))
  rw [hAM] at HE HBL
  rw [HNL.out] at HE
  clear hS hn hs hnl hU hAM HNL
  go_enter Try.func135, Try.ntmps135
  go_wp2_with fail
  have HBX := Lib.hid (balloc (Below.refl _ w) (.cells #[.int .i64 o, .int .i64 a, .int .i64 b, .int .u64 k, .string s, .slice A nl cap] 85))
  have HIX := Lib.hid (heap_alloc_new w (.cells #[.int .i64 o, .int .i64 a, .int .i64 b, .int .u64 k, .string s, .slice A nl cap] 85))
  generalize w.alloc (.cells #[.int .i64 o, .int .i64 a, .int .i64 b, .int .u64 k, .string s, .slice A nl cap] 85) = W1 at *
  refine (HU.out _ HBX.out).mono ?_
  rintro r w2 ⟨v', rfl, ho, hb⟩
  have HI2 := Lib.hid ho.ints
  obtain ⟨A2, c2, hv2⟩ := HI2.out.slice
  obtain ⟨nu, hnu⟩ : ∃ x, U.length = x := ⟨_, rfl⟩
  have HNU := Lib.hid (show U.length ≤ nu ∧ nu ≤ U.length by omega)
  have HI3 := Lib.hid (show Ints w2 (.slice A2 nu c2) U by rw [← hnu, ← hv2]; exact HI2.out)
  rw [hnu] at hv2
  subst hv2
  have HB2 := Lib.hid (bthen HBX.out hb)
  have HIX2 := Lib.hid ((hb.block _ (Array.getElem?_eq_some_iff.1 HIX.out).1).trans HIX.out)
  clear ho hb hnu
  go_wp2_with fail
  refine (HBL.out w2 A2 nu c2 (by have := HNU.out; omega) HI3.out).mono ?_
  rintro r w3 ⟨rfl, hb⟩
  have HB3 := Lib.hid (bthen HB2.out hb)
  have hix3 := (hb.block _ (Array.getElem?_eq_some_iff.1 HIX2.out).1).trans HIX2.out
  have c0 := Lib.cell_of_heap hix3 0
  have c1 := Lib.cell_of_heap hix3 1
  have c2 := Lib.cell_of_heap hix3 2
  have c3 := Lib.cell_of_heap hix3 3
  have c4 := Lib.cell_of_heap hix3 4
  have c5 := Lib.cell_of_heap hix3 5
  simp only [List.getElem?_toArray, List.getElem?_cons_zero, List.getElem?_cons_succ] at c0 c1 c2 c3 c4 c5
  have HIX3 := Lib.hid hix3
  clear hb hix3
  obtain rfl : o = 10 := by have := HO.out; omega
  have t1 : decide ((10 : Int) < 1) = false := rfl
  have t2 : decide ((16 : Int) < 10) = false := rfl
  cases AM with
  | false =>
    have HV := Lib.hid (show instB n ⟨10, a, b, k, s, l⟩ = false by rw [HE.out]; simp)
    go_wp2_with fail
    go_ret
    exact ⟨by rw [HV.out]; rfl, HB3.out⟩
  | true =>
  by_cases h6 : nl ≤ 6
  case neg =>
    have t3 : decide (6 < nl) = true := decide_eq_true (by omega)
    have t3' : decide ((6 : Int) < (nl : Int)) = true := decide_eq_true (by omega)
    have HV := Lib.hid (show instB n ⟨10, a, b, k, s, l⟩ = false by rw [HE.out]; simp [h6])
    go_wp2_with fail
    go_ret
    exact ⟨by rw [HV.out]; rfl, HB3.out⟩
  have t3 : decide (6 < nl) = false := decide_eq_false (by omega)
  have t3' : decide ((6 : Int) < (nl : Int)) = false := decide_eq_false (by omega)
  have HE := Lib.hid (show instB n ⟨10, a, b, k, s, l⟩ = ((aB 10 || a == 0) && (bB 10 || b == 0) && ((10 : Int) == 1 || k == 0) && ((10 : Int) == 14 || decide (nl = 0)) && (if hasB 10 then nameB s else s == ByteArray.empty)) by rw [HE.out, decide_eq_true (show 1 ≤ (10 : Int) by have := HO.out; omega), decide_eq_true (show (10 : Int) ≤ 16 by have := HO.out; omega), decide_eq_true h6]; rfl)
  clear h6
  rw [show aB 10 = true from rfl, show bB 10 = true from rfl, show hasB 10 = false from rfl, show ((10 : Int) == 1) = false from rfl, show ((10 : Int) == 14) = false from rfl] at HE
  rw [show hasB 10 = false from rfl] at HNM
  by_cases hk : k = 0
  case neg =>
    have hk1 : (k == 0) = false := by simpa using hk
    have hk2 : (k != 0) = true := by simpa using hk
    have hk3 : decide (k = 0) = false := decide_eq_false hk
    have HV := Lib.hid (show instB n ⟨10, a, b, k, s, l⟩ = false by rw [HE.out]; simp [hk])
    go_wp2_with fail
    go_ret
    exact ⟨by rw [HV.out]; rfl, HB3.out⟩
  subst hk
  by_cases hz : nl = 0
  case neg =>
    have t0 : decide (0 < nl) = true := decide_eq_true (by omega)
    have t0' : decide ((0 : Int) < (nl : Int)) = true := decide_eq_true (by omega)
    have HV := Lib.hid (show instB n ⟨10, a, b, 0, s, l⟩ = false by rw [HE.out]; simp [hz])
    go_wp2_with fail
    go_ret
    exact ⟨by rw [HV.out]; rfl, HB3.out⟩
  have t0 : decide (0 < nl) = false := decide_eq_false (by omega)
  have t0' : decide ((0 : Int) < (nl : Int)) = false := decide_eq_false (by omega)
  have HV := Lib.hid (show instB n ⟨10, a, b, 0, s, l⟩ = (s == ByteArray.empty) by rw [HE.out]; simp [hz])
  clear hz
  go_wp2_with fail
  refine (HNM.out _).mono ?_
  rintro r w4 ⟨rfl, hb4⟩
  have HB4 := Lib.hid (bthen HB3.out hb4)
  have d4 := Lib.cell_of_heap ((hb4.block _ (Array.getElem?_eq_some_iff.1 HIX3.out).1).trans HIX3.out) 4
  simp only [List.getElem?_toArray, List.getElem?_cons_zero, List.getElem?_cons_succ] at d4
  clear hb4 c0 c1 c2 c3 c4 c5
  go_wp2_with fail
  go_ret
  exact ⟨by rw [HV.out, ← ba_isEmpty]; rfl, HB4.out⟩
set_option maxRecDepth 100000 in
set_option maxHeartbeats 8000000 in
theorem refInst_q (i : In) (n : Int) (A : Option Addr) (cap : Nat) (w : World) (hS : Ints w (.slice A i.l.length cap) i.l) (hn : i.l.length * 8 ≤ 140737488355328) (hs : i.s.size < 9223372036854775808) (ho : i.o = 11) :
    Calls Try.prog 135 #[inV i (.slice A i.l.length cap), .int .i64 n] w fun e w' => e = .returned (.bool (instB n i)) ∧ Below w.heap.size w w' := by
  have HU := Lib.hid (fun (W : World) (hb : Below w.heap.size w W) => refUses_any i A cap W (hS.next hb) hn)
  have HUL := Lib.hid (show (usesI i).length * 8 ≤ 140737488355328 from by
    unfold usesI usesL
    repeat' split
    all_goals first | exact hn | simp)
  obtain ⟨o, a, b, k, s, l⟩ := i
  have HE := Lib.hid (instB_is n o a b k s l)
  unfold inV at HU ⊢
  simp only at hS hn hs HU HUL ho ⊢
  have HO := Lib.hid (show o ≤ 11 ∧ 11 ≤ o by omega)
  clear ho
  obtain ⟨nl, hnl⟩ : ∃ x, l.length = x := ⟨_, rfl⟩
  have HNL := Lib.hid (show decide (l = []) = decide (nl = 0) by rw [← hnl]; cases l <;> simp)
  have HME := Lib.hid (fun W : World => refName_any s W hs)
  have HNM := Lib.hid (fun W : World => refNamed_any o a b k s (.slice A nl cap) W)
  rw [hnl] at HU HE ⊢
  obtain ⟨U, hU⟩ : ∃ U, usesI ⟨o, a, b, k, s, l⟩ = U := ⟨_, rfl⟩
  rw [hU] at HU HE HUL
  obtain ⟨AM, hAM⟩ : ∃ x, amongB n U = x := ⟨_, rfl⟩
  have HBL := Lib.hid (fun (W : World) (A2 : Option Addr) (m c2 : Nat) (hm : U.length = m) (hI : Ints W (.slice A2 m c2) U) => refBelow_any n U A2 m c2 W hI (by have := HUL.out; omega))
  rw [hAM] at HE HBL
  rw [HNL.out] at HE
  clear hS hn hs hnl hU hAM HNL
  go_enter Try.func135, Try.ntmps135
  go_wp2_with fail
  have HBX := Lib.hid (balloc (Below.refl _ w) (.cells #[.int .i64 o, .int .i64 a, .int .i64 b, .int .u64 k, .string s, .slice A nl cap] 85))
  have HIX := Lib.hid (heap_alloc_new w (.cells #[.int .i64 o, .int .i64 a, .int .i64 b, .int .u64 k, .string s, .slice A nl cap] 85))
  generalize w.alloc (.cells #[.int .i64 o, .int .i64 a, .int .i64 b, .int .u64 k, .string s, .slice A nl cap] 85) = W1 at *
  refine (HU.out _ HBX.out).mono ?_
  rintro r w2 ⟨v', rfl, ho, hb⟩
  have HI2 := Lib.hid ho.ints
  obtain ⟨A2, c2, hv2⟩ := HI2.out.slice
  obtain ⟨nu, hnu⟩ : ∃ x, U.length = x := ⟨_, rfl⟩
  have HNU := Lib.hid (show U.length ≤ nu ∧ nu ≤ U.length by omega)
  have HI3 := Lib.hid (show Ints w2 (.slice A2 nu c2) U by rw [← hnu, ← hv2]; exact HI2.out)
  rw [hnu] at hv2
  subst hv2
  have HB2 := Lib.hid (bthen HBX.out hb)
  have HIX2 := Lib.hid ((hb.block _ (Array.getElem?_eq_some_iff.1 HIX.out).1).trans HIX.out)
  clear ho hb hnu
  go_wp2_with fail
  refine (HBL.out w2 A2 nu c2 (by have := HNU.out; omega) HI3.out).mono ?_
  rintro r w3 ⟨rfl, hb⟩
  have HB3 := Lib.hid (bthen HB2.out hb)
  have hix3 := (hb.block _ (Array.getElem?_eq_some_iff.1 HIX2.out).1).trans HIX2.out
  have c0 := Lib.cell_of_heap hix3 0
  have c1 := Lib.cell_of_heap hix3 1
  have c2 := Lib.cell_of_heap hix3 2
  have c3 := Lib.cell_of_heap hix3 3
  have c4 := Lib.cell_of_heap hix3 4
  have c5 := Lib.cell_of_heap hix3 5
  simp only [List.getElem?_toArray, List.getElem?_cons_zero, List.getElem?_cons_succ] at c0 c1 c2 c3 c4 c5
  have HIX3 := Lib.hid hix3
  clear hb hix3
  obtain rfl : o = 11 := by have := HO.out; omega
  have t1 : decide ((11 : Int) < 1) = false := rfl
  have t2 : decide ((16 : Int) < 11) = false := rfl
  cases AM with
  | false =>
    have HV := Lib.hid (show instB n ⟨11, a, b, k, s, l⟩ = false by rw [HE.out]; simp)
    go_wp2_with fail
    go_ret
    exact ⟨by rw [HV.out]; rfl, HB3.out⟩
  | true =>
  by_cases h6 : nl ≤ 6
  case neg =>
    have t3 : decide (6 < nl) = true := decide_eq_true (by omega)
    have t3' : decide ((6 : Int) < (nl : Int)) = true := decide_eq_true (by omega)
    have HV := Lib.hid (show instB n ⟨11, a, b, k, s, l⟩ = false by rw [HE.out]; simp [h6])
    go_wp2_with fail
    go_ret
    exact ⟨by rw [HV.out]; rfl, HB3.out⟩
  have t3 : decide (6 < nl) = false := decide_eq_false (by omega)
  have t3' : decide ((6 : Int) < (nl : Int)) = false := decide_eq_false (by omega)
  have HE := Lib.hid (show instB n ⟨11, a, b, k, s, l⟩ = ((aB 11 || a == 0) && (bB 11 || b == 0) && ((11 : Int) == 1 || k == 0) && ((11 : Int) == 14 || decide (nl = 0)) && (if hasB 11 then nameB s else s == ByteArray.empty)) by rw [HE.out, decide_eq_true (show 1 ≤ (11 : Int) by have := HO.out; omega), decide_eq_true (show (11 : Int) ≤ 16 by have := HO.out; omega), decide_eq_true h6]; rfl)
  clear h6
  rw [show aB 11 = true from rfl, show bB 11 = true from rfl, show hasB 11 = false from rfl, show ((11 : Int) == 1) = false from rfl, show ((11 : Int) == 14) = false from rfl] at HE
  rw [show hasB 11 = false from rfl] at HNM
  by_cases hk : k = 0
  case neg =>
    have hk1 : (k == 0) = false := by simpa using hk
    have hk2 : (k != 0) = true := by simpa using hk
    have hk3 : decide (k = 0) = false := decide_eq_false hk
    have HV := Lib.hid (show instB n ⟨11, a, b, k, s, l⟩ = false by rw [HE.out]; simp [hk])
    go_wp2_with fail
    go_ret
    exact ⟨by rw [HV.out]; rfl, HB3.out⟩
  subst hk
  by_cases hz : nl = 0
  case neg =>
    have t0 : decide (0 < nl) = true := decide_eq_true (by omega)
    have t0' : decide ((0 : Int) < (nl : Int)) = true := decide_eq_true (by omega)
    have HV := Lib.hid (show instB n ⟨11, a, b, 0, s, l⟩ = false by rw [HE.out]; simp [hz])
    go_wp2_with fail
    go_ret
    exact ⟨by rw [HV.out]; rfl, HB3.out⟩
  have t0 : decide (0 < nl) = false := decide_eq_false (by omega)
  have t0' : decide ((0 : Int) < (nl : Int)) = false := decide_eq_false (by omega)
  have HV := Lib.hid (show instB n ⟨11, a, b, 0, s, l⟩ = (s == ByteArray.empty) by rw [HE.out]; simp [hz])
  clear hz
  go_wp2_with fail
  refine (HNM.out _).mono ?_
  rintro r w4 ⟨rfl, hb4⟩
  have HB4 := Lib.hid (bthen HB3.out hb4)
  have d4 := Lib.cell_of_heap ((hb4.block _ (Array.getElem?_eq_some_iff.1 HIX3.out).1).trans HIX3.out) 4
  simp only [List.getElem?_toArray, List.getElem?_cons_zero, List.getElem?_cons_succ] at d4
  clear hb4 c0 c1 c2 c3 c4 c5
  go_wp2_with fail
  go_ret
  exact ⟨by rw [HV.out, ← ba_isEmpty]; rfl, HB4.out⟩
end Go.Proofs.Ytcfniagmnkngfaa
