/- What the texts of package resolve stand on, of the packages ir and pick (part 8). -/
import Derived.Test.YtjldddpchiaalaaHU6
namespace Go.Proofs.Ytjldddpchiaalaa
open Go.RowKit
set_option maxRecDepth 100000 in
set_option maxHeartbeats 8000000 in
theorem refInst_m (i : In) (n : Int) (A : Option Addr) (cap : Nat) (w : World) (hS : Ints w (.slice A i.l.length cap) i.l) (hn : i.l.length * 8 ≤ 140737488355328) (hs : i.s.size < 9223372036854775808) (ho : i.o = 8) :
    Calls Try.prog 67 #[inV i (.slice A i.l.length cap), .int .i64 n] w fun e w' => e = .returned (.bool (instB n i)) ∧ Below w.heap.size w w' := by
  have HU := Lib.hid (fun (W : World) (hb : Below w.heap.size w W) => refUses_any i A cap W (hS.next hb) hn)
  have HUL := Lib.hid (show (usesI i).length * 8 ≤ 140737488355328 from by
    unfold usesI usesL
    repeat' split
    all_goals first | exact hn | simp)
  obtain ⟨o, a, b, k, s, l⟩ := i
  have HE := Lib.hid (instB_is n o a b k s l)
  unfold inV at HU ⊢
  simp only at hS hn hs HU HUL ho ⊢
  have HO := Lib.hid (show o ≤ 8 ∧ 8 ≤ o by omega)
  clear ho
  obtain ⟨nl, hnl⟩ : ∃ x, l.length = x := ⟨_, rfl⟩
  have HNL := Lib.hid (show decide (l = []) = decide (nl = 0) by rw [← hnl]; cases l <;> simp)
  have HME := Lib.hid (fun W : World => refName_any s W hs)
  have HNM := Lib.hid (fun W : World => refNamed_any o a b k s (.slice A nl cap) W)
  rw [hnl] at HU HE ⊢
  obtain ⟨U, hU⟩ : ∃ U, usesI ⟨o, a, b, k, s, l⟩ = U := ⟨_, rfl⟩
  rw [hU] at HU HE HUL
  obtain ⟨AM, hAM⟩ : ∃ x, amongB n U = x := ⟨_, rfl⟩
  have HBL := Lib.hid (fun (W : World) (A2 : Option Addr) (m c2 : Nat) (hm : U.length = m) (hI : Ints W (.slice A2 m c2) U) => refBelow_any n U A2 m c2 W hI (by have := HUL.out; omega))
  rw [hAM] at HE HBL
  rw [HNL.out] at HE
  clear hS hn hs hnl hU hAM HNL
  go_enter Try.func67, Try.ntmps67
  go_wp2_with fail
  have HBX := Lib.hid (balloc (Below.refl _ w) (.cells #[.int .i64 o, .int .i64 a, .int .i64 b, .int .u64 k, .string s, .slice A nl cap] 76))
  have HIX := Lib.hid (heap_alloc_new w (.cells #[.int .i64 o, .int .i64 a, .int .i64 b, .int .u64 k, .string s, .slice A nl cap] 76))
  generalize w.alloc (.cells #[.int .i64 o, .int .i64 a, .int .i64 b, .int .u64 k, .string s, .slice A nl cap] 76) = W1 at *
  refine (HU.out _ HBX.out).mono ?_
  rintro r w2 ⟨v', rfl, ho, hb⟩
  have HI2 := Lib.hid ho.ints
  obtain ⟨A2, c2, hv2⟩ := HI2.out.slice
  obtain ⟨nu, hnu⟩ : ∃ x, U.length = x := ⟨_, rfl⟩
  have HNU := Lib.hid (show U.length ≤ nu ∧ nu ≤ U.length by omega)
  have HI3 := Lib.hid (show Ints w2 (.slice A2 nu c2) U by rw [← hnu, ← hv2]; exact HI2.out)
  rw [hnu] at hv2
  subst hv2
  have HB2 := Lib.hid (bthen HBX.out hb)
  have HIX2 := Lib.hid ((hb.block _ (Array.getElem?_eq_some_iff.1 HIX.out).1).trans HIX.out)
  clear ho hb hnu
  go_wp2_with fail
  refine (HBL.out w2 A2 nu c2 (by have := HNU.out; omega) HI3.out).mono ?_
  rintro r w3 ⟨rfl, hb⟩
  have HB3 := Lib.hid (bthen HB2.out hb)
  have hix3 := (hb.block _ (Array.getElem?_eq_some_iff.1 HIX2.out).1).trans HIX2.out
  have c0 := Lib.cell_of_heap hix3 0
  have c1 := Lib.cell_of_heap hix3 1
  have c2 := Lib.cell_of_heap hix3 2
  have c3 := Lib.cell_of_heap hix3 3
  have c4 := Lib.cell_of_heap hix3 4
  have c5 := Lib.cell_of_heap hix3 5
  simp only [List.getElem?_toArray, List.getElem?_cons_zero, List.getElem?_cons_succ] at c0 c1 c2 c3 c4 c5
  have HIX3 := Lib.hid hix3
  clear hb hix3
  obtain rfl : o = 8 := by have := HO.out; omega
  have t1 : decide ((8 : Int) < 1) = false := rfl
  have t2 : decide ((16 : Int) < 8) = false := rfl
  cases AM with
  | false =>
    have HV := Lib.hid (show instB n ⟨8, a, b, k, s, l⟩ = false by rw [HE.out]; simp)
    go_wp2_with fail
    go_ret
    exact ⟨by rw [HV.out]; rfl, HB3.out⟩
  | true =>
  by_cases h6 : nl ≤ 6
  case neg =>
    have t3 : decide (6 < nl) = true := decide_eq_true (by omega)
    have t3' : decide ((6 : Int) < (nl : Int)) = true := decide_eq_true (by omega)
    have HV := Lib.hid (show instB n ⟨8, a, b, k, s, l⟩ = false by rw [HE.out]; simp [h6])
    go_wp2_with fail
    go_ret
    exact ⟨by rw [HV.out]; rfl, HB3.out⟩
  have t3 : decide (6 < nl) = false := decide_eq_false (by omega)
  have t3' : decide ((6 : Int) < (nl : Int)) = false := decide_eq_false (by omega)
  have HE := Lib.hid (show instB n ⟨8, a, b, k, s, l⟩ = ((aB 8 || a == 0) && (bB 8 || b == 0) && ((8 : Int) == 1 || k == 0) && ((8 : Int) == 14 || decide (nl = 0)) && (if hasB 8 then nameB s else s == ByteArray.empty)) by rw [HE.out, decide_eq_true (show 1 ≤ (8 : Int) by have := HO.out; omega), decide_eq_true (show (8 : Int) ≤ 16 by have := HO.out; omega), decide_eq_true h6]; rfl)
  clear h6
  rw [show aB 8 = true from rfl, show bB 8 = true from rfl, show hasB 8 = false from rfl, show ((8 : Int) == 1) = false from rfl, show ((8 : Int) == 14) = false from rfl] at HE
  rw [show hasB 8 = false from rfl] at HNM
  by_cases hk : k = 0
  case neg =>
    have hk1 : (k == 0) = false := by simpa using hk
    have hk2 : (k != 0) = true := by simpa using hk
    have hk3 : decide (k = 0) = false := decide_eq_false hk
    have HV := Lib.hid (show instB n ⟨8, a, b, k, s, l⟩ = false by rw [HE.out]; simp [hk])
    go_wp2_with fail
    go_ret
    exact ⟨by rw [HV.out]; rfl, HB3.out⟩
  subst hk
  by_cases hz : nl = 0
  case neg =>
    have t0 : decide (0 < nl) = true := decide_eq_true (by omega)
    have t0' : decide ((0 : Int) < (nl : Int)) = true := decide_eq_true (by omega)
    have HV := Lib.hid (show instB n ⟨8, a, b, 0, s, l⟩ = false by rw [HE.out]; simp [hz])
    go_wp2_with fail
    go_ret
    exact ⟨by rw [HV.out]; rfl, HB3.out⟩
  have t0 : decide (0 < nl) = false := decide_eq_false (by omega)
  have t0' : decide ((0 : Int) < (nl : Int)) = false := decide_eq_false (by omega)
  have HV := Lib.hid (show instB n ⟨8, a, b, 0, s, l⟩ = (s == ByteArray.empty) by rw [HE.out]; simp [hz])
  clear hz
  go_wp2_with fail
  refine (HNM.out _).mono ?_
  rintro r w4 ⟨rfl, hb4⟩
  have HB4 := Lib.hid (bthen HB3.out hb4)
  have d4 := Lib.cell_of_heap ((hb4.block _ (Array.getElem?_eq_some_iff.1 HIX3.out).1).trans HIX3.out) 4
  simp only [List.getElem?_toArray, List.getElem?_cons_zero, List.getElem?_cons_succ] at d4
  clear hb4 c0 c1 c2 c3 c4 c5
  go_wp2_with fail
  go_ret
  exact ⟨by rw [HV.out, ← ba_isEmpty]; rfl, HB4.out⟩
set_option maxRecDepth 100000 in
set_option maxHeartbeats 8000000 in
theorem refInst_n (i : In) (n : Int) (A : Option Addr) (cap : Nat) (w : World) (hS : Ints w (.slice A i.l.length cap) i.l) (hn : i.l.length * 8 ≤ 140737488355328) (hs : i.s.size < 9223372036854775808) (ho : i.o = 9) :
    Calls Try.prog 67 #[inV i (.slice A i.l.length cap), .int .i64 n] w fun e w' => e = .returned (.bool (instB n i)) ∧ Below w.heap.size w w' := by
  have HU := Lib.hid (fun (W : World) (hb : Below w.heap.size w W) => refUses_any i A cap W (hS.next hb) hn)
  have HUL := Lib.hid (show (usesI i).length * 8 ≤ 140737488355328 from by
    unfold usesI usesL
    repeat' split
    all_goals first | exact hn | simp)
  obtain ⟨o, a, b, k, s, l⟩ := i
  have HE := Lib.hid (instB_is n o a b k s l)
  unfold inV at HU ⊢
  simp only at hS hn hs HU HUL ho ⊢
  have HO := Lib.hid (show o ≤ 9 ∧ 9 ≤ o by omega)
  clear ho
  obtain ⟨nl, hnl⟩ : ∃ x, l.length = x := ⟨_, rfl⟩
  have HNL := Lib.hid (show decide (l = []) = decide (nl = 0) by rw [← hnl]; cases l <;> simp)
  have HME := Lib.hid (fun W : World => refName_any s W hs)
  have HNM := Lib.hid (fun W : World => refNamed_any o a b k s (.slice A nl cap) W)
  rw [hnl] at HU HE ⊢
  obtain ⟨U, hU⟩ : ∃ U, usesI ⟨o, a, b, k, s, l⟩ = U := ⟨_, rfl⟩
  rw [hU] at HU HE HUL
  obtain ⟨AM, hAM⟩ : ∃ x, amongB n U = x := ⟨_, rfl⟩
  have HBL := Lib.hid (fun (W : World) (A2 : Option Addr) (m c2 : Nat) (hm : U.length = m) (hI : Ints W (.slice A2 m c2) U) => refBelow_any n U A2 m c2 W hI (by have := HUL.out; omega))
  rw [hAM] at HE HBL
  rw [HNL.out] at HE
  clear hS hn hs hnl hU hAM HNL
  go_enter Try.func67, Try.ntmps67
  go_wp2_with fail
  have HBX := Lib.hid (balloc (Below.refl _ w) (.cells #[.int .i64 o, .int .i64 a, .int .i64 b, .int .u64 k, .string s, .slice A nl cap] 76))
  have HIX := Lib.hid (heap_alloc_new w (.cells #[.int .i64 o, .int .i64 a, .int .i64 b, .int .u64 k, .string s, .slice A nl cap] 76))
  generalize w.alloc (.cells #[.int .i64 o, .int .i64 a, .int .i64 b, .int .u64 k, .string s, .slice A nl cap] 76) = W1 at *
  refine (HU.out _ HBX.out).mono ?_
  rintro r w2 ⟨v', rfl, ho, hb⟩
  have HI2 := Lib.hid ho.ints
  obtain ⟨A2, c2, hv2⟩ := HI2.out.slice
  obtain ⟨nu, hnu⟩ : ∃ x, U.length = x := ⟨_, rfl⟩
  have HNU := Lib.hid (show U.length ≤ nu ∧ nu ≤ U.length by omega)
  have HI3 := Lib.hid (show Ints w2 (.slice A2 nu c2) U by rw [← hnu, ← hv2]; exact HI2.out)
  rw [hnu] at hv2
  subst hv2
  have HB2 := Lib.hid (bthen HBX.out hb)
  have HIX2 := Lib.hid ((hb.block _ (Array.getElem?_eq_some_iff.1 HIX.out).1).trans HIX.out)
  clear ho hb hnu
  go_wp2_with fail
  refine (HBL.out w2 A2 nu c2 (by have := HNU.out; omega) HI3.out).mono ?_
  rintro r w3 ⟨rfl, hb⟩
  have HB3 := Lib.hid (bthen HB2.out hb)
  have hix3 := (hb.block _ (Array.getElem?_eq_some_iff.1 HIX2.out).1).trans HIX2.out
  have c0 := Lib.cell_of_heap hix3 0
  have c1 := Lib.cell_of_heap hix3 1
  have c2 := Lib.cell_of_heap hix3 2
  have c3 := Lib.cell_of_heap hix3 3
  have c4 := Lib.cell_of_heap hix3 4
  have c5 := Lib.cell_of_heap hix3 5
  simp only [List.getElem?_toArray, List.getElem?_cons_zero, List.getElem?_cons_succ] at c0 c1 c2 c3 c4 c5
  have HIX3 := Lib.hid hix3
  clear hb hix3
  obtain rfl : o = 9 := by have := HO.out; omega
  have t1 : decide ((9 : Int) < 1) = false := rfl
  have t2 : decide ((16 : Int) < 9) = false := rfl
  cases AM with
  | false =>
    have HV := Lib.hid (show instB n ⟨9, a, b, k, s, l⟩ = false by rw [HE.out]; simp)
    go_wp2_with fail
    go_ret
    exact ⟨by rw [HV.out]; rfl, HB3.out⟩
  | true =>
  by_cases h6 : nl ≤ 6
  case neg =>
    have t3 : decide (6 < nl) = true := decide_eq_true (by omega)
    have t3' : decide ((6 : Int) < (nl : Int)) = true := decide_eq_true (by omega)
    have HV := Lib.hid (show instB n ⟨9, a, b, k, s, l⟩ = false by rw [HE.out]; simp [h6])
    go_wp2_with fail
    go_ret
    exact ⟨by rw [HV.out]; rfl, HB3.out⟩
  have t3 : decide (6 < nl) = false := decide_eq_false (by omega)
  have t3' : decide ((6 : Int) < (nl : Int)) = false := decide_eq_false (by omega)
  have HE := Lib.hid (show instB n ⟨9, a, b, k, s, l⟩ = ((aB 9 || a == 0) && (bB 9 || b == 0) && ((9 : Int) == 1 || k == 0) && ((9 : Int) == 14 || decide (nl = 0)) && (if hasB 9 then nameB s else s == ByteArray.empty)) by rw [HE.out, decide_eq_true (show 1 ≤ (9 : Int) by have := HO.out; omega), decide_eq_true (show (9 : Int) ≤ 16 by have := HO.out; omega), decide_eq_true h6]; rfl)
  clear h6
  rw [show aB 9 = true from rfl, show bB 9 = true from rfl, show hasB 9 = false from rfl, show ((9 : Int) == 1) = false from rfl, show ((9 : Int) == 14) = false from rfl] at HE
  rw [show hasB 9 = false from rfl] at HNM
  by_cases hk : k = 0
  case neg =>
    have hk1 : (k == 0) = false := by simpa using hk
    have hk2 : (k != 0) = true := by simpa using hk
    have hk3 : decide (k = 0) = false := decide_eq_false hk
    have HV := Lib.hid (show instB n ⟨9, a, b, k, s, l⟩ = false by rw [HE.out]; simp [hk])
    go_wp2_with fail
    go_ret
    exact ⟨by rw [HV.out]; rfl, HB3.out⟩
  subst hk
  by_cases hz : nl = 0
  case neg =>
    have t0 : decide (0 < nl) = true := decide_eq_true (by omega)
    have t0' : decide ((0 : Int) < (nl : Int)) = true := decide_eq_true (by omega)
    have HV := Lib.hid (show instB n ⟨9, a, b, 0, s, l⟩ = false by rw [HE.out]; simp [hz])
    go_wp2_with fail
    go_ret
    exact ⟨by rw [HV.out]; rfl, HB3.out⟩
  have t0 : decide (0 < nl) = false := decide_eq_false (by omega)
  have t0' : decide ((0 : Int) < (nl : Int)) = false := decide_eq_false (by omega)
  have HV := Lib.hid (show instB n ⟨9, a, b, 0, s, l⟩ = (s == ByteArray.empty) by rw [HE.out]; simp [hz])
  clear hz
  go_wp2_with fail
  refine (HNM.out _).mono ?_
  rintro r w4 ⟨rfl, hb4⟩
  have HB4 := Lib.hid (bthen HB3.out hb4)
  have d4 := Lib.cell_of_heap ((hb4.block _ (Array.getElem?_eq_some_iff.1 HIX3.out).1).trans HIX3.out) 4
  simp only [List.getElem?_toArray, List.getElem?_cons_zero, List.getElem?_cons_succ] at d4
  clear hb4 c0 c1 c2 c3 c4 c5
  go_wp2_with fail
  go_ret
  exact ⟨by rw [HV.out, ← ba_isEmpty]; rfl, HB4.out⟩
set_option maxRecDepth 100000 in
set_option maxHeartbeats 8000000 in
theorem refInst_p (i : In) (n : Int) (A : Option Addr) (cap : Nat) (w : World) (hS : Ints w (.slice A i.l.length cap) i.l) (hn : i.l.length * 8 ≤ 140737488355328) (hs : i.s.size < 9223372036854775808) (ho : i.o = 10) :
    Calls Try.prog 67 #[inV i (.slice A i.l.length cap), .int .i64 n] w fun e w' => e = .returned (.bool (instB n i)) ∧ Below w.heap.size w w' := by
  have HU := Lib.hid (fun (W : World) (hb : Below w.heap.size w W) => refUses_any i A cap W (hS.next hb) hn)
  have HUL := Lib.hid (show (usesI i).length * 8 ≤ 140737488355328 from by
    unfold usesI usesL
    repeat' split
    all_goals first | exact hn | simp)
  obtain ⟨o, a, b, k, s, l⟩ := i
  have HE := Lib.hid (instB_is n o a b k s l)
  unfold inV at HU ⊢
  simp only at hS hn hs HU HUL ho ⊢
  have HO := Lib.hid (show o ≤ 10 ∧ 10 ≤ o by omega)
  clear ho
  obtain ⟨nl, hnl⟩ : ∃ x, l.length = x := ⟨_, rfl⟩
  have HNL := Lib.hid (show decide (l = []) = decide (nl = 0) by rw [← hnl]; cases l <;> simp)
  have HME := Lib.hid (fun W : World => refName_any s W hs)
  have HNM := Lib.hid (fun W : World => refNamed_any o a b k s (.slice A nl cap) W)
  rw [hnl] at HU HE ⊢
  obtain ⟨U, hU⟩ : ∃ U, usesI ⟨o, a, b, k, s, l⟩ = U := ⟨_, rfl⟩
  rw [hU] at HU HE HUL
  obtain ⟨AM, hAM⟩ : ∃ x, amongB n U = x := ⟨_, rfl⟩
  have HBL := Lib.hid (fun (W : World) (A2 : Option Addr) (m c2 : Nat) (hm : U.length = m) (hI : Ints W (.slice A2 m c2) U) => refBelow_any n U A2 m c2 W hI (by have := HUL.out; omega))
  rw [hAM] at HE HBL
  rw [HNL.out] at HE
  clear hS hn hs hnl hU hAM HNL
  go_enter Try.func67, Try.ntmps67
  go_wp2_with fail
  have HBX := Lib.hid (balloc (Below.refl _ w) (.cells #[.int .i64 o, .int .i64 a, .int .i64 b, .int .u64 k, .string s, .slice A nl cap] 76))
  have HIX := Lib.hid (heap_alloc_new w (.cells #[.int .i64 o, .int .i64 a, .int .i64 b, .int .u64 k, .string s, .slice A nl cap] 76))
  generalize w.alloc (.cells #[.int .i64 o, .int .i64 a, .int .i64 b, .int .u64 k, .string s, .slice A nl cap] 76) = W1 at *
  refine (HU.out _ HBX.out).mono ?_
  rintro r w2 ⟨v', rfl, ho, hb⟩
  have HI2 := Lib.hid ho.ints
  obtain ⟨A2, c2, hv2⟩ := HI2.out.slice
  obtain ⟨nu, hnu⟩ : ∃ x, U.length = x := ⟨_, rfl⟩
  have HNU := Lib.hid (show U.length ≤ nu ∧ nu ≤ U.length by omega)
  have HI3 := Lib.hid (show Ints w2 (.slice A2 nu c2) U by rw [← hnu, ← hv2]; exact HI2.out)
  rw [hnu] at hv2
  subst hv2
  have HB2 := Lib.hid (bthen HBX.out hb)
  have HIX2 := Lib.hid ((hb.block _ (Array.getElem?_eq_some_iff.1 HIX.out).1).trans HIX.out)
  clear ho hb hnu
  go_wp2_with fail
  refine (HBL.out w2 A2 nu c2 (by have := HNU.out; omega) HI3.out).mono ?_
  rintro r w3 ⟨rfl, hb⟩
  have HB3 := Lib.hid (bthen HB2.out hb)
  have hix3 := (hb.block _ (Array.getElem?_eq_some_iff.1 HIX2.out).1).trans HIX2.out
  have c0 := Lib.cell_of_heap hix3 0
  have c1 := Lib.cell_of_heap hix3 1
  have c2 := Lib.cell_of_heap hix3 2
  have c3 := Lib.cell_of_heap hix3 3
  have c4 := Lib.cell_of_heap hix3 4
  have c5 := Lib.cell_of_heap hix3 5
  simp only [List.getElem?_toArray, List.getElem?_cons_zero, List.getElem?_cons_succ] at c0 c1 c2 c3 c4 c5
  have HIX3 := Lib.hid hix3
  clear hb hix3
  obtain rfl : o = 10 := by have := HO.out; omega
  have t1 : decide ((10 : Int) < 1) = false := rfl
  have t2 : decide ((16 : Int) < 10) = false := rfl
  cases AM with
  | false =>
    have HV := Lib.hid (show instB n ⟨10, a, b, k, s, l⟩ = false by rw [HE.out]; simp)
    go_wp2_with fail
    go_ret
    exact ⟨by rw [HV.out]; rfl, HB3.out⟩
  | true =>
  by_cases h6 : nl ≤ 6
  case neg =>
    have t3 : decide (6 < nl) = true := decide_eq_true (by omega)
    have t3' : decide ((6 : Int) < (nl : Int)) = true := decide_eq_true (by omega)
    have HV := Lib.hid (show instB n ⟨10, a, b, k, s, l⟩ = false by rw [HE.out]; simp [h6])
    go_wp2_with fail
    go_ret
    exact ⟨by rw [HV.out]; rfl, HB3.out⟩
  have t3 : decide (6 < nl) = false := decide_eq_false (by omega)
  have t3' : decide ((6 : Int) < (nl : Int)) = false := decide_eq_false (by omega)
  have HE := Lib.hid (show instB n ⟨10, a, b, k, s, l⟩ = ((aB 10 || a == 0) && (bB 10 || b == 0) && ((10 : Int) == 1 || k == 0) && ((10 : Int) == 14 || decide (nl = 0)) && (if hasB 10 then nameB s else s == ByteArray.empty)) by rw [HE.out, decide_eq_true (show 1 ≤ (10 : Int) by have := HO.out; omega), decide_eq_true (show (10 : Int) ≤ 16 by have := HO.out; omega), decide_eq_true h6]; rfl)
  clear h6
  rw [show aB 10 = true from rfl, show bB 10 = true from rfl, show hasB 10 = false from rfl, show ((10 : Int) == 1) = false from rfl, show ((10 : Int) == 14) = false from rfl] at HE
  rw [show hasB 10 = false from rfl] at HNM
  by_cases hk : k = 0
  case neg =>
    have hk1 : (k == 0) = false := by simpa using hk
    have hk2 : (k != 0) = true := by simpa using hk
    have hk3 : decide (k = 0) = false := decide_eq_false hk
    have HV := Lib.hid (show instB n ⟨10, a, b, k, s, l⟩ = false by rw [HE.out]; simp [hk])
    go_wp2_with fail
    go_ret
    exact ⟨by rw [HV.out]; rfl, HB3.out⟩
  subst hk
  by_cases hz : nl = 0
  case neg =>
    have t0 : decide (0 < nl) = true := decide_eq_true (by omega)
    have t0' : decide ((0 : Int) < (nl : Int)) = true := decide_eq_true (by omega)
    have HV := Lib.hid (show instB n ⟨10, a, b, 0, s, l⟩ = false by rw [HE.out]; simp [hz])
    go_wp2_with fail
    go_ret
    exact ⟨by rw [HV.out]; rfl, HB3.out⟩
  have t0 : decide (0 < nl) = false := decide_eq_false (by omega)
  have t0' : decide ((0 : Int) < (nl : Int)) = false := decide_eq_false (by omega)
  have HV := Lib.hid (show instB n ⟨10, a, b, 0, s, l⟩ = (s == ByteArray.empty) by rw [HE.out]; simp [hz])
  clear hz
  go_wp2_with fail
  refine (HNM.out _).mono ?_
  rintro r w4 ⟨rfl, hb4⟩
  have HB4 := Lib.hid (bthen HB3.out hb4)
  have d4 := Lib.cell_of_heap ((hb4.block _ (Array.getElem?_eq_some_iff.1 HIX3.out).1).trans HIX3.out) 4
  simp only [List.getElem?_toArray, List.getElem?_cons_zero, List.getElem?_cons_succ] at d4
  clear hb4 c0 c1 c2 c3 c4 c5
  go_wp2_with fail
  go_ret
  exact ⟨by rw [HV.out, ← ba_isEmpty]; rfl, HB4.out⟩
set_option maxRecDepth 100000 in
set_option maxHeartbeats 8000000 in
theorem refInst_q (i : In) (n : Int) (A : Option Addr) (cap : Nat) (w : World) (hS : Ints w (.slice A i.l.length cap) i.l) (hn : i.l.length * 8 ≤ 140737488355328) (hs : i.s.size < 9223372036854775808) (ho : i.o = 11) :
    Calls Try.prog 67 #[inV i (.slice A i.l.length cap), .int .i64 n] w fun e w' => e = .returned (.bool (instB n i)) ∧ Below w.heap.size w w' := by
  have HU := Lib.hid (fun (W : World) (hb : Below w.heap.size w W) => refUses_any i A cap W (hS.next hb) hn)
  have HUL := Lib.hid (show (usesI i).length * 8 ≤ 140737488355328 from by
    unfold usesI usesL
    repeat' split
    all_goals first | exact hn | simp)
  obtain ⟨o, a, b, k, s, l⟩ := i
  have HE := Lib.hid (instB_is n o a b k s l)
  unfold inV at HU ⊢
  simp only at hS hn hs HU HUL ho ⊢
  have HO := Lib.hid (show o ≤ 11 ∧ 11 ≤ o by omega)
  clear ho
  obtain ⟨nl, hnl⟩ : ∃ x, l.length = x := ⟨_, rfl⟩
  have HNL := Lib.hid (show decide (l = []) = decide (nl = 0) by rw [← hnl]; cases l <;> simp)
  have HME := Lib.hid (fun W : World => refName_any s W hs)
  have HNM := Lib.hid (fun W : World => refNamed_any o a b k s (.slice A nl cap) W)
  rw [hnl] at HU HE ⊢
  obtain ⟨U, hU⟩ : ∃ U, usesI ⟨o, a, b, k, s, l⟩ = U := ⟨_, rfl⟩
  rw [hU] at HU HE HUL
  obtain ⟨AM, hAM⟩ : ∃ x, amongB n U = x := ⟨_, rfl⟩
  have HBL := Lib.hid (fun (W : World) (A2 : Option Addr) (m c2 : Nat) (hm : U.length = m) (hI : Ints W (.slice A2 m c2) U) => refBelow_any n U A2 m c2 W hI (by have := HUL.out; omega))
  rw [hAM] at HE HBL
  rw [HNL.out] at HE
  clear hS hn hs hnl hU hAM HNL
  go_enter Try.func67, Try.ntmps67
  go_wp2_with fail
  have HBX := Lib.hid (balloc (Below.refl _ w) (.cells #[.int .i64 o, .int .i64 a, .int .i64 b, .int .u64 k, .string s, .slice A nl cap] 76))
  have HIX := Lib.hid (heap_alloc_new w (.cells #[.int .i64 o, .int .i64 a, .int .i64 b, .int .u64 k, .string s, .slice A nl cap] 76))
  generalize w.alloc (.cells #[.int .i64 o, .int .i64 a, .int .i64 b, .int .u64 k, .string s, .slice A nl cap] 76) = W1 at *
  refine (HU.out _ HBX.out).mono ?_
  rintro r w2 ⟨v', rfl, ho, hb⟩
  have HI2 := Lib.hid ho.ints
  obtain ⟨A2, c2, hv2⟩ := HI2.out.slice
  obtain ⟨nu, hnu⟩ : ∃ x, U.length = x := ⟨_, rfl⟩
  have HNU := Lib.hid (show U.length ≤ nu ∧ nu ≤ U.length by omega)
  have HI3 := Lib.hid (show Ints w2 (.slice A2 nu c2) U by rw [← hnu, ← hv2]; exact HI2.out)
  rw [hnu] at hv2
  subst hv2
  have HB2 := Lib.hid (bthen HBX.out hb)
  have HIX2 := Lib.hid ((hb.block _ (Array.getElem?_eq_some_iff.1 HIX.out).1).trans HIX.out)
  clear ho hb hnu
  go_wp2_with fail
  refine (HBL.out w2 A2 nu c2 (by have := HNU.out; omega) HI3.out).mono ?_
  rintro r w3 ⟨rfl, hb⟩
  have HB3 := Lib.hid (bthen HB2.out hb)
  have hix3 := (hb.block _ (Array.getElem?_eq_some_iff.1 HIX2.out).1).trans HIX2.out
  have c0 := Lib.cell_of_heap hix3 0
  have c1 := Lib.cell_of_heap hix3 1
  have c2 := Lib.cell_of_heap hix3 2
  have c3 := Lib.cell_of_heap hix3 3
  have c4 := Lib.cell_of_heap hix3 4
  have c5 := Lib.cell_of_heap hix3 5
  simp only [List.getElem?_toArray, List.getElem?_cons_zero, List.getElem?_cons_succ] at c0 c1 c2 c3 c4 c5
  have HIX3 := Lib.hid hix3
  clear hb hix3
  obtain rfl : o = 11 := by have := HO.out; omega
  have t1 : decide ((11 : Int) < 1) = false := rfl
  have t2 : decide ((16 : Int) < 11) = false := rfl
  cases AM with
  | false =>
    have HV := Lib.hid (show instB n ⟨11, a, b, k, s, l⟩ = false by rw [HE.out]; simp)
    go_wp2_with fail
    go_ret
    exact ⟨by rw [HV.out]; rfl, HB3.out⟩
  | true =>
  by_cases h6 : nl ≤ 6
  case neg =>
    have t3 : decide (6 < nl) = true := decide_eq_true (by omega)
    have t3' : decide ((6 : Int) < (nl : Int)) = true := decide_eq_true (by omega)
    have HV := Lib.hid (show instB n ⟨11, a, b, k, s, l⟩ = false by rw [HE.out]; simp [h6])
    go_wp2_with fail
    go_ret
    exact ⟨by rw [HV.out]; rfl, HB3.out⟩
  have t3 : decide (6 < nl) = false := decide_eq_false (by omega)
  have t3' : decide ((6 : Int) < (nl : Int)) = false := decide_eq_false (by omega)
  have HE := Lib.hid (show instB n ⟨11, a, b, k, s, l⟩ = ((aB 11 || a == 0) && (bB 11 || b == 0) && ((11 : Int) == 1 || k == 0) && ((11 : Int) == 14 || decide (nl = 0)) && (if hasB 11 then nameB s else s == ByteArray.empty)) by rw [HE.out, decide_eq_true (show 1 ≤ (11 : Int) by have := HO.out; omega), decide_eq_true (show (11 : Int) ≤ 16 by have := HO.out; omega), decide_eq_true h6]; rfl)
  clear h6
  rw [show aB 11 = true from rfl, show bB 11 = true from rfl, show hasB 11 = false from rfl, show ((11 : Int) == 1) = false from rfl, show ((11 : Int) == 14) = false from rfl] at HE
  rw [show hasB 11 = false from rfl] at HNM
  by_cases hk : k = 0
  case neg =>
    have hk1 : (k == 0) = false := by simpa using hk
    have hk2 : (k != 0) = true := by simpa using hk
    have hk3 : decide (k = 0) = false := decide_eq_false hk
    have HV := Lib.hid (show instB n ⟨11, a, b, k, s, l⟩ = false by rw [HE.out]; simp [hk])
    go_wp2_with fail
    go_ret
    exact ⟨by rw [HV.out]; rfl, HB3.out⟩
  subst hk
  by_cases hz : nl = 0
  case neg =>
    have t0 : decide (0 < nl) = true := decide_eq_true (by omega)
    have t0' : decide ((0 : Int) < (nl : Int)) = true := decide_eq_true (by omega)
    have HV := Lib.hid (show instB n ⟨11, a, b, 0, s, l⟩ = false by rw [HE.out]; simp [hz])
    go_wp2_with fail
    go_ret
    exact ⟨by rw [HV.out]; rfl, HB3.out⟩
  have t0 : decide (0 < nl) = false := decide_eq_false (by omega)
  have t0' : decide ((0 : Int) < (nl : Int)) = false := decide_eq_false (by omega)
  have HV := Lib.hid (show instB n ⟨11, a, b, 0, s, l⟩ = (s == ByteArray.empty) by rw [HE.out]; simp [hz])
  clear hz
  go_wp2_with fail
  refine (HNM.out _).mono ?_
  rintro r w4 ⟨rfl, hb4⟩
  have HB4 := Lib.hid (bthen HB3.out hb4)
  have d4 := Lib.cell_of_heap ((hb4.block _ (Array.getElem?_eq_some_iff.1 HIX3.out).1).trans HIX3.out) 4
  simp only [List.getElem?_toArray, List.getElem?_cons_zero, List.getElem?_cons_succ] at d4
  clear hb4 c0 c1 c2 c3 c4 c5
  go_wp2_with fail
  go_ret
  exact ⟨by rw [HV.out, ← ba_isEmpty]; rfl, HB4.out⟩
end Go.Proofs.Ytjldddpchiaalaa
namespace Go.Proofs.Ytjldddpchiaalaa
open Go.RowKit
theorem refInst_any (i : In) (n : Int) (A : Option Addr) (cap : Nat) (w : World) (hS : Ints w (.slice A i.l.length cap) i.l) (hn : i.l.length * 8 ≤ 140737488355328) (hs : i.s.size < 9223372036854775808) :
    Calls Try.prog 67 #[inV i (.slice A i.l.length cap), .int .i64 n] w fun e w' => e = .returned (.bool (instB n i)) ∧ Below w.heap.size w w' := by
  have hc : (i.o < 1 ∨ 16 < i.o) ∨ i.o = 1 ∨ i.o = 2 ∨ i.o = 3 ∨ i.o = 4 ∨ i.o = 5 ∨ i.o = 6 ∨ i.o = 7 ∨ i.o = 8 ∨ i.o = 9 ∨ i.o = 10 ∨ i.o = 11 ∨ i.o = 12 ∨ i.o = 13 ∨ i.o = 14 ∨ i.o = 15 ∨ i.o = 16 := by omega
  rcases hc with h | h | h | h | h | h | h | h | h | h | h | h | h | h | h | h | h
  · exact refInst_out i n A cap w hS hn hs h
  · exact refInst_a i n A cap w hS hn hs h
  · exact refInst_g i n A cap w hS hn hs h
  · exact refInst_h i n A cap w hS hn hs h
  · exact refInst_i i n A cap w hS hn hs h
  · exact refInst_j i n A cap w hS hn hs h
  · exact refInst_k i n A cap w hS hn hs h
  · exact refInst_l i n A cap w hS hn hs h
  · exact refInst_m i n A cap w hS hn hs h
  · exact refInst_n i n A cap w hS hn hs h
  · exact refInst_p i n A cap w hS hn hs h
  · exact refInst_q i n A cap w hS hn hs h
  · exact refInst_b i n A cap w hS hn hs h
  · exact refInst_c i n A cap w hS hn hs h
  · exact refInst_d i n A cap w hS hn hs h
  · exact refInst_e i n A cap w hS hn hs h
  · exact refInst_f i n A cap w hS hn hs h
end Go.Proofs.Ytjldddpchiaalaa
namespace Go.Proofs.Ytjldddpchiaalaa
open Go.ChangeShapes Go.WideShapes Go.ChangeAt Go.RowKit Go.Deep Go.Joins
/-- lengths that a machine can hold, ranges, and room for a copy -/
def InW (i : In) : Prop := InOk i ∧ (0 ≤ i.k ∧ i.k ≤ 18446744073709551615) ∧ i.l.length * 8 ≤ 140737488355328
def BkW (b : Bk) : Prop := BkOk b ∧ ∀ i ∈ b.i, InW i
def FnW (f : Fn) : Prop := FnOk f ∧ ∀ b ∈ f.l, BkW b
def GlW (g : Gl) : Prop := GlOk g ∧ (0 ≤ g.i ∧ g.i ≤ 18446744073709551615)
def MdW (m : Md) : Prop := (∀ f ∈ m.f, FnW f) ∧ ∀ g ∈ m.g, GlW g
section
variable {H : Type} {enc : TypeId × Value → H} {W : World} {base : Nat} {spare : Nat → Bool} {held : Bool}
theorem weightsAll_mem {P : Program} {e : TypeId} : ∀ {l : List (DataW H)} {d : DataW H}, d ∈ l → ∀ k ∈ d.weights P e, k ∈ DataW.weightsAll P e l
  | x :: l, d, hd, k, hk => by
    rw [DataW.weightsAll]
    rcases List.mem_cons.1 hd with rfl | h
    · exact List.mem_append_left _ hk
    · exact List.mem_append_right _ (weightsAll_mem h k hk)
/-- a row that came in, opened: whatever its elements are, with their weights -/
theorem open_roww {α : Type} {t e : TypeId} {sz : Nat} (P : World → Nat → Nat → α → Prop) (ok : α → Prop) {W : World} {base : Nat} {spare : Nat → Bool} {held : Bool} {c : Value} {fuel : Nat} {y : DataW H × List MemPlace}
    (ht : Try.prog.underlying t = some (.slice e)) (hsz : Try.prog.cellsOf e = sz) (hpos : 0 < sz)
    (hel : ∀ (n b off : Nat) (cs : List Value) (y : DataW H × List MemPlace), (∀ j, j < sz → W.cell? ⟨b, off + j, none⟩ = cs[j]?) → cs.length = sz → DataW.trod enc Try.prog W base spare held n e cs = some y → (∀ k ∈ y.1.weights Try.prog e, k ≤ reachBytes) → ∃ x, ok x ∧ P W b off x)
    (h : DataW.trod enc Try.prog W base spare held fuel t [c] = some y) (hz : ∀ k ∈ y.1.weights Try.prog t, k ≤ reachBytes) :
    ∃ (A : Option Addr) (cap : Nat) (l : List α), c = .slice A l.length cap ∧ RowOf sz P W c l ∧ (∀ x ∈ l, ok x) ∧ l.length ≤ cap ∧ cap ≤ maxLen ∧ l.length * Try.prog.bytesOf e ≤ 140737488351232 := by
  rcases open_slice ht h with ⟨h1, _⟩ | ⟨a, len, cap, m, n, D, Pl, hcs, _, hl, hm, hmm, hy, hat⟩
  · simp only [List.cons.injEq, and_true] at h1
    subst h1
    exact ⟨none, 0, [], rfl, .inl ⟨rfl, .inl rfl⟩, by simp, Nat.le_refl _, by unfold maxLen; omega, by simp⟩
  · simp only [List.cons.injEq, and_true] at hcs
    subst hcs
    have hlm : len ≤ m := by rw [hmm]; split <;> omega
    have hy1 : y.1 = .slice ((List.range len).map D) ((List.range (m - len)).map fun j => D (len + j)) := by rw [hy]
    rw [hy1] at hz
    simp only [DataW.weights, ht, List.length_map, List.length_range, List.mem_cons, List.mem_append] at hz
    have hroom : len * Try.prog.bytesOf e ≤ 140737488351232 := by
      have h1 := hz _ (.inl rfl)
      have h3 : reachBytes = 140737488351232 := rfl
      rw [h3] at h1
      exact Nat.le_trans (Nat.mul_le_mul_right _ (Nat.le_add_right len (m - len))) h1
    by_cases h0 : 0 < len
    · obtain ⟨b, off, spot⟩ := a
      have hspot : spot = none ∧ b < W.heap.size := by
        obtain ⟨cs', hc, ht⟩ := hat 0 (by omega)
        rw [hsz] at hc
        obtain ⟨_, hcl, hca⟩ := World.cells?_some hc
        have k0 := hca 0 hpos
        have hl0 : cs'[0]? = some (cs'[0]'(by omega)) := List.getElem?_eq_getElem (by omega)
        rw [hl0] at k0
        have hb := World.block_lt_of_cell? W _ k0
        refine ⟨by simpa [Addr.add] using World.cell?_spot k0, ?_⟩
        revert hb
        unfold Addr.add
        (repeat' split) <;> simp
      obtain ⟨rfl, hb⟩ := hspot
      have cells : ∀ i, i < len → ∃ x, ok x ∧ P W b (off + i * sz) x := fun i hi => by
        obtain ⟨cs', hc, ht⟩ := hat i (by omega)
        rw [hsz] at hc
        obtain ⟨_, hcl, hca⟩ := World.cells?_some hc
        refine hel n b (off + i * sz) cs' _ (fun j hj => ?_) hcl ht (fun k hk => hz k (.inr (.inl (weightsAll_mem (List.mem_map.2 ⟨i, List.mem_range.2 hi, rfl⟩) k hk))))
        have k := hca j hj
        rwa [add_add, add_plain, ← Nat.add_assoc] at k
      obtain ⟨f, hf⟩ : ∃ f : Nat → α, ∀ i, i < len → ok (f i) ∧ P W b (off + i * sz) (f i) :=
        ⟨fun i => if hi : i < len then Classical.choose (cells i hi) else Classical.choose (cells 0 h0), fun i hi => by
          simp only [dif_pos hi]
          exact Classical.choose_spec (cells i hi)⟩
      refine ⟨some ⟨b, off, none⟩, cap, (List.range len).map f, by simp, .inr ⟨by simp; exact h0, b, off, cap, by simp, hb, fun i hi => ?_⟩, fun x hx => ?_, by simpa using hl, hm, by simpa using hroom⟩
      · rw [List.getElem_map, List.getElem_range]
        exact (hf i (by simpa using hi)).2
      · obtain ⟨i, hi, rfl⟩ := List.mem_map.1 hx
        exact (hf i (List.mem_range.1 hi)).1
    · obtain rfl : len = 0 := by omega
      exact ⟨_, _, [], rfl, .inl ⟨rfl, .inr ⟨_, _, rfl⟩⟩, by simp, hl, hm, by simp⟩
theorem openw_ints {c : Value} {fuel : Nat} {y : DataW H × List MemPlace} (h : DataW.trod enc Try.prog W base spare held fuel 70 [c] = some y) (hz : ∀ k ∈ y.1.weights Try.prog 70, k ≤ reachBytes) :
    ∃ (A : Option Addr) (cap : Nat) (l : List Int), c = .slice A l.length cap ∧ Ints W c l ∧ l.length ≤ 9223372036854775807 ∧ l.length * 8 ≤ 140737488355328 := by
  obtain ⟨A, cap, l, rfl, hr, -, h1, h2, h3⟩ := open_roww (α := Int) (sz := 1) (fun W b off x => W.cell? ⟨b, off, none⟩ = some (.int .i64 x)) (fun _ => True) Try.underlying70 cellsInt (by omega) (fun n b off cs y hc hl ht _ => by
    match cs, hl with
    | [c], _ =>
      obtain ⟨x, e, -, -⟩ := DataW.trod_int Try.underlying3 ht
      simp only [List.cons.injEq, and_true] at e
      subst e
      exact ⟨x, trivial, by simpa using hc 0 (by omega)⟩) h hz
  rw [show Try.prog.bytesOf 3 = 8 by kernel_rfl] at h3
  refine ⟨A, cap, l, rfl, ?_, by rw [maxLen_is] at h2; omega, by omega⟩
  rcases hr with hr | ⟨h0, b, off, c, e, hb, hat⟩
  · exact .inl hr
  · exact .inr ⟨h0, b, off, c, e, hb, fun i hi => by simpa using hat i hi⟩
theorem openw_inst (n b off : Nat) (cs : List Value) (y : DataW H × List MemPlace) (hc : ∀ j, j < 6 → W.cell? ⟨b, off + j, none⟩ = cs[j]?) (_hl : cs.length = 6) (ht : DataW.trod enc Try.prog W base spare held n 76 cs = some y) (hz : ∀ k ∈ y.1.weights Try.prog 76, k ≤ reachBytes) : ∃ x, InW x ∧ InAt W b off x := by
  obtain ⟨ys, q, hd, _, _, hg⟩ := row_of Try.underlying76 (by kernel_rfl) cellsInst ht
  obtain ⟨c0, y0, g0, _, r0⟩ := hg 0 _ rfl
  obtain ⟨c1, y1, g1, _, r1⟩ := hg 1 _ rfl
  obtain ⟨c2, y2, g2, _, r2⟩ := hg 2 _ rfl
  obtain ⟨c3, y3, g3, _, r3⟩ := hg 3 _ rfl
  obtain ⟨c4, y4, g4, _, r4⟩ := hg 4 _ rfl
  obtain ⟨c5, y5, g5, hy5, r5⟩ := hg 5 _ rfl
  obtain ⟨z0, e0, _, _⟩ := DataW.trod_int Try.underlying3 r0
  obtain ⟨z1, e1, _, _⟩ := DataW.trod_int Try.underlying3 r1
  obtain ⟨z2, e2, _, _⟩ := DataW.trod_int Try.underlying3 r2
  obtain ⟨z3, e3, _, w3⟩ := DataW.trod_int Try.underlying35 r3
  obtain ⟨z4, e4, _, w4⟩ := DataW.trod_string Try.underlying9 r4
  obtain ⟨A, cap, l, rfl, hi, hl9, hl8⟩ := openw_ints r5 (fun k hk => hz k (by
      have hq : (ys.map (·.1))[5]? = some y5.1 := by rw [List.getElem?_map, hy5]; rfl
      (try simp only at hd)
      rw [hd]
      simp only [DataW.weights, Try.underlying76]
      exact DataW.weights_mem_each (j := 5) rfl hq _ hk))
  simp only [List.cons.injEq, and_true] at e0 e1 e2 e3 e4
  subst e0 e1 e2 e3 e4
  exact ⟨⟨z0, z1, z2, z3, z4, l⟩, ⟨⟨by have := w4; rw [maxLen_is] at this; simp only; omega, hl9⟩, bounds_u64 w3, hl8⟩, (hc 0 (by omega)).trans g0, (hc 1 (by omega)).trans g1, (hc 2 (by omega)).trans g2, (hc 3 (by omega)).trans g3, (hc 4 (by omega)).trans g4, A, cap, (hc 5 (by omega)).trans g5, hi⟩
theorem openw_insts {c : Value} {fuel : Nat} {y : DataW H × List MemPlace} (h : DataW.trod enc Try.prog W base spare held fuel 69 [c] = some y) (hz : ∀ k ∈ y.1.weights Try.prog 69, k ≤ reachBytes) :
    ∃ (A : Option Addr) (cap : Nat) (l : List In), c = .slice A l.length cap ∧ Insts W c l ∧ (∀ x ∈ l, InW x) ∧ l.length ≤ 9223372036854775807 := by
  obtain ⟨A, cap, l, rfl, hr, ho, h1, h2, -⟩ := open_roww InAt InW Try.underlying69 cellsInst (by omega) openw_inst h hz
  exact ⟨A, cap, l, rfl, hr, ho, by rw [maxLen_is] at h2; omega⟩
set_option maxRecDepth 100000 in
theorem openw_blk (n : Nat) (cs : List Value) (y : DataW H × List MemPlace) (hl : cs.length = 8) (ht : DataW.trod enc Try.prog W base spare held n 74 cs = some y) (hz : ∀ k ∈ y.1.weights Try.prog 74, k ≤ reachBytes) :
    ∃ (x : Bk) (A A5 A7 : Option Addr) (c c5 c7 : Nat), BkW x ∧ cs = [.int .i64 x.p, .slice A x.i.length c, .int .i64 x.e.k, .int .i64 x.e.a, .int .i64 x.e.t, .slice A5 x.e.l.length c5, .int .i64 x.e.e, .slice A7 x.e.m.length c7] ∧
      Insts W (.slice A x.i.length c) x.i ∧ Ints W (.slice A5 x.e.l.length c5) x.e.l ∧ Ints W (.slice A7 x.e.m.length c7) x.e.m := by
  match cs, hl with
  | [b0, b1, b2, b3, b4, b5, b6, b7], _ =>
    obtain ⟨ys, m, _, hd, _, hyl, hf⟩ := DataW.trod_struct Try.underlying74 ht
    have f0 : DataW.trod enc Try.prog W base spare held m 3 (List.take (Try.prog.cellsOf 3) (List.drop 0 [b0, b1, b2, b3, b4, b5, b6, b7])) = ys[0]? := hf 0 _ rfl
    have f1 : DataW.trod enc Try.prog W base spare held m 69 (List.take (Try.prog.cellsOf 69) (List.drop 1 [b0, b1, b2, b3, b4, b5, b6, b7])) = ys[1]? := hf 1 _ rfl
    have f2 : DataW.trod enc Try.prog W base spare held m 72 (List.take (Try.prog.cellsOf 72) (List.drop 2 [b0, b1, b2, b3, b4, b5, b6, b7])) = ys[2]? := hf 2 _ rfl
    rw [cellsInt] at f0
    rw [cellsInsts] at f1
    rw [cellsTerm] at f2
    simp only [List.drop_zero, List.drop_succ_cons, List.take_succ_cons, List.take_zero] at f0 f1 f2
    have hyl' : ys.length = 3 := hyl
    rw [List.getElem?_eq_getElem (by omega)] at f0 f1 f2
    obtain ⟨z0, e0, _, _⟩ := DataW.trod_int Try.underlying3 f0
    obtain ⟨A, c, l, rfl, hI, hok, h9⟩ := openw_insts f1 (fun k hk => hz k (by
      have hq : (ys.map (·.1))[1]? = some (ys[1]'(by omega)).1 := by rw [List.getElem?_map, List.getElem?_eq_getElem (by omega)]; rfl
      have hd1 := congrArg Prod.fst hd
      simp only at hd1
      rw [hd1]
      simp only [DataW.weights, Try.underlying74]
      exact DataW.weights_mem_each (j := 1) rfl hq _ hk))
    obtain ⟨_, q, _, _, _, hg⟩ := row_of Try.underlying72 (by kernel_rfl) cellsTerm f2
    obtain ⟨c0, y0, g0, _, r0⟩ := hg 0 _ rfl
    obtain ⟨c1, y1, g1, _, r1⟩ := hg 1 _ rfl
    obtain ⟨c2, y2, g2, _, r2⟩ := hg 2 _ rfl
    obtain ⟨c3, y3, g3, _, r3⟩ := hg 3 _ rfl
    obtain ⟨c4, y4, g4, _, r4⟩ := hg 4 _ rfl
    obtain ⟨c5, y5, g5, _, r5⟩ := hg 5 _ rfl
    obtain rfl : b2 = c0 := Option.some.inj g0
    obtain rfl : b3 = c1 := Option.some.inj g1
    obtain rfl : b4 = c2 := Option.some.inj g2
    obtain rfl : b5 = c3 := Option.some.inj g3
    obtain rfl : b6 = c4 := Option.some.inj g4
    obtain rfl : b7 = c5 := Option.some.inj g5
    obtain ⟨t0, k0, _, _⟩ := DataW.trod_int Try.underlying3 r0
    obtain ⟨t1, k1, _, _⟩ := DataW.trod_int Try.underlying3 r1
    obtain ⟨t2, k2, _, _⟩ := DataW.trod_int Try.underlying3 r2
    obtain ⟨A5, c5, l5, rfl, h5, h59⟩ := open_ints r3
    obtain ⟨t4, k4, _, _⟩ := DataW.trod_int Try.underlying3 r4
    obtain ⟨A7, c7, l7, rfl, h7, h79⟩ := open_ints r5
    simp only [List.cons.injEq, and_true] at e0 k0 k1 k2 k4
    subst e0 k0 k1 k2 k4
    exact ⟨⟨z0, l, ⟨t0, t1, t2, l5, t4, l7⟩⟩, A, A5, A7, c, c5, c7, ⟨⟨h9, h59, h79, fun i hi => (hok i hi).1⟩, hok⟩, rfl, hI, h5, h7⟩
theorem openw_block (n b off : Nat) (cs : List Value) (y : DataW H × List MemPlace) (hc : ∀ j, j < 8 → W.cell? ⟨b, off + j, none⟩ = cs[j]?) (hl : cs.length = 8) (ht : DataW.trod enc Try.prog W base spare held n 74 cs = some y) (hz : ∀ k ∈ y.1.weights Try.prog 74, k ≤ reachBytes) : ∃ x, BkW x ∧ BkAt W b off x := by
  obtain ⟨x, A, A5, A7, c, c5, c7, ok, rfl, h1, h5, h7⟩ := openw_blk n cs y hl ht hz
  exact ⟨x, ok, hc 0 (by omega), ⟨A, c, hc 1 (by omega), h1⟩, hc 2 (by omega), hc 3 (by omega), hc 4 (by omega), ⟨A5, c5, hc 5 (by omega), h5⟩, hc 6 (by omega), A7, c7, hc 7 (by omega), h7⟩
theorem openw_blocks {c : Value} {fuel : Nat} {y : DataW H × List MemPlace} (h : DataW.trod enc Try.prog W base spare held fuel 58 [c] = some y) (hz : ∀ k ∈ y.1.weights Try.prog 58, k ≤ reachBytes) :
    ∃ (A : Option Addr) (cap : Nat) (l : List Bk), c = .slice A l.length cap ∧ Blocks W c l ∧ (∀ x ∈ l, BkW x) ∧ l.length ≤ 9223372036854775807 := by
  obtain ⟨A, cap, l, rfl, hr, ho, h1, h2, -⟩ := open_roww BkAt BkW Try.underlying58 cellsBlock (by omega) openw_block h hz
  exact ⟨A, cap, l, rfl, hr, ho, by rw [maxLen_is] at h2; omega⟩
theorem openw_fnc (n : Nat) (cs : List Value) (y : DataW H × List MemPlace) (hl : cs.length = 4) (ht : DataW.trod enc Try.prog W base spare held n 60 cs = some y) (hz : ∀ k ∈ y.1.weights Try.prog 60, k ≤ reachBytes) :
    ∃ (x : Fn) (A : Option Addr) (c : Nat), FnW x ∧ cs = [.string x.s, .int .i64 x.b, .int .i64 x.p, .slice A x.l.length c] ∧ Blocks W (.slice A x.l.length c) x.l := by
  match cs, hl with
  | [b0, b1, b2, b3], _ =>
    obtain ⟨ys, q, hd, _, _, hg⟩ := row_of Try.underlying60 (by kernel_rfl) cellsFunc ht
    obtain ⟨c0, y0, g0, _, r0⟩ := hg 0 _ rfl
    obtain ⟨c1, y1, g1, _, r1⟩ := hg 1 _ rfl
    obtain ⟨c2, y2, g2, _, r2⟩ := hg 2 _ rfl
    obtain ⟨c3, y3, g3, hy3, r3⟩ := hg 3 _ rfl
    obtain rfl : b0 = c0 := Option.some.inj g0
    obtain rfl : b1 = c1 := Option.some.inj g1
    obtain rfl : b2 = c2 := Option.some.inj g2
    obtain rfl : b3 = c3 := Option.some.inj g3
    obtain ⟨z0, e0, _, w0⟩ := DataW.trod_string Try.underlying9 r0
    obtain ⟨z1, e1, _, _⟩ := DataW.trod_int Try.underlying3 r1
    obtain ⟨z2, e2, _, _⟩ := DataW.trod_int Try.underlying3 r2
    obtain ⟨A, c, l, rfl, hB, hok, h9⟩ := openw_blocks r3 (fun k hk => hz k (by
      have hq : (ys.map (·.1))[3]? = some y3.1 := by rw [List.getElem?_map, hy3]; rfl
      (try simp only at hd)
      rw [hd]
      simp only [DataW.weights, Try.underlying60]
      exact DataW.weights_mem_each (j := 3) rfl hq _ hk))
    simp only [List.cons.injEq, and_true] at e0 e1 e2
    subst e0 e1 e2
    exact ⟨⟨z0, z1, z2, l⟩, A, c, ⟨⟨by have := w0; rw [maxLen_is] at this; simp only; omega, h9, fun b hb => (hok b hb).1⟩, hok⟩, rfl, hB⟩
theorem openw_func_at (n b off : Nat) (cs : List Value) (y : DataW H × List MemPlace) (hc : ∀ j, j < 4 → W.cell? ⟨b, off + j, none⟩ = cs[j]?) (hl : cs.length = 4) (ht : DataW.trod enc Try.prog W base spare held n 60 cs = some y) (hz : ∀ k ∈ y.1.weights Try.prog 60, k ≤ reachBytes) : ∃ x, FnW x ∧ FnAt W b off x := by
  obtain ⟨x, A, c, ok, rfl, h1⟩ := openw_fnc n cs y hl ht hz
  exact ⟨x, ok, hc 0 (by omega), hc 1 (by omega), hc 2 (by omega), A, c, hc 3 (by omega), h1⟩
theorem openw_glob_at (n b off : Nat) (cs : List Value) (y : DataW H × List MemPlace) (hc : ∀ j, j < 4 → W.cell? ⟨b, off + j, none⟩ = cs[j]?) (_hl : cs.length = 4) (ht : DataW.trod enc Try.prog W base spare held n 62 cs = some y) (_hz : ∀ k ∈ y.1.weights Try.prog 62, k ≤ reachBytes) : ∃ x, GlW x ∧ GlAt W b off x := by
  obtain ⟨ys, q, _, _, _, hg⟩ := row_of Try.underlying62 (by kernel_rfl) cellsGlob ht
  obtain ⟨c0, y0, g0, _, r0⟩ := hg 0 _ rfl
  obtain ⟨c1, y1, g1, _, r1⟩ := hg 1 _ rfl
  obtain ⟨c2, y2, g2, _, r2⟩ := hg 2 _ rfl
  obtain ⟨c3, y3, g3, _, r3⟩ := hg 3 _ rfl
  obtain ⟨z0, e0, _, w0⟩ := DataW.trod_string Try.underlying9 r0
  obtain ⟨z1, e1, _, _⟩ := DataW.trod_int Try.underlying3 r1
  obtain ⟨z2, e2, _⟩ := DataW.trod_bool Try.underlying4 r2
  obtain ⟨z3, e3, _, w3⟩ := DataW.trod_int Try.underlying35 r3
  simp only [List.cons.injEq, and_true] at e0 e1 e2 e3
  subst e0 e1 e2 e3
  exact ⟨⟨z0, z1, z2, z3⟩, ⟨by have := w0; rw [maxLen_is] at this; show z0.size < _; omega, bounds_u64 w3⟩, (hc 0 (by omega)).trans g0, (hc 1 (by omega)).trans g1, (hc 2 (by omega)).trans g2, (hc 3 (by omega)).trans g3⟩
theorem openw_mod (n : Nat) (cs : List Value) (y : DataW H × List MemPlace) (hl : cs.length = 2) (ht : DataW.trod enc Try.prog W base spare held n 25 cs = some y) (hz : ∀ k ∈ y.1.weights Try.prog 25, k ≤ reachBytes) :
    ∃ (m : Md) (F G : Option Addr) (cf cg : Nat), (MdOk m ∧ MdW m) ∧ cs = [.slice F m.f.length cf, .slice G m.g.length cg] ∧ MdAt W (.slice F m.f.length cf) (.slice G m.g.length cg) m := by
  match cs, hl with
  | [b0, b1], _ =>
    obtain ⟨ys, q, hd, _, _, hg⟩ := row_of Try.underlying25 (by kernel_rfl) cellsModule ht
    obtain ⟨c0, y0, g0, hy0, r0⟩ := hg 0 _ rfl
    obtain ⟨c1, y1, g1, hy1, r1⟩ := hg 1 _ rfl
    obtain rfl : b0 = c0 := Option.some.inj g0
    obtain rfl : b1 = c1 := Option.some.inj g1
    obtain ⟨A, cap, l, rfl, hr, ho, h1, h2, -⟩ := open_roww FnAt FnW Try.underlying22 cellsFunc (by omega) openw_func_at r0 (fun k hk => hz k (by
      have hq : (ys.map (·.1))[0]? = some y0.1 := by rw [List.getElem?_map, hy0]; rfl
      (try simp only at hd)
      rw [hd]
      simp only [DataW.weights, Try.underlying25]
      exact DataW.weights_mem_each (j := 0) rfl hq _ hk))
    obtain ⟨A', cap', l', rfl, hr', ho', h1', h2', -⟩ := open_roww GlAt GlW Try.underlying23 cellsGlob (by omega) openw_glob_at r1 (fun k hk => hz k (by
      have hq : (ys.map (·.1))[1]? = some y1.1 := by rw [List.getElem?_map, hy1]; rfl
      (try simp only at hd)
      rw [hd]
      simp only [DataW.weights, Try.underlying25]
      exact DataW.weights_mem_each (j := 1) rfl hq _ hk))
    rw [maxLen_is] at h2 h2'
    exact ⟨⟨l, l'⟩, A, A', cap, cap', ⟨⟨fun f hf => (ho f hf).1, fun g hg => (ho' g hg).1, by simp only; omega, by simp only; omega⟩, ho, ho'⟩, rfl, hr, hr'⟩
set_option maxRecDepth 100000 in
theorem argw_module {r : Reach} {b0 : Nat} {v : Value} {d : DataW H} {p : List MemPlace} (hv : Value.okWide Try.prog W r b0 25 v) (h : DataW.Trod enc Try.prog W base spare held 25 v d p) (hz : ∀ k ∈ d.weights Try.prog 25, k ≤ reachBytes) :
    ∃ (m : Md) (F G : Option Addr) (cf cg : Nat), v = .agg #[.slice F m.f.length cf, .slice G m.g.length cg] ∧ (MdOk m ∧ MdW m) ∧ MdAt W (.slice F m.f.length cf) (.slice G m.g.length cg) m := by
  obtain ⟨cs, rfl, hsz⟩ := okWide_struct Try.underlying25 hv
  obtain ⟨l⟩ := cs
  obtain ⟨fuel, hf⟩ := h
  obtain ⟨m, F, G, cf, cg, ok, e, hA⟩ := openw_mod fuel l _ (hsz.trans cellsModule) hf hz
  subst e
  exact ⟨m, F, G, cf, cg, rfl, ok, hA⟩
end
end Go.Proofs.Ytjldddpchiaalaa
namespace Go.Proofs.Ytjldddpchiaalaa
open Go.RowKit
theorem instsB_app : ∀ (l k : List In) (p : Int), instsB p (l ++ k) = (instsB p l && instsB (p + l.length) k)
  | [], k, p => by rw [List.nil_append, instsB, List.length_nil]; simp
  | x :: l, k, p => by
    rw [List.cons_append, instsB, instsB, instsB_app l k (p + 1), List.length_cons, Bool.and_assoc, show p + 1 + (l.length : Int) = p + ((l.length + 1 : Nat) : Int) by omega]
theorem instsB_take {l : List In} {p : Int} {j : Nat} (hj : j < l.length) : instsB p (l.take (j + 1)) = (instsB p (l.take j) && instB (p + j) l[j]) := by
  rw [List.take_succ_eq_append_getElem hj, instsB_app, List.length_take, show min j l.length = j by omega]
  simp [instsB]
theorem instsB_no {l : List In} {p : Int} {j : Nat} (hj : j < l.length) (h : instB (p + j) l[j] = false) : instsB p l = false := by
  have e := instsB_app (l.take (j + 1)) (l.drop (j + 1)) p
  rw [List.take_append_drop, instsB_take hj, h] at e
  rw [e]
  simp
theorem goesB_neg {all : List Bk} {n tt : Int} {l : List Int} (h : tt < 0) : goesB all n tt l = false := by
  unfold goesB
  rw [decide_eq_false (by omega : ¬ 0 ≤ tt)]
  rfl
theorem goesB_big {all : List Bk} {n tt : Int} {l : List Int} (h : (all.length : Int) ≤ tt) : goesB all n tt l = false := by
  unfold goesB
  rw [decide_eq_false (by omega : ¬ tt < (all.length : Int))]
  simp
theorem goesB_at {all : List Bk} {n : Int} {i : Nat} {l : List Int} (hi : i < all.length) : goesB all n (i : Int) l = (((l.length : Int) == all[i].p) && amongB n l) := by
  unfold goesB
  rw [decide_eq_true (by omega : (0 : Int) ≤ (i : Int)), decide_eq_true (by omega : (i : Int) < (all.length : Int)), Int.toNat_natCast, List.getElem?_eq_getElem hi]
  rfl
theorem endB_jump (all : List Bk) (n a t e : Int) (l m : List Int) : endB all n ⟨1, a, t, l, e, m⟩ = (goesB all n t l && a == 0 && e == 0 && decide (m = [])) := by
  unfold endB
  rw [if_pos rfl]
theorem endB_if (all : List Bk) (n a t e : Int) (l m : List Int) : endB all n ⟨2, a, t, l, e, m⟩ = ((decide (0 ≤ a) && decide (a < n)) && goesB all n t l && goesB all n e m) := by
  unfold endB
  rw [if_neg (show ¬ (2 : Int) = 1 by decide), if_pos rfl, among_one]
theorem endB_ret (all : List Bk) (n a t e : Int) (l m : List Int) : endB all n ⟨3, a, t, l, e, m⟩ = ((decide (0 ≤ a) && decide (a < n)) && t == 0 && decide (l = []) && e == 0 && decide (m = [])) := by
  unfold endB
  rw [if_neg (show ¬ (3 : Int) = 1 by decide), if_neg (show ¬ (3 : Int) = 2 by decide), if_pos rfl, among_one]
theorem endB_out (all : List Bk) (n k a t e : Int) (l m : List Int) (h1 : k ≠ 1) (h2 : k ≠ 2) (h3 : k ≠ 3) : endB all n ⟨k, a, t, l, e, m⟩ = false := by
  unfold endB
  rw [if_neg h1, if_neg h2, if_neg h3]
theorem nil_len {l : List Int} {n : Nat} (h : l.length = n) : decide (l = []) = ((n : Int) == 0) := by
  subst h
  cases l <;> simp
  omega
set_option maxRecDepth 100000 in
set_option maxHeartbeats 2000000 in
theorem refGoes_any (s : ByteArray) (b p : Int) (bl : List Bk) (C A : Option Addr) (na ca nl cl : Nat) (tt n : Int) (l : List Int) (w : World) (hna : bl.length = na) (h9 : na ≤ 9223372036854775807) (hnl : l.length = nl) (hl9 : nl ≤ 9223372036854775807)
    (hS : Blocks w (.slice C na ca) bl) (hl : Ints w (.slice A nl cl) l) :
    Calls Try.prog 68 #[.agg #[.string s, .int .i64 b, .int .i64 p, .slice C na ca], .int .i64 tt, .slice A nl cl, .int .i64 n] w fun e w' => e = .returned (.bool (goesB bl n tt l)) ∧ Below w.heap.size w w' := by
  have HBW := Lib.hid (balloc (Below.refl _ w) (.cells #[.string s, .int .i64 b, .int .i64 p, .slice C na ca] 60))
  have HIN := Lib.hid (heap_alloc_new w (.cells #[.string s, .int .i64 b, .int .i64 p, .slice C na ca] 60))
  have HL := Lib.hid (fun (W : World) (hb : Below w.heap.size w W) => refBelow_any n l A nl cl W (hl.next hb) hl9)
  have n9 : (na : Int) ≤ 9223372036854775807 := by omega
  go_enter Try.func68, Try.ntmps68
  go_upto_region 1 with fail
  generalize w.alloc (.cells #[.string s, .int .i64 b, .int .i64 p, .slice C na ca] 60) = W0 at *
  have c3 := Lib.cell_of_heap HIN.out 3
  simp only [List.getElem?_toArray, List.getElem?_cons_zero, List.getElem?_cons_succ] at c3
  by_cases h0 : tt < 0
  · have t0 : decide (tt < 0) = true := decide_eq_true h0
    have HV := Lib.hid (goesB_neg (all := bl) (n := n) (l := l) h0)
    clear hna h9 hnl hl9 hS hl h0
    go_wp2_with fail
    go_ret
    exact ⟨by rw [HV.out]; rfl, HBW.out⟩
  have t0 : decide (tt < 0) = false := decide_eq_false h0
  by_cases h1 : (na : Int) ≤ tt
  · have t1 : decide ((na : Int) ≤ tt) = true := decide_eq_true h1
    have HV := Lib.hid (goesB_big (all := bl) (n := n) (l := l) (by rw [hna]; exact h1))
    clear hna h9 hnl hl9 hS hl h0 h1
    go_wp2_with fail
    go_ret
    exact ⟨by rw [HV.out]; rfl, HBW.out⟩
  have t1 : decide ((na : Int) ≤ tt) = false := decide_eq_false h1
  obtain ⟨i, rfl⟩ : ∃ i : Nat, tt = i := ⟨tt.toNat, by omega⟩
  have hi : i < bl.length := by omega
  obtain ⟨b1, off, hA, hbl, e0⟩ := RowOf.at_ hS hi
  subst hA
  have c0 := (cellNext hbl HBW.out _).trans e0.1
  have HV := Lib.hid (goesB_at (n := n) (l := l) hi)
  obtain ⟨P, hP⟩ : ∃ P, bl[i].p = P := ⟨_, rfl⟩
  rw [hP] at c0 HV
  rw [hnl] at HV
  have i0 : (0 : Int) ≤ (i : Int) := by omega
  have i1 : (i : Int) < (na : Int) := by omega
  have t1' : decide (na ≤ i) = false := decide_eq_false (by omega)
  clear hna h9 hnl hl9 hS hl h0 h1 hP e0 hi hbl
  cases hq : ((nl : Int) == P) with
  | false =>
    have HF := Lib.hid (show goesB bl n i l = false by rw [HV.out, hq]; rfl)
    go_wp2_with fail
    go_ret
    exact ⟨by rw [HF.out]; rfl, HBW.out⟩
  | true =>
    have HF := Lib.hid (show goesB bl n i l = amongB n l by rw [HV.out, hq]; rfl)
    go_wp2_with fail
    refine (HL.out _ HBW.out).mono ?_
    rintro r w1 ⟨rfl, hb⟩
    have HB := Lib.hid (bthen HBW.out hb)
    clear hb
    go_wp2_with fail
    go_ret
    exact ⟨by rw [HF.out]; rfl, HB.out⟩
theorem insbox_next {w W W' : World} {B b2 o : Nat} {c0 c1 d0 d1 d2 d3 d4 d5 : Value} (hb : Below W.heap.size W W') (h : W.cell? ⟨B, 0, none⟩ = some c0 ∧ W.cell? ⟨B, 1, none⟩ = some c1 ∧ W.cell? ⟨b2, o, none⟩ = some d0 ∧ W.cell? ⟨b2, o + 1, none⟩ = some d1 ∧ W.cell? ⟨b2, o + 2, none⟩ = some d2 ∧ W.cell? ⟨b2, o + 3, none⟩ = some d3 ∧ W.cell? ⟨b2, o + 4, none⟩ = some d4 ∧ W.cell? ⟨b2, o + 5, none⟩ = some d5 ∧ Below w.heap.size w W) :
    W'.cell? ⟨B, 0, none⟩ = some c0 ∧ W'.cell? ⟨B, 1, none⟩ = some c1 ∧ W'.cell? ⟨b2, o, none⟩ = some d0 ∧ W'.cell? ⟨b2, o + 1, none⟩ = some d1 ∧ W'.cell? ⟨b2, o + 2, none⟩ = some d2 ∧ W'.cell? ⟨b2, o + 3, none⟩ = some d3 ∧ W'.cell? ⟨b2, o + 4, none⟩ = some d4 ∧ W'.cell? ⟨b2, o + 5, none⟩ = some d5 ∧ Below w.heap.size w W' := by
  obtain ⟨h0, h1, g0, g1, g2, g3, g4, g5, h8⟩ := h
  have hB := World.block_lt_of_cell? W _ h0
  have hD := World.block_lt_of_cell? W _ g0
  exact ⟨(cellNext hB hb _).trans h0, (cellNext hB hb _).trans h1, (cellNext hD hb _).trans g0, (cellNext hD hb _).trans g1, (cellNext hD hb _).trans g2, (cellNext hD hb _).trans g3, (cellNext hD hb _).trans g4, (cellNext hD hb _).trans g5, bthen h8 hb⟩
theorem insbox_below {w W : World} {B b2 o : Nat} {c0 c1 d0 d1 d2 d3 d4 d5 : Value} (h : W.cell? ⟨B, 0, none⟩ = some c0 ∧ W.cell? ⟨B, 1, none⟩ = some c1 ∧ W.cell? ⟨b2, o, none⟩ = some d0 ∧ W.cell? ⟨b2, o + 1, none⟩ = some d1 ∧ W.cell? ⟨b2, o + 2, none⟩ = some d2 ∧ W.cell? ⟨b2, o + 3, none⟩ = some d3 ∧ W.cell? ⟨b2, o + 4, none⟩ = some d4 ∧ W.cell? ⟨b2, o + 5, none⟩ = some d5 ∧ Below w.heap.size w W) : Below w.heap.size w W := h.2.2.2.2.2.2.2.2
set_option maxRecDepth 100000 in
set_option maxHeartbeats 8000000 in
theorem refBlock_any (s : ByteArray) (b p : Int) (bl : List Bk) (C : Option Addr) (na ca k : Nat) (w : World) (hk : k < bl.length) (hna : bl.length = na) (h9 : na ≤ 9223372036854775807) (hok : BkW bl[k]) (hS : Blocks w (.slice C na ca) bl) :
    Calls Try.prog 46 #[.agg #[.string s, .int .i64 b, .int .i64 p, .slice C na ca], .int .i64 k] w fun e w' => e = .returned (.bool (blockB bl bl[k])) ∧ Below w.heap.size w w' := by
  have hgo := fun (A : Option Addr) (nl cl : Nat) (tt n : Int) (l : List Int) (hnl : l.length = nl) (hl9 : nl ≤ 9223372036854775807) (hl : Ints w (.slice A nl cl) l) (W : World) (hb : Below w.heap.size w W) => refGoes_any s b p bl C A na ca nl cl tt n l W hna h9 hnl hl9 (hS.next hb) (hl.next hb)
  obtain ⟨V, hV⟩ : ∃ V, blockB bl bl[k] = V := ⟨_, rfl⟩
  rw [hV]
  obtain ⟨b1, off, hA, hbl, e0⟩ := RowOf.at_ hS hk
  subst hA
  have hb0 := balloc (Below.refl _ w) (.cells #[.string s, .int .i64 b, .int .i64 p, .slice (some ⟨b1, off, none⟩) na ca] 60)
  have hin := heap_alloc_new w (.cells #[.string s, .int .i64 b, .int .i64 p, .slice (some ⟨b1, off, none⟩) na ca] 60)
  obtain ⟨-, ⟨A1, z1, g1', hins⟩, -, -, -, ⟨A5, z5, g5', hl5⟩, -, A7, z7, g7', hl7⟩ := id e0
  obtain ⟨g0, -, g2, g3, g4, -, g6, -⟩ := BkAt.next _ _ _ _ _ hbl hb0 e0
  have g1 := (cellNext hbl hb0 _).trans g1'
  have g5 := (cellNext hbl hb0 _).trans g5'
  have g7 := (cellNext hbl hb0 _).trans g7'
  clear e0 g1' g5' g7'
  obtain ⟨⟨bp, bi, ⟨ek, ea, et, el, ee, em⟩⟩, hbk⟩ : ∃ t, bl[k] = t := ⟨_, rfl⟩
  rw [hbk] at g0 g1 g2 g3 g4 g5 g6 g7 hins hl5 hl7 hok hV
  simp only at g0 g1 g2 g3 g4 g5 g6 g7 hins hl5 hl7
  obtain ⟨⟨o1, o2, o3, -⟩, o4⟩ := hok
  simp only at o1 o2 o3 o4
  obtain ⟨ll, hll⟩ : ∃ x, el.length = x := ⟨_, rfl⟩
  obtain ⟨lm, hlm⟩ : ∃ x, em.length = x := ⟨_, rfl⟩
  obtain ⟨ni, hni⟩ : ∃ x, bi.length = x := ⟨_, rfl⟩
  have HNI := Lib.hid (show bi.length ≤ ni ∧ ni ≤ bi.length by omega)
  have HVE := Lib.hid (show V = (decide (0 ≤ bp) && decide (bp ≤ 6) && decide (ni ≤ 32) && endB bl (bp + ni) ⟨ek, ea, et, el, ee, em⟩ && instsB bp bi) by rw [← hV, ← hni]; rfl)
  have HLN := Lib.hid (nil_len hll)
  have HMN := Lib.hid (nil_len hlm)
  rw [hll] at g5 hl5 o2
  rw [hlm] at g7 hl7 o3
  rw [hni] at g1 hins o1
  have HGT := Lib.hid (hgo A5 ll z5 et (bp + ni) el hll o2 hl5)
  have HGE := Lib.hid (hgo A7 lm z7 ee (bp + ni) em hlm o3 hl7)
  have HINS := Lib.hid hins
  have HWO := Lib.hid o4
  have k0 : (0 : Int) ≤ (k : Int) := by omega
  have k1 : (k : Int) < (na : Int) := by omega
  have n1 : (ni : Int) ≤ 9223372036854775807 := by omega
  have HB0 := Lib.hid hb0
  have HIN := Lib.hid hin
  clear hgo hV hk hna h9 hS hbl hb0 hin hbk hl5 hl7 hins hll hlm hni o1 o2 o3 o4
  go_enter Try.func46, Try.ntmps46
  go_upto_region 1 with fail
  generalize w.alloc (.cells #[.string s, .int .i64 b, .int .i64 p, .slice (some ⟨b1, off, none⟩) na ca] 60) = W0 at *
  have c3 := Lib.cell_of_heap HIN.out 3
  simp only [List.getElem?_toArray, List.getElem?_cons_zero, List.getElem?_cons_succ] at c3
  go_upto_region 2 with fail
  have HIX := Lib.hid (heap_alloc_new W0 (.cells #[.int .i64 bp, .slice A1 ni z1, .int .i64 ek, .int .i64 ea, .int .i64 et, .slice A5 ll z5, .int .i64 ee, .slice A7 lm z7] 74))
  have hbx := balloc (Below.refl _ W0) (.cells #[.int .i64 bp, .slice A1 ni z1, .int .i64 ek, .int .i64 ea, .int .i64 et, .slice A5 ll z5, .int .i64 ee, .slice A7 lm z7] 74)
  have HI1 := Lib.hid ((hbx.block _ (Array.getElem?_eq_some_iff.1 HIN.out).1).trans HIN.out)
  have HB1 := Lib.hid (bthen HB0.out hbx)
  clear hbx g0 g1 g2 g3 g4 g5 g6 g7 c3
  generalize W0.alloc (.cells #[.int .i64 bp, .slice A1 ni z1, .int .i64 ek, .int .i64 ea, .int .i64 et, .slice A5 ll z5, .int .i64 ee, .slice A7 lm z7] 74) = W1 at *
  generalize W0.heap.size = BX at *
  have x0 := Lib.cell_of_heap HIX.out 0
  have x1 := Lib.cell_of_heap HIX.out 1
  simp only [List.getElem?_toArray, List.getElem?_cons_zero, List.getElem?_cons_succ] at x0 x1
  by_cases h0 : bp < 0
  · have t0 : decide (bp < 0) = true := decide_eq_true h0
    have HV := Lib.hid (show V = false by rw [HVE.out, decide_eq_false (by omega : ¬ 0 ≤ bp)]; rfl)
    go_wp2_with fail
    go_ret
    exact ⟨by rw [HV.out]; rfl, HB1.out⟩
  have t0 : decide (bp < 0) = false := decide_eq_false h0
  by_cases h6 : 6 < bp
  · have t6 : decide (6 < bp) = true := decide_eq_true h6
    have HV := Lib.hid (show V = false by rw [HVE.out, decide_eq_false (by omega : ¬ bp ≤ 6)]; simp)
    go_wp2_with fail
    go_ret
    exact ⟨by rw [HV.out]; rfl, HB1.out⟩
  have t6 : decide (6 < bp) = false := decide_eq_false h6
  by_cases h32 : 32 < ni
  · have t32 : decide ((32 : Int) < (ni : Int)) = true := decide_eq_true (by omega)
    have t32' : decide (32 < ni) = true := decide_eq_true (by omega)
    have HV := Lib.hid (show V = false by rw [HVE.out, decide_eq_false (by omega : ¬ ni ≤ 32)]; simp)
    go_wp2_with fail
    go_ret
    exact ⟨by rw [HV.out]; rfl, HB1.out⟩
  have t32 : decide ((32 : Int) < (ni : Int)) = false := decide_eq_false (by omega)
  have t32' : decide (32 < ni) = false := decide_eq_false (by omega)
  have HE0 := Lib.hid (show V = (endB bl (bp + ni) ⟨ek, ea, et, el, ee, em⟩ && instsB bp bi) by rw [HVE.out, decide_eq_true (by omega : 0 ≤ bp), decide_eq_true (by omega : bp ≤ 6), decide_eq_true (by omega : ni ≤ 32)]; rfl)
  have p0 : 0 ≤ bp := by omega
  have p6 : bp ≤ 6 := by omega
  have n32 : (ni : Int) ≤ 32 := by omega
  clear h0 h6 h32 HVE n1
  go_wp2_with fail
  clear t0 t6 t32 t32' x0 x1
  go_loopw [6] (fun iv wi => ∃ j : Nat, j ≤ ni ∧ iv = .int .i64 j ∧ instsB bp (bi.take j) = true ∧ wi.heap[BX]? = some (.cells #[.int .i64 bp, .slice A1 ni z1, .int .i64 ek, .int .i64 ea, .int .i64 et, .slice A5 ll z5, .int .i64 ee, .slice A7 lm z7] 74 (0, 0)) ∧ wi.heap[w.heap.size]? = some (.cells #[.string s, .int .i64 b, .int .i64 p, .slice (some ⟨b1, off, none⟩) na ca] 60 (0, 0)) ∧ Below w.heap.size w wi) (fun iv _ => ni - (intOf iv).toNat)
  case atStart => exact ⟨0, Nat.zero_le _, rfl, rfl, HIX.out, HI1.out, HB1.out⟩
  case round =>
    obtain ⟨j, hj, rfl, ht, hbx, hfx, hb⟩ := hrel
    have HT := Lib.hid ht
    have HBX := Lib.hid hbx
    have HFX := Lib.hid hfx
    have HBB := Lib.hid hb
    have d0 := Lib.cell_of_heap hbx 0
    have d1 := Lib.cell_of_heap hbx 1
    simp only [List.getElem?_toArray, List.getElem?_cons_zero, List.getElem?_cons_succ] at d0 d1
    clear ht hbx hfx hb HIX HI1 HB1 HB0
    by_cases hlj : j < ni
    · have hjm : j < bi.length := by have := HNI.out; omega
      obtain ⟨b2, off2, hA2, hb2, e2⟩ := RowOf.at_ HINS.out hjm
      subst hA2
      obtain ⟨q0, q1, q2, q3, q4, A6, z6, q5, hi6⟩ := InAt.next _ _ _ _ _ hb2 HBB.out e2
      have hw := HWO.out _ (List.getElem_mem hjm)
      have HU := Lib.hid (fun (U : World) (hu : Below wr.heap.size wr U) => refInst_any bi[j] (bp + j) A6 z6 U (hi6.next hu) hw.2.2 hw.1.1)
      unfold inV at HU
      have HNX := Lib.hid (instsB_take (p := bp) hjm)
      have HNO := Lib.hid (fun h => instsB_no (p := bp) hjm h)
      obtain ⟨X, hX⟩ : ∃ X, instB (bp + j) bi[j] = X := ⟨_, rfl⟩
      rw [hX] at HU HNX HNO
      obtain ⟨y0, h0⟩ : ∃ x, bi[j].o = x := ⟨_, rfl⟩
      obtain ⟨y1, h1⟩ : ∃ x, bi[j].a = x := ⟨_, rfl⟩
      obtain ⟨y2, h2⟩ : ∃ x, bi[j].b = x := ⟨_, rfl⟩
      obtain ⟨y3, h3⟩ : ∃ x, bi[j].k = x := ⟨_, rfl⟩
      obtain ⟨y4, h4⟩ : ∃ x, bi[j].s = x := ⟨_, rfl⟩
      obtain ⟨y5, h5⟩ : ∃ x, bi[j].l.length = x := ⟨_, rfl⟩
      rw [h0, h1, h2, h3, h4, h5] at HU
      rw [h0] at q0
      rw [h1] at q1
      rw [h2] at q2
      rw [h3] at q3
      rw [h4] at q4
      rw [h5] at q5
      have j0 : (0 : Int) ≤ (j : Int) := Int.natCast_nonneg _
      have j1 : (j : Int) < (ni : Int) := by omega
      have HLJ := Lib.hid hlj
      clear h0 h1 h2 h3 h4 h5 hjm hlj hi6 hX e2 hw
      have HQ := Lib.hid (show wr.drew.cell? ⟨BX, 0, none⟩ = some (.int .i64 bp) ∧ wr.drew.cell? ⟨BX, 1, none⟩ = some (.slice (some ⟨b2, off2, none⟩) ni z1) ∧ wr.drew.cell? ⟨b2, off2 + j * 6, none⟩ = some (.int .i64 y0) ∧ wr.drew.cell? ⟨b2, off2 + j * 6 + 1, none⟩ = some (.int .i64 y1) ∧ wr.drew.cell? ⟨b2, off2 + j * 6 + 2, none⟩ = some (.int .i64 y2) ∧ wr.drew.cell? ⟨b2, off2 + j * 6 + 3, none⟩ = some (.int .u64 y3) ∧ wr.drew.cell? ⟨b2, off2 + j * 6 + 4, none⟩ = some (.string y4) ∧ wr.drew.cell? ⟨b2, off2 + j * 6 + 5, none⟩ = some (.slice A6 y5 z6) ∧ Below wr.heap.size wr wr.drew from ⟨d0, d1, q0, q1, q2, q3, q4, q5, (Below.refl _ wr).drew⟩)
      have bw : IntKind.i64.wrap (bp + (j : Int)) = bp + (j : Int) := by rw [IntKind.wrap_i64]; omega
      go_upto_region 7 with fail
      clear d0 d1 q0 q1 q2 q3 q4 q5
      go_cut [7] from 40 to 49 (fun v7 wx => v7 = .bool X ∧ Below wr.heap.size wr wx)
      case first =>
        have hd := HQ.out
        refine wp_region_held_drew (S := (fun U => U.cell? ⟨BX, 0, none⟩ = some (.int .i64 bp) ∧ U.cell? ⟨BX, 1, none⟩ = some (.slice (some ⟨b2, off2, none⟩) ni z1) ∧ U.cell? ⟨b2, off2 + j * 6, none⟩ = some (.int .i64 y0) ∧ U.cell? ⟨b2, off2 + j * 6 + 1, none⟩ = some (.int .i64 y1) ∧ U.cell? ⟨b2, off2 + j * 6 + 2, none⟩ = some (.int .i64 y2) ∧ U.cell? ⟨b2, off2 + j * 6 + 3, none⟩ = some (.int .u64 y3) ∧ U.cell? ⟨b2, off2 + j * 6 + 4, none⟩ = some (.string y4) ∧ U.cell? ⟨b2, off2 + j * 6 + 5, none⟩ = some (.slice A6 y5 z6) ∧ Below wr.heap.size wr U)) (by kernel_rfl) hd (fun hHeld => ?_)
        refine wpAnyH_take (i := 0) (v := ?_) rfl (by kernel_rfl) (by kernel_rfl) (by kernel_rfl) (fun _ _ _ h => h) (Or.inl ⟨by rfl, ?_⟩) hHeld ?_
        rotate_left
        · intro W' hSw; (try dsimp only at hSw); go_simp; try (with_reducible rfl)
        (try simp only [Act.put, List.getElem_toArray, List.getElem_cons_zero, List.setIfInBounds_toArray, List.set_cons_zero, List.set_cons_succ])
        refine wpAnyH_take (i := 1) (v := ?_) rfl (by kernel_rfl) (by kernel_rfl) (by kernel_rfl) (fun _ _ _ h => h) (Or.inl ⟨by rfl, ?_⟩) hHeld ?_
        rotate_left
        · intro W' hSw; (try dsimp only at hSw); go_simp; try (with_reducible rfl)
        (try simp only [Act.put, List.getElem_toArray, List.getElem_cons_zero, List.getElem_cons_succ, List.setIfInBounds_toArray, List.set_cons_zero, List.set_cons_succ])
        refine wpAnyH_take (i := 2) (v := ?_) rfl (by kernel_rfl) (by kernel_rfl) (by kernel_rfl) (fun _ _ _ h => h) (Or.inl ⟨by rfl, ?_⟩) hHeld ?_
        rotate_left
        · intro W' hSw; (try dsimp only at hSw); go_simp; try (with_reducible rfl)
        (try simp only [Act.put, List.getElem_toArray, List.getElem_cons_zero, List.getElem_cons_succ, List.setIfInBounds_toArray, List.set_cons_zero, List.set_cons_succ])
        refine wpAnyH_take (i := 3) (v := ?_) rfl (by kernel_rfl) (by kernel_rfl) (by kernel_rfl) (fun _ _ _ h => h) (Or.inl ⟨by rfl, ?_⟩) hHeld ?_
        rotate_left
        · intro W' hSw; (try dsimp only at hSw); go_simp; try (with_reducible rfl)
        (try simp only [Act.put, List.getElem_toArray, List.getElem_cons_zero, List.getElem_cons_succ, List.setIfInBounds_toArray, List.set_cons_zero, List.set_cons_succ])
        refine wpAnyH_take (i := 4) (v := ?_) rfl (by kernel_rfl) (by kernel_rfl) (by kernel_rfl) (fun _ _ _ h => h) (Or.inl ⟨by rfl, ?_⟩) hHeld ?_
        rotate_left
        · intro W' hSw; (try dsimp only at hSw); go_simp; try (with_reducible rfl)
        (try simp only [Act.put, List.getElem_toArray, List.getElem_cons_zero, List.getElem_cons_succ, List.setIfInBounds_toArray, List.set_cons_zero, List.set_cons_succ])
        refine wpAnyH_take (i := 5) (v := ?_) rfl (by kernel_rfl) (by kernel_rfl) (by kernel_rfl) (fun _ _ _ h => h) (Or.inl ⟨by rfl, ?_⟩) hHeld ?_
        rotate_left
        · intro W' hSw; (try dsimp only at hSw); go_simp; try (with_reducible rfl)
        (try simp only [Act.put, List.getElem_toArray, List.getElem_cons_zero, List.getElem_cons_succ, List.setIfInBounds_toArray, List.set_cons_zero, List.set_cons_succ])
        refine wpAnyH_take (i := 6) (v := ?_) rfl (by kernel_rfl) (by kernel_rfl) (by kernel_rfl) (fun _ _ _ h => h) (Or.inl ⟨by rfl, ?_⟩) hHeld ?_
        rotate_left
        · intro W' hSw; (try dsimp only at hSw); go_simp; try (with_reducible rfl)
        (try simp only [Act.put, List.getElem_toArray, List.getElem_cons_zero, List.getElem_cons_succ, List.setIfInBounds_toArray, List.set_cons_zero, List.set_cons_succ])
        refine wpAnyH_take (i := 7) (v := ?_) rfl (by kernel_rfl) (by kernel_rfl) (by kernel_rfl) (fun _ _ _ h => h) (Or.inl ⟨by rfl, ?_⟩) hHeld ?_
        rotate_left
        · intro W' hSw; (try dsimp only at hSw); go_simp; try (with_reducible rfl)
        (try simp only [Act.put, List.getElem_toArray, List.getElem_cons_zero, List.getElem_cons_succ, List.setIfInBounds_toArray, List.set_cons_zero, List.set_cons_succ])
        refine wpAnyH_take (i := 8) (v := ?_) rfl (by kernel_rfl) (by kernel_rfl) (by kernel_rfl) (fun _ _ _ h => h) (Or.inl ⟨by rfl, ?_⟩) hHeld ?_
        rotate_left
        · intro W' hSw; (try dsimp only at hSw); go_simp; try (with_reducible rfl)
        (try simp only [Act.put, List.getElem_toArray, List.getElem_cons_zero, List.getElem_cons_succ, List.setIfInBounds_toArray, List.set_cons_zero, List.set_cons_succ])
        refine wpAnyH_ready (rs := [9]) (by kernel_rfl) (by simp) ?_
        refine AllReadyH.cons rfl (fun K hK => ?_) AllReadyH.nil
        go_simp
        refine Calls.mono (HU.out _ (insbox_below hHeld)) ?_
        rintro r u1 ⟨rfl, hb2'⟩
        refine hK.out _ _ (insbox_next hb2' hHeld) (fun hHeld2 => ?_)
        clear hK
        (try simp only [Act.put, List.getElem_toArray, List.getElem_cons_zero, List.getElem_cons_succ, List.setIfInBounds_toArray, List.set_cons_zero, List.set_cons_succ])
        refine wpAnyH_take (i := 10) (v := ?_) rfl (by kernel_rfl) (by kernel_rfl) (by kernel_rfl) (fun _ _ _ h => h) (Or.inl ⟨by rfl, ?_⟩) hHeld2 ?_
        rotate_left
        · intro W' hSw; (try dsimp only at hSw); go_simp; try (with_reducible rfl)
        (try simp only [Act.put, List.getElem_toArray, List.getElem_cons_zero, List.getElem_cons_succ, List.setIfInBounds_toArray, List.set_cons_zero, List.set_cons_succ])
        refine wpAnyH_done (by kernel_rfl) ?_ _
        go_wp2_with fail
        go_meet
        exact ⟨rfl, insbox_below hHeld2⟩
      case rest =>
        obtain ⟨rfl, hb3⟩ := hcut
        have HBX3 := Lib.hid ((hb3.block _ (Array.getElem?_eq_some_iff.1 HBX.out).1).trans HBX.out)
        have HFX3 := Lib.hid ((hb3.block _ (Array.getElem?_eq_some_iff.1 HFX.out).1).trans HFX.out)
        have HBB3 := Lib.hid (bthen HBB.out hb3)
        clear hb3
        cases X with
        | false =>
          have HV := Lib.hid (show V = false by rw [HE0.out, HNO.out rfl]; simp)
          go_wp2_with fail
          go_ret
          exact ⟨by rw [HV.out]; rfl, HBB3.out⟩
        | true =>
          have HF := Lib.hid (show instsB bp (bi.take (j + 1)) = true by rw [HNX.out, HT.out]; rfl)
          go_wp2_with fail
          go_roundw
          case rel => exact ⟨j + 1, HLJ.out, by go_num, HF.out, HBX3.out, HFX3.out, HBB3.out⟩
          case measure => have := HLJ.out; simp [intOf]; omega
    · have hd : decide ((j : Int) < (ni : Int)) = false := by simp; omega
      have HI := Lib.hid (show instsB bp bi = true by
        have h := HT.out
        rwa [List.take_of_length_le (by have := HNI.out; omega)] at h)
      have HE := Lib.hid (show V = endB bl (bp + ni) ⟨ek, ea, et, el, ee, em⟩ by rw [HE0.out, HI.out]; simp)
      clear HE0 HI HT
      have d2 := Lib.cell_of_heap HBX.out 2
      have d3 := Lib.cell_of_heap HBX.out 3
      have d4 := Lib.cell_of_heap HBX.out 4
      have d5 := Lib.cell_of_heap HBX.out 5
      have d6 := Lib.cell_of_heap HBX.out 6
      have d7 := Lib.cell_of_heap HBX.out 7
      have f0 := Lib.cell_of_heap HFX.out 0
      have f1 := Lib.cell_of_heap HFX.out 1
      have f2 := Lib.cell_of_heap HFX.out 2
      have f3 := Lib.cell_of_heap HFX.out 3
      simp only [List.getElem?_toArray, List.getElem?_cons_zero, List.getElem?_cons_succ] at d2 d3 d4 d5 d6 d7 f0 f1 f2 f3
      have hbt := balloc (Below.refl _ wr) (.cells #[.int .i64 ek, .int .i64 ea, .int .i64 et, .slice A5 ll z5, .int .i64 ee, .slice A7 lm z7] 72)
      have HTX := Lib.hid (heap_alloc_new wr (.cells #[.int .i64 ek, .int .i64 ea, .int .i64 et, .slice A5 ll z5, .int .i64 ee, .slice A7 lm z7] 72))
      have HBT := Lib.hid (bthen HBB.out hbt)
      have HFT := Lib.hid ((hbt.block _ (Array.getElem?_eq_some_iff.1 HFX.out).1).trans HFX.out)
      have HBY := Lib.hid ((hbt.block _ (Array.getElem?_eq_some_iff.1 HBX.out).1).trans HBX.out)
      clear hbt
      have bw : IntKind.i64.wrap (bp + (ni : Int)) = bp + (ni : Int) := by rw [IntKind.wrap_i64]; omega
      go_upto_region 11 with fail
      clear d0 d1 d2 d3 d4 d5 d6 d7 f0 f1 f2 f3 hd
      generalize wr.alloc (.cells #[.int .i64 ek, .int .i64 ea, .int .i64 et, .slice A5 ll z5, .int .i64 ee, .slice A7 lm z7] 72) = W2 at *
      generalize wr.heap.size = TX at *
      have e0 := Lib.cell_of_heap HTX.out 0
      have e1 := Lib.cell_of_heap HTX.out 1
      have e2 := Lib.cell_of_heap HTX.out 2
      have e3 := Lib.cell_of_heap HTX.out 3
      have e4 := Lib.cell_of_heap HTX.out 4
      have e5 := Lib.cell_of_heap HTX.out 5
      have f0 := Lib.cell_of_heap HFT.out 0
      have f1 := Lib.cell_of_heap HFT.out 1
      have f2 := Lib.cell_of_heap HFT.out 2
      have f3 := Lib.cell_of_heap HFT.out 3
      have d0 := Lib.cell_of_heap HBY.out 0
      have d1 := Lib.cell_of_heap HBY.out 1
      simp only [List.getElem?_toArray, List.getElem?_cons_zero, List.getElem?_cons_succ] at e0 e1 e2 e3 e4 e5 f0 f1 f2 f3 d0 d1
      go_upto_region 12 with fail
      clear d0 d1
      by_cases k1 : ek = 1
      · subst k1
        rw [endB_jump, HMN.out] at HE
        go_wp2_with fail
        refine (HGT.out _ HBT.out).mono ?_
        rintro r u1 ⟨rfl, hb1⟩
        have HBC1 := Lib.hid (bthen HBT.out hb1)
        have HTC1 := Lib.hid ((hb1.block _ (Array.getElem?_eq_some_iff.1 HTX.out).1).trans HTX.out)
        have HFC1 := Lib.hid ((hb1.block _ (Array.getElem?_eq_some_iff.1 HFT.out).1).trans HFT.out)
        clear hb1 e0 e1 e2 e3 e4 e5 f0 f1 f2 f3
        obtain ⟨X, hX⟩ : ∃ x, goesB bl (bp + ni) et el = x := ⟨_, rfl⟩
        rw [hX] at HE ⊢
        clear hX
        have e0 := Lib.cell_of_heap HTC1.out 0
        have e1 := Lib.cell_of_heap HTC1.out 1
        have e2 := Lib.cell_of_heap HTC1.out 2
        have e3 := Lib.cell_of_heap HTC1.out 3
        have e4 := Lib.cell_of_heap HTC1.out 4
        have e5 := Lib.cell_of_heap HTC1.out 5
        have f0 := Lib.cell_of_heap HFC1.out 0
        have f1 := Lib.cell_of_heap HFC1.out 1
        have f2 := Lib.cell_of_heap HFC1.out 2
        have f3 := Lib.cell_of_heap HFC1.out 3
        simp only [List.getElem?_toArray, List.getElem?_cons_zero, List.getElem?_cons_succ] at e0 e1 e2 e3 e4 e5 f0 f1 f2 f3
        cases hq : X with
        | false =>
          have HV := Lib.hid (show V = false by rw [HE.out, hq]; simp)
          go_wp2_with fail
          go_ret
          exact ⟨by rw [HV.out]; rfl, HBC1.out⟩
        | true =>
          rw [hq] at HE
          have hq8 : X = true := hq
          clear hq
          cases hq : (ea == 0) with
          | false =>
            have HV := Lib.hid (show V = false by rw [HE.out, hq]; simp)
            go_wp2_with fail
            go_ret
            exact ⟨by rw [HV.out]; rfl, HBC1.out⟩
          | true =>
            rw [hq] at HE
            have hq10 : (ea == 0) = true := hq
            clear hq
            cases hq : (ee == 0) with
            | false =>
              have HV := Lib.hid (show V = false by rw [HE.out, hq]; simp)
              go_wp2_with fail
              go_ret
              exact ⟨by rw [HV.out]; rfl, HBC1.out⟩
            | true =>
              rw [hq] at HE
              have hq12 : (ee == 0) = true := hq
              clear hq
              cases hq : ((lm : Int) == 0) with
              | false =>
                have HV := Lib.hid (show V = false by rw [HE.out, hq]; simp)
                go_wp2_with fail
                go_ret
                exact ⟨by rw [HV.out]; rfl, HBC1.out⟩
              | true =>
                rw [hq] at HE
                have hq14 : ((lm : Int) == 0) = true := hq
                clear hq
                have HV := Lib.hid (show V = true by rw [HE.out]; rfl)
                go_wp2_with fail
                go_ret
                exact ⟨by rw [HV.out]; rfl, HBC1.out⟩
      have z1 : (ek == 1) = false := by simpa using k1
      by_cases k2 : ek = 2
      · subst k2
        rw [endB_if] at HE
        by_cases a0 : 0 ≤ ea
        case neg =>
          have u0 : decide (0 ≤ ea) = false := decide_eq_false a0
          rw [u0] at HE
          clear a0
          go_wp2_with fail
          refine (HGT.out _ HBT.out).mono ?_
          rintro r u1 ⟨rfl, hb1⟩
          have HBC1 := Lib.hid (bthen HBT.out hb1)
          have HTC1 := Lib.hid ((hb1.block _ (Array.getElem?_eq_some_iff.1 HTX.out).1).trans HTX.out)
          have HFC1 := Lib.hid ((hb1.block _ (Array.getElem?_eq_some_iff.1 HFT.out).1).trans HFT.out)
          clear hb1 e0 e1 e2 e3 e4 e5 f0 f1 f2 f3
          obtain ⟨X, hX⟩ : ∃ x, goesB bl (bp + ni) et el = x := ⟨_, rfl⟩
          rw [hX] at HE ⊢
          clear hX
          have e0 := Lib.cell_of_heap HTC1.out 0
          have e1 := Lib.cell_of_heap HTC1.out 1
          have e2 := Lib.cell_of_heap HTC1.out 2
          have e3 := Lib.cell_of_heap HTC1.out 3
          have e4 := Lib.cell_of_heap HTC1.out 4
          have e5 := Lib.cell_of_heap HTC1.out 5
          have f0 := Lib.cell_of_heap HFC1.out 0
          have f1 := Lib.cell_of_heap HFC1.out 1
          have f2 := Lib.cell_of_heap HFC1.out 2
          have f3 := Lib.cell_of_heap HFC1.out 3
          simp only [List.getElem?_toArray, List.getElem?_cons_zero, List.getElem?_cons_succ] at e0 e1 e2 e3 e4 e5 f0 f1 f2 f3
          go_wp2_with fail
          refine (HGE.out _ HBC1.out).mono ?_
          rintro r u2 ⟨rfl, hb2⟩
          have HBC2 := Lib.hid (bthen HBC1.out hb2)
          have HTC2 := Lib.hid ((hb2.block _ (Array.getElem?_eq_some_iff.1 HTC1.out).1).trans HTC1.out)
          have HFC2 := Lib.hid ((hb2.block _ (Array.getElem?_eq_some_iff.1 HFC1.out).1).trans HFC1.out)
          clear hb2 e0 e1 e2 e3 e4 e5 f0 f1 f2 f3
          obtain ⟨Y, hY⟩ : ∃ x, goesB bl (bp + ni) ee em = x := ⟨_, rfl⟩
          rw [hY] at HE ⊢
          clear hY
          have e0 := Lib.cell_of_heap HTC2.out 0
          have e1 := Lib.cell_of_heap HTC2.out 1
          have e2 := Lib.cell_of_heap HTC2.out 2
          have e3 := Lib.cell_of_heap HTC2.out 3
          have e4 := Lib.cell_of_heap HTC2.out 4
          have e5 := Lib.cell_of_heap HTC2.out 5
          have f0 := Lib.cell_of_heap HFC2.out 0
          have f1 := Lib.cell_of_heap HFC2.out 1
          have f2 := Lib.cell_of_heap HFC2.out 2
          have f3 := Lib.cell_of_heap HFC2.out 3
          simp only [List.getElem?_toArray, List.getElem?_cons_zero, List.getElem?_cons_succ] at e0 e1 e2 e3 e4 e5 f0 f1 f2 f3
          have HV := Lib.hid (show V = false by rw [HE.out]; rfl)
          go_wp2_with fail
          go_ret
          exact ⟨by rw [HV.out]; rfl, HBC2.out⟩
        have u0 : decide (0 ≤ ea) = true := decide_eq_true a0
        by_cases a1 : ea < bp + (ni : Int)
        case neg =>
          have u1 : decide (ea < bp + (ni : Int)) = false := decide_eq_false a1
          rw [u0, u1] at HE
          clear a0 a1
          go_wp2_with fail
          refine (HGT.out _ HBT.out).mono ?_
          rintro r u1 ⟨rfl, hb1⟩
          have HBC1 := Lib.hid (bthen HBT.out hb1)
          have HTC1 := Lib.hid ((hb1.block _ (Array.getElem?_eq_some_iff.1 HTX.out).1).trans HTX.out)
          have HFC1 := Lib.hid ((hb1.block _ (Array.getElem?_eq_some_iff.1 HFT.out).1).trans HFT.out)
          clear hb1 e0 e1 e2 e3 e4 e5 f0 f1 f2 f3
          obtain ⟨X, hX⟩ : ∃ x, goesB bl (bp + ni) et el = x := ⟨_, rfl⟩
          rw [hX] at HE ⊢
          clear hX
          have e0 := Lib.cell_of_heap HTC1.out 0
          have e1 := Lib.cell_of_heap HTC1.out 1
          have e2 := Lib.cell_of_heap HTC1.out 2
          have e3 := Lib.cell_of_heap HTC1.out 3
          have e4 := Lib.cell_of_heap HTC1.out 4
          have e5 := Lib.cell_of_heap HTC1.out 5
          have f0 := Lib.cell_of_heap HFC1.out 0
          have f1 := Lib.cell_of_heap HFC1.out 1
          have f2 := Lib.cell_of_heap HFC1.out 2
          have f3 := Lib.cell_of_heap HFC1.out 3
          simp only [List.getElem?_toArray, List.getElem?_cons_zero, List.getElem?_cons_succ] at e0 e1 e2 e3 e4 e5 f0 f1 f2 f3
          go_wp2_with fail
          refine (HGE.out _ HBC1.out).mono ?_
          rintro r u2 ⟨rfl, hb2⟩
          have HBC2 := Lib.hid (bthen HBC1.out hb2)
          have HTC2 := Lib.hid ((hb2.block _ (Array.getElem?_eq_some_iff.1 HTC1.out).1).trans HTC1.out)
          have HFC2 := Lib.hid ((hb2.block _ (Array.getElem?_eq_some_iff.1 HFC1.out).1).trans HFC1.out)
          clear hb2 e0 e1 e2 e3 e4 e5 f0 f1 f2 f3
          obtain ⟨Y, hY⟩ : ∃ x, goesB bl (bp + ni) ee em = x := ⟨_, rfl⟩
          rw [hY] at HE ⊢
          clear hY
          have e0 := Lib.cell_of_heap HTC2.out 0
          have e1 := Lib.cell_of_heap HTC2.out 1
          have e2 := Lib.cell_of_heap HTC2.out 2
          have e3 := Lib.cell_of_heap HTC2.out 3
          have e4 := Lib.cell_of_heap HTC2.out 4
          have e5 := Lib.cell_of_heap HTC2.out 5
          have f0 := Lib.cell_of_heap HFC2.out 0
          have f1 := Lib.cell_of_heap HFC2.out 1
          have f2 := Lib.cell_of_heap HFC2.out 2
          have f3 := Lib.cell_of_heap HFC2.out 3
          simp only [List.getElem?_toArray, List.getElem?_cons_zero, List.getElem?_cons_succ] at e0 e1 e2 e3 e4 e5 f0 f1 f2 f3
          have HV := Lib.hid (show V = false by rw [HE.out]; rfl)
          go_wp2_with fail
          go_ret
          exact ⟨by rw [HV.out]; rfl, HBC2.out⟩
        have u1 : decide (ea < bp + (ni : Int)) = true := decide_eq_true a1
        rw [u0, u1] at HE
        clear a0 a1
        go_wp2_with fail
        refine (HGT.out _ HBT.out).mono ?_
        rintro r u1 ⟨rfl, hb1⟩
        have HBC1 := Lib.hid (bthen HBT.out hb1)
        have HTC1 := Lib.hid ((hb1.block _ (Array.getElem?_eq_some_iff.1 HTX.out).1).trans HTX.out)
        have HFC1 := Lib.hid ((hb1.block _ (Array.getElem?_eq_some_iff.1 HFT.out).1).trans HFT.out)
        clear hb1 e0 e1 e2 e3 e4 e5 f0 f1 f2 f3
        obtain ⟨X, hX⟩ : ∃ x, goesB bl (bp + ni) et el = x := ⟨_, rfl⟩
        rw [hX] at HE ⊢
        clear hX
        have e0 := Lib.cell_of_heap HTC1.out 0
        have e1 := Lib.cell_of_heap HTC1.out 1
        have e2 := Lib.cell_of_heap HTC1.out 2
        have e3 := Lib.cell_of_heap HTC1.out 3
        have e4 := Lib.cell_of_heap HTC1.out 4
        have e5 := Lib.cell_of_heap HTC1.out 5
        have f0 := Lib.cell_of_heap HFC1.out 0
        have f1 := Lib.cell_of_heap HFC1.out 1
        have f2 := Lib.cell_of_heap HFC1.out 2
        have f3 := Lib.cell_of_heap HFC1.out 3
        simp only [List.getElem?_toArray, List.getElem?_cons_zero, List.getElem?_cons_succ] at e0 e1 e2 e3 e4 e5 f0 f1 f2 f3
        go_wp2_with fail
        refine (HGE.out _ HBC1.out).mono ?_
        rintro r u2 ⟨rfl, hb2⟩
        have HBC2 := Lib.hid (bthen HBC1.out hb2)
        have HTC2 := Lib.hid ((hb2.block _ (Array.getElem?_eq_some_iff.1 HTC1.out).1).trans HTC1.out)
        have HFC2 := Lib.hid ((hb2.block _ (Array.getElem?_eq_some_iff.1 HFC1.out).1).trans HFC1.out)
        clear hb2 e0 e1 e2 e3 e4 e5 f0 f1 f2 f3
        obtain ⟨Y, hY⟩ : ∃ x, goesB bl (bp + ni) ee em = x := ⟨_, rfl⟩
        rw [hY] at HE ⊢
        clear hY
        have e0 := Lib.cell_of_heap HTC2.out 0
        have e1 := Lib.cell_of_heap HTC2.out 1
        have e2 := Lib.cell_of_heap HTC2.out 2
        have e3 := Lib.cell_of_heap HTC2.out 3
        have e4 := Lib.cell_of_heap HTC2.out 4
        have e5 := Lib.cell_of_heap HTC2.out 5
        have f0 := Lib.cell_of_heap HFC2.out 0
        have f1 := Lib.cell_of_heap HFC2.out 1
        have f2 := Lib.cell_of_heap HFC2.out 2
        have f3 := Lib.cell_of_heap HFC2.out 3
        simp only [List.getElem?_toArray, List.getElem?_cons_zero, List.getElem?_cons_succ] at e0 e1 e2 e3 e4 e5 f0 f1 f2 f3
        cases hq : X with
        | false =>
          have HV := Lib.hid (show V = false by rw [HE.out, hq]; rfl)
          go_wp2_with fail
          go_ret
          exact ⟨by rw [HV.out]; rfl, HBC2.out⟩
        | true =>
          rw [hq] at HE
          have hq8 : X = true := hq
          clear hq
          have HV := Lib.hid (show V = Y by rw [HE.out]; rfl)
          go_wp2_with fail
          go_ret
          exact ⟨by rw [HV.out]; rfl, HBC2.out⟩
      have z2 : (ek == 2) = false := by simpa using k2
      by_cases k3 : ek = 3
      · subst k3
        rw [endB_ret, HLN.out, HMN.out] at HE
        by_cases a0 : 0 ≤ ea
        case neg =>
          have u0 : decide (0 ≤ ea) = false := decide_eq_false a0
          rw [u0] at HE
          clear a0
          have HV := Lib.hid (show V = false by rw [HE.out]; rfl)
          go_wp2_with fail
          go_ret
          exact ⟨by rw [HV.out]; rfl, HBT.out⟩
        have u0 : decide (0 ≤ ea) = true := decide_eq_true a0
        by_cases a1 : ea < bp + (ni : Int)
        case neg =>
          have u1 : decide (ea < bp + (ni : Int)) = false := decide_eq_false a1
          rw [u0, u1] at HE
          clear a0 a1
          have HV := Lib.hid (show V = false by rw [HE.out]; rfl)
          go_wp2_with fail
          go_ret
          exact ⟨by rw [HV.out]; rfl, HBT.out⟩
        have u1 : decide (ea < bp + (ni : Int)) = true := decide_eq_true a1
        rw [u0, u1] at HE
        clear a0 a1
        cases hq : (et == 0) with
        | false =>
          have HV := Lib.hid (show V = false by rw [HE.out, hq]; simp)
          go_wp2_with fail
          go_ret
          exact ⟨by rw [HV.out]; rfl, HBT.out⟩
        | true =>
          rw [hq] at HE
          have hq8 : (et == 0) = true := hq
          clear hq
          cases hq : ((ll : Int) == 0) with
          | false =>
            have HV := Lib.hid (show V = false by rw [HE.out, hq]; simp)
            go_wp2_with fail
            go_ret
            exact ⟨by rw [HV.out]; rfl, HBT.out⟩
          | true =>
            rw [hq] at HE
            have hq10 : ((ll : Int) == 0) = true := hq
            clear hq
            cases hq : (ee == 0) with
            | false =>
              have HV := Lib.hid (show V = false by rw [HE.out, hq]; simp)
              go_wp2_with fail
              go_ret
              exact ⟨by rw [HV.out]; rfl, HBT.out⟩
            | true =>
              rw [hq] at HE
              have hq12 : (ee == 0) = true := hq
              clear hq
              cases hq : ((lm : Int) == 0) with
              | false =>
                have HV := Lib.hid (show V = false by rw [HE.out, hq]; simp)
                go_wp2_with fail
                go_ret
                exact ⟨by rw [HV.out]; rfl, HBT.out⟩
              | true =>
                rw [hq] at HE
                have hq14 : ((lm : Int) == 0) = true := hq
                clear hq
                have HV := Lib.hid (show V = true by rw [HE.out]; rfl)
                go_wp2_with fail
                go_ret
                exact ⟨by rw [HV.out]; rfl, HBT.out⟩
      have z3 : (ek == 3) = false := by simpa using k3
      rw [endB_out _ _ _ _ _ _ _ _ k1 k2 k3] at HE
      clear k1 k2 k3
      by_cases a0 : 0 ≤ ea
      case neg =>
        have u0 : decide (0 ≤ ea) = false := decide_eq_false a0
        have HV := Lib.hid (show V = false by exact HE.out)
        go_wp2_with fail
        go_ret
        exact ⟨by rw [HV.out]; rfl, HBT.out⟩
      have u0 : decide (0 ≤ ea) = true := decide_eq_true a0
      by_cases a1 : ea < bp + (ni : Int)
      case neg =>
        have u1 : decide (ea < bp + (ni : Int)) = false := decide_eq_false a1
        have HV := Lib.hid (show V = false by exact HE.out)
        go_wp2_with fail
        go_ret
        exact ⟨by rw [HV.out]; rfl, HBT.out⟩
      have u1 : decide (ea < bp + (ni : Int)) = true := decide_eq_true a1
      have HV := Lib.hid (show V = false by exact HE.out)
      go_wp2_with fail
      go_ret
      exact ⟨by rw [HV.out]; rfl, HBT.out⟩
end Go.Proofs.Ytjldddpchiaalaa
