/- What ReachNamed stands on, of the reference of layer 5 (part 2). -/
import Derived.Test.YtoglmdadpchhoaaHW0
namespace Go.Proofs.Ytoglmdadpchhoaa
open Go.RowKit
set_option maxRecDepth 100000 in
set_option maxHeartbeats 8000000 in
theorem refInst_i (i : In) (n : Int) (A : Option Addr) (cap : Nat) (w : World) (hS : Ints w (.slice A i.l.length cap) i.l) (hn : i.l.length * 8 ≤ 140737488355328) (hs : i.s.size < 9223372036854775808) (ho : i.o = 4) :
    Calls Try.prog 95 #[inV i (.slice A i.l.length cap), .int .i64 n] w fun e w' => e = .returned (.bool (instB n i)) ∧ Below w.heap.size w w' := by
  have HU := Lib.hid (fun (W : World) (hb : Below w.heap.size w W) => refUses_any i A cap W (hS.next hb) hn)
  have HUL := Lib.hid (show (usesI i).length * 8 ≤ 140737488355328 from by
    unfold usesI usesL
    repeat' split
    all_goals first | exact hn | simp)
  obtain ⟨o, a, b, k, s, l⟩ := i
  have HE := Lib.hid (instB_is n o a b k s l)
  unfold inV at HU ⊢
  simp only at hS hn hs HU HUL ho ⊢
  have HO := Lib.hid (show o ≤ 4 ∧ 4 ≤ o by omega)
  clear ho
  obtain ⟨nl, hnl⟩ : ∃ x, l.length = x := ⟨_, rfl⟩
  have HNL := Lib.hid (show decide (l = []) = decide (nl = 0) by rw [← hnl]; cases l <;> simp)
  have HME := Lib.hid (fun W : World => refName_any s W hs)
  have HNM := Lib.hid (fun W : World => refNamed_any o a b k s (.slice A nl cap) W)
  rw [hnl] at HU HE ⊢
  obtain ⟨U, hU⟩ : ∃ U, usesI ⟨o, a, b, k, s, l⟩ = U := ⟨_, rfl⟩
  rw [hU] at HU HE HUL
  obtain ⟨AM, hAM⟩ : ∃ x, amongB n U = x := ⟨_, rfl⟩
  have HBL := Lib.hid (fun (W : World) (A2 : Option Addr) (m c2 : Nat) (hm : U.length = m) (hI : Ints W (.slice A2 m c2) U) => refBelow_any n U A2 m c2 W hI (by have := HUL.out; omega))
  rw [hAM] at HE HBL
  rw [HNL.out] at HE
  clear hS hn hs hnl hU hAM HNL
  go_enter Try.func95, Try.ntmps95
  go_wp2_with fail
  have HBX := Lib.hid (balloc (Below.refl _ w) (.cells #[.int .i64 o, .int .i64 a, .int .i64 b, .int .u64 k, .string s, .slice A nl cap] 62))
  have HIX := Lib.hid (heap_alloc_new w (.cells #[.int .i64 o, .int .i64 a, .int .i64 b, .int .u64 k, .string s, .slice A nl cap] 62))
  generalize w.alloc (.cells #[.int .i64 o, .int .i64 a, .int .i64 b, .int .u64 k, .string s, .slice A nl cap] 62) = W1 at *
  refine (HU.out _ HBX.out).mono ?_
  rintro r w2 ⟨v', rfl, ho, hb⟩
  have HI2 := Lib.hid ho.ints
  obtain ⟨A2, c2, hv2⟩ := HI2.out.slice
  obtain ⟨nu, hnu⟩ : ∃ x, U.length = x := ⟨_, rfl⟩
  have HNU := Lib.hid (show U.length ≤ nu ∧ nu ≤ U.length by omega)
  have HI3 := Lib.hid (show Ints w2 (.slice A2 nu c2) U by rw [← hnu, ← hv2]; exact HI2.out)
  rw [hnu] at hv2
  subst hv2
  have HB2 := Lib.hid (bthen HBX.out hb)
  have HIX2 := Lib.hid ((hb.block _ (Array.getElem?_eq_some_iff.1 HIX.out).1).trans HIX.out)
  clear ho hb hnu
  go_wp2_with fail
  refine (HBL.out w2 A2 nu c2 (by have := HNU.out; omega) HI3.out).mono ?_
  rintro r w3 ⟨rfl, hb⟩
  have HB3 := Lib.hid (bthen HB2.out hb)
  have hix3 := (hb.block _ (Array.getElem?_eq_some_iff.1 HIX2.out).1).trans HIX2.out
  have c0 := Lib.cell_of_heap hix3 0
  have c1 := Lib.cell_of_heap hix3 1
  have c2 := Lib.cell_of_heap hix3 2
  have c3 := Lib.cell_of_heap hix3 3
  have c4 := Lib.cell_of_heap hix3 4
  have c5 := Lib.cell_of_heap hix3 5
  simp only [List.getElem?_toArray, List.getElem?_cons_zero, List.getElem?_cons_succ] at c0 c1 c2 c3 c4 c5
  have HIX3 := Lib.hid hix3
  clear hb hix3
  obtain rfl : o = 4 := by have := HO.out; omega
  have t1 : decide ((4 : Int) < 1) = false := rfl
  have t2 : decide ((16 : Int) < 4) = false := rfl
  cases AM with
  | false =>
    have HV := Lib.hid (show instB n ⟨4, a, b, k, s, l⟩ = false by rw [HE.out]; simp)
    go_wp2_with fail
    go_ret
    exact ⟨by rw [HV.out]; rfl, HB3.out⟩
  | true =>
  by_cases h6 : nl ≤ 6
  case neg =>
    have t3 : decide (6 < nl) = true := decide_eq_true (by omega)
    have t3' : decide ((6 : Int) < (nl : Int)) = true := decide_eq_true (by omega)
    have HV := Lib.hid (show instB n ⟨4, a, b, k, s, l⟩ = false by rw [HE.out]; simp [h6])
    go_wp2_with fail
    go_ret
    exact ⟨by rw [HV.out]; rfl, HB3.out⟩
  have t3 : decide (6 < nl) = false := decide_eq_false (by omega)
  have t3' : decide ((6 : Int) < (nl : Int)) = false := decide_eq_false (by omega)
  have HE := Lib.hid (show instB n ⟨4, a, b, k, s, l⟩ = ((aB 4 || a == 0) && (bB 4 || b == 0) && ((4 : Int) == 1 || k == 0) && ((4 : Int) == 14 || decide (nl = 0)) && (if hasB 4 then nameB s else s == ByteArray.empty)) by rw [HE.out, decide_eq_true (show 1 ≤ (4 : Int) by have := HO.out; omega), decide_eq_true (show (4 : Int) ≤ 16 by have := HO.out; omega), decide_eq_true h6]; rfl)
  clear h6
  rw [show aB 4 = true from rfl, show bB 4 = true from rfl, show hasB 4 = false from rfl, show ((4 : Int) == 1) = false from rfl, show ((4 : Int) == 14) = false from rfl] at HE
  rw [show hasB 4 = false from rfl] at HNM
  by_cases hk : k = 0
  case neg =>
    have hk1 : (k == 0) = false := by simpa using hk
    have hk2 : (k != 0) = true := by simpa using hk
    have hk3 : decide (k = 0) = false := decide_eq_false hk
    have HV := Lib.hid (show instB n ⟨4, a, b, k, s, l⟩ = false by rw [HE.out]; simp [hk])
    go_wp2_with fail
    go_ret
    exact ⟨by rw [HV.out]; rfl, HB3.out⟩
  subst hk
  by_cases hz : nl = 0
  case neg =>
    have t0 : decide (0 < nl) = true := decide_eq_true (by omega)
    have t0' : decide ((0 : Int) < (nl : Int)) = true := decide_eq_true (by omega)
    have HV := Lib.hid (show instB n ⟨4, a, b, 0, s, l⟩ = false by rw [HE.out]; simp [hz])
    go_wp2_with fail
    go_ret
    exact ⟨by rw [HV.out]; rfl, HB3.out⟩
  have t0 : decide (0 < nl) = false := decide_eq_false (by omega)
  have t0' : decide ((0 : Int) < (nl : Int)) = false := decide_eq_false (by omega)
  have HV := Lib.hid (show instB n ⟨4, a, b, 0, s, l⟩ = (s == ByteArray.empty) by rw [HE.out]; simp [hz])
  clear hz
  go_wp2_with fail
  refine (HNM.out _).mono ?_
  rintro r w4 ⟨rfl, hb4⟩
  have HB4 := Lib.hid (bthen HB3.out hb4)
  have d4 := Lib.cell_of_heap ((hb4.block _ (Array.getElem?_eq_some_iff.1 HIX3.out).1).trans HIX3.out) 4
  simp only [List.getElem?_toArray, List.getElem?_cons_zero, List.getElem?_cons_succ] at d4
  clear hb4 c0 c1 c2 c3 c4 c5
  go_wp2_with fail
  go_ret
  exact ⟨by rw [HV.out, ← ba_isEmpty]; rfl, HB4.out⟩
set_option maxRecDepth 100000 in
set_option maxHeartbeats 8000000 in
theorem refInst_j (i : In) (n : Int) (A : Option Addr) (cap : Nat) (w : World) (hS : Ints w (.slice A i.l.length cap) i.l) (hn : i.l.length * 8 ≤ 140737488355328) (hs : i.s.size < 9223372036854775808) (ho : i.o = 5) :
    Calls Try.prog 95 #[inV i (.slice A i.l.length cap), .int .i64 n] w fun e w' => e = .returned (.bool (instB n i)) ∧ Below w.heap.size w w' := by
  have HU := Lib.hid (fun (W : World) (hb : Below w.heap.size w W) => refUses_any i A cap W (hS.next hb) hn)
  have HUL := Lib.hid (show (usesI i).length * 8 ≤ 140737488355328 from by
    unfold usesI usesL
    repeat' split
    all_goals first | exact hn | simp)
  obtain ⟨o, a, b, k, s, l⟩ := i
  have HE := Lib.hid (instB_is n o a b k s l)
  unfold inV at HU ⊢
  simp only at hS hn hs HU HUL ho ⊢
  have HO := Lib.hid (show o ≤ 5 ∧ 5 ≤ o by omega)
  clear ho
  obtain ⟨nl, hnl⟩ : ∃ x, l.length = x := ⟨_, rfl⟩
  have HNL := Lib.hid (show decide (l = []) = decide (nl = 0) by rw [← hnl]; cases l <;> simp)
  have HME := Lib.hid (fun W : World => refName_any s W hs)
  have HNM := Lib.hid (fun W : World => refNamed_any o a b k s (.slice A nl cap) W)
  rw [hnl] at HU HE ⊢
  obtain ⟨U, hU⟩ : ∃ U, usesI ⟨o, a, b, k, s, l⟩ = U := ⟨_, rfl⟩
  rw [hU] at HU HE HUL
  obtain ⟨AM, hAM⟩ : ∃ x, amongB n U = x := ⟨_, rfl⟩
  have HBL := Lib.hid (fun (W : World) (A2 : Option Addr) (m c2 : Nat) (hm : U.length = m) (hI : Ints W (.slice A2 m c2) U) => refBelow_any n U A2 m c2 W hI (by have := HUL.out; omega))
  rw [hAM] at HE HBL
  rw [HNL.out] at HE
  clear hS hn hs hnl hU hAM HNL
  go_enter Try.func95, Try.ntmps95
  go_wp2_with fail
  have HBX := Lib.hid (balloc (Below.refl _ w) (.cells #[.int .i64 o, .int .i64 a, .int .i64 b, .int .u64 k, .string s, .slice A nl cap] 62))
  have HIX := Lib.hid (heap_alloc_new w (.cells #[.int .i64 o, .int .i64 a, .int .i64 b, .int .u64 k, .string s, .slice A nl cap] 62))
  generalize w.alloc (.cells #[.int .i64 o, .int .i64 a, .int .i64 b, .int .u64 k, .string s, .slice A nl cap] 62) = W1 at *
  refine (HU.out _ HBX.out).mono ?_
  rintro r w2 ⟨v', rfl, ho, hb⟩
  have HI2 := Lib.hid ho.ints
  obtain ⟨A2, c2, hv2⟩ := HI2.out.slice
  obtain ⟨nu, hnu⟩ : ∃ x, U.length = x := ⟨_, rfl⟩
  have HNU := Lib.hid (show U.length ≤ nu ∧ nu ≤ U.length by omega)
  have HI3 := Lib.hid (show Ints w2 (.slice A2 nu c2) U by rw [← hnu, ← hv2]; exact HI2.out)
  rw [hnu] at hv2
  subst hv2
  have HB2 := Lib.hid (bthen HBX.out hb)
  have HIX2 := Lib.hid ((hb.block _ (Array.getElem?_eq_some_iff.1 HIX.out).1).trans HIX.out)
  clear ho hb hnu
  go_wp2_with fail
  refine (HBL.out w2 A2 nu c2 (by have := HNU.out; omega) HI3.out).mono ?_
  rintro r w3 ⟨rfl, hb⟩
  have HB3 := Lib.hid (bthen HB2.out hb)
  have hix3 := (hb.block _ (Array.getElem?_eq_some_iff.1 HIX2.out).1).trans HIX2.out
  have c0 := Lib.cell_of_heap hix3 0
  have c1 := Lib.cell_of_heap hix3 1
  have c2 := Lib.cell_of_heap hix3 2
  have c3 := Lib.cell_of_heap hix3 3
  have c4 := Lib.cell_of_heap hix3 4
  have c5 := Lib.cell_of_heap hix3 5
  simp only [List.getElem?_toArray, List.getElem?_cons_zero, List.getElem?_cons_succ] at c0 c1 c2 c3 c4 c5
  have HIX3 := Lib.hid hix3
  clear hb hix3
  obtain rfl : o = 5 := by have := HO.out; omega
  have t1 : decide ((5 : Int) < 1) = false := rfl
  have t2 : decide ((16 : Int) < 5) = false := rfl
  cases AM with
  | false =>
    have HV := Lib.hid (show instB n ⟨5, a, b, k, s, l⟩ = false by rw [HE.out]; simp)
    go_wp2_with fail
    go_ret
    exact ⟨by rw [HV.out]; rfl, HB3.out⟩
  | true =>
  by_cases h6 : nl ≤ 6
  case neg =>
    have t3 : decide (6 < nl) = true := decide_eq_true (by omega)
    have t3' : decide ((6 : Int) < (nl : Int)) = true := decide_eq_true (by omega)
    have HV := Lib.hid (show instB n ⟨5, a, b, k, s, l⟩ = false by rw [HE.out]; simp [h6])
    go_wp2_with fail
    go_ret
    exact ⟨by rw [HV.out]; rfl, HB3.out⟩
  have t3 : decide (6 < nl) = false := decide_eq_false (by omega)
  have t3' : decide ((6 : Int) < (nl : Int)) = false := decide_eq_false (by omega)
  have HE := Lib.hid (show instB n ⟨5, a, b, k, s, l⟩ = ((aB 5 || a == 0) && (bB 5 || b == 0) && ((5 : Int) == 1 || k == 0) && ((5 : Int) == 14 || decide (nl = 0)) && (if hasB 5 then nameB s else s == ByteArray.empty)) by rw [HE.out, decide_eq_true (show 1 ≤ (5 : Int) by have := HO.out; omega), decide_eq_true (show (5 : Int) ≤ 16 by have := HO.out; omega), decide_eq_true h6]; rfl)
  clear h6
  rw [show aB 5 = true from rfl, show bB 5 = true from rfl, show hasB 5 = false from rfl, show ((5 : Int) == 1) = false from rfl, show ((5 : Int) == 14) = false from rfl] at HE
  rw [show hasB 5 = false from rfl] at HNM
  by_cases hk : k = 0
  case neg =>
    have hk1 : (k == 0) = false := by simpa using hk
    have hk2 : (k != 0) = true := by simpa using hk
    have hk3 : decide (k = 0) = false := decide_eq_false hk
    have HV := Lib.hid (show instB n ⟨5, a, b, k, s, l⟩ = false by rw [HE.out]; simp [hk])
    go_wp2_with fail
    go_ret
    exact ⟨by rw [HV.out]; rfl, HB3.out⟩
  subst hk
  by_cases hz : nl = 0
  case neg =>
    have t0 : decide (0 < nl) = true := decide_eq_true (by omega)
    have t0' : decide ((0 : Int) < (nl : Int)) = true := decide_eq_true (by omega)
    have HV := Lib.hid (show instB n ⟨5, a, b, 0, s, l⟩ = false by rw [HE.out]; simp [hz])
    go_wp2_with fail
    go_ret
    exact ⟨by rw [HV.out]; rfl, HB3.out⟩
  have t0 : decide (0 < nl) = false := decide_eq_false (by omega)
  have t0' : decide ((0 : Int) < (nl : Int)) = false := decide_eq_false (by omega)
  have HV := Lib.hid (show instB n ⟨5, a, b, 0, s, l⟩ = (s == ByteArray.empty) by rw [HE.out]; simp [hz])
  clear hz
  go_wp2_with fail
  refine (HNM.out _).mono ?_
  rintro r w4 ⟨rfl, hb4⟩
  have HB4 := Lib.hid (bthen HB3.out hb4)
  have d4 := Lib.cell_of_heap ((hb4.block _ (Array.getElem?_eq_some_iff.1 HIX3.out).1).trans HIX3.out) 4
  simp only [List.getElem?_toArray, List.getElem?_cons_zero, List.getElem?_cons_succ] at d4
  clear hb4 c0 c1 c2 c3 c4 c5
  go_wp2_with fail
  go_ret
  exact ⟨by rw [HV.out, ← ba_isEmpty]; rfl, HB4.out⟩
set_option maxRecDepth 100000 in
set_option maxHeartbeats 8000000 in
theorem refInst_k (i : In) (n : Int) (A : Option Addr) (cap : Nat) (w : World) (hS : Ints w (.slice A i.l.length cap) i.l) (hn : i.l.length * 8 ≤ 140737488355328) (hs : i.s.size < 9223372036854775808) (ho : i.o = 6) :
    Calls Try.prog 95 #[inV i (.slice A i.l.length cap), .int .i64 n] w fun e w' => e = .returned (.bool (instB n i)) ∧ Below w.heap.size w w' := by
  have HU := Lib.hid (fun (W : World) (hb : Below w.heap.size w W) => refUses_any i A cap W (hS.next hb) hn)
  have HUL := Lib.hid (show (usesI i).length * 8 ≤ 140737488355328 from by
    unfold usesI usesL
    repeat' split
    all_goals first | exact hn | simp)
  obtain ⟨o, a, b, k, s, l⟩ := i
  have HE := Lib.hid (instB_is n o a b k s l)
  unfold inV at HU ⊢
  simp only at hS hn hs HU HUL ho ⊢
  have HO := Lib.hid (show o ≤ 6 ∧ 6 ≤ o by omega)
  clear ho
  obtain ⟨nl, hnl⟩ : ∃ x, l.length = x := ⟨_, rfl⟩
  have HNL := Lib.hid (show decide (l = []) = decide (nl = 0) by rw [← hnl]; cases l <;> simp)
  have HME := Lib.hid (fun W : World => refName_any s W hs)
  have HNM := Lib.hid (fun W : World => refNamed_any o a b k s (.slice A nl cap) W)
  rw [hnl] at HU HE ⊢
  obtain ⟨U, hU⟩ : ∃ U, usesI ⟨o, a, b, k, s, l⟩ = U := ⟨_, rfl⟩
  rw [hU] at HU HE HUL
  obtain ⟨AM, hAM⟩ : ∃ x, amongB n U = x := ⟨_, rfl⟩
  have HBL := Lib.hid (fun (W : World) (A2 : Option Addr) (m c2 : Nat) (hm : U.length = m) (hI : Ints W (.slice A2 m c2) U) => refBelow_any n U A2 m c2 W hI (by have := HUL.out; omega))
  rw [hAM] at HE HBL
  rw [HNL.out] at HE
  clear hS hn hs hnl hU hAM HNL
  go_enter Try.func95, Try.ntmps95
  go_wp2_with fail
  have HBX := Lib.hid (balloc (Below.refl _ w) (.cells #[.int .i64 o, .int .i64 a, .int .i64 b, .int .u64 k, .string s, .slice A nl cap] 62))
  have HIX := Lib.hid (heap_alloc_new w (.cells #[.int .i64 o, .int .i64 a, .int .i64 b, .int .u64 k, .string s, .slice A nl cap] 62))
  generalize w.alloc (.cells #[.int .i64 o, .int .i64 a, .int .i64 b, .int .u64 k, .string s, .slice A nl cap] 62) = W1 at *
  refine (HU.out _ HBX.out).mono ?_
  rintro r w2 ⟨v', rfl, ho, hb⟩
  have HI2 := Lib.hid ho.ints
  obtain ⟨A2, c2, hv2⟩ := HI2.out.slice
  obtain ⟨nu, hnu⟩ : ∃ x, U.length = x := ⟨_, rfl⟩
  have HNU := Lib.hid (show U.length ≤ nu ∧ nu ≤ U.length by omega)
  have HI3 := Lib.hid (show Ints w2 (.slice A2 nu c2) U by rw [← hnu, ← hv2]; exact HI2.out)
  rw [hnu] at hv2
  subst hv2
  have HB2 := Lib.hid (bthen HBX.out hb)
  have HIX2 := Lib.hid ((hb.block _ (Array.getElem?_eq_some_iff.1 HIX.out).1).trans HIX.out)
  clear ho hb hnu
  go_wp2_with fail
  refine (HBL.out w2 A2 nu c2 (by have := HNU.out; omega) HI3.out).mono ?_
  rintro r w3 ⟨rfl, hb⟩
  have HB3 := Lib.hid (bthen HB2.out hb)
  have hix3 := (hb.block _ (Array.getElem?_eq_some_iff.1 HIX2.out).1).trans HIX2.out
  have c0 := Lib.cell_of_heap hix3 0
  have c1 := Lib.cell_of_heap hix3 1
  have c2 := Lib.cell_of_heap hix3 2
  have c3 := Lib.cell_of_heap hix3 3
  have c4 := Lib.cell_of_heap hix3 4
  have c5 := Lib.cell_of_heap hix3 5
  simp only [List.getElem?_toArray, List.getElem?_cons_zero, List.getElem?_cons_succ] at c0 c1 c2 c3 c4 c5
  have HIX3 := Lib.hid hix3
  clear hb hix3
  obtain rfl : o = 6 := by have := HO.out; omega
  have t1 : decide ((6 : Int) < 1) = false := rfl
  have t2 : decide ((16 : Int) < 6) = false := rfl
  cases AM with
  | false =>
    have HV := Lib.hid (show instB n ⟨6, a, b, k, s, l⟩ = false by rw [HE.out]; simp)
    go_wp2_with fail
    go_ret
    exact ⟨by rw [HV.out]; rfl, HB3.out⟩
  | true =>
  by_cases h6 : nl ≤ 6
  case neg =>
    have t3 : decide (6 < nl) = true := decide_eq_true (by omega)
    have t3' : decide ((6 : Int) < (nl : Int)) = true := decide_eq_true (by omega)
    have HV := Lib.hid (show instB n ⟨6, a, b, k, s, l⟩ = false by rw [HE.out]; simp [h6])
    go_wp2_with fail
    go_ret
    exact ⟨by rw [HV.out]; rfl, HB3.out⟩
  have t3 : decide (6 < nl) = false := decide_eq_false (by omega)
  have t3' : decide ((6 : Int) < (nl : Int)) = false := decide_eq_false (by omega)
  have HE := Lib.hid (show instB n ⟨6, a, b, k, s, l⟩ = ((aB 6 || a == 0) && (bB 6 || b == 0) && ((6 : Int) == 1 || k == 0) && ((6 : Int) == 14 || decide (nl = 0)) && (if hasB 6 then nameB s else s == ByteArray.empty)) by rw [HE.out, decide_eq_true (show 1 ≤ (6 : Int) by have := HO.out; omega), decide_eq_true (show (6 : Int) ≤ 16 by have := HO.out; omega), decide_eq_true h6]; rfl)
  clear h6
  rw [show aB 6 = true from rfl, show bB 6 = true from rfl, show hasB 6 = false from rfl, show ((6 : Int) == 1) = false from rfl, show ((6 : Int) == 14) = false from rfl] at HE
  rw [show hasB 6 = false from rfl] at HNM
  by_cases hk : k = 0
  case neg =>
    have hk1 : (k == 0) = false := by simpa using hk
    have hk2 : (k != 0) = true := by simpa using hk
    have hk3 : decide (k = 0) = false := decide_eq_false hk
    have HV := Lib.hid (show instB n ⟨6, a, b, k, s, l⟩ = false by rw [HE.out]; simp [hk])
    go_wp2_with fail
    go_ret
    exact ⟨by rw [HV.out]; rfl, HB3.out⟩
  subst hk
  by_cases hz : nl = 0
  case neg =>
    have t0 : decide (0 < nl) = true := decide_eq_true (by omega)
    have t0' : decide ((0 : Int) < (nl : Int)) = true := decide_eq_true (by omega)
    have HV := Lib.hid (show instB n ⟨6, a, b, 0, s, l⟩ = false by rw [HE.out]; simp [hz])
    go_wp2_with fail
    go_ret
    exact ⟨by rw [HV.out]; rfl, HB3.out⟩
  have t0 : decide (0 < nl) = false := decide_eq_false (by omega)
  have t0' : decide ((0 : Int) < (nl : Int)) = false := decide_eq_false (by omega)
  have HV := Lib.hid (show instB n ⟨6, a, b, 0, s, l⟩ = (s == ByteArray.empty) by rw [HE.out]; simp [hz])
  clear hz
  go_wp2_with fail
  refine (HNM.out _).mono ?_
  rintro r w4 ⟨rfl, hb4⟩
  have HB4 := Lib.hid (bthen HB3.out hb4)
  have d4 := Lib.cell_of_heap ((hb4.block _ (Array.getElem?_eq_some_iff.1 HIX3.out).1).trans HIX3.out) 4
  simp only [List.getElem?_toArray, List.getElem?_cons_zero, List.getElem?_cons_succ] at d4
  clear hb4 c0 c1 c2 c3 c4 c5
  go_wp2_with fail
  go_ret
  exact ⟨by rw [HV.out, ← ba_isEmpty]; rfl, HB4.out⟩
set_option maxRecDepth 100000 in
set_option maxHeartbeats 8000000 in
theorem refInst_l (i : In) (n : Int) (A : Option Addr) (cap : Nat) (w : World) (hS : Ints w (.slice A i.l.length cap) i.l) (hn : i.l.length * 8 ≤ 140737488355328) (hs : i.s.size < 9223372036854775808) (ho : i.o = 7) :
    Calls Try.prog 95 #[inV i (.slice A i.l.length cap), .int .i64 n] w fun e w' => e = .returned (.bool (instB n i)) ∧ Below w.heap.size w w' := by
  have HU := Lib.hid (fun (W : World) (hb : Below w.heap.size w W) => refUses_any i A cap W (hS.next hb) hn)
  have HUL := Lib.hid (show (usesI i).length * 8 ≤ 140737488355328 from by
    unfold usesI usesL
    repeat' split
    all_goals first | exact hn | simp)
  obtain ⟨o, a, b, k, s, l⟩ := i
  have HE := Lib.hid (instB_is n o a b k s l)
  unfold inV at HU ⊢
  simp only at hS hn hs HU HUL ho ⊢
  have HO := Lib.hid (show o ≤ 7 ∧ 7 ≤ o by omega)
  clear ho
  obtain ⟨nl, hnl⟩ : ∃ x, l.length = x := ⟨_, rfl⟩
  have HNL := Lib.hid (show decide (l = []) = decide (nl = 0) by rw [← hnl]; cases l <;> simp)
  have HME := Lib.hid (fun W : World => refName_any s W hs)
  have HNM := Lib.hid (fun W : World => refNamed_any o a b k s (.slice A nl cap) W)
  rw [hnl] at HU HE ⊢
  obtain ⟨U, hU⟩ : ∃ U, usesI ⟨o, a, b, k, s, l⟩ = U := ⟨_, rfl⟩
  rw [hU] at HU HE HUL
  obtain ⟨AM, hAM⟩ : ∃ x, amongB n U = x := ⟨_, rfl⟩
  have HBL := Lib.hid (fun (W : World) (A2 : Option Addr) (m c2 : Nat) (hm : U.length = m) (hI : Ints W (.slice A2 m c2) U) => refBelow_any n U A2 m c2 W hI (by have := HUL.out; omega))
  rw [hAM] at HE HBL
  rw [HNL.out] at HE
  clear hS hn hs hnl hU hAM HNL
  go_enter Try.func95, Try.ntmps95
  go_wp2_with fail
  have HBX := Lib.hid (balloc (Below.refl _ w) (.cells #[.int .i64 o, .int .i64 a, .int .i64 b, .int .u64 k, .string s, .slice A nl cap] 62))
  have HIX := Lib.hid (heap_alloc_new w (.cells #[.int .i64 o, .int .i64 a, .int .i64 b, .int .u64 k, .string s, .slice A nl cap] 62))
  generalize w.alloc (.cells #[.int .i64 o, .int .i64 a, .int .i64 b, .int .u64 k, .string s, .slice A nl cap] 62) = W1 at *
  refine (HU.out _ HBX.out).mono ?_
  rintro r w2 ⟨v', rfl, ho, hb⟩
  have HI2 := Lib.hid ho.ints
  obtain ⟨A2, c2, hv2⟩ := HI2.out.slice
  obtain ⟨nu, hnu⟩ : ∃ x, U.length = x := ⟨_, rfl⟩
  have HNU := Lib.hid (show U.length ≤ nu ∧ nu ≤ U.length by omega)
  have HI3 := Lib.hid (show Ints w2 (.slice A2 nu c2) U by rw [← hnu, ← hv2]; exact HI2.out)
  rw [hnu] at hv2
  subst hv2
  have HB2 := Lib.hid (bthen HBX.out hb)
  have HIX2 := Lib.hid ((hb.block _ (Array.getElem?_eq_some_iff.1 HIX.out).1).trans HIX.out)
  clear ho hb hnu
  go_wp2_with fail
  refine (HBL.out w2 A2 nu c2 (by have := HNU.out; omega) HI3.out).mono ?_
  rintro r w3 ⟨rfl, hb⟩
  have HB3 := Lib.hid (bthen HB2.out hb)
  have hix3 := (hb.block _ (Array.getElem?_eq_some_iff.1 HIX2.out).1).trans HIX2.out
  have c0 := Lib.cell_of_heap hix3 0
  have c1 := Lib.cell_of_heap hix3 1
  have c2 := Lib.cell_of_heap hix3 2
  have c3 := Lib.cell_of_heap hix3 3
  have c4 := Lib.cell_of_heap hix3 4
  have c5 := Lib.cell_of_heap hix3 5
  simp only [List.getElem?_toArray, List.getElem?_cons_zero, List.getElem?_cons_succ] at c0 c1 c2 c3 c4 c5
  have HIX3 := Lib.hid hix3
  clear hb hix3
  obtain rfl : o = 7 := by have := HO.out; omega
  have t1 : decide ((7 : Int) < 1) = false := rfl
  have t2 : decide ((16 : Int) < 7) = false := rfl
  cases AM with
  | false =>
    have HV := Lib.hid (show instB n ⟨7, a, b, k, s, l⟩ = false by rw [HE.out]; simp)
    go_wp2_with fail
    go_ret
    exact ⟨by rw [HV.out]; rfl, HB3.out⟩
  | true =>
  by_cases h6 : nl ≤ 6
  case neg =>
    have t3 : decide (6 < nl) = true := decide_eq_true (by omega)
    have t3' : decide ((6 : Int) < (nl : Int)) = true := decide_eq_true (by omega)
    have HV := Lib.hid (show instB n ⟨7, a, b, k, s, l⟩ = false by rw [HE.out]; simp [h6])
    go_wp2_with fail
    go_ret
    exact ⟨by rw [HV.out]; rfl, HB3.out⟩
  have t3 : decide (6 < nl) = false := decide_eq_false (by omega)
  have t3' : decide ((6 : Int) < (nl : Int)) = false := decide_eq_false (by omega)
  have HE := Lib.hid (show instB n ⟨7, a, b, k, s, l⟩ = ((aB 7 || a == 0) && (bB 7 || b == 0) && ((7 : Int) == 1 || k == 0) && ((7 : Int) == 14 || decide (nl = 0)) && (if hasB 7 then nameB s else s == ByteArray.empty)) by rw [HE.out, decide_eq_true (show 1 ≤ (7 : Int) by have := HO.out; omega), decide_eq_true (show (7 : Int) ≤ 16 by have := HO.out; omega), decide_eq_true h6]; rfl)
  clear h6
  rw [show aB 7 = true from rfl, show bB 7 = true from rfl, show hasB 7 = false from rfl, show ((7 : Int) == 1) = false from rfl, show ((7 : Int) == 14) = false from rfl] at HE
  rw [show hasB 7 = false from rfl] at HNM
  by_cases hk : k = 0
  case neg =>
    have hk1 : (k == 0) = false := by simpa using hk
    have hk2 : (k != 0) = true := by simpa using hk
    have hk3 : decide (k = 0) = false := decide_eq_false hk
    have HV := Lib.hid (show instB n ⟨7, a, b, k, s, l⟩ = false by rw [HE.out]; simp [hk])
    go_wp2_with fail
    go_ret
    exact ⟨by rw [HV.out]; rfl, HB3.out⟩
  subst hk
  by_cases hz : nl = 0
  case neg =>
    have t0 : decide (0 < nl) = true := decide_eq_true (by omega)
    have t0' : decide ((0 : Int) < (nl : Int)) = true := decide_eq_true (by omega)
    have HV := Lib.hid (show instB n ⟨7, a, b, 0, s, l⟩ = false by rw [HE.out]; simp [hz])
    go_wp2_with fail
    go_ret
    exact ⟨by rw [HV.out]; rfl, HB3.out⟩
  have t0 : decide (0 < nl) = false := decide_eq_false (by omega)
  have t0' : decide ((0 : Int) < (nl : Int)) = false := decide_eq_false (by omega)
  have HV := Lib.hid (show instB n ⟨7, a, b, 0, s, l⟩ = (s == ByteArray.empty) by rw [HE.out]; simp [hz])
  clear hz
  go_wp2_with fail
  refine (HNM.out _).mono ?_
  rintro r w4 ⟨rfl, hb4⟩
  have HB4 := Lib.hid (bthen HB3.out hb4)
  have d4 := Lib.cell_of_heap ((hb4.block _ (Array.getElem?_eq_some_iff.1 HIX3.out).1).trans HIX3.out) 4
  simp only [List.getElem?_toArray, List.getElem?_cons_zero, List.getElem?_cons_succ] at d4
  clear hb4 c0 c1 c2 c3 c4 c5
  go_wp2_with fail
  go_ret
  exact ⟨by rw [HV.out, ← ba_isEmpty]; rfl, HB4.out⟩
end Go.Proofs.Ytoglmdadpchhoaa

namespace Go.Proofs.Ytoglmdadpchhoaa
open Go.RowKit
set_option maxRecDepth 100000 in
set_option maxHeartbeats 8000000 in
theorem refInst_m (i : In) (n : Int) (A : Option Addr) (cap : Nat) (w : World) (hS : Ints w (.slice A i.l.length cap) i.l) (hn : i.l.length * 8 ≤ 140737488355328) (hs : i.s.size < 9223372036854775808) (ho : i.o = 8) :
    Calls Try.prog 95 #[inV i (.slice A i.l.length cap), .int .i64 n] w fun e w' => e = .returned (.bool (instB n i)) ∧ Below w.heap.size w w' := by
  have HU := Lib.hid (fun (W : World) (hb : Below w.heap.size w W) => refUses_any i A cap W (hS.next hb) hn)
  have HUL := Lib.hid (show (usesI i).length * 8 ≤ 140737488355328 from by
    unfold usesI usesL
    repeat' split
    all_goals first | exact hn | simp)
  obtain ⟨o, a, b, k, s, l⟩ := i
  have HE := Lib.hid (instB_is n o a b k s l)
  unfold inV at HU ⊢
  simp only at hS hn hs HU HUL ho ⊢
  have HO := Lib.hid (show o ≤ 8 ∧ 8 ≤ o by omega)
  clear ho
  obtain ⟨nl, hnl⟩ : ∃ x, l.length = x := ⟨_, rfl⟩
  have HNL := Lib.hid (show decide (l = []) = decide (nl = 0) by rw [← hnl]; cases l <;> simp)
  have HME := Lib.hid (fun W : World => refName_any s W hs)
  have HNM := Lib.hid (fun W : World => refNamed_any o a b k s (.slice A nl cap) W)
  rw [hnl] at HU HE ⊢
  obtain ⟨U, hU⟩ : ∃ U, usesI ⟨o, a, b, k, s, l⟩ = U := ⟨_, rfl⟩
  rw [hU] at HU HE HUL
  obtain ⟨AM, hAM⟩ : ∃ x, amongB n U = x := ⟨_, rfl⟩
  have HBL := Lib.hid (fun (W : World) (A2 : Option Addr) (m c2 : Nat) (hm : U.length = m) (hI : Ints W (.slice A2 m c2) U) => refBelow_any n U A2 m c2 W hI (by have := HUL.out; omega))
  rw [hAM] at HE HBL
  rw [HNL.out] at HE
  clear hS hn hs hnl hU hAM HNL
  go_enter Try.func95, Try.ntmps95
  go_wp2_with fail
  have HBX := Lib.hid (balloc (Below.refl _ w) (.cells #[.int .i64 o, .int .i64 a, .int .i64 b, .int .u64 k, .string s, .slice A nl cap] 62))
  have HIX := Lib.hid (heap_alloc_new w (.cells #[.int .i64 o, .int .i64 a, .int .i64 b, .int .u64 k, .string s, .slice A nl cap] 62))
  generalize w.alloc (.cells #[.int .i64 o, .int .i64 a, .int .i64 b, .int .u64 k, .string s, .slice A nl cap] 62) = W1 at *
  refine (HU.out _ HBX.out).mono ?_
  rintro r w2 ⟨v', rfl, ho, hb⟩
  have HI2 := Lib.hid ho.ints
  obtain ⟨A2, c2, hv2⟩ := HI2.out.slice
  obtain ⟨nu, hnu⟩ : ∃ x, U.length = x := ⟨_, rfl⟩
  have HNU := Lib.hid (show U.length ≤ nu ∧ nu ≤ U.length by omega)
  have HI3 := Lib.hid (show Ints w2 (.slice A2 nu c2) U by rw [← hnu, ← hv2]; exact HI2.out)
  rw [hnu] at hv2
  subst hv2
  have HB2 := Lib.hid (bthen HBX.out hb)
  have HIX2 := Lib.hid ((hb.block _ (Array.getElem?_eq_some_iff.1 HIX.out).1).trans HIX.out)
  clear ho hb hnu
  go_wp2_with fail
  refine (HBL.out w2 A2 nu c2 (by have := HNU.out; omega) HI3.out).mono ?_
  rintro r w3 ⟨rfl, hb⟩
  have HB3 := Lib.hid (bthen HB2.out hb)
  have hix3 := (hb.block _ (Array.getElem?_eq_some_iff.1 HIX2.out).1).trans HIX2.out
  have c0 := Lib.cell_of_heap hix3 0
  have c1 := Lib.cell_of_heap hix3 1
  have c2 := Lib.cell_of_heap hix3 2
  have c3 := Lib.cell_of_heap hix3 3
  have c4 := Lib.cell_of_heap hix3 4
  have c5 := Lib.cell_of_heap hix3 5
  simp only [List.getElem?_toArray, List.getElem?_cons_zero, List.getElem?_cons_succ] at c0 c1 c2 c3 c4 c5
  have HIX3 := Lib.hid hix3
  clear hb hix3
  obtain rfl : o = 8 := by have := HO.out; omega
  have t1 : decide ((8 : Int) < 1) = false := rfl
  have t2 : decide ((16 : Int) < 8) = false := rfl
  cases AM with
  | false =>
    have HV := Lib.hid (show instB n ⟨8, a, b, k, s, l⟩ = false by rw [HE.out]; simp)
    go_wp2_with fail
    go_ret
    exact ⟨by rw [HV.out]; rfl, HB3.out⟩
  | true =>
  by_cases h6 : nl ≤ 6
  case neg =>
    have t3 : decide (6 < nl) = true := decide_eq_true (by omega)
    have t3' : decide ((6 : Int) < (nl : Int)) = true := decide_eq_true (by omega)
    have HV := Lib.hid (show instB n ⟨8, a, b, k, s, l⟩ = false by rw [HE.out]; simp [h6])
    go_wp2_with fail
    go_ret
    exact ⟨by rw [HV.out]; rfl, HB3.out⟩
  have t3 : decide (6 < nl) = false := decide_eq_false (by omega)
  have t3' : decide ((6 : Int) < (nl : Int)) = false := decide_eq_false (by omega)
  have HE := Lib.hid (show instB n ⟨8, a, b, k, s, l⟩ = ((aB 8 || a == 0) && (bB 8 || b == 0) && ((8 : Int) == 1 || k == 0) && ((8 : Int) == 14 || decide (nl = 0)) && (if hasB 8 then nameB s else s == ByteArray.empty)) by rw [HE.out, decide_eq_true (show 1 ≤ (8 : Int) by have := HO.out; omega), decide_eq_true (show (8 : Int) ≤ 16 by have := HO.out; omega), decide_eq_true h6]; rfl)
  clear h6
  rw [show aB 8 = true from rfl, show bB 8 = true from rfl, show hasB 8 = false from rfl, show ((8 : Int) == 1) = false from rfl, show ((8 : Int) == 14) = false from rfl] at HE
  rw [show hasB 8 = false from rfl] at HNM
  by_cases hk : k = 0
  case neg =>
    have hk1 : (k == 0) = false := by simpa using hk
    have hk2 : (k != 0) = true := by simpa using hk
    have hk3 : decide (k = 0) = false := decide_eq_false hk
    have HV := Lib.hid (show instB n ⟨8, a, b, k, s, l⟩ = false by rw [HE.out]; simp [hk])
    go_wp2_with fail
    go_ret
    exact ⟨by rw [HV.out]; rfl, HB3.out⟩
  subst hk
  by_cases hz : nl = 0
  case neg =>
    have t0 : decide (0 < nl) = true := decide_eq_true (by omega)
    have t0' : decide ((0 : Int) < (nl : Int)) = true := decide_eq_true (by omega)
    have HV := Lib.hid (show instB n ⟨8, a, b, 0, s, l⟩ = false by rw [HE.out]; simp [hz])
    go_wp2_with fail
    go_ret
    exact ⟨by rw [HV.out]; rfl, HB3.out⟩
  have t0 : decide (0 < nl) = false := decide_eq_false (by omega)
  have t0' : decide ((0 : Int) < (nl : Int)) = false := decide_eq_false (by omega)
  have HV := Lib.hid (show instB n ⟨8, a, b, 0, s, l⟩ = (s == ByteArray.empty) by rw [HE.out]; simp [hz])
  clear hz
  go_wp2_with fail
  refine (HNM.out _).mono ?_
  rintro r w4 ⟨rfl, hb4⟩
  have HB4 := Lib.hid (bthen HB3.out hb4)
  have d4 := Lib.cell_of_heap ((hb4.block _ (Array.getElem?_eq_some_iff.1 HIX3.out).1).trans HIX3.out) 4
  simp only [List.getElem?_toArray, List.getElem?_cons_zero, List.getElem?_cons_succ] at d4
  clear hb4 c0 c1 c2 c3 c4 c5
  go_wp2_with fail
  go_ret
  exact ⟨by rw [HV.out, ← ba_isEmpty]; rfl, HB4.out⟩
set_option maxRecDepth 100000 in
set_option maxHeartbeats 8000000 in
theorem refInst_n (i : In) (n : Int) (A : Option Addr) (cap : Nat) (w : World) (hS : Ints w (.slice A i.l.length cap) i.l) (hn : i.l.length * 8 ≤ 140737488355328) (hs : i.s.size < 9223372036854775808) (ho : i.o = 9) :
    Calls Try.prog 95 #[inV i (.slice A i.l.length cap), .int .i64 n] w fun e w' => e = .returned (.bool (instB n i)) ∧ Below w.heap.size w w' := by
  have HU := Lib.hid (fun (W : World) (hb : Below w.heap.size w W) => refUses_any i A cap W (hS.next hb) hn)
  have HUL := Lib.hid (show (usesI i).length * 8 ≤ 140737488355328 from by
    unfold usesI usesL
    repeat' split
    all_goals first | exact hn | simp)
  obtain ⟨o, a, b, k, s, l⟩ := i
  have HE := Lib.hid (instB_is n o a b k s l)
  unfold inV at HU ⊢
  simp only at hS hn hs HU HUL ho ⊢
  have HO := Lib.hid (show o ≤ 9 ∧ 9 ≤ o by omega)
  clear ho
  obtain ⟨nl, hnl⟩ : ∃ x, l.length = x := ⟨_, rfl⟩
  have HNL := Lib.hid (show decide (l = []) = decide (nl = 0) by rw [← hnl]; cases l <;> simp)
  have HME := Lib.hid (fun W : World => refName_any s W hs)
  have HNM := Lib.hid (fun W : World => refNamed_any o a b k s (.slice A nl cap) W)
  rw [hnl] at HU HE ⊢
  obtain ⟨U, hU⟩ : ∃ U, usesI ⟨o, a, b, k, s, l⟩ = U := ⟨_, rfl⟩
  rw [hU] at HU HE HUL
  obtain ⟨AM, hAM⟩ : ∃ x, amongB n U = x := ⟨_, rfl⟩
  have HBL := Lib.hid (fun (W : World) (A2 : Option Addr) (m c2 : Nat) (hm : U.length = m) (hI : Ints W (.slice A2 m c2) U) => refBelow_any n U A2 m c2 W hI (by have := HUL.out; omega))
  rw [hAM] at HE HBL
  rw [HNL.out] at HE
  clear hS hn hs hnl hU hAM HNL
  go_enter Try.func95, Try.ntmps95
  go_wp2_with fail
  have HBX := Lib.hid (balloc (Below.refl _ w) (.cells #[.int .i64 o, .int .i64 a, .int .i64 b, .int .u64 k, .string s, .slice A nl cap] 62))
  have HIX := Lib.hid (heap_alloc_new w (.cells #[.int .i64 o, .int .i64 a, .int .i64 b, .int .u64 k, .string s, .slice A nl cap] 62))
  generalize w.alloc (.cells #[.int .i64 o, .int .i64 a, .int .i64 b, .int .u64 k, .string s, .slice A nl cap] 62) = W1 at *
  refine (HU.out _ HBX.out).mono ?_
  rintro r w2 ⟨v', rfl, ho, hb⟩
  have HI2 := Lib.hid ho.ints
  obtain ⟨A2, c2, hv2⟩ := HI2.out.slice
  obtain ⟨nu, hnu⟩ : ∃ x, U.length = x := ⟨_, rfl⟩
  have HNU := Lib.hid (show U.length ≤ nu ∧ nu ≤ U.length by omega)
  have HI3 := Lib.hid (show Ints w2 (.slice A2 nu c2) U by rw [← hnu, ← hv2]; exact HI2.out)
  rw [hnu] at hv2
  subst hv2
  have HB2 := Lib.hid (bthen HBX.out hb)
  have HIX2 := Lib.hid ((hb.block _ (Array.getElem?_eq_some_iff.1 HIX.out).1).trans HIX.out)
  clear ho hb hnu
  go_wp2_with fail
  refine (HBL.out w2 A2 nu c2 (by have := HNU.out; omega) HI3.out).mono ?_
  rintro r w3 ⟨rfl, hb⟩
  have HB3 := Lib.hid (bthen HB2.out hb)
  have hix3 := (hb.block _ (Array.getElem?_eq_some_iff.1 HIX2.out).1).trans HIX2.out
  have c0 := Lib.cell_of_heap hix3 0
  have c1 := Lib.cell_of_heap hix3 1
  have c2 := Lib.cell_of_heap hix3 2
  have c3 := Lib.cell_of_heap hix3 3
  have c4 := Lib.cell_of_heap hix3 4
  have c5 := Lib.cell_of_heap hix3 5
  simp only [List.getElem?_toArray, List.getElem?_cons_zero, List.getElem?_cons_succ] at c0 c1 c2 c3 c4 c5
  have HIX3 := Lib.hid hix3
  clear hb hix3
  obtain rfl : o = 9 := by have := HO.out; omega
  have t1 : decide ((9 : Int) < 1) = false := rfl
  have t2 : decide ((16 : Int) < 9) = false := rfl
  cases AM with
  | false =>
    have HV := Lib.hid (show instB n ⟨9, a, b, k, s, l⟩ = false by rw [HE.out]; simp)
    go_wp2_with fail
    go_ret
    exact ⟨by rw [HV.out]; rfl, HB3.out⟩
  | true =>
  by_cases h6 : nl ≤ 6
  case neg =>
    have t3 : decide (6 < nl) = true := decide_eq_true (by omega)
    have t3' : decide ((6 : Int) < (nl : Int)) = true := decide_eq_true (by omega)
    have HV := Lib.hid (show instB n ⟨9, a, b, k, s, l⟩ = false by rw [HE.out]; simp [h6])
    go_wp2_with fail
    go_ret
    exact ⟨by rw [HV.out]; rfl, HB3.out⟩
  have t3 : decide (6 < nl) = false := decide_eq_false (by omega)
  have t3' : decide ((6 : Int) < (nl : Int)) = false := decide_eq_false (by omega)
  have HE := Lib.hid (show instB n ⟨9, a, b, k, s, l⟩ = ((aB 9 || a == 0) && (bB 9 || b == 0) && ((9 : Int) == 1 || k == 0) && ((9 : Int) == 14 || decide (nl = 0)) && (if hasB 9 then nameB s else s == ByteArray.empty)) by rw [HE.out, decide_eq_true (show 1 ≤ (9 : Int) by have := HO.out; omega), decide_eq_true (show (9 : Int) ≤ 16 by have := HO.out; omega), decide_eq_true h6]; rfl)
  clear h6
  rw [show aB 9 = true from rfl, show bB 9 = true from rfl, show hasB 9 = false from rfl, show ((9 : Int) == 1) = false from rfl, show ((9 : Int) == 14) = false from rfl] at HE
  rw [show hasB 9 = false from rfl] at HNM
  by_cases hk : k = 0
  case neg =>
    have hk1 : (k == 0) = false := by simpa using hk
    have hk2 : (k != 0) = true := by simpa using hk
    have hk3 : decide (k = 0) = false := decide_eq_false hk
    have HV := Lib.hid (show instB n ⟨9, a, b, k, s, l⟩ = false by rw [HE.out]; simp [hk])
    go_wp2_with fail
    go_ret
    exact ⟨by rw [HV.out]; rfl, HB3.out⟩
  subst hk
  by_cases hz : nl = 0
  case neg =>
    have t0 : decide (0 < nl) = true := decide_eq_true (by omega)
    have t0' : decide ((0 : Int) < (nl : Int)) = true := decide_eq_true (by omega)
    have HV := Lib.hid (show instB n ⟨9, a, b, 0, s, l⟩ = false by rw [HE.out]; simp [hz])
    go_wp2_with fail
    go_ret
    exact ⟨by rw [HV.out]; rfl, HB3.out⟩
  have t0 : decide (0 < nl) = false := decide_eq_false (by omega)
  have t0' : decide ((0 : Int) < (nl : Int)) = false := decide_eq_false (by omega)
  have HV := Lib.hid (show instB n ⟨9, a, b, 0, s, l⟩ = (s == ByteArray.empty) by rw [HE.out]; simp [hz])
  clear hz
  go_wp2_with fail
  refine (HNM.out _).mono ?_
  rintro r w4 ⟨rfl, hb4⟩
  have HB4 := Lib.hid (bthen HB3.out hb4)
  have d4 := Lib.cell_of_heap ((hb4.block _ (Array.getElem?_eq_some_iff.1 HIX3.out).1).trans HIX3.out) 4
  simp only [List.getElem?_toArray, List.getElem?_cons_zero, List.getElem?_cons_succ] at d4
  clear hb4 c0 c1 c2 c3 c4 c5
  go_wp2_with fail
  go_ret
  exact ⟨by rw [HV.out, ← ba_isEmpty]; rfl, HB4.out⟩
set_option maxRecDepth 100000 in
set_option maxHeartbeats 8000000 in
theorem refInst_p (i : In) (n : Int) (A : Option Addr) (cap : Nat) (w : World) (hS : Ints w (.slice A i.l.length cap) i.l) (hn : i.l.length * 8 ≤ 140737488355328) (hs : i.s.size < 9223372036854775808) (ho : i.o = 10) :
    Calls Try.prog 95 #[inV i (.slice A i.l.length cap), .int .i64 n] w fun e w' => e = .returned (.bool (instB n i)) ∧ Below w.heap.size w w' := by
  have HU := Lib.hid (fun (W : World) (hb : Below w.heap.size w W) => refUses_any i A cap W (hS.next hb) hn)
  have HUL := Lib.hid (show (usesI i).length * 8 ≤ 140737488355328 from by
    unfold usesI usesL
    repeat' split
    all_goals first | exact hn | simp)
  obtain ⟨o, a, b, k, s, l⟩ := i
  have HE := Lib.hid (instB_is n o a b k s l)
  unfold inV at HU ⊢
  simp only at hS hn hs HU HUL ho ⊢
  have HO := Lib.hid (show o ≤ 10 ∧ 10 ≤ o by omega)
  clear ho
  obtain ⟨nl, hnl⟩ : ∃ x, l.length = x := ⟨_, rfl⟩
  have HNL := Lib.hid (show decide (l = []) = decide (nl = 0) by rw [← hnl]; cases l <;> simp)
  have HME := Lib.hid (fun W : World => refName_any s W hs)
  have HNM := Lib.hid (fun W : World => refNamed_any o a b k s (.slice A nl cap) W)
  rw [hnl] at HU HE ⊢
  obtain ⟨U, hU⟩ : ∃ U, usesI ⟨o, a, b, k, s, l⟩ = U := ⟨_, rfl⟩
  rw [hU] at HU HE HUL
  obtain ⟨AM, hAM⟩ : ∃ x, amongB n U = x := ⟨_, rfl⟩
  have HBL := Lib.hid (fun (W : World) (A2 : Option Addr) (m c2 : Nat) (hm : U.length = m) (hI : Ints W (.slice A2 m c2) U) => refBelow_any n U A2 m c2 W hI (by have := HUL.out; omega))
  rw [hAM] at HE HBL
  rw [HNL.out] at HE
  clear hS hn hs hnl hU hAM HNL
  go_enter Try.func95, Try.ntmps95
  go_wp2_with fail
  have HBX := Lib.hid (balloc (Below.refl _ w) (.cells #[.int .i64 o, .int .i64 a, .int .i64 b, .int .u64 k, .string s, .slice A nl cap] 62))
  have HIX := Lib.hid (heap_alloc_new w (.cells #[.int .i64 o, .int .i64 a, .int .i64 b, .int .u64 k, .string s, .slice A nl cap] 62))
  generalize w.alloc (.cells #[.int .i64 o, .int .i64 a, .int .i64 b, .int .u64 k, .string s, .slice A nl cap] 62) = W1 at *
  refine (HU.out _ HBX.out).mono ?_
  rintro r w2 ⟨v', rfl, ho, hb⟩
  have HI2 := Lib.hid ho.ints
  obtain ⟨A2, c2, hv2⟩ := HI2.out.slice
  obtain ⟨nu, hnu⟩ : ∃ x, U.length = x := ⟨_, rfl⟩
  have HNU := Lib.hid (show U.length ≤ nu ∧ nu ≤ U.length by omega)
  have HI3 := Lib.hid (show Ints w2 (.slice A2 nu c2) U by rw [← hnu, ← hv2]; exact HI2.out)
  rw [hnu] at hv2
  subst hv2
  have HB2 := Lib.hid (bthen HBX.out hb)
  have HIX2 := Lib.hid ((hb.block _ (Array.getElem?_eq_some_iff.1 HIX.out).1).trans HIX.out)
  clear ho hb hnu
  go_wp2_with fail
  refine (HBL.out w2 A2 nu c2 (by have := HNU.out; omega) HI3.out).mono ?_
  rintro r w3 ⟨rfl, hb⟩
  have HB3 := Lib.hid (bthen HB2.out hb)
  have hix3 := (hb.block _ (Array.getElem?_eq_some_iff.1 HIX2.out).1).trans HIX2.out
  have c0 := Lib.cell_of_heap hix3 0
  have c1 := Lib.cell_of_heap hix3 1
  have c2 := Lib.cell_of_heap hix3 2
  have c3 := Lib.cell_of_heap hix3 3
  have c4 := Lib.cell_of_heap hix3 4
  have c5 := Lib.cell_of_heap hix3 5
  simp only [List.getElem?_toArray, List.getElem?_cons_zero, List.getElem?_cons_succ] at c0 c1 c2 c3 c4 c5
  have HIX3 := Lib.hid hix3
  clear hb hix3
  obtain rfl : o = 10 := by have := HO.out; omega
  have t1 : decide ((10 : Int) < 1) = false := rfl
  have t2 : decide ((16 : Int) < 10) = false := rfl
  cases AM with
  | false =>
    have HV := Lib.hid (show instB n ⟨10, a, b, k, s, l⟩ = false by rw [HE.out]; simp)
    go_wp2_with fail
    go_ret
    exact ⟨by rw [HV.out]; rfl, HB3.out⟩
  | true =>
  by_cases h6 : nl ≤ 6
  case neg =>
    have t3 : decide (6 < nl) = true := decide_eq_true (by omega)
    have t3' : decide ((6 : Int) < (nl : Int)) = true := decide_eq_true (by omega)
    have HV := Lib.hid (show instB n ⟨10, a, b, k, s, l⟩ = false by rw [HE.out]; simp [h6])
    go_wp2_with fail
    go_ret
    exact ⟨by rw [HV.out]; rfl, HB3.out⟩
  have t3 : decide (6 < nl) = false := decide_eq_false (by omega)
  have t3' : decide ((6 : Int) < (nl : Int)) = false := decide_eq_false (by omega)
  have HE := Lib.hid (show instB n ⟨10, a, b, k, s, l⟩ = ((aB 10 || a == 0) && (bB 10 || b == 0) && ((10 : Int) == 1 || k == 0) && ((10 : Int) == 14 || decide (nl = 0)) && (if hasB 10 then nameB s else s == ByteArray.empty)) by rw [HE.out, decide_eq_true (show 1 ≤ (10 : Int) by have := HO.out; omega), decide_eq_true (show (10 : Int) ≤ 16 by have := HO.out; omega), decide_eq_true h6]; rfl)
  clear h6
  rw [show aB 10 = true from rfl, show bB 10 = true from rfl, show hasB 10 = false from rfl, show ((10 : Int) == 1) = false from rfl, show ((10 : Int) == 14) = false from rfl] at HE
  rw [show hasB 10 = false from rfl] at HNM
  by_cases hk : k = 0
  case neg =>
    have hk1 : (k == 0) = false := by simpa using hk
    have hk2 : (k != 0) = true := by simpa using hk
    have hk3 : decide (k = 0) = false := decide_eq_false hk
    have HV := Lib.hid (show instB n ⟨10, a, b, k, s, l⟩ = false by rw [HE.out]; simp [hk])
    go_wp2_with fail
    go_ret
    exact ⟨by rw [HV.out]; rfl, HB3.out⟩
  subst hk
  by_cases hz : nl = 0
  case neg =>
    have t0 : decide (0 < nl) = true := decide_eq_true (by omega)
    have t0' : decide ((0 : Int) < (nl : Int)) = true := decide_eq_true (by omega)
    have HV := Lib.hid (show instB n ⟨10, a, b, 0, s, l⟩ = false by rw [HE.out]; simp [hz])
    go_wp2_with fail
    go_ret
    exact ⟨by rw [HV.out]; rfl, HB3.out⟩
  have t0 : decide (0 < nl) = false := decide_eq_false (by omega)
  have t0' : decide ((0 : Int) < (nl : Int)) = false := decide_eq_false (by omega)
  have HV := Lib.hid (show instB n ⟨10, a, b, 0, s, l⟩ = (s == ByteArray.empty) by rw [HE.out]; simp [hz])
  clear hz
  go_wp2_with fail
  refine (HNM.out _).mono ?_
  rintro r w4 ⟨rfl, hb4⟩
  have HB4 := Lib.hid (bthen HB3.out hb4)
  have d4 := Lib.cell_of_heap ((hb4.block _ (Array.getElem?_eq_some_iff.1 HIX3.out).1).trans HIX3.out) 4
  simp only [List.getElem?_toArray, List.getElem?_cons_zero, List.getElem?_cons_succ] at d4
  clear hb4 c0 c1 c2 c3 c4 c5
  go_wp2_with fail
  go_ret
  exact ⟨by rw [HV.out, ← ba_isEmpty]; rfl, HB4.out⟩
set_option maxRecDepth 100000 in
set_option maxHeartbeats 8000000 in
theorem refInst_q (i : In) (n : Int) (A : Option Addr) (cap : Nat) (w : World) (hS : Ints w (.slice A i.l.length cap) i.l) (hn : i.l.length * 8 ≤ 140737488355328) (hs : i.s.size < 9223372036854775808) (ho : i.o = 11) :
    Calls Try.prog 95 #[inV i (.slice A i.l.length cap), .int .i64 n] w fun e w' => e = .returned (.bool (instB n i)) ∧ Below w.heap.size w w' := by
  have HU := Lib.hid (fun (W : World) (hb : Below w.heap.size w W) => refUses_any i A cap W (hS.next hb) hn)
  have HUL := Lib.hid (show (usesI i).length * 8 ≤ 140737488355328 from by
    unfold usesI usesL
    repeat' split
    all_goals first | exact hn | simp)
  obtain ⟨o, a, b, k, s, l⟩ := i
  have HE := Lib.hid (instB_is n o a b k s l)
  unfold inV at HU ⊢
  simp only at hS hn hs HU HUL ho ⊢
  have HO := Lib.hid (show o ≤ 11 ∧ 11 ≤ o by omega)
  clear ho
  obtain ⟨nl, hnl⟩ : ∃ x, l.length = x := ⟨_, rfl⟩
  have HNL := Lib.hid (show decide (l = []) = decide (nl = 0) by rw [← hnl]; cases l <;> simp)
  have HME := Lib.hid (fun W : World => refName_any s W hs)
  have HNM := Lib.hid (fun W : World => refNamed_any o a b k s (.slice A nl cap) W)
  rw [hnl] at HU HE ⊢
  obtain ⟨U, hU⟩ : ∃ U, usesI ⟨o, a, b, k, s, l⟩ = U := ⟨_, rfl⟩
  rw [hU] at HU HE HUL
  obtain ⟨AM, hAM⟩ : ∃ x, amongB n U = x := ⟨_, rfl⟩
  have HBL := Lib.hid (fun (W : World) (A2 : Option Addr) (m c2 : Nat) (hm : U.length = m) (hI : Ints W (.slice A2 m c2) U) => refBelow_any n U A2 m c2 W hI (by have := HUL.out; omega))
  rw [hAM] at HE HBL
  rw [HNL.out] at HE
  clear hS hn hs hnl hU hAM HNL
  go_enter Try.func95, Try.ntmps95
  go_wp2_with fail
  have HBX := Lib.hid (balloc (Below.refl _ w) (.cells #[.int .i64 o, .int .i64 a, .int .i64 b, .int .u64 k, .string s, .slice A nl cap] 62))
  have HIX := Lib.hid (heap_alloc_new w (.cells #[.int .i64 o, .int .i64 a, .int .i64 b, .int .u64 k, .string s, .slice A nl cap] 62))
  generalize w.alloc (.cells #[.int .i64 o, .int .i64 a, .int .i64 b, .int .u64 k, .string s, .slice A nl cap] 62) = W1 at *
  refine (HU.out _ HBX.out).mono ?_
  rintro r w2 ⟨v', rfl, ho, hb⟩
  have HI2 := Lib.hid ho.ints
  obtain ⟨A2, c2, hv2⟩ := HI2.out.slice
  obtain ⟨nu, hnu⟩ : ∃ x, U.length = x := ⟨_, rfl⟩
  have HNU := Lib.hid (show U.length ≤ nu ∧ nu ≤ U.length by omega)
  have HI3 := Lib.hid (show Ints w2 (.slice A2 nu c2) U by rw [← hnu, ← hv2]; exact HI2.out)
  rw [hnu] at hv2
  subst hv2
  have HB2 := Lib.hid (bthen HBX.out hb)
  have HIX2 := Lib.hid ((hb.block _ (Array.getElem?_eq_some_iff.1 HIX.out).1).trans HIX.out)
  clear ho hb hnu
  go_wp2_with fail
  refine (HBL.out w2 A2 nu c2 (by have := HNU.out; omega) HI3.out).mono ?_
  rintro r w3 ⟨rfl, hb⟩
  have HB3 := Lib.hid (bthen HB2.out hb)
  have hix3 := (hb.block _ (Array.getElem?_eq_some_iff.1 HIX2.out).1).trans HIX2.out
  have c0 := Lib.cell_of_heap hix3 0
  have c1 := Lib.cell_of_heap hix3 1
  have c2 := Lib.cell_of_heap hix3 2
  have c3 := Lib.cell_of_heap hix3 3
  have c4 := Lib.cell_of_heap hix3 4
  have c5 := Lib.cell_of_heap hix3 5
  simp only [List.getElem?_toArray, List.getElem?_cons_zero, List.getElem?_cons_succ] at c0 c1 c2 c3 c4 c5
  have HIX3 := Lib.hid hix3
  clear hb hix3
  obtain rfl : o = 11 := by have := HO.out; omega
  have t1 : decide ((11 : Int) < 1) = false := rfl
  have t2 : decide ((16 : Int) < 11) = false := rfl
  cases AM with
  | false =>
    have HV := Lib.hid (show instB n ⟨11, a, b, k, s, l⟩ = false by rw [HE.out]; simp)
    go_wp2_with fail
    go_ret
    exact ⟨by rw [HV.out]; rfl, HB3.out⟩
  | true =>
  by_cases h6 : nl ≤ 6
  case neg =>
    have t3 : decide (6 < nl) = true := decide_eq_true (by omega)
    have t3' : decide ((6 : Int) < (nl : Int)) = true := decide_eq_true (by omega)
    have HV := Lib.hid (show instB n ⟨11, a, b, k, s, l⟩ = false by rw [HE.out]; simp [h6])
    go_wp2_with fail
    go_ret
    exact ⟨by rw [HV.out]; rfl, HB3.out⟩
  have t3 : decide (6 < nl) = false := decide_eq_false (by omega)
  have t3' : decide ((6 : Int) < (nl : Int)) = false := decide_eq_false (by omega)
  have HE := Lib.hid (show instB n ⟨11, a, b, k, s, l⟩ = ((aB 11 || a == 0) && (bB 11 || b == 0) && ((11 : Int) == 1 || k == 0) && ((11 : Int) == 14 || decide (nl = 0)) && (if hasB 11 then nameB s else s == ByteArray.empty)) by rw [HE.out, decide_eq_true (show 1 ≤ (11 : Int) by have := HO.out; omega), decide_eq_true (show (11 : Int) ≤ 16 by have := HO.out; omega), decide_eq_true h6]; rfl)
  clear h6
  rw [show aB 11 = true from rfl, show bB 11 = true from rfl, show hasB 11 = false from rfl, show ((11 : Int) == 1) = false from rfl, show ((11 : Int) == 14) = false from rfl] at HE
  rw [show hasB 11 = false from rfl] at HNM
  by_cases hk : k = 0
  case neg =>
    have hk1 : (k == 0) = false := by simpa using hk
    have hk2 : (k != 0) = true := by simpa using hk
    have hk3 : decide (k = 0) = false := decide_eq_false hk
    have HV := Lib.hid (show instB n ⟨11, a, b, k, s, l⟩ = false by rw [HE.out]; simp [hk])
    go_wp2_with fail
    go_ret
    exact ⟨by rw [HV.out]; rfl, HB3.out⟩
  subst hk
  by_cases hz : nl = 0
  case neg =>
    have t0 : decide (0 < nl) = true := decide_eq_true (by omega)
    have t0' : decide ((0 : Int) < (nl : Int)) = true := decide_eq_true (by omega)
    have HV := Lib.hid (show instB n ⟨11, a, b, 0, s, l⟩ = false by rw [HE.out]; simp [hz])
    go_wp2_with fail
    go_ret
    exact ⟨by rw [HV.out]; rfl, HB3.out⟩
  have t0 : decide (0 < nl) = false := decide_eq_false (by omega)
  have t0' : decide ((0 : Int) < (nl : Int)) = false := decide_eq_false (by omega)
  have HV := Lib.hid (show instB n ⟨11, a, b, 0, s, l⟩ = (s == ByteArray.empty) by rw [HE.out]; simp [hz])
  clear hz
  go_wp2_with fail
  refine (HNM.out _).mono ?_
  rintro r w4 ⟨rfl, hb4⟩
  have HB4 := Lib.hid (bthen HB3.out hb4)
  have d4 := Lib.cell_of_heap ((hb4.block _ (Array.getElem?_eq_some_iff.1 HIX3.out).1).trans HIX3.out) 4
  simp only [List.getElem?_toArray, List.getElem?_cons_zero, List.getElem?_cons_succ] at d4
  clear hb4 c0 c1 c2 c3 c4 c5
  go_wp2_with fail
  go_ret
  exact ⟨by rw [HV.out, ← ba_isEmpty]; rfl, HB4.out⟩
end Go.Proofs.Ytoglmdadpchhoaa
namespace Go.Proofs.Ytoglmdadpchhoaa
open Go.RowKit
theorem refInst_any (i : In) (n : Int) (A : Option Addr) (cap : Nat) (w : World) (hS : Ints w (.slice A i.l.length cap) i.l) (hn : i.l.length * 8 ≤ 140737488355328) (hs : i.s.size < 9223372036854775808) :
    Calls Try.prog 95 #[inV i (.slice A i.l.length cap), .int .i64 n] w fun e w' => e = .returned (.bool (instB n i)) ∧ Below w.heap.size w w' := by
  have hc : (i.o < 1 ∨ 16 < i.o) ∨ i.o = 1 ∨ i.o = 2 ∨ i.o = 3 ∨ i.o = 4 ∨ i.o = 5 ∨ i.o = 6 ∨ i.o = 7 ∨ i.o = 8 ∨ i.o = 9 ∨ i.o = 10 ∨ i.o = 11 ∨ i.o = 12 ∨ i.o = 13 ∨ i.o = 14 ∨ i.o = 15 ∨ i.o = 16 := by omega
  rcases hc with h | h | h | h | h | h | h | h | h | h | h | h | h | h | h | h | h
  · exact refInst_out i n A cap w hS hn hs h
  · exact refInst_a i n A cap w hS hn hs h
  · exact refInst_g i n A cap w hS hn hs h
  · exact refInst_h i n A cap w hS hn hs h
  · exact refInst_i i n A cap w hS hn hs h
  · exact refInst_j i n A cap w hS hn hs h
  · exact refInst_k i n A cap w hS hn hs h
  · exact refInst_l i n A cap w hS hn hs h
  · exact refInst_m i n A cap w hS hn hs h
  · exact refInst_n i n A cap w hS hn hs h
  · exact refInst_p i n A cap w hS hn hs h
  · exact refInst_q i n A cap w hS hn hs h
  · exact refInst_b i n A cap w hS hn hs h
  · exact refInst_c i n A cap w hS hn hs h
  · exact refInst_d i n A cap w hS hn hs h
  · exact refInst_e i n A cap w hS hn hs h
  · exact refInst_f i n A cap w hS hn hs h
end Go.Proofs.Ytoglmdadpchhoaa
namespace Go.Proofs.Ytoglmdadpchhoaa
open Go.RowKit
theorem instsB_app : ∀ (l k : List In) (p : Int), instsB p (l ++ k) = (instsB p l && instsB (p + l.length) k)
  | [], k, p => by rw [List.nil_append, instsB, List.length_nil]; simp
  | x :: l, k, p => by
    rw [List.cons_append, instsB, instsB, instsB_app l k (p + 1), List.length_cons, Bool.and_assoc, show p + 1 + (l.length : Int) = p + ((l.length + 1 : Nat) : Int) by omega]
theorem instsB_take {l : List In} {p : Int} {j : Nat} (hj : j < l.length) : instsB p (l.take (j + 1)) = (instsB p (l.take j) && instB (p + j) l[j]) := by
  rw [List.take_succ_eq_append_getElem hj, instsB_app, List.length_take, show min j l.length = j by omega]
  simp [instsB]
theorem instsB_no {l : List In} {p : Int} {j : Nat} (hj : j < l.length) (h : instB (p + j) l[j] = false) : instsB p l = false := by
  have e := instsB_app (l.take (j + 1)) (l.drop (j + 1)) p
  rw [List.take_append_drop, instsB_take hj, h] at e
  rw [e]
  simp
theorem goesB_neg {all : List Bk} {n tt : Int} {l : List Int} (h : tt < 0) : goesB all n tt l = false := by
  unfold goesB
  rw [decide_eq_false (by omega : ¬ 0 ≤ tt)]
  rfl
theorem goesB_big {all : List Bk} {n tt : Int} {l : List Int} (h : (all.length : Int) ≤ tt) : goesB all n tt l = false := by
  unfold goesB
  rw [decide_eq_false (by omega : ¬ tt < (all.length : Int))]
  simp
theorem goesB_at {all : List Bk} {n : Int} {i : Nat} {l : List Int} (hi : i < all.length) : goesB all n (i : Int) l = (((l.length : Int) == all[i].p) && amongB n l) := by
  unfold goesB
  rw [decide_eq_true (by omega : (0 : Int) ≤ (i : Int)), decide_eq_true (by omega : (i : Int) < (all.length : Int)), Int.toNat_natCast, List.getElem?_eq_getElem hi]
  rfl
theorem endB_jump (all : List Bk) (n a t e : Int) (l m : List Int) : endB all n ⟨1, a, t, l, e, m⟩ = (goesB all n t l && a == 0 && e == 0 && decide (m = [])) := by
  unfold endB
  rw [if_pos rfl]
theorem endB_if (all : List Bk) (n a t e : Int) (l m : List Int) : endB all n ⟨2, a, t, l, e, m⟩ = ((decide (0 ≤ a) && decide (a < n)) && goesB all n t l && goesB all n e m) := by
  unfold endB
  rw [if_neg (show ¬ (2 : Int) = 1 by decide), if_pos rfl, among_one]
theorem endB_ret (all : List Bk) (n a t e : Int) (l m : List Int) : endB all n ⟨3, a, t, l, e, m⟩ = ((decide (0 ≤ a) && decide (a < n)) && t == 0 && decide (l = []) && e == 0 && decide (m = [])) := by
  unfold endB
  rw [if_neg (show ¬ (3 : Int) = 1 by decide), if_neg (show ¬ (3 : Int) = 2 by decide), if_pos rfl, among_one]
theorem endB_out (all : List Bk) (n k a t e : Int) (l m : List Int) (h1 : k ≠ 1) (h2 : k ≠ 2) (h3 : k ≠ 3) : endB all n ⟨k, a, t, l, e, m⟩ = false := by
  unfold endB
  rw [if_neg h1, if_neg h2, if_neg h3]
theorem nil_len {l : List Int} {n : Nat} (h : l.length = n) : decide (l = []) = ((n : Int) == 0) := by
  subst h
  cases l <;> simp
  omega
set_option maxRecDepth 100000 in
set_option maxHeartbeats 2000000 in
theorem refGoes_any (s : ByteArray) (b p : Int) (bl : List Bk) (C A : Option Addr) (na ca nl cl : Nat) (tt n : Int) (l : List Int) (w : World) (hna : bl.length = na) (h9 : na ≤ 9223372036854775807) (hnl : l.length = nl) (hl9 : nl ≤ 9223372036854775807)
    (hS : Blocks w (.slice C na ca) bl) (hl : Ints w (.slice A nl cl) l) :
    Calls Try.prog 96 #[.agg #[.string s, .int .i64 b, .int .i64 p, .slice C na ca], .int .i64 tt, .slice A nl cl, .int .i64 n] w fun e w' => e = .returned (.bool (goesB bl n tt l)) ∧ Below w.heap.size w w' := by
  have HBW := Lib.hid (balloc (Below.refl _ w) (.cells #[.string s, .int .i64 b, .int .i64 p, .slice C na ca] 50))
  have HIN := Lib.hid (heap_alloc_new w (.cells #[.string s, .int .i64 b, .int .i64 p, .slice C na ca] 50))
  have HL := Lib.hid (fun (W : World) (hb : Below w.heap.size w W) => refBelow_any n l A nl cl W (hl.next hb) hl9)
  have n9 : (na : Int) ≤ 9223372036854775807 := by omega
  go_enter Try.func96, Try.ntmps96
  go_upto_region 1 with fail
  generalize w.alloc (.cells #[.string s, .int .i64 b, .int .i64 p, .slice C na ca] 50) = W0 at *
  have c3 := Lib.cell_of_heap HIN.out 3
  simp only [List.getElem?_toArray, List.getElem?_cons_zero, List.getElem?_cons_succ] at c3
  by_cases h0 : tt < 0
  · have t0 : decide (tt < 0) = true := decide_eq_true h0
    have HV := Lib.hid (goesB_neg (all := bl) (n := n) (l := l) h0)
    clear hna h9 hnl hl9 hS hl h0
    go_wp2_with fail
    go_ret
    exact ⟨by rw [HV.out]; rfl, HBW.out⟩
  have t0 : decide (tt < 0) = false := decide_eq_false h0
  by_cases h1 : (na : Int) ≤ tt
  · have t1 : decide ((na : Int) ≤ tt) = true := decide_eq_true h1
    have HV := Lib.hid (goesB_big (all := bl) (n := n) (l := l) (by rw [hna]; exact h1))
    clear hna h9 hnl hl9 hS hl h0 h1
    go_wp2_with fail
    go_ret
    exact ⟨by rw [HV.out]; rfl, HBW.out⟩
  have t1 : decide ((na : Int) ≤ tt) = false := decide_eq_false h1
  obtain ⟨i, rfl⟩ : ∃ i : Nat, tt = i := ⟨tt.toNat, by omega⟩
  have hi : i < bl.length := by omega
  obtain ⟨b1, off, hA, hbl, e0⟩ := RowOf.at_ hS hi
  subst hA
  have c0 := (cellNext hbl HBW.out _).trans e0.1
  have HV := Lib.hid (goesB_at (n := n) (l := l) hi)
  obtain ⟨P, hP⟩ : ∃ P, bl[i].p = P := ⟨_, rfl⟩
  rw [hP] at c0 HV
  rw [hnl] at HV
  have i0 : (0 : Int) ≤ (i : Int) := by omega
  have i1 : (i : Int) < (na : Int) := by omega
  have t1' : decide (na ≤ i) = false := decide_eq_false (by omega)
  clear hna h9 hnl hl9 hS hl h0 h1 hP e0 hi hbl
  cases hq : ((nl : Int) == P) with
  | false =>
    have HF := Lib.hid (show goesB bl n i l = false by rw [HV.out, hq]; rfl)
    go_wp2_with fail
    go_ret
    exact ⟨by rw [HF.out]; rfl, HBW.out⟩
  | true =>
    have HF := Lib.hid (show goesB bl n i l = amongB n l by rw [HV.out, hq]; rfl)
    go_wp2_with fail
    refine (HL.out _ HBW.out).mono ?_
    rintro r w1 ⟨rfl, hb⟩
    have HB := Lib.hid (bthen HBW.out hb)
    clear hb
    go_wp2_with fail
    go_ret
    exact ⟨by rw [HF.out]; rfl, HB.out⟩
theorem insbox_next {w W W' : World} {B b2 o : Nat} {c0 c1 d0 d1 d2 d3 d4 d5 : Value} (hb : Below W.heap.size W W') (h : W.cell? ⟨B, 0, none⟩ = some c0 ∧ W.cell? ⟨B, 1, none⟩ = some c1 ∧ W.cell? ⟨b2, o, none⟩ = some d0 ∧ W.cell? ⟨b2, o + 1, none⟩ = some d1 ∧ W.cell? ⟨b2, o + 2, none⟩ = some d2 ∧ W.cell? ⟨b2, o + 3, none⟩ = some d3 ∧ W.cell? ⟨b2, o + 4, none⟩ = some d4 ∧ W.cell? ⟨b2, o + 5, none⟩ = some d5 ∧ Below w.heap.size w W) :
    W'.cell? ⟨B, 0, none⟩ = some c0 ∧ W'.cell? ⟨B, 1, none⟩ = some c1 ∧ W'.cell? ⟨b2, o, none⟩ = some d0 ∧ W'.cell? ⟨b2, o + 1, none⟩ = some d1 ∧ W'.cell? ⟨b2, o + 2, none⟩ = some d2 ∧ W'.cell? ⟨b2, o + 3, none⟩ = some d3 ∧ W'.cell? ⟨b2, o + 4, none⟩ = some d4 ∧ W'.cell? ⟨b2, o + 5, none⟩ = some d5 ∧ Below w.heap.size w W' := by
  obtain ⟨h0, h1, g0, g1, g2, g3, g4, g5, h8⟩ := h
  have hB := World.block_lt_of_cell? W _ h0
  have hD := World.block_lt_of_cell? W _ g0
  exact ⟨(cellNext hB hb _).trans h0, (cellNext hB hb _).trans h1, (cellNext hD hb _).trans g0, (cellNext hD hb _).trans g1, (cellNext hD hb _).trans g2, (cellNext hD hb _).trans g3, (cellNext hD hb _).trans g4, (cellNext hD hb _).trans g5, bthen h8 hb⟩
theorem insbox_below {w W : World} {B b2 o : Nat} {c0 c1 d0 d1 d2 d3 d4 d5 : Value} (h : W.cell? ⟨B, 0, none⟩ = some c0 ∧ W.cell? ⟨B, 1, none⟩ = some c1 ∧ W.cell? ⟨b2, o, none⟩ = some d0 ∧ W.cell? ⟨b2, o + 1, none⟩ = some d1 ∧ W.cell? ⟨b2, o + 2, none⟩ = some d2 ∧ W.cell? ⟨b2, o + 3, none⟩ = some d3 ∧ W.cell? ⟨b2, o + 4, none⟩ = some d4 ∧ W.cell? ⟨b2, o + 5, none⟩ = some d5 ∧ Below w.heap.size w W) : Below w.heap.size w W := h.2.2.2.2.2.2.2.2
set_option maxRecDepth 100000 in
set_option maxHeartbeats 8000000 in
theorem refBlock_any (s : ByteArray) (b p : Int) (bl : List Bk) (C : Option Addr) (na ca k : Nat) (w : World) (hk : k < bl.length) (hna : bl.length = na) (h9 : na ≤ 9223372036854775807) (hok : BkW bl[k]) (hS : Blocks w (.slice C na ca) bl) :
    Calls Try.prog 78 #[.agg #[.string s, .int .i64 b, .int .i64 p, .slice C na ca], .int .i64 k] w fun e w' => e = .returned (.bool (blockB bl bl[k])) ∧ Below w.heap.size w w' := by
  have hgo := fun (A : Option Addr) (nl cl : Nat) (tt n : Int) (l : List Int) (hnl : l.length = nl) (hl9 : nl ≤ 9223372036854775807) (hl : Ints w (.slice A nl cl) l) (W : World) (hb : Below w.heap.size w W) => refGoes_any s b p bl C A na ca nl cl tt n l W hna h9 hnl hl9 (hS.next hb) (hl.next hb)
  obtain ⟨V, hV⟩ : ∃ V, blockB bl bl[k] = V := ⟨_, rfl⟩
  rw [hV]
  obtain ⟨b1, off, hA, hbl, e0⟩ := RowOf.at_ hS hk
  subst hA
  have hb0 := balloc (Below.refl _ w) (.cells #[.string s, .int .i64 b, .int .i64 p, .slice (some ⟨b1, off, none⟩) na ca] 50)
  have hin := heap_alloc_new w (.cells #[.string s, .int .i64 b, .int .i64 p, .slice (some ⟨b1, off, none⟩) na ca] 50)
  obtain ⟨-, ⟨A1, z1, g1', hins⟩, -, -, -, ⟨A5, z5, g5', hl5⟩, -, A7, z7, g7', hl7⟩ := id e0
  obtain ⟨g0, -, g2, g3, g4, -, g6, -⟩ := BkAt.next _ _ _ _ _ hbl hb0 e0
  have g1 := (cellNext hbl hb0 _).trans g1'
  have g5 := (cellNext hbl hb0 _).trans g5'
  have g7 := (cellNext hbl hb0 _).trans g7'
  clear e0 g1' g5' g7'
  obtain ⟨⟨bp, bi, ⟨ek, ea, et, el, ee, em⟩⟩, hbk⟩ : ∃ t, bl[k] = t := ⟨_, rfl⟩
  rw [hbk] at g0 g1 g2 g3 g4 g5 g6 g7 hins hl5 hl7 hok hV
  simp only at g0 g1 g2 g3 g4 g5 g6 g7 hins hl5 hl7
  obtain ⟨⟨o1, o2, o3, -⟩, o4⟩ := hok
  simp only at o1 o2 o3 o4
  obtain ⟨ll, hll⟩ : ∃ x, el.length = x := ⟨_, rfl⟩
  obtain ⟨lm, hlm⟩ : ∃ x, em.length = x := ⟨_, rfl⟩
  obtain ⟨ni, hni⟩ : ∃ x, bi.length = x := ⟨_, rfl⟩
  have HNI := Lib.hid (show bi.length ≤ ni ∧ ni ≤ bi.length by omega)
  have HVE := Lib.hid (show V = (decide (0 ≤ bp) && decide (bp ≤ 6) && decide (ni ≤ 32) && endB bl (bp + ni) ⟨ek, ea, et, el, ee, em⟩ && instsB bp bi) by rw [← hV, ← hni]; rfl)
  have HLN := Lib.hid (nil_len hll)
  have HMN := Lib.hid (nil_len hlm)
  rw [hll] at g5 hl5 o2
  rw [hlm] at g7 hl7 o3
  rw [hni] at g1 hins o1
  have HGT := Lib.hid (hgo A5 ll z5 et (bp + ni) el hll o2 hl5)
  have HGE := Lib.hid (hgo A7 lm z7 ee (bp + ni) em hlm o3 hl7)
  have HINS := Lib.hid hins
  have HWO := Lib.hid o4
  have k0 : (0 : Int) ≤ (k : Int) := by omega
  have k1 : (k : Int) < (na : Int) := by omega
  have n1 : (ni : Int) ≤ 9223372036854775807 := by omega
  have HB0 := Lib.hid hb0
  have HIN := Lib.hid hin
  clear hgo hV hk hna h9 hS hbl hb0 hin hbk hl5 hl7 hins hll hlm hni o1 o2 o3 o4
  go_enter Try.func78, Try.ntmps78
  go_upto_region 1 with fail
  generalize w.alloc (.cells #[.string s, .int .i64 b, .int .i64 p, .slice (some ⟨b1, off, none⟩) na ca] 50) = W0 at *
  have c3 := Lib.cell_of_heap HIN.out 3
  simp only [List.getElem?_toArray, List.getElem?_cons_zero, List.getElem?_cons_succ] at c3
  go_upto_region 2 with fail
  have HIX := Lib.hid (heap_alloc_new W0 (.cells #[.int .i64 bp, .slice A1 ni z1, .int .i64 ek, .int .i64 ea, .int .i64 et, .slice A5 ll z5, .int .i64 ee, .slice A7 lm z7] 67))
  have hbx := balloc (Below.refl _ W0) (.cells #[.int .i64 bp, .slice A1 ni z1, .int .i64 ek, .int .i64 ea, .int .i64 et, .slice A5 ll z5, .int .i64 ee, .slice A7 lm z7] 67)
  have HI1 := Lib.hid ((hbx.block _ (Array.getElem?_eq_some_iff.1 HIN.out).1).trans HIN.out)
  have HB1 := Lib.hid (bthen HB0.out hbx)
  clear hbx g0 g1 g2 g3 g4 g5 g6 g7 c3
  generalize W0.alloc (.cells #[.int .i64 bp, .slice A1 ni z1, .int .i64 ek, .int .i64 ea, .int .i64 et, .slice A5 ll z5, .int .i64 ee, .slice A7 lm z7] 67) = W1 at *
  generalize W0.heap.size = BX at *
  have x0 := Lib.cell_of_heap HIX.out 0
  have x1 := Lib.cell_of_heap HIX.out 1
  simp only [List.getElem?_toArray, List.getElem?_cons_zero, List.getElem?_cons_succ] at x0 x1
  by_cases h0 : bp < 0
  · have t0 : decide (bp < 0) = true := decide_eq_true h0
    have HV := Lib.hid (show V = false by rw [HVE.out, decide_eq_false (by omega : ¬ 0 ≤ bp)]; rfl)
    go_wp2_with fail
    go_ret
    exact ⟨by rw [HV.out]; rfl, HB1.out⟩
  have t0 : decide (bp < 0) = false := decide_eq_false h0
  by_cases h6 : 6 < bp
  · have t6 : decide (6 < bp) = true := decide_eq_true h6
    have HV := Lib.hid (show V = false by rw [HVE.out, decide_eq_false (by omega : ¬ bp ≤ 6)]; simp)
    go_wp2_with fail
    go_ret
    exact ⟨by rw [HV.out]; rfl, HB1.out⟩
  have t6 : decide (6 < bp) = false := decide_eq_false h6
  by_cases h32 : 32 < ni
  · have t32 : decide ((32 : Int) < (ni : Int)) = true := decide_eq_true (by omega)
    have t32' : decide (32 < ni) = true := decide_eq_true (by omega)
    have HV := Lib.hid (show V = false by rw [HVE.out, decide_eq_false (by omega : ¬ ni ≤ 32)]; simp)
    go_wp2_with fail
    go_ret
    exact ⟨by rw [HV.out]; rfl, HB1.out⟩
  have t32 : decide ((32 : Int) < (ni : Int)) = false := decide_eq_false (by omega)
  have t32' : decide (32 < ni) = false := decide_eq_false (by omega)
  have HE0 := Lib.hid (show V = (endB bl (bp + ni) ⟨ek, ea, et, el, ee, em⟩ && instsB bp bi) by rw [HVE.out, decide_eq_true (by omega : 0 ≤ bp), decide_eq_true (by omega : bp ≤ 6), decide_eq_true (by omega : ni ≤ 32)]; rfl)
  have p0 : 0 ≤ bp := by omega
  have p6 : bp ≤ 6 := by omega
  have n32 : (ni : Int) ≤ 32 := by omega
  clear h0 h6 h32 HVE n1
  go_wp2_with fail
  clear t0 t6 t32 t32' x0 x1
  go_loopw [6] (fun iv wi => ∃ j : Nat, j ≤ ni ∧ iv = .int .i64 j ∧ instsB bp (bi.take j) = true ∧ wi.heap[BX]? = some (.cells #[.int .i64 bp, .slice A1 ni z1, .int .i64 ek, .int .i64 ea, .int .i64 et, .slice A5 ll z5, .int .i64 ee, .slice A7 lm z7] 67 (0, 0)) ∧ wi.heap[w.heap.size]? = some (.cells #[.string s, .int .i64 b, .int .i64 p, .slice (some ⟨b1, off, none⟩) na ca] 50 (0, 0)) ∧ Below w.heap.size w wi) (fun iv _ => ni - (intOf iv).toNat)
  case atStart => exact ⟨0, Nat.zero_le _, rfl, rfl, HIX.out, HI1.out, HB1.out⟩
  case round =>
    obtain ⟨j, hj, rfl, ht, hbx, hfx, hb⟩ := hrel
    have HT := Lib.hid ht
    have HBX := Lib.hid hbx
    have HFX := Lib.hid hfx
    have HBB := Lib.hid hb
    have d0 := Lib.cell_of_heap hbx 0
    have d1 := Lib.cell_of_heap hbx 1
    simp only [List.getElem?_toArray, List.getElem?_cons_zero, List.getElem?_cons_succ] at d0 d1
    clear ht hbx hfx hb HIX HI1 HB1 HB0
    by_cases hlj : j < ni
    · have hjm : j < bi.length := by have := HNI.out; omega
      obtain ⟨b2, off2, hA2, hb2, e2⟩ := RowOf.at_ HINS.out hjm
      subst hA2
      obtain ⟨q0, q1, q2, q3, q4, A6, z6, q5, hi6⟩ := InAt.next _ _ _ _ _ hb2 HBB.out e2
      have hw := HWO.out _ (List.getElem_mem hjm)
      have HU := Lib.hid (fun (U : World) (hu : Below wr.heap.size wr U) => refInst_any bi[j] (bp + j) A6 z6 U (hi6.next hu) hw.2.2 hw.1.1)
      unfold inV at HU
      have HNX := Lib.hid (instsB_take (p := bp) hjm)
      have HNO := Lib.hid (fun h => instsB_no (p := bp) hjm h)
      obtain ⟨X, hX⟩ : ∃ X, instB (bp + j) bi[j] = X := ⟨_, rfl⟩
      rw [hX] at HU HNX HNO
      obtain ⟨y0, h0⟩ : ∃ x, bi[j].o = x := ⟨_, rfl⟩
      obtain ⟨y1, h1⟩ : ∃ x, bi[j].a = x := ⟨_, rfl⟩
      obtain ⟨y2, h2⟩ : ∃ x, bi[j].b = x := ⟨_, rfl⟩
      obtain ⟨y3, h3⟩ : ∃ x, bi[j].k = x := ⟨_, rfl⟩
      obtain ⟨y4, h4⟩ : ∃ x, bi[j].s = x := ⟨_, rfl⟩
      obtain ⟨y5, h5⟩ : ∃ x, bi[j].l.length = x := ⟨_, rfl⟩
      rw [h0, h1, h2, h3, h4, h5] at HU
      rw [h0] at q0
      rw [h1] at q1
      rw [h2] at q2
      rw [h3] at q3
      rw [h4] at q4
      rw [h5] at q5
      have j0 : (0 : Int) ≤ (j : Int) := Int.natCast_nonneg _
      have j1 : (j : Int) < (ni : Int) := by omega
      have HLJ := Lib.hid hlj
      clear h0 h1 h2 h3 h4 h5 hjm hlj hi6 hX e2 hw
      have HQ := Lib.hid (show wr.drew.cell? ⟨BX, 0, none⟩ = some (.int .i64 bp) ∧ wr.drew.cell? ⟨BX, 1, none⟩ = some (.slice (some ⟨b2, off2, none⟩) ni z1) ∧ wr.drew.cell? ⟨b2, off2 + j * 6, none⟩ = some (.int .i64 y0) ∧ wr.drew.cell? ⟨b2, off2 + j * 6 + 1, none⟩ = some (.int .i64 y1) ∧ wr.drew.cell? ⟨b2, off2 + j * 6 + 2, none⟩ = some (.int .i64 y2) ∧ wr.drew.cell? ⟨b2, off2 + j * 6 + 3, none⟩ = some (.int .u64 y3) ∧ wr.drew.cell? ⟨b2, off2 + j * 6 + 4, none⟩ = some (.string y4) ∧ wr.drew.cell? ⟨b2, off2 + j * 6 + 5, none⟩ = some (.slice A6 y5 z6) ∧ Below wr.heap.size wr wr.drew from ⟨d0, d1, q0, q1, q2, q3, q4, q5, (Below.refl _ wr).drew⟩)
      have bw : IntKind.i64.wrap (bp + (j : Int)) = bp + (j : Int) := by rw [IntKind.wrap_i64]; omega
      go_upto_region 7 with fail
      clear d0 d1 q0 q1 q2 q3 q4 q5
      go_cut [7] from 40 to 49 (fun v7 wx => v7 = .bool X ∧ Below wr.heap.size wr wx)
      case first =>
        have hd := HQ.out
        refine wp_region_held_drew (S := (fun U => U.cell? ⟨BX, 0, none⟩ = some (.int .i64 bp) ∧ U.cell? ⟨BX, 1, none⟩ = some (.slice (some ⟨b2, off2, none⟩) ni z1) ∧ U.cell? ⟨b2, off2 + j * 6, none⟩ = some (.int .i64 y0) ∧ U.cell? ⟨b2, off2 + j * 6 + 1, none⟩ = some (.int .i64 y1) ∧ U.cell? ⟨b2, off2 + j * 6 + 2, none⟩ = some (.int .i64 y2) ∧ U.cell? ⟨b2, off2 + j * 6 + 3, none⟩ = some (.int .u64 y3) ∧ U.cell? ⟨b2, off2 + j * 6 + 4, none⟩ = some (.string y4) ∧ U.cell? ⟨b2, off2 + j * 6 + 5, none⟩ = some (.slice A6 y5 z6) ∧ Below wr.heap.size wr U)) (by kernel_rfl) hd (fun hHeld => ?_)
        refine wpAnyH_take (i := 0) (v := ?_) rfl (by kernel_rfl) (by kernel_rfl) (by kernel_rfl) (fun _ _ _ h => h) (Or.inl ⟨by rfl, ?_⟩) hHeld ?_
        rotate_left
        · intro W' hSw; (try dsimp only at hSw); go_simp; try (with_reducible rfl)
        (try simp only [Act.put, List.getElem_toArray, List.getElem_cons_zero, List.setIfInBounds_toArray, List.set_cons_zero, List.set_cons_succ])
        refine wpAnyH_take (i := 1) (v := ?_) rfl (by kernel_rfl) (by kernel_rfl) (by kernel_rfl) (fun _ _ _ h => h) (Or.inl ⟨by rfl, ?_⟩) hHeld ?_
        rotate_left
        · intro W' hSw; (try dsimp only at hSw); go_simp; try (with_reducible rfl)
        (try simp only [Act.put, List.getElem_toArray, List.getElem_cons_zero, List.getElem_cons_succ, List.setIfInBounds_toArray, List.set_cons_zero, List.set_cons_succ])
        refine wpAnyH_take (i := 2) (v := ?_) rfl (by kernel_rfl) (by kernel_rfl) (by kernel_rfl) (fun _ _ _ h => h) (Or.inl ⟨by rfl, ?_⟩) hHeld ?_
        rotate_left
        · intro W' hSw; (try dsimp only at hSw); go_simp; try (with_reducible rfl)
        (try simp only [Act.put, List.getElem_toArray, List.getElem_cons_zero, List.getElem_cons_succ, List.setIfInBounds_toArray, List.set_cons_zero, List.set_cons_succ])
        refine wpAnyH_take (i := 3) (v := ?_) rfl (by kernel_rfl) (by kernel_rfl) (by kernel_rfl) (fun _ _ _ h => h) (Or.inl ⟨by rfl, ?_⟩) hHeld ?_
        rotate_left
        · intro W' hSw; (try dsimp only at hSw); go_simp; try (with_reducible rfl)
        (try simp only [Act.put, List.getElem_toArray, List.getElem_cons_zero, List.getElem_cons_succ, List.setIfInBounds_toArray, List.set_cons_zero, List.set_cons_succ])
        refine wpAnyH_take (i := 4) (v := ?_) rfl (by kernel_rfl) (by kernel_rfl) (by kernel_rfl) (fun _ _ _ h => h) (Or.inl ⟨by rfl, ?_⟩) hHeld ?_
        rotate_left
        · intro W' hSw; (try dsimp only at hSw); go_simp; try (with_reducible rfl)
        (try simp only [Act.put, List.getElem_toArray, List.getElem_cons_zero, List.getElem_cons_succ, List.setIfInBounds_toArray, List.set_cons_zero, List.set_cons_succ])
        refine wpAnyH_take (i := 5) (v := ?_) rfl (by kernel_rfl) (by kernel_rfl) (by kernel_rfl) (fun _ _ _ h => h) (Or.inl ⟨by rfl, ?_⟩) hHeld ?_
        rotate_left
        · intro W' hSw; (try dsimp only at hSw); go_simp; try (with_reducible rfl)
        (try simp only [Act.put, List.getElem_toArray, List.getElem_cons_zero, List.getElem_cons_succ, List.setIfInBounds_toArray, List.set_cons_zero, List.set_cons_succ])
        refine wpAnyH_take (i := 6) (v := ?_) rfl (by kernel_rfl) (by kernel_rfl) (by kernel_rfl) (fun _ _ _ h => h) (Or.inl ⟨by rfl, ?_⟩) hHeld ?_
        rotate_left
        · intro W' hSw; (try dsimp only at hSw); go_simp; try (with_reducible rfl)
        (try simp only [Act.put, List.getElem_toArray, List.getElem_cons_zero, List.getElem_cons_succ, List.setIfInBounds_toArray, List.set_cons_zero, List.set_cons_succ])
        refine wpAnyH_take (i := 7) (v := ?_) rfl (by kernel_rfl) (by kernel_rfl) (by kernel_rfl) (fun _ _ _ h => h) (Or.inl ⟨by rfl, ?_⟩) hHeld ?_
        rotate_left
        · intro W' hSw; (try dsimp only at hSw); go_simp; try (with_reducible rfl)
        (try simp only [Act.put, List.getElem_toArray, List.getElem_cons_zero, List.getElem_cons_succ, List.setIfInBounds_toArray, List.set_cons_zero, List.set_cons_succ])
        refine wpAnyH_take (i := 8) (v := ?_) rfl (by kernel_rfl) (by kernel_rfl) (by kernel_rfl) (fun _ _ _ h => h) (Or.inl ⟨by rfl, ?_⟩) hHeld ?_
        rotate_left
        · intro W' hSw; (try dsimp only at hSw); go_simp; try (with_reducible rfl)
        (try simp only [Act.put, List.getElem_toArray, List.getElem_cons_zero, List.getElem_cons_succ, List.setIfInBounds_toArray, List.set_cons_zero, List.set_cons_succ])
        refine wpAnyH_ready (rs := [9]) (by kernel_rfl) (by simp) ?_
        refine AllReadyH.cons rfl (fun K hK => ?_) AllReadyH.nil
        go_simp
        refine Calls.mono (HU.out _ (insbox_below hHeld)) ?_
        rintro r u1 ⟨rfl, hb2'⟩
        refine hK.out _ _ (insbox_next hb2' hHeld) (fun hHeld2 => ?_)
        clear hK
        (try simp only [Act.put, List.getElem_toArray, List.getElem_cons_zero, List.getElem_cons_succ, List.setIfInBounds_toArray, List.set_cons_zero, List.set_cons_succ])
        refine wpAnyH_take (i := 10) (v := ?_) rfl (by kernel_rfl) (by kernel_rfl) (by kernel_rfl) (fun _ _ _ h => h) (Or.inl ⟨by rfl, ?_⟩) hHeld2 ?_
        rotate_left
        · intro W' hSw; (try dsimp only at hSw); go_simp; try (with_reducible rfl)
        (try simp only [Act.put, List.getElem_toArray, List.getElem_cons_zero, List.getElem_cons_succ, List.setIfInBounds_toArray, List.set_cons_zero, List.set_cons_succ])
        refine wpAnyH_done (by kernel_rfl) ?_ _
        go_wp2_with fail
        go_meet
        exact ⟨rfl, insbox_below hHeld2⟩
      case rest =>
        obtain ⟨rfl, hb3⟩ := hcut
        have HBX3 := Lib.hid ((hb3.block _ (Array.getElem?_eq_some_iff.1 HBX.out).1).trans HBX.out)
        have HFX3 := Lib.hid ((hb3.block _ (Array.getElem?_eq_some_iff.1 HFX.out).1).trans HFX.out)
        have HBB3 := Lib.hid (bthen HBB.out hb3)
        clear hb3
        cases X with
        | false =>
          have HV := Lib.hid (show V = false by rw [HE0.out, HNO.out rfl]; simp)
          go_wp2_with fail
          go_ret
          exact ⟨by rw [HV.out]; rfl, HBB3.out⟩
        | true =>
          have HF := Lib.hid (show instsB bp (bi.take (j + 1)) = true by rw [HNX.out, HT.out]; rfl)
          go_wp2_with fail
          go_roundw
          case rel => exact ⟨j + 1, HLJ.out, by go_num, HF.out, HBX3.out, HFX3.out, HBB3.out⟩
          case measure => have := HLJ.out; simp [intOf]; omega
    · have hd : decide ((j : Int) < (ni : Int)) = false := by simp; omega
      have HI := Lib.hid (show instsB bp bi = true by
        have h := HT.out
        rwa [List.take_of_length_le (by have := HNI.out; omega)] at h)
      have HE := Lib.hid (show V = endB bl (bp + ni) ⟨ek, ea, et, el, ee, em⟩ by rw [HE0.out, HI.out]; simp)
      clear HE0 HI HT
      have d2 := Lib.cell_of_heap HBX.out 2
      have d3 := Lib.cell_of_heap HBX.out 3
      have d4 := Lib.cell_of_heap HBX.out 4
      have d5 := Lib.cell_of_heap HBX.out 5
      have d6 := Lib.cell_of_heap HBX.out 6
      have d7 := Lib.cell_of_heap HBX.out 7
      have f0 := Lib.cell_of_heap HFX.out 0
      have f1 := Lib.cell_of_heap HFX.out 1
      have f2 := Lib.cell_of_heap HFX.out 2
      have f3 := Lib.cell_of_heap HFX.out 3
      simp only [List.getElem?_toArray, List.getElem?_cons_zero, List.getElem?_cons_succ] at d2 d3 d4 d5 d6 d7 f0 f1 f2 f3
      have hbt := balloc (Below.refl _ wr) (.cells #[.int .i64 ek, .int .i64 ea, .int .i64 et, .slice A5 ll z5, .int .i64 ee, .slice A7 lm z7] 65)
      have HTX := Lib.hid (heap_alloc_new wr (.cells #[.int .i64 ek, .int .i64 ea, .int .i64 et, .slice A5 ll z5, .int .i64 ee, .slice A7 lm z7] 65))
      have HBT := Lib.hid (bthen HBB.out hbt)
      have HFT := Lib.hid ((hbt.block _ (Array.getElem?_eq_some_iff.1 HFX.out).1).trans HFX.out)
      have HBY := Lib.hid ((hbt.block _ (Array.getElem?_eq_some_iff.1 HBX.out).1).trans HBX.out)
      clear hbt
      have bw : IntKind.i64.wrap (bp + (ni : Int)) = bp + (ni : Int) := by rw [IntKind.wrap_i64]; omega
      go_upto_region 11 with fail
      clear d0 d1 d2 d3 d4 d5 d6 d7 f0 f1 f2 f3 hd
      generalize wr.alloc (.cells #[.int .i64 ek, .int .i64 ea, .int .i64 et, .slice A5 ll z5, .int .i64 ee, .slice A7 lm z7] 65) = W2 at *
      generalize wr.heap.size = TX at *
      have e0 := Lib.cell_of_heap HTX.out 0
      have e1 := Lib.cell_of_heap HTX.out 1
      have e2 := Lib.cell_of_heap HTX.out 2
      have e3 := Lib.cell_of_heap HTX.out 3
      have e4 := Lib.cell_of_heap HTX.out 4
      have e5 := Lib.cell_of_heap HTX.out 5
      have f0 := Lib.cell_of_heap HFT.out 0
      have f1 := Lib.cell_of_heap HFT.out 1
      have f2 := Lib.cell_of_heap HFT.out 2
      have f3 := Lib.cell_of_heap HFT.out 3
      have d0 := Lib.cell_of_heap HBY.out 0
      have d1 := Lib.cell_of_heap HBY.out 1
      simp only [List.getElem?_toArray, List.getElem?_cons_zero, List.getElem?_cons_succ] at e0 e1 e2 e3 e4 e5 f0 f1 f2 f3 d0 d1
      go_upto_region 12 with fail
      clear d0 d1
      by_cases k1 : ek = 1
      · subst k1
        rw [endB_jump, HMN.out] at HE
        go_wp2_with fail
        refine (HGT.out _ HBT.out).mono ?_
        rintro r u1 ⟨rfl, hb1⟩
        have HBC1 := Lib.hid (bthen HBT.out hb1)
        have HTC1 := Lib.hid ((hb1.block _ (Array.getElem?_eq_some_iff.1 HTX.out).1).trans HTX.out)
        have HFC1 := Lib.hid ((hb1.block _ (Array.getElem?_eq_some_iff.1 HFT.out).1).trans HFT.out)
        clear hb1 e0 e1 e2 e3 e4 e5 f0 f1 f2 f3
        obtain ⟨X, hX⟩ : ∃ x, goesB bl (bp + ni) et el = x := ⟨_, rfl⟩
        rw [hX] at HE ⊢
        clear hX
        have e0 := Lib.cell_of_heap HTC1.out 0
        have e1 := Lib.cell_of_heap HTC1.out 1
        have e2 := Lib.cell_of_heap HTC1.out 2
        have e3 := Lib.cell_of_heap HTC1.out 3
        have e4 := Lib.cell_of_heap HTC1.out 4
        have e5 := Lib.cell_of_heap HTC1.out 5
        have f0 := Lib.cell_of_heap HFC1.out 0
        have f1 := Lib.cell_of_heap HFC1.out 1
        have f2 := Lib.cell_of_heap HFC1.out 2
        have f3 := Lib.cell_of_heap HFC1.out 3
        simp only [List.getElem?_toArray, List.getElem?_cons_zero, List.getElem?_cons_succ] at e0 e1 e2 e3 e4 e5 f0 f1 f2 f3
        cases hq : X with
        | false =>
          have HV := Lib.hid (show V = false by rw [HE.out, hq]; simp)
          go_wp2_with fail
          go_ret
          exact ⟨by rw [HV.out]; rfl, HBC1.out⟩
        | true =>
          rw [hq] at HE
          have hq8 : X = true := hq
          clear hq
          cases hq : (ea == 0) with
          | false =>
            have HV := Lib.hid (show V = false by rw [HE.out, hq]; simp)
            go_wp2_with fail
            go_ret
            exact ⟨by rw [HV.out]; rfl, HBC1.out⟩
          | true =>
            rw [hq] at HE
            have hq10 : (ea == 0) = true := hq
            clear hq
            cases hq : (ee == 0) with
            | false =>
              have HV := Lib.hid (show V = false by rw [HE.out, hq]; simp)
              go_wp2_with fail
              go_ret
              exact ⟨by rw [HV.out]; rfl, HBC1.out⟩
            | true =>
              rw [hq] at HE
              have hq12 : (ee == 0) = true := hq
              clear hq
              cases hq : ((lm : Int) == 0) with
              | false =>
                have HV := Lib.hid (show V = false by rw [HE.out, hq]; simp)
                go_wp2_with fail
                go_ret
                exact ⟨by rw [HV.out]; rfl, HBC1.out⟩
              | true =>
                rw [hq] at HE
                have hq14 : ((lm : Int) == 0) = true := hq
                clear hq
                have HV := Lib.hid (show V = true by rw [HE.out]; rfl)
                go_wp2_with fail
                go_ret
                exact ⟨by rw [HV.out]; rfl, HBC1.out⟩
      have z1 : (ek == 1) = false := by simpa using k1
      by_cases k2 : ek = 2
      · subst k2
        rw [endB_if] at HE
        by_cases a0 : 0 ≤ ea
        case neg =>
          have u0 : decide (0 ≤ ea) = false := decide_eq_false a0
          rw [u0] at HE
          clear a0
          go_wp2_with fail
          refine (HGT.out _ HBT.out).mono ?_
          rintro r u1 ⟨rfl, hb1⟩
          have HBC1 := Lib.hid (bthen HBT.out hb1)
          have HTC1 := Lib.hid ((hb1.block _ (Array.getElem?_eq_some_iff.1 HTX.out).1).trans HTX.out)
          have HFC1 := Lib.hid ((hb1.block _ (Array.getElem?_eq_some_iff.1 HFT.out).1).trans HFT.out)
          clear hb1 e0 e1 e2 e3 e4 e5 f0 f1 f2 f3
          obtain ⟨X, hX⟩ : ∃ x, goesB bl (bp + ni) et el = x := ⟨_, rfl⟩
          rw [hX] at HE ⊢
          clear hX
          have e0 := Lib.cell_of_heap HTC1.out 0
          have e1 := Lib.cell_of_heap HTC1.out 1
          have e2 := Lib.cell_of_heap HTC1.out 2
          have e3 := Lib.cell_of_heap HTC1.out 3
          have e4 := Lib.cell_of_heap HTC1.out 4
          have e5 := Lib.cell_of_heap HTC1.out 5
          have f0 := Lib.cell_of_heap HFC1.out 0
          have f1 := Lib.cell_of_heap HFC1.out 1
          have f2 := Lib.cell_of_heap HFC1.out 2
          have f3 := Lib.cell_of_heap HFC1.out 3
          simp only [List.getElem?_toArray, List.getElem?_cons_zero, List.getElem?_cons_succ] at e0 e1 e2 e3 e4 e5 f0 f1 f2 f3
          go_wp2_with fail
          refine (HGE.out _ HBC1.out).mono ?_
          rintro r u2 ⟨rfl, hb2⟩
          have HBC2 := Lib.hid (bthen HBC1.out hb2)
          have HTC2 := Lib.hid ((hb2.block _ (Array.getElem?_eq_some_iff.1 HTC1.out).1).trans HTC1.out)
          have HFC2 := Lib.hid ((hb2.block _ (Array.getElem?_eq_some_iff.1 HFC1.out).1).trans HFC1.out)
          clear hb2 e0 e1 e2 e3 e4 e5 f0 f1 f2 f3
          obtain ⟨Y, hY⟩ : ∃ x, goesB bl (bp + ni) ee em = x := ⟨_, rfl⟩
          rw [hY] at HE ⊢
          clear hY
          have e0 := Lib.cell_of_heap HTC2.out 0
          have e1 := Lib.cell_of_heap HTC2.out 1
          have e2 := Lib.cell_of_heap HTC2.out 2
          have e3 := Lib.cell_of_heap HTC2.out 3
          have e4 := Lib.cell_of_heap HTC2.out 4
          have e5 := Lib.cell_of_heap HTC2.out 5
          have f0 := Lib.cell_of_heap HFC2.out 0
          have f1 := Lib.cell_of_heap HFC2.out 1
          have f2 := Lib.cell_of_heap HFC2.out 2
          have f3 := Lib.cell_of_heap HFC2.out 3
          simp only [List.getElem?_toArray, List.getElem?_cons_zero, List.getElem?_cons_succ] at e0 e1 e2 e3 e4 e5 f0 f1 f2 f3
          have HV := Lib.hid (show V = false by rw [HE.out]; rfl)
          go_wp2_with fail
          go_ret
          exact ⟨by rw [HV.out]; rfl, HBC2.out⟩
        have u0 : decide (0 ≤ ea) = true := decide_eq_true a0
        by_cases a1 : ea < bp + (ni : Int)
        case neg =>
          have u1 : decide (ea < bp + (ni : Int)) = false := decide_eq_false a1
          rw [u0, u1] at HE
          clear a0 a1
          go_wp2_with fail
          refine (HGT.out _ HBT.out).mono ?_
          rintro r u1 ⟨rfl, hb1⟩
          have HBC1 := Lib.hid (bthen HBT.out hb1)
          have HTC1 := Lib.hid ((hb1.block _ (Array.getElem?_eq_some_iff.1 HTX.out).1).trans HTX.out)
          have HFC1 := Lib.hid ((hb1.block _ (Array.getElem?_eq_some_iff.1 HFT.out).1).trans HFT.out)
          clear hb1 e0 e1 e2 e3 e4 e5 f0 f1 f2 f3
          obtain ⟨X, hX⟩ : ∃ x, goesB bl (bp + ni) et el = x := ⟨_, rfl⟩
          rw [hX] at HE ⊢
          clear hX
          have e0 := Lib.cell_of_heap HTC1.out 0
          have e1 := Lib.cell_of_heap HTC1.out 1
          have e2 := Lib.cell_of_heap HTC1.out 2
          have e3 := Lib.cell_of_heap HTC1.out 3
          have e4 := Lib.cell_of_heap HTC1.out 4
          have e5 := Lib.cell_of_heap HTC1.out 5
          have f0 := Lib.cell_of_heap HFC1.out 0
          have f1 := Lib.cell_of_heap HFC1.out 1
          have f2 := Lib.cell_of_heap HFC1.out 2
          have f3 := Lib.cell_of_heap HFC1.out 3
          simp only [List.getElem?_toArray, List.getElem?_cons_zero, List.getElem?_cons_succ] at e0 e1 e2 e3 e4 e5 f0 f1 f2 f3
          go_wp2_with fail
          refine (HGE.out _ HBC1.out).mono ?_
          rintro r u2 ⟨rfl, hb2⟩
          have HBC2 := Lib.hid (bthen HBC1.out hb2)
          have HTC2 := Lib.hid ((hb2.block _ (Array.getElem?_eq_some_iff.1 HTC1.out).1).trans HTC1.out)
          have HFC2 := Lib.hid ((hb2.block _ (Array.getElem?_eq_some_iff.1 HFC1.out).1).trans HFC1.out)
          clear hb2 e0 e1 e2 e3 e4 e5 f0 f1 f2 f3
          obtain ⟨Y, hY⟩ : ∃ x, goesB bl (bp + ni) ee em = x := ⟨_, rfl⟩
          rw [hY] at HE ⊢
          clear hY
          have e0 := Lib.cell_of_heap HTC2.out 0
          have e1 := Lib.cell_of_heap HTC2.out 1
          have e2 := Lib.cell_of_heap HTC2.out 2
          have e3 := Lib.cell_of_heap HTC2.out 3
          have e4 := Lib.cell_of_heap HTC2.out 4
          have e5 := Lib.cell_of_heap HTC2.out 5
          have f0 := Lib.cell_of_heap HFC2.out 0
          have f1 := Lib.cell_of_heap HFC2.out 1
          have f2 := Lib.cell_of_heap HFC2.out 2
          have f3 := Lib.cell_of_heap HFC2.out 3
          simp only [List.getElem?_toArray, List.getElem?_cons_zero, List.getElem?_cons_succ] at e0 e1 e2 e3 e4 e5 f0 f1 f2 f3
          have HV := Lib.hid (show V = false by rw [HE.out]; rfl)
          go_wp2_with fail
          go_ret
          exact ⟨by rw [HV.out]; rfl, HBC2.out⟩
        have u1 : decide (ea < bp + (ni : Int)) = true := decide_eq_true a1
        rw [u0, u1] at HE
        clear a0 a1
        go_wp2_with fail
        refine (HGT.out _ HBT.out).mono ?_
        rintro r u1 ⟨rfl, hb1⟩
        have HBC1 := Lib.hid (bthen HBT.out hb1)
        have HTC1 := Lib.hid ((hb1.block _ (Array.getElem?_eq_some_iff.1 HTX.out).1).trans HTX.out)
        have HFC1 := Lib.hid ((hb1.block _ (Array.getElem?_eq_some_iff.1 HFT.out).1).trans HFT.out)
        clear hb1 e0 e1 e2 e3 e4 e5 f0 f1 f2 f3
        obtain ⟨X, hX⟩ : ∃ x, goesB bl (bp + ni) et el = x := ⟨_, rfl⟩
        rw [hX] at HE ⊢
        clear hX
        have e0 := Lib.cell_of_heap HTC1.out 0
        have e1 := Lib.cell_of_heap HTC1.out 1
        have e2 := Lib.cell_of_heap HTC1.out 2
        have e3 := Lib.cell_of_heap HTC1.out 3
        have e4 := Lib.cell_of_heap HTC1.out 4
        have e5 := Lib.cell_of_heap HTC1.out 5
        have f0 := Lib.cell_of_heap HFC1.out 0
        have f1 := Lib.cell_of_heap HFC1.out 1
        have f2 := Lib.cell_of_heap HFC1.out 2
        have f3 := Lib.cell_of_heap HFC1.out 3
        simp only [List.getElem?_toArray, List.getElem?_cons_zero, List.getElem?_cons_succ] at e0 e1 e2 e3 e4 e5 f0 f1 f2 f3
        go_wp2_with fail
        refine (HGE.out _ HBC1.out).mono ?_
        rintro r u2 ⟨rfl, hb2⟩
        have HBC2 := Lib.hid (bthen HBC1.out hb2)
        have HTC2 := Lib.hid ((hb2.block _ (Array.getElem?_eq_some_iff.1 HTC1.out).1).trans HTC1.out)
        have HFC2 := Lib.hid ((hb2.block _ (Array.getElem?_eq_some_iff.1 HFC1.out).1).trans HFC1.out)
        clear hb2 e0 e1 e2 e3 e4 e5 f0 f1 f2 f3
        obtain ⟨Y, hY⟩ : ∃ x, goesB bl (bp + ni) ee em = x := ⟨_, rfl⟩
        rw [hY] at HE ⊢
        clear hY
        have e0 := Lib.cell_of_heap HTC2.out 0
        have e1 := Lib.cell_of_heap HTC2.out 1
        have e2 := Lib.cell_of_heap HTC2.out 2
        have e3 := Lib.cell_of_heap HTC2.out 3
        have e4 := Lib.cell_of_heap HTC2.out 4
        have e5 := Lib.cell_of_heap HTC2.out 5
        have f0 := Lib.cell_of_heap HFC2.out 0
        have f1 := Lib.cell_of_heap HFC2.out 1
        have f2 := Lib.cell_of_heap HFC2.out 2
        have f3 := Lib.cell_of_heap HFC2.out 3
        simp only [List.getElem?_toArray, List.getElem?_cons_zero, List.getElem?_cons_succ] at e0 e1 e2 e3 e4 e5 f0 f1 f2 f3
        cases hq : X with
        | false =>
          have HV := Lib.hid (show V = false by rw [HE.out, hq]; rfl)
          go_wp2_with fail
          go_ret
          exact ⟨by rw [HV.out]; rfl, HBC2.out⟩
        | true =>
          rw [hq] at HE
          have hq8 : X = true := hq
          clear hq
          have HV := Lib.hid (show V = Y by rw [HE.out]; rfl)
          go_wp2_with fail
          go_ret
          exact ⟨by rw [HV.out]; rfl, HBC2.out⟩
      have z2 : (ek == 2) = false := by simpa using k2
      by_cases k3 : ek = 3
      · subst k3
        rw [endB_ret, HLN.out, HMN.out] at HE
        by_cases a0 : 0 ≤ ea
        case neg =>
          have u0 : decide (0 ≤ ea) = false := decide_eq_false a0
          rw [u0] at HE
          clear a0
          have HV := Lib.hid (show V = false by rw [HE.out]; rfl)
          go_wp2_with fail
          go_ret
          exact ⟨by rw [HV.out]; rfl, HBT.out⟩
        have u0 : decide (0 ≤ ea) = true := decide_eq_true a0
        by_cases a1 : ea < bp + (ni : Int)
        case neg =>
          have u1 : decide (ea < bp + (ni : Int)) = false := decide_eq_false a1
          rw [u0, u1] at HE
          clear a0 a1
          have HV := Lib.hid (show V = false by rw [HE.out]; rfl)
          go_wp2_with fail
          go_ret
          exact ⟨by rw [HV.out]; rfl, HBT.out⟩
        have u1 : decide (ea < bp + (ni : Int)) = true := decide_eq_true a1
        rw [u0, u1] at HE
        clear a0 a1
        cases hq : (et == 0) with
        | false =>
          have HV := Lib.hid (show V = false by rw [HE.out, hq]; simp)
          go_wp2_with fail
          go_ret
          exact ⟨by rw [HV.out]; rfl, HBT.out⟩
        | true =>
          rw [hq] at HE
          have hq8 : (et == 0) = true := hq
          clear hq
          cases hq : ((ll : Int) == 0) with
          | false =>
            have HV := Lib.hid (show V = false by rw [HE.out, hq]; simp)
            go_wp2_with fail
            go_ret
            exact ⟨by rw [HV.out]; rfl, HBT.out⟩
          | true =>
            rw [hq] at HE
            have hq10 : ((ll : Int) == 0) = true := hq
            clear hq
            cases hq : (ee == 0) with
            | false =>
              have HV := Lib.hid (show V = false by rw [HE.out, hq]; simp)
              go_wp2_with fail
              go_ret
              exact ⟨by rw [HV.out]; rfl, HBT.out⟩
            | true =>
              rw [hq] at HE
              have hq12 : (ee == 0) = true := hq
              clear hq
              cases hq : ((lm : Int) == 0) with
              | false =>
                have HV := Lib.hid (show V = false by rw [HE.out, hq]; simp)
                go_wp2_with fail
                go_ret
                exact ⟨by rw [HV.out]; rfl, HBT.out⟩
              | true =>
                rw [hq] at HE
                have hq14 : ((lm : Int) == 0) = true := hq
                clear hq
                have HV := Lib.hid (show V = true by rw [HE.out]; rfl)
                go_wp2_with fail
                go_ret
                exact ⟨by rw [HV.out]; rfl, HBT.out⟩
      have z3 : (ek == 3) = false := by simpa using k3
      rw [endB_out _ _ _ _ _ _ _ _ k1 k2 k3] at HE
      clear k1 k2 k3
      by_cases a0 : 0 ≤ ea
      case neg =>
        have u0 : decide (0 ≤ ea) = false := decide_eq_false a0
        have HV := Lib.hid (show V = false by exact HE.out)
        go_wp2_with fail
        go_ret
        exact ⟨by rw [HV.out]; rfl, HBT.out⟩
      have u0 : decide (0 ≤ ea) = true := decide_eq_true a0
      by_cases a1 : ea < bp + (ni : Int)
      case neg =>
        have u1 : decide (ea < bp + (ni : Int)) = false := decide_eq_false a1
        have HV := Lib.hid (show V = false by exact HE.out)
        go_wp2_with fail
        go_ret
        exact ⟨by rw [HV.out]; rfl, HBT.out⟩
      have u1 : decide (ea < bp + (ni : Int)) = true := decide_eq_true a1
      have HV := Lib.hid (show V = false by exact HE.out)
      go_wp2_with fail
      go_ret
      exact ⟨by rw [HV.out]; rfl, HBT.out⟩
end Go.Proofs.Ytoglmdadpchhoaa
