/- What the texts of package resolve stand on, of the packages ir and pick (part 7). -/
import Derived.Test.YtjldddpchiaalaaHU5
namespace Go.Proofs.Ytjldddpchiaalaa
open Go.RowKit
theorem instB_is (n o a b k : Int) (s : ByteArray) (l : List Int) : instB n ⟨o, a, b, k, s, l⟩ = (decide (1 ≤ o) && decide (o ≤ 16) && decide (l.length ≤ 6) && amongB n (usesI ⟨o, a, b, k, s, l⟩) && (aB o || a == 0) && (bB o || b == 0) && (o == 1 || k == 0) && (o == 14 || decide (l = [])) && (if hasB o then nameB s else s == ByteArray.empty)) := rfl
theorem ba_empty (s : ByteArray) : (s.toList == (⟨#[]⟩ : ByteArray).toList) = (s == ByteArray.empty) := (beq_toListBytes s _).symm
theorem ba_e0 : (⟨#[]⟩ : ByteArray).toList = [] := by first | rfl | decide | simp | (unfold ByteArray.toList ByteArray.toList.loop; simp)
theorem ba_isEmpty (s : ByteArray) : s.toList.isEmpty = (s == ByteArray.empty) := by
  rw [← ba_empty, ba_e0]; cases s.toList <;> rfl
end Go.Proofs.Ytjldddpchiaalaa
namespace Go.Proofs.Ytjldddpchiaalaa
open Go.RowKit
set_option maxRecDepth 100000 in
set_option maxHeartbeats 8000000 in
theorem refInst_out (i : In) (n : Int) (A : Option Addr) (cap : Nat) (w : World) (hS : Ints w (.slice A i.l.length cap) i.l) (hn : i.l.length * 8 ≤ 140737488355328) (hs : i.s.size < 9223372036854775808) (ho : i.o < 1 ∨ 16 < i.o) :
    Calls Try.prog 67 #[inV i (.slice A i.l.length cap), .int .i64 n] w fun e w' => e = .returned (.bool (instB n i)) ∧ Below w.heap.size w w' := by
  have HU := Lib.hid (fun (W : World) (hb : Below w.heap.size w W) => refUses_any i A cap W (hS.next hb) hn)
  have HUL := Lib.hid (show (usesI i).length * 8 ≤ 140737488355328 from by
    unfold usesI usesL
    repeat' split
    all_goals first | exact hn | simp)
  obtain ⟨o, a, b, k, s, l⟩ := i
  have HE := Lib.hid (instB_is n o a b k s l)
  unfold inV at HU ⊢
  simp only at hS hn hs HU HUL ho ⊢
  have HO := Lib.hid (show o < 1 ∨ 16 < o by omega)
  clear ho
  obtain ⟨nl, hnl⟩ : ∃ x, l.length = x := ⟨_, rfl⟩
  have HNL := Lib.hid (show decide (l = []) = decide (nl = 0) by rw [← hnl]; cases l <;> simp)
  have HME := Lib.hid (fun W : World => refName_any s W hs)
  have HNM := Lib.hid (fun W : World => refNamed_any o a b k s (.slice A nl cap) W)
  rw [hnl] at HU HE ⊢
  obtain ⟨U, hU⟩ : ∃ U, usesI ⟨o, a, b, k, s, l⟩ = U := ⟨_, rfl⟩
  rw [hU] at HU HE HUL
  obtain ⟨AM, hAM⟩ : ∃ x, amongB n U = x := ⟨_, rfl⟩
  have HBL := Lib.hid (fun (W : World) (A2 : Option Addr) (m c2 : Nat) (hm : U.length = m) (hI : Ints W (.slice A2 m c2) U) => refBelow_any n U A2 m c2 W hI (by have := HUL.out; omega))
  rw [hAM] at HE HBL
  rw [HNL.out] at HE
  clear hS hn hs hnl hU hAM HNL
  go_enter Try.func67, Try.ntmps67
  go_wp2_with fail
  have HBX := Lib.hid (balloc (Below.refl _ w) (.cells #[.int .i64 o, .int .i64 a, .int .i64 b, .int .u64 k, .string s, .slice A nl cap] 76))
  have HIX := Lib.hid (heap_alloc_new w (.cells #[.int .i64 o, .int .i64 a, .int .i64 b, .int .u64 k, .string s, .slice A nl cap] 76))
  generalize w.alloc (.cells #[.int .i64 o, .int .i64 a, .int .i64 b, .int .u64 k, .string s, .slice A nl cap] 76) = W1 at *
  refine (HU.out _ HBX.out).mono ?_
  rintro r w2 ⟨v', rfl, ho, hb⟩
  have HI2 := Lib.hid ho.ints
  obtain ⟨A2, c2, hv2⟩ := HI2.out.slice
  obtain ⟨nu, hnu⟩ : ∃ x, U.length = x := ⟨_, rfl⟩
  have HNU := Lib.hid (show U.length ≤ nu ∧ nu ≤ U.length by omega)
  have HI3 := Lib.hid (show Ints w2 (.slice A2 nu c2) U by rw [← hnu, ← hv2]; exact HI2.out)
  rw [hnu] at hv2
  subst hv2
  have HB2 := Lib.hid (bthen HBX.out hb)
  have HIX2 := Lib.hid ((hb.block _ (Array.getElem?_eq_some_iff.1 HIX.out).1).trans HIX.out)
  clear ho hb hnu
  go_wp2_with fail
  refine (HBL.out w2 A2 nu c2 (by have := HNU.out; omega) HI3.out).mono ?_
  rintro r w3 ⟨rfl, hb⟩
  have HB3 := Lib.hid (bthen HB2.out hb)
  have hix3 := (hb.block _ (Array.getElem?_eq_some_iff.1 HIX2.out).1).trans HIX2.out
  have c0 := Lib.cell_of_heap hix3 0
  have c1 := Lib.cell_of_heap hix3 1
  have c2 := Lib.cell_of_heap hix3 2
  have c3 := Lib.cell_of_heap hix3 3
  have c4 := Lib.cell_of_heap hix3 4
  have c5 := Lib.cell_of_heap hix3 5
  simp only [List.getElem?_toArray, List.getElem?_cons_zero, List.getElem?_cons_succ] at c0 c1 c2 c3 c4 c5
  have HIX3 := Lib.hid hix3
  clear hb hix3
  by_cases h1 : o < 1
  · have t1 : decide (o < 1) = true := decide_eq_true h1
    have HV := Lib.hid (show instB n ⟨o, a, b, k, s, l⟩ = false by rw [HE.out]; simp [show ¬ 1 ≤ o by omega])
    go_wp2_with fail
    go_ret
    exact ⟨by rw [HV.out]; rfl, HB3.out⟩
  have t1 : decide (o < 1) = false := decide_eq_false h1
  have t2 : decide (16 < o) = true := decide_eq_true (by have := HO.out; omega)
  have HV := Lib.hid (show instB n ⟨o, a, b, k, s, l⟩ = false by rw [HE.out]; simp [show ¬ o ≤ 16 by have := HO.out; omega])
  go_wp2_with fail
  go_ret
  exact ⟨by rw [HV.out]; rfl, HB3.out⟩
end Go.Proofs.Ytjldddpchiaalaa
namespace Go.Proofs.Ytjldddpchiaalaa
open Go.RowKit
set_option maxRecDepth 100000 in
set_option maxHeartbeats 8000000 in
theorem refInst_a (i : In) (n : Int) (A : Option Addr) (cap : Nat) (w : World) (hS : Ints w (.slice A i.l.length cap) i.l) (hn : i.l.length * 8 ≤ 140737488355328) (hs : i.s.size < 9223372036854775808) (ho : i.o = 1) :
    Calls Try.prog 67 #[inV i (.slice A i.l.length cap), .int .i64 n] w fun e w' => e = .returned (.bool (instB n i)) ∧ Below w.heap.size w w' := by
  have HU := Lib.hid (fun (W : World) (hb : Below w.heap.size w W) => refUses_any i A cap W (hS.next hb) hn)
  have HUL := Lib.hid (show (usesI i).length * 8 ≤ 140737488355328 from by
    unfold usesI usesL
    repeat' split
    all_goals first | exact hn | simp)
  obtain ⟨o, a, b, k, s, l⟩ := i
  have HE := Lib.hid (instB_is n o a b k s l)
  unfold inV at HU ⊢
  simp only at hS hn hs HU HUL ho ⊢
  have HO := Lib.hid (show o ≤ 1 ∧ 1 ≤ o by omega)
  clear ho
  obtain ⟨nl, hnl⟩ : ∃ x, l.length = x := ⟨_, rfl⟩
  have HNL := Lib.hid (show decide (l = []) = decide (nl = 0) by rw [← hnl]; cases l <;> simp)
  have HME := Lib.hid (fun W : World => refName_any s W hs)
  have HNM := Lib.hid (fun W : World => refNamed_any o a b k s (.slice A nl cap) W)
  rw [hnl] at HU HE ⊢
  obtain ⟨U, hU⟩ : ∃ U, usesI ⟨o, a, b, k, s, l⟩ = U := ⟨_, rfl⟩
  rw [hU] at HU HE HUL
  obtain ⟨AM, hAM⟩ : ∃ x, amongB n U = x := ⟨_, rfl⟩
  have HBL := Lib.hid (fun (W : World) (A2 : Option Addr) (m c2 : Nat) (hm : U.length = m) (hI : Ints W (.slice A2 m c2) U) => refBelow_any n U A2 m c2 W hI (by have := HUL.out; omega))
  rw [hAM] at HE HBL
  rw [HNL.out] at HE
  clear hS hn hs hnl hU hAM HNL
  go_enter Try.func67, Try.ntmps67
  go_wp2_with fail
  have HBX := Lib.hid (balloc (Below.refl _ w) (.cells #[.int .i64 o, .int .i64 a, .int .i64 b, .int .u64 k, .string s, .slice A nl cap] 76))
  have HIX := Lib.hid (heap_alloc_new w (.cells #[.int .i64 o, .int .i64 a, .int .i64 b, .int .u64 k, .string s, .slice A nl cap] 76))
  generalize w.alloc (.cells #[.int .i64 o, .int .i64 a, .int .i64 b, .int .u64 k, .string s, .slice A nl cap] 76) = W1 at *
  refine (HU.out _ HBX.out).mono ?_
  rintro r w2 ⟨v', rfl, ho, hb⟩
  have HI2 := Lib.hid ho.ints
  obtain ⟨A2, c2, hv2⟩ := HI2.out.slice
  obtain ⟨nu, hnu⟩ : ∃ x, U.length = x := ⟨_, rfl⟩
  have HNU := Lib.hid (show U.length ≤ nu ∧ nu ≤ U.length by omega)
  have HI3 := Lib.hid (show Ints w2 (.slice A2 nu c2) U by rw [← hnu, ← hv2]; exact HI2.out)
  rw [hnu] at hv2
  subst hv2
  have HB2 := Lib.hid (bthen HBX.out hb)
  have HIX2 := Lib.hid ((hb.block _ (Array.getElem?_eq_some_iff.1 HIX.out).1).trans HIX.out)
  clear ho hb hnu
  go_wp2_with fail
  refine (HBL.out w2 A2 nu c2 (by have := HNU.out; omega) HI3.out).mono ?_
  rintro r w3 ⟨rfl, hb⟩
  have HB3 := Lib.hid (bthen HB2.out hb)
  have hix3 := (hb.block _ (Array.getElem?_eq_some_iff.1 HIX2.out).1).trans HIX2.out
  have c0 := Lib.cell_of_heap hix3 0
  have c1 := Lib.cell_of_heap hix3 1
  have c2 := Lib.cell_of_heap hix3 2
  have c3 := Lib.cell_of_heap hix3 3
  have c4 := Lib.cell_of_heap hix3 4
  have c5 := Lib.cell_of_heap hix3 5
  simp only [List.getElem?_toArray, List.getElem?_cons_zero, List.getElem?_cons_succ] at c0 c1 c2 c3 c4 c5
  have HIX3 := Lib.hid hix3
  clear hb hix3
  obtain rfl : o = 1 := by have := HO.out; omega
  have t1 : decide ((1 : Int) < 1) = false := rfl
  have t2 : decide ((16 : Int) < 1) = false := rfl
  cases AM with
  | false =>
    have HV := Lib.hid (show instB n ⟨1, a, b, k, s, l⟩ = false by rw [HE.out]; simp)
    go_wp2_with fail
    go_ret
    exact ⟨by rw [HV.out]; rfl, HB3.out⟩
  | true =>
  by_cases h6 : nl ≤ 6
  case neg =>
    have t3 : decide (6 < nl) = true := decide_eq_true (by omega)
    have t3' : decide ((6 : Int) < (nl : Int)) = true := decide_eq_true (by omega)
    have HV := Lib.hid (show instB n ⟨1, a, b, k, s, l⟩ = false by rw [HE.out]; simp [h6])
    go_wp2_with fail
    go_ret
    exact ⟨by rw [HV.out]; rfl, HB3.out⟩
  have t3 : decide (6 < nl) = false := decide_eq_false (by omega)
  have t3' : decide ((6 : Int) < (nl : Int)) = false := decide_eq_false (by omega)
  have HE := Lib.hid (show instB n ⟨1, a, b, k, s, l⟩ = ((aB 1 || a == 0) && (bB 1 || b == 0) && ((1 : Int) == 1 || k == 0) && ((1 : Int) == 14 || decide (nl = 0)) && (if hasB 1 then nameB s else s == ByteArray.empty)) by rw [HE.out, decide_eq_true (show 1 ≤ (1 : Int) by have := HO.out; omega), decide_eq_true (show (1 : Int) ≤ 16 by have := HO.out; omega), decide_eq_true h6]; rfl)
  clear h6
  rw [show aB 1 = false from rfl, show bB 1 = false from rfl, show hasB 1 = false from rfl, show ((1 : Int) == 1) = true from rfl, show ((1 : Int) == 14) = false from rfl] at HE
  rw [show hasB 1 = false from rfl] at HNM
  by_cases ha : a = 0
  case neg =>
    have ha1 : (a == 0) = false := by simpa using ha
    have ha2 : (a != 0) = true := by simpa using ha
    have ha3 : decide (a = 0) = false := decide_eq_false ha
    have HV := Lib.hid (show instB n ⟨1, a, b, k, s, l⟩ = false by rw [HE.out]; simp [ha])
    go_wp2_with fail
    go_ret
    exact ⟨by rw [HV.out]; rfl, HB3.out⟩
  subst ha
  by_cases hb : b = 0
  case neg =>
    have hb1 : (b == 0) = false := by simpa using hb
    have hb2 : (b != 0) = true := by simpa using hb
    have hb3 : decide (b = 0) = false := decide_eq_false hb
    have HV := Lib.hid (show instB n ⟨1, 0, b, k, s, l⟩ = false by rw [HE.out]; simp [hb])
    go_wp2_with fail
    go_ret
    exact ⟨by rw [HV.out]; rfl, HB3.out⟩
  subst hb
  by_cases hz : nl = 0
  case neg =>
    have t0 : decide (0 < nl) = true := decide_eq_true (by omega)
    have t0' : decide ((0 : Int) < (nl : Int)) = true := decide_eq_true (by omega)
    have HV := Lib.hid (show instB n ⟨1, 0, 0, k, s, l⟩ = false by rw [HE.out]; simp [hz])
    go_wp2_with fail
    go_ret
    exact ⟨by rw [HV.out]; rfl, HB3.out⟩
  have t0 : decide (0 < nl) = false := decide_eq_false (by omega)
  have t0' : decide ((0 : Int) < (nl : Int)) = false := decide_eq_false (by omega)
  have HV := Lib.hid (show instB n ⟨1, 0, 0, k, s, l⟩ = (s == ByteArray.empty) by rw [HE.out]; simp [hz])
  clear hz
  go_wp2_with fail
  refine (HNM.out _).mono ?_
  rintro r w4 ⟨rfl, hb4⟩
  have HB4 := Lib.hid (bthen HB3.out hb4)
  have d4 := Lib.cell_of_heap ((hb4.block _ (Array.getElem?_eq_some_iff.1 HIX3.out).1).trans HIX3.out) 4
  simp only [List.getElem?_toArray, List.getElem?_cons_zero, List.getElem?_cons_succ] at d4
  clear hb4 c0 c1 c2 c3 c4 c5
  go_wp2_with fail
  go_ret
  exact ⟨by rw [HV.out, ← ba_isEmpty]; rfl, HB4.out⟩
set_option maxRecDepth 100000 in
set_option maxHeartbeats 8000000 in
theorem refInst_b (i : In) (n : Int) (A : Option Addr) (cap : Nat) (w : World) (hS : Ints w (.slice A i.l.length cap) i.l) (hn : i.l.length * 8 ≤ 140737488355328) (hs : i.s.size < 9223372036854775808) (ho : i.o = 12) :
    Calls Try.prog 67 #[inV i (.slice A i.l.length cap), .int .i64 n] w fun e w' => e = .returned (.bool (instB n i)) ∧ Below w.heap.size w w' := by
  have HU := Lib.hid (fun (W : World) (hb : Below w.heap.size w W) => refUses_any i A cap W (hS.next hb) hn)
  have HUL := Lib.hid (show (usesI i).length * 8 ≤ 140737488355328 from by
    unfold usesI usesL
    repeat' split
    all_goals first | exact hn | simp)
  obtain ⟨o, a, b, k, s, l⟩ := i
  have HE := Lib.hid (instB_is n o a b k s l)
  unfold inV at HU ⊢
  simp only at hS hn hs HU HUL ho ⊢
  have HO := Lib.hid (show o ≤ 12 ∧ 12 ≤ o by omega)
  clear ho
  obtain ⟨nl, hnl⟩ : ∃ x, l.length = x := ⟨_, rfl⟩
  have HNL := Lib.hid (show decide (l = []) = decide (nl = 0) by rw [← hnl]; cases l <;> simp)
  have HME := Lib.hid (fun W : World => refName_any s W hs)
  have HNM := Lib.hid (fun W : World => refNamed_any o a b k s (.slice A nl cap) W)
  rw [hnl] at HU HE ⊢
  obtain ⟨U, hU⟩ : ∃ U, usesI ⟨o, a, b, k, s, l⟩ = U := ⟨_, rfl⟩
  rw [hU] at HU HE HUL
  obtain ⟨AM, hAM⟩ : ∃ x, amongB n U = x := ⟨_, rfl⟩
  have HBL := Lib.hid (fun (W : World) (A2 : Option Addr) (m c2 : Nat) (hm : U.length = m) (hI : Ints W (.slice A2 m c2) U) => refBelow_any n U A2 m c2 W hI (by have := HUL.out; omega))
  rw [hAM] at HE HBL
  rw [HNL.out] at HE
  clear hS hn hs hnl hU hAM HNL
  go_enter Try.func67, Try.ntmps67
  go_wp2_with fail
  have HBX := Lib.hid (balloc (Below.refl _ w) (.cells #[.int .i64 o, .int .i64 a, .int .i64 b, .int .u64 k, .string s, .slice A nl cap] 76))
  have HIX := Lib.hid (heap_alloc_new w (.cells #[.int .i64 o, .int .i64 a, .int .i64 b, .int .u64 k, .string s, .slice A nl cap] 76))
  generalize w.alloc (.cells #[.int .i64 o, .int .i64 a, .int .i64 b, .int .u64 k, .string s, .slice A nl cap] 76) = W1 at *
  refine (HU.out _ HBX.out).mono ?_
  rintro r w2 ⟨v', rfl, ho, hb⟩
  have HI2 := Lib.hid ho.ints
  obtain ⟨A2, c2, hv2⟩ := HI2.out.slice
  obtain ⟨nu, hnu⟩ : ∃ x, U.length = x := ⟨_, rfl⟩
  have HNU := Lib.hid (show U.length ≤ nu ∧ nu ≤ U.length by omega)
  have HI3 := Lib.hid (show Ints w2 (.slice A2 nu c2) U by rw [← hnu, ← hv2]; exact HI2.out)
  rw [hnu] at hv2
  subst hv2
  have HB2 := Lib.hid (bthen HBX.out hb)
  have HIX2 := Lib.hid ((hb.block _ (Array.getElem?_eq_some_iff.1 HIX.out).1).trans HIX.out)
  clear ho hb hnu
  go_wp2_with fail
  refine (HBL.out w2 A2 nu c2 (by have := HNU.out; omega) HI3.out).mono ?_
  rintro r w3 ⟨rfl, hb⟩
  have HB3 := Lib.hid (bthen HB2.out hb)
  have hix3 := (hb.block _ (Array.getElem?_eq_some_iff.1 HIX2.out).1).trans HIX2.out
  have c0 := Lib.cell_of_heap hix3 0
  have c1 := Lib.cell_of_heap hix3 1
  have c2 := Lib.cell_of_heap hix3 2
  have c3 := Lib.cell_of_heap hix3 3
  have c4 := Lib.cell_of_heap hix3 4
  have c5 := Lib.cell_of_heap hix3 5
  simp only [List.getElem?_toArray, List.getElem?_cons_zero, List.getElem?_cons_succ] at c0 c1 c2 c3 c4 c5
  have HIX3 := Lib.hid hix3
  clear hb hix3
  obtain rfl : o = 12 := by have := HO.out; omega
  have t1 : decide ((12 : Int) < 1) = false := rfl
  have t2 : decide ((16 : Int) < 12) = false := rfl
  cases AM with
  | false =>
    have HV := Lib.hid (show instB n ⟨12, a, b, k, s, l⟩ = false by rw [HE.out]; simp)
    go_wp2_with fail
    go_ret
    exact ⟨by rw [HV.out]; rfl, HB3.out⟩
  | true =>
  by_cases h6 : nl ≤ 6
  case neg =>
    have t3 : decide (6 < nl) = true := decide_eq_true (by omega)
    have t3' : decide ((6 : Int) < (nl : Int)) = true := decide_eq_true (by omega)
    have HV := Lib.hid (show instB n ⟨12, a, b, k, s, l⟩ = false by rw [HE.out]; simp [h6])
    go_wp2_with fail
    go_ret
    exact ⟨by rw [HV.out]; rfl, HB3.out⟩
  have t3 : decide (6 < nl) = false := decide_eq_false (by omega)
  have t3' : decide ((6 : Int) < (nl : Int)) = false := decide_eq_false (by omega)
  have HE := Lib.hid (show instB n ⟨12, a, b, k, s, l⟩ = ((aB 12 || a == 0) && (bB 12 || b == 0) && ((12 : Int) == 1 || k == 0) && ((12 : Int) == 14 || decide (nl = 0)) && (if hasB 12 then nameB s else s == ByteArray.empty)) by rw [HE.out, decide_eq_true (show 1 ≤ (12 : Int) by have := HO.out; omega), decide_eq_true (show (12 : Int) ≤ 16 by have := HO.out; omega), decide_eq_true h6]; rfl)
  clear h6
  rw [show aB 12 = false from rfl, show bB 12 = false from rfl, show hasB 12 = true from rfl, show ((12 : Int) == 1) = false from rfl, show ((12 : Int) == 14) = false from rfl] at HE
  rw [show hasB 12 = true from rfl] at HNM
  by_cases ha : a = 0
  case neg =>
    have ha1 : (a == 0) = false := by simpa using ha
    have ha2 : (a != 0) = true := by simpa using ha
    have ha3 : decide (a = 0) = false := decide_eq_false ha
    have HV := Lib.hid (show instB n ⟨12, a, b, k, s, l⟩ = false by rw [HE.out]; simp [ha])
    go_wp2_with fail
    go_ret
    exact ⟨by rw [HV.out]; rfl, HB3.out⟩
  subst ha
  by_cases hb : b = 0
  case neg =>
    have hb1 : (b == 0) = false := by simpa using hb
    have hb2 : (b != 0) = true := by simpa using hb
    have hb3 : decide (b = 0) = false := decide_eq_false hb
    have HV := Lib.hid (show instB n ⟨12, 0, b, k, s, l⟩ = false by rw [HE.out]; simp [hb])
    go_wp2_with fail
    go_ret
    exact ⟨by rw [HV.out]; rfl, HB3.out⟩
  subst hb
  by_cases hk : k = 0
  case neg =>
    have hk1 : (k == 0) = false := by simpa using hk
    have hk2 : (k != 0) = true := by simpa using hk
    have hk3 : decide (k = 0) = false := decide_eq_false hk
    have HV := Lib.hid (show instB n ⟨12, 0, 0, k, s, l⟩ = false by rw [HE.out]; simp [hk])
    go_wp2_with fail
    go_ret
    exact ⟨by rw [HV.out]; rfl, HB3.out⟩
  subst hk
  by_cases hz : nl = 0
  case neg =>
    have t0 : decide (0 < nl) = true := decide_eq_true (by omega)
    have t0' : decide ((0 : Int) < (nl : Int)) = true := decide_eq_true (by omega)
    have HV := Lib.hid (show instB n ⟨12, 0, 0, 0, s, l⟩ = false by rw [HE.out]; simp [hz])
    go_wp2_with fail
    go_ret
    exact ⟨by rw [HV.out]; rfl, HB3.out⟩
  have t0 : decide (0 < nl) = false := decide_eq_false (by omega)
  have t0' : decide ((0 : Int) < (nl : Int)) = false := decide_eq_false (by omega)
  have HV := Lib.hid (show instB n ⟨12, 0, 0, 0, s, l⟩ = (nameB s) by rw [HE.out]; simp [hz])
  clear hz
  go_wp2_with fail
  refine (HNM.out _).mono ?_
  rintro r w4 ⟨rfl, hb4⟩
  have HB4 := Lib.hid (bthen HB3.out hb4)
  have d4 := Lib.cell_of_heap ((hb4.block _ (Array.getElem?_eq_some_iff.1 HIX3.out).1).trans HIX3.out) 4
  simp only [List.getElem?_toArray, List.getElem?_cons_zero, List.getElem?_cons_succ] at d4
  clear hb4 c0 c1 c2 c3 c4 c5
  go_wp2_with fail
  refine (HME.out _).mono ?_
  rintro r w5 ⟨rfl, rfl⟩
  go_wp2_with fail
  go_ret
  exact ⟨by rw [HV.out]; rfl, HB4.out⟩
set_option maxRecDepth 100000 in
set_option maxHeartbeats 8000000 in
theorem refInst_c (i : In) (n : Int) (A : Option Addr) (cap : Nat) (w : World) (hS : Ints w (.slice A i.l.length cap) i.l) (hn : i.l.length * 8 ≤ 140737488355328) (hs : i.s.size < 9223372036854775808) (ho : i.o = 13) :
    Calls Try.prog 67 #[inV i (.slice A i.l.length cap), .int .i64 n] w fun e w' => e = .returned (.bool (instB n i)) ∧ Below w.heap.size w w' := by
  have HU := Lib.hid (fun (W : World) (hb : Below w.heap.size w W) => refUses_any i A cap W (hS.next hb) hn)
  have HUL := Lib.hid (show (usesI i).length * 8 ≤ 140737488355328 from by
    unfold usesI usesL
    repeat' split
    all_goals first | exact hn | simp)
  obtain ⟨o, a, b, k, s, l⟩ := i
  have HE := Lib.hid (instB_is n o a b k s l)
  unfold inV at HU ⊢
  simp only at hS hn hs HU HUL ho ⊢
  have HO := Lib.hid (show o ≤ 13 ∧ 13 ≤ o by omega)
  clear ho
  obtain ⟨nl, hnl⟩ : ∃ x, l.length = x := ⟨_, rfl⟩
  have HNL := Lib.hid (show decide (l = []) = decide (nl = 0) by rw [← hnl]; cases l <;> simp)
  have HME := Lib.hid (fun W : World => refName_any s W hs)
  have HNM := Lib.hid (fun W : World => refNamed_any o a b k s (.slice A nl cap) W)
  rw [hnl] at HU HE ⊢
  obtain ⟨U, hU⟩ : ∃ U, usesI ⟨o, a, b, k, s, l⟩ = U := ⟨_, rfl⟩
  rw [hU] at HU HE HUL
  obtain ⟨AM, hAM⟩ : ∃ x, amongB n U = x := ⟨_, rfl⟩
  have HBL := Lib.hid (fun (W : World) (A2 : Option Addr) (m c2 : Nat) (hm : U.length = m) (hI : Ints W (.slice A2 m c2) U) => refBelow_any n U A2 m c2 W hI (by have := HUL.out; omega))
  rw [hAM] at HE HBL
  rw [HNL.out] at HE
  clear hS hn hs hnl hU hAM HNL
  go_enter Try.func67, Try.ntmps67
  go_wp2_with fail
  have HBX := Lib.hid (balloc (Below.refl _ w) (.cells #[.int .i64 o, .int .i64 a, .int .i64 b, .int .u64 k, .string s, .slice A nl cap] 76))
  have HIX := Lib.hid (heap_alloc_new w (.cells #[.int .i64 o, .int .i64 a, .int .i64 b, .int .u64 k, .string s, .slice A nl cap] 76))
  generalize w.alloc (.cells #[.int .i64 o, .int .i64 a, .int .i64 b, .int .u64 k, .string s, .slice A nl cap] 76) = W1 at *
  refine (HU.out _ HBX.out).mono ?_
  rintro r w2 ⟨v', rfl, ho, hb⟩
  have HI2 := Lib.hid ho.ints
  obtain ⟨A2, c2, hv2⟩ := HI2.out.slice
  obtain ⟨nu, hnu⟩ : ∃ x, U.length = x := ⟨_, rfl⟩
  have HNU := Lib.hid (show U.length ≤ nu ∧ nu ≤ U.length by omega)
  have HI3 := Lib.hid (show Ints w2 (.slice A2 nu c2) U by rw [← hnu, ← hv2]; exact HI2.out)
  rw [hnu] at hv2
  subst hv2
  have HB2 := Lib.hid (bthen HBX.out hb)
  have HIX2 := Lib.hid ((hb.block _ (Array.getElem?_eq_some_iff.1 HIX.out).1).trans HIX.out)
  clear ho hb hnu
  go_wp2_with fail
  refine (HBL.out w2 A2 nu c2 (by have := HNU.out; omega) HI3.out).mono ?_
  rintro r w3 ⟨rfl, hb⟩
  have HB3 := Lib.hid (bthen HB2.out hb)
  have hix3 := (hb.block _ (Array.getElem?_eq_some_iff.1 HIX2.out).1).trans HIX2.out
  have c0 := Lib.cell_of_heap hix3 0
  have c1 := Lib.cell_of_heap hix3 1
  have c2 := Lib.cell_of_heap hix3 2
  have c3 := Lib.cell_of_heap hix3 3
  have c4 := Lib.cell_of_heap hix3 4
  have c5 := Lib.cell_of_heap hix3 5
  simp only [List.getElem?_toArray, List.getElem?_cons_zero, List.getElem?_cons_succ] at c0 c1 c2 c3 c4 c5
  have HIX3 := Lib.hid hix3
  clear hb hix3
  obtain rfl : o = 13 := by have := HO.out; omega
  have t1 : decide ((13 : Int) < 1) = false := rfl
  have t2 : decide ((16 : Int) < 13) = false := rfl
  cases AM with
  | false =>
    have HV := Lib.hid (show instB n ⟨13, a, b, k, s, l⟩ = false by rw [HE.out]; simp)
    go_wp2_with fail
    go_ret
    exact ⟨by rw [HV.out]; rfl, HB3.out⟩
  | true =>
  by_cases h6 : nl ≤ 6
  case neg =>
    have t3 : decide (6 < nl) = true := decide_eq_true (by omega)
    have t3' : decide ((6 : Int) < (nl : Int)) = true := decide_eq_true (by omega)
    have HV := Lib.hid (show instB n ⟨13, a, b, k, s, l⟩ = false by rw [HE.out]; simp [h6])
    go_wp2_with fail
    go_ret
    exact ⟨by rw [HV.out]; rfl, HB3.out⟩
  have t3 : decide (6 < nl) = false := decide_eq_false (by omega)
  have t3' : decide ((6 : Int) < (nl : Int)) = false := decide_eq_false (by omega)
  have HE := Lib.hid (show instB n ⟨13, a, b, k, s, l⟩ = ((aB 13 || a == 0) && (bB 13 || b == 0) && ((13 : Int) == 1 || k == 0) && ((13 : Int) == 14 || decide (nl = 0)) && (if hasB 13 then nameB s else s == ByteArray.empty)) by rw [HE.out, decide_eq_true (show 1 ≤ (13 : Int) by have := HO.out; omega), decide_eq_true (show (13 : Int) ≤ 16 by have := HO.out; omega), decide_eq_true h6]; rfl)
  clear h6
  rw [show aB 13 = true from rfl, show bB 13 = false from rfl, show hasB 13 = true from rfl, show ((13 : Int) == 1) = false from rfl, show ((13 : Int) == 14) = false from rfl] at HE
  rw [show hasB 13 = true from rfl] at HNM
  by_cases hb : b = 0
  case neg =>
    have hb1 : (b == 0) = false := by simpa using hb
    have hb2 : (b != 0) = true := by simpa using hb
    have hb3 : decide (b = 0) = false := decide_eq_false hb
    have HV := Lib.hid (show instB n ⟨13, a, b, k, s, l⟩ = false by rw [HE.out]; simp [hb])
    go_wp2_with fail
    go_ret
    exact ⟨by rw [HV.out]; rfl, HB3.out⟩
  subst hb
  by_cases hk : k = 0
  case neg =>
    have hk1 : (k == 0) = false := by simpa using hk
    have hk2 : (k != 0) = true := by simpa using hk
    have hk3 : decide (k = 0) = false := decide_eq_false hk
    have HV := Lib.hid (show instB n ⟨13, a, 0, k, s, l⟩ = false by rw [HE.out]; simp [hk])
    go_wp2_with fail
    go_ret
    exact ⟨by rw [HV.out]; rfl, HB3.out⟩
  subst hk
  by_cases hz : nl = 0
  case neg =>
    have t0 : decide (0 < nl) = true := decide_eq_true (by omega)
    have t0' : decide ((0 : Int) < (nl : Int)) = true := decide_eq_true (by omega)
    have HV := Lib.hid (show instB n ⟨13, a, 0, 0, s, l⟩ = false by rw [HE.out]; simp [hz])
    go_wp2_with fail
    go_ret
    exact ⟨by rw [HV.out]; rfl, HB3.out⟩
  have t0 : decide (0 < nl) = false := decide_eq_false (by omega)
  have t0' : decide ((0 : Int) < (nl : Int)) = false := decide_eq_false (by omega)
  have HV := Lib.hid (show instB n ⟨13, a, 0, 0, s, l⟩ = (nameB s) by rw [HE.out]; simp [hz])
  clear hz
  go_wp2_with fail
  refine (HNM.out _).mono ?_
  rintro r w4 ⟨rfl, hb4⟩
  have HB4 := Lib.hid (bthen HB3.out hb4)
  have d4 := Lib.cell_of_heap ((hb4.block _ (Array.getElem?_eq_some_iff.1 HIX3.out).1).trans HIX3.out) 4
  simp only [List.getElem?_toArray, List.getElem?_cons_zero, List.getElem?_cons_succ] at d4
  clear hb4 c0 c1 c2 c3 c4 c5
  go_wp2_with fail
  refine (HME.out _).mono ?_
  rintro r w5 ⟨rfl, rfl⟩
  go_wp2_with fail
  go_ret
  exact ⟨by rw [HV.out]; rfl, HB4.out⟩
set_option maxRecDepth 100000 in
set_option maxHeartbeats 8000000 in
theorem refInst_d (i : In) (n : Int) (A : Option Addr) (cap : Nat) (w : World) (hS : Ints w (.slice A i.l.length cap) i.l) (hn : i.l.length * 8 ≤ 140737488355328) (hs : i.s.size < 9223372036854775808) (ho : i.o = 14) :
    Calls Try.prog 67 #[inV i (.slice A i.l.length cap), .int .i64 n] w fun e w' => e = .returned (.bool (instB n i)) ∧ Below w.heap.size w w' := by
  have HU := Lib.hid (fun (W : World) (hb : Below w.heap.size w W) => refUses_any i A cap W (hS.next hb) hn)
  have HUL := Lib.hid (show (usesI i).length * 8 ≤ 140737488355328 from by
    unfold usesI usesL
    repeat' split
    all_goals first | exact hn | simp)
  obtain ⟨o, a, b, k, s, l⟩ := i
  have HE := Lib.hid (instB_is n o a b k s l)
  unfold inV at HU ⊢
  simp only at hS hn hs HU HUL ho ⊢
  have HO := Lib.hid (show o ≤ 14 ∧ 14 ≤ o by omega)
  clear ho
  obtain ⟨nl, hnl⟩ : ∃ x, l.length = x := ⟨_, rfl⟩
  have HNL := Lib.hid (show decide (l = []) = decide (nl = 0) by rw [← hnl]; cases l <;> simp)
  have HME := Lib.hid (fun W : World => refName_any s W hs)
  have HNM := Lib.hid (fun W : World => refNamed_any o a b k s (.slice A nl cap) W)
  rw [hnl] at HU HE ⊢
  obtain ⟨U, hU⟩ : ∃ U, usesI ⟨o, a, b, k, s, l⟩ = U := ⟨_, rfl⟩
  rw [hU] at HU HE HUL
  obtain ⟨AM, hAM⟩ : ∃ x, amongB n U = x := ⟨_, rfl⟩
  have HBL := Lib.hid (fun (W : World) (A2 : Option Addr) (m c2 : Nat) (hm : U.length = m) (hI : Ints W (.slice A2 m c2) U) => refBelow_any n U A2 m c2 W hI (by have := HUL.out; omega))
  rw [hAM] at HE HBL
  rw [HNL.out] at HE
  clear hS hn hs hnl hU hAM HNL
  go_enter Try.func67, Try.ntmps67
  go_wp2_with fail
  have HBX := Lib.hid (balloc (Below.refl _ w) (.cells #[.int .i64 o, .int .i64 a, .int .i64 b, .int .u64 k, .string s, .slice A nl cap] 76))
  have HIX := Lib.hid (heap_alloc_new w (.cells #[.int .i64 o, .int .i64 a, .int .i64 b, .int .u64 k, .string s, .slice A nl cap] 76))
  generalize w.alloc (.cells #[.int .i64 o, .int .i64 a, .int .i64 b, .int .u64 k, .string s, .slice A nl cap] 76) = W1 at *
  refine (HU.out _ HBX.out).mono ?_
  rintro r w2 ⟨v', rfl, ho, hb⟩
  have HI2 := Lib.hid ho.ints
  obtain ⟨A2, c2, hv2⟩ := HI2.out.slice
  obtain ⟨nu, hnu⟩ : ∃ x, U.length = x := ⟨_, rfl⟩
  have HNU := Lib.hid (show U.length ≤ nu ∧ nu ≤ U.length by omega)
  have HI3 := Lib.hid (show Ints w2 (.slice A2 nu c2) U by rw [← hnu, ← hv2]; exact HI2.out)
  rw [hnu] at hv2
  subst hv2
  have HB2 := Lib.hid (bthen HBX.out hb)
  have HIX2 := Lib.hid ((hb.block _ (Array.getElem?_eq_some_iff.1 HIX.out).1).trans HIX.out)
  clear ho hb hnu
  go_wp2_with fail
  refine (HBL.out w2 A2 nu c2 (by have := HNU.out; omega) HI3.out).mono ?_
  rintro r w3 ⟨rfl, hb⟩
  have HB3 := Lib.hid (bthen HB2.out hb)
  have hix3 := (hb.block _ (Array.getElem?_eq_some_iff.1 HIX2.out).1).trans HIX2.out
  have c0 := Lib.cell_of_heap hix3 0
  have c1 := Lib.cell_of_heap hix3 1
  have c2 := Lib.cell_of_heap hix3 2
  have c3 := Lib.cell_of_heap hix3 3
  have c4 := Lib.cell_of_heap hix3 4
  have c5 := Lib.cell_of_heap hix3 5
  simp only [List.getElem?_toArray, List.getElem?_cons_zero, List.getElem?_cons_succ] at c0 c1 c2 c3 c4 c5
  have HIX3 := Lib.hid hix3
  clear hb hix3
  obtain rfl : o = 14 := by have := HO.out; omega
  have t1 : decide ((14 : Int) < 1) = false := rfl
  have t2 : decide ((16 : Int) < 14) = false := rfl
  cases AM with
  | false =>
    have HV := Lib.hid (show instB n ⟨14, a, b, k, s, l⟩ = false by rw [HE.out]; simp)
    go_wp2_with fail
    go_ret
    exact ⟨by rw [HV.out]; rfl, HB3.out⟩
  | true =>
  by_cases h6 : nl ≤ 6
  case neg =>
    have t3 : decide (6 < nl) = true := decide_eq_true (by omega)
    have t3' : decide ((6 : Int) < (nl : Int)) = true := decide_eq_true (by omega)
    have HV := Lib.hid (show instB n ⟨14, a, b, k, s, l⟩ = false by rw [HE.out]; simp [h6])
    go_wp2_with fail
    go_ret
    exact ⟨by rw [HV.out]; rfl, HB3.out⟩
  have t3 : decide (6 < nl) = false := decide_eq_false (by omega)
  have t3' : decide ((6 : Int) < (nl : Int)) = false := decide_eq_false (by omega)
  have HE := Lib.hid (show instB n ⟨14, a, b, k, s, l⟩ = ((aB 14 || a == 0) && (bB 14 || b == 0) && ((14 : Int) == 1 || k == 0) && ((14 : Int) == 14 || decide (nl = 0)) && (if hasB 14 then nameB s else s == ByteArray.empty)) by rw [HE.out, decide_eq_true (show 1 ≤ (14 : Int) by have := HO.out; omega), decide_eq_true (show (14 : Int) ≤ 16 by have := HO.out; omega), decide_eq_true h6]; rfl)
  clear h6
  rw [show aB 14 = false from rfl, show bB 14 = false from rfl, show hasB 14 = true from rfl, show ((14 : Int) == 1) = false from rfl, show ((14 : Int) == 14) = true from rfl] at HE
  rw [show hasB 14 = true from rfl] at HNM
  by_cases ha : a = 0
  case neg =>
    have ha1 : (a == 0) = false := by simpa using ha
    have ha2 : (a != 0) = true := by simpa using ha
    have ha3 : decide (a = 0) = false := decide_eq_false ha
    have HV := Lib.hid (show instB n ⟨14, a, b, k, s, l⟩ = false by rw [HE.out]; simp [ha])
    go_wp2_with fail
    go_ret
    exact ⟨by rw [HV.out]; rfl, HB3.out⟩
  subst ha
  by_cases hb : b = 0
  case neg =>
    have hb1 : (b == 0) = false := by simpa using hb
    have hb2 : (b != 0) = true := by simpa using hb
    have hb3 : decide (b = 0) = false := decide_eq_false hb
    have HV := Lib.hid (show instB n ⟨14, 0, b, k, s, l⟩ = false by rw [HE.out]; simp [hb])
    go_wp2_with fail
    go_ret
    exact ⟨by rw [HV.out]; rfl, HB3.out⟩
  subst hb
  by_cases hk : k = 0
  case neg =>
    have hk1 : (k == 0) = false := by simpa using hk
    have hk2 : (k != 0) = true := by simpa using hk
    have hk3 : decide (k = 0) = false := decide_eq_false hk
    have HV := Lib.hid (show instB n ⟨14, 0, 0, k, s, l⟩ = false by rw [HE.out]; simp [hk])
    go_wp2_with fail
    go_ret
    exact ⟨by rw [HV.out]; rfl, HB3.out⟩
  subst hk
  have HV := Lib.hid (show instB n ⟨14, 0, 0, 0, s, l⟩ = (nameB s) by rw [HE.out]; simp [])
  go_wp2_with fail
  refine (HNM.out _).mono ?_
  rintro r w4 ⟨rfl, hb4⟩
  have HB4 := Lib.hid (bthen HB3.out hb4)
  have d4 := Lib.cell_of_heap ((hb4.block _ (Array.getElem?_eq_some_iff.1 HIX3.out).1).trans HIX3.out) 4
  simp only [List.getElem?_toArray, List.getElem?_cons_zero, List.getElem?_cons_succ] at d4
  clear hb4 c0 c1 c2 c3 c4 c5
  go_wp2_with fail
  refine (HME.out _).mono ?_
  rintro r w5 ⟨rfl, rfl⟩
  go_wp2_with fail
  go_ret
  exact ⟨by rw [HV.out]; rfl, HB4.out⟩
end Go.Proofs.Ytjldddpchiaalaa
namespace Go.Proofs.Ytjldddpchiaalaa
open Go.RowKit
set_option maxRecDepth 100000 in
set_option maxHeartbeats 8000000 in
theorem refInst_e (i : In) (n : Int) (A : Option Addr) (cap : Nat) (w : World) (hS : Ints w (.slice A i.l.length cap) i.l) (hn : i.l.length * 8 ≤ 140737488355328) (hs : i.s.size < 9223372036854775808) (ho : i.o = 15) :
    Calls Try.prog 67 #[inV i (.slice A i.l.length cap), .int .i64 n] w fun e w' => e = .returned (.bool (instB n i)) ∧ Below w.heap.size w w' := by
  have HU := Lib.hid (fun (W : World) (hb : Below w.heap.size w W) => refUses_any i A cap W (hS.next hb) hn)
  have HUL := Lib.hid (show (usesI i).length * 8 ≤ 140737488355328 from by
    unfold usesI usesL
    repeat' split
    all_goals first | exact hn | simp)
  obtain ⟨o, a, b, k, s, l⟩ := i
  have HE := Lib.hid (instB_is n o a b k s l)
  unfold inV at HU ⊢
  simp only at hS hn hs HU HUL ho ⊢
  have HO := Lib.hid (show o ≤ 15 ∧ 15 ≤ o by omega)
  clear ho
  obtain ⟨nl, hnl⟩ : ∃ x, l.length = x := ⟨_, rfl⟩
  have HNL := Lib.hid (show decide (l = []) = decide (nl = 0) by rw [← hnl]; cases l <;> simp)
  have HME := Lib.hid (fun W : World => refName_any s W hs)
  have HNM := Lib.hid (fun W : World => refNamed_any o a b k s (.slice A nl cap) W)
  rw [hnl] at HU HE ⊢
  obtain ⟨U, hU⟩ : ∃ U, usesI ⟨o, a, b, k, s, l⟩ = U := ⟨_, rfl⟩
  rw [hU] at HU HE HUL
  obtain ⟨AM, hAM⟩ : ∃ x, amongB n U = x := ⟨_, rfl⟩
  have HBL := Lib.hid (fun (W : World) (A2 : Option Addr) (m c2 : Nat) (hm : U.length = m) (hI : Ints W (.slice A2 m c2) U) => refBelow_any n U A2 m c2 W hI (by have := HUL.out; omega))
  rw [hAM] at HE HBL
  rw [HNL.out] at HE
  clear hS hn hs hnl hU hAM HNL
  go_enter Try.func67, Try.ntmps67
  go_wp2_with fail
  have HBX := Lib.hid (balloc (Below.refl _ w) (.cells #[.int .i64 o, .int .i64 a, .int .i64 b, .int .u64 k, .string s, .slice A nl cap] 76))
  have HIX := Lib.hid (heap_alloc_new w (.cells #[.int .i64 o, .int .i64 a, .int .i64 b, .int .u64 k, .string s, .slice A nl cap] 76))
  generalize w.alloc (.cells #[.int .i64 o, .int .i64 a, .int .i64 b, .int .u64 k, .string s, .slice A nl cap] 76) = W1 at *
  refine (HU.out _ HBX.out).mono ?_
  rintro r w2 ⟨v', rfl, ho, hb⟩
  have HI2 := Lib.hid ho.ints
  obtain ⟨A2, c2, hv2⟩ := HI2.out.slice
  obtain ⟨nu, hnu⟩ : ∃ x, U.length = x := ⟨_, rfl⟩
  have HNU := Lib.hid (show U.length ≤ nu ∧ nu ≤ U.length by omega)
  have HI3 := Lib.hid (show Ints w2 (.slice A2 nu c2) U by rw [← hnu, ← hv2]; exact HI2.out)
  rw [hnu] at hv2
  subst hv2
  have HB2 := Lib.hid (bthen HBX.out hb)
  have HIX2 := Lib.hid ((hb.block _ (Array.getElem?_eq_some_iff.1 HIX.out).1).trans HIX.out)
  clear ho hb hnu
  go_wp2_with fail
  refine (HBL.out w2 A2 nu c2 (by have := HNU.out; omega) HI3.out).mono ?_
  rintro r w3 ⟨rfl, hb⟩
  have HB3 := Lib.hid (bthen HB2.out hb)
  have hix3 := (hb.block _ (Array.getElem?_eq_some_iff.1 HIX2.out).1).trans HIX2.out
  have c0 := Lib.cell_of_heap hix3 0
  have c1 := Lib.cell_of_heap hix3 1
  have c2 := Lib.cell_of_heap hix3 2
  have c3 := Lib.cell_of_heap hix3 3
  have c4 := Lib.cell_of_heap hix3 4
  have c5 := Lib.cell_of_heap hix3 5
  simp only [List.getElem?_toArray, List.getElem?_cons_zero, List.getElem?_cons_succ] at c0 c1 c2 c3 c4 c5
  have HIX3 := Lib.hid hix3
  clear hb hix3
  obtain rfl : o = 15 := by have := HO.out; omega
  have t1 : decide ((15 : Int) < 1) = false := rfl
  have t2 : decide ((16 : Int) < 15) = false := rfl
  cases AM with
  | false =>
    have HV := Lib.hid (show instB n ⟨15, a, b, k, s, l⟩ = false by rw [HE.out]; simp)
    go_wp2_with fail
    go_ret
    exact ⟨by rw [HV.out]; rfl, HB3.out⟩
  | true =>
  by_cases h6 : nl ≤ 6
  case neg =>
    have t3 : decide (6 < nl) = true := decide_eq_true (by omega)
    have t3' : decide ((6 : Int) < (nl : Int)) = true := decide_eq_true (by omega)
    have HV := Lib.hid (show instB n ⟨15, a, b, k, s, l⟩ = false by rw [HE.out]; simp [h6])
    go_wp2_with fail
    go_ret
    exact ⟨by rw [HV.out]; rfl, HB3.out⟩
  have t3 : decide (6 < nl) = false := decide_eq_false (by omega)
  have t3' : decide ((6 : Int) < (nl : Int)) = false := decide_eq_false (by omega)
  have HE := Lib.hid (show instB n ⟨15, a, b, k, s, l⟩ = ((aB 15 || a == 0) && (bB 15 || b == 0) && ((15 : Int) == 1 || k == 0) && ((15 : Int) == 14 || decide (nl = 0)) && (if hasB 15 then nameB s else s == ByteArray.empty)) by rw [HE.out, decide_eq_true (show 1 ≤ (15 : Int) by have := HO.out; omega), decide_eq_true (show (15 : Int) ≤ 16 by have := HO.out; omega), decide_eq_true h6]; rfl)
  clear h6
  rw [show aB 15 = false from rfl, show bB 15 = false from rfl, show hasB 15 = false from rfl, show ((15 : Int) == 1) = false from rfl, show ((15 : Int) == 14) = false from rfl] at HE
  rw [show hasB 15 = false from rfl] at HNM
  by_cases ha : a = 0
  case neg =>
    have ha1 : (a == 0) = false := by simpa using ha
    have ha2 : (a != 0) = true := by simpa using ha
    have ha3 : decide (a = 0) = false := decide_eq_false ha
    have HV := Lib.hid (show instB n ⟨15, a, b, k, s, l⟩ = false by rw [HE.out]; simp [ha])
    go_wp2_with fail
    go_ret
    exact ⟨by rw [HV.out]; rfl, HB3.out⟩
  subst ha
  by_cases hb : b = 0
  case neg =>
    have hb1 : (b == 0) = false := by simpa using hb
    have hb2 : (b != 0) = true := by simpa using hb
    have hb3 : decide (b = 0) = false := decide_eq_false hb
    have HV := Lib.hid (show instB n ⟨15, 0, b, k, s, l⟩ = false by rw [HE.out]; simp [hb])
    go_wp2_with fail
    go_ret
    exact ⟨by rw [HV.out]; rfl, HB3.out⟩
  subst hb
  by_cases hk : k = 0
  case neg =>
    have hk1 : (k == 0) = false := by simpa using hk
    have hk2 : (k != 0) = true := by simpa using hk
    have hk3 : decide (k = 0) = false := decide_eq_false hk
    have HV := Lib.hid (show instB n ⟨15, 0, 0, k, s, l⟩ = false by rw [HE.out]; simp [hk])
    go_wp2_with fail
    go_ret
    exact ⟨by rw [HV.out]; rfl, HB3.out⟩
  subst hk
  by_cases hz : nl = 0
  case neg =>
    have t0 : decide (0 < nl) = true := decide_eq_true (by omega)
    have t0' : decide ((0 : Int) < (nl : Int)) = true := decide_eq_true (by omega)
    have HV := Lib.hid (show instB n ⟨15, 0, 0, 0, s, l⟩ = false by rw [HE.out]; simp [hz])
    go_wp2_with fail
    go_ret
    exact ⟨by rw [HV.out]; rfl, HB3.out⟩
  have t0 : decide (0 < nl) = false := decide_eq_false (by omega)
  have t0' : decide ((0 : Int) < (nl : Int)) = false := decide_eq_false (by omega)
  have HV := Lib.hid (show instB n ⟨15, 0, 0, 0, s, l⟩ = (s == ByteArray.empty) by rw [HE.out]; simp [hz])
  clear hz
  go_wp2_with fail
  refine (HNM.out _).mono ?_
  rintro r w4 ⟨rfl, hb4⟩
  have HB4 := Lib.hid (bthen HB3.out hb4)
  have d4 := Lib.cell_of_heap ((hb4.block _ (Array.getElem?_eq_some_iff.1 HIX3.out).1).trans HIX3.out) 4
  simp only [List.getElem?_toArray, List.getElem?_cons_zero, List.getElem?_cons_succ] at d4
  clear hb4 c0 c1 c2 c3 c4 c5
  go_wp2_with fail
  go_ret
  exact ⟨by rw [HV.out, ← ba_isEmpty]; rfl, HB4.out⟩
set_option maxRecDepth 100000 in
set_option maxHeartbeats 8000000 in
theorem refInst_f (i : In) (n : Int) (A : Option Addr) (cap : Nat) (w : World) (hS : Ints w (.slice A i.l.length cap) i.l) (hn : i.l.length * 8 ≤ 140737488355328) (hs : i.s.size < 9223372036854775808) (ho : i.o = 16) :
    Calls Try.prog 67 #[inV i (.slice A i.l.length cap), .int .i64 n] w fun e w' => e = .returned (.bool (instB n i)) ∧ Below w.heap.size w w' := by
  have HU := Lib.hid (fun (W : World) (hb : Below w.heap.size w W) => refUses_any i A cap W (hS.next hb) hn)
  have HUL := Lib.hid (show (usesI i).length * 8 ≤ 140737488355328 from by
    unfold usesI usesL
    repeat' split
    all_goals first | exact hn | simp)
  obtain ⟨o, a, b, k, s, l⟩ := i
  have HE := Lib.hid (instB_is n o a b k s l)
  unfold inV at HU ⊢
  simp only at hS hn hs HU HUL ho ⊢
  have HO := Lib.hid (show o ≤ 16 ∧ 16 ≤ o by omega)
  clear ho
  obtain ⟨nl, hnl⟩ : ∃ x, l.length = x := ⟨_, rfl⟩
  have HNL := Lib.hid (show decide (l = []) = decide (nl = 0) by rw [← hnl]; cases l <;> simp)
  have HME := Lib.hid (fun W : World => refName_any s W hs)
  have HNM := Lib.hid (fun W : World => refNamed_any o a b k s (.slice A nl cap) W)
  rw [hnl] at HU HE ⊢
  obtain ⟨U, hU⟩ : ∃ U, usesI ⟨o, a, b, k, s, l⟩ = U := ⟨_, rfl⟩
  rw [hU] at HU HE HUL
  obtain ⟨AM, hAM⟩ : ∃ x, amongB n U = x := ⟨_, rfl⟩
  have HBL := Lib.hid (fun (W : World) (A2 : Option Addr) (m c2 : Nat) (hm : U.length = m) (hI : Ints W (.slice A2 m c2) U) => refBelow_any n U A2 m c2 W hI (by have := HUL.out; omega))
  rw [hAM] at HE HBL
  rw [HNL.out] at HE
  clear hS hn hs hnl hU hAM HNL
  go_enter Try.func67, Try.ntmps67
  go_wp2_with fail
  have HBX := Lib.hid (balloc (Below.refl _ w) (.cells #[.int .i64 o, .int .i64 a, .int .i64 b, .int .u64 k, .string s, .slice A nl cap] 76))
  have HIX := Lib.hid (heap_alloc_new w (.cells #[.int .i64 o, .int .i64 a, .int .i64 b, .int .u64 k, .string s, .slice A nl cap] 76))
  generalize w.alloc (.cells #[.int .i64 o, .int .i64 a, .int .i64 b, .int .u64 k, .string s, .slice A nl cap] 76) = W1 at *
  refine (HU.out _ HBX.out).mono ?_
  rintro r w2 ⟨v', rfl, ho, hb⟩
  have HI2 := Lib.hid ho.ints
  obtain ⟨A2, c2, hv2⟩ := HI2.out.slice
  obtain ⟨nu, hnu⟩ : ∃ x, U.length = x := ⟨_, rfl⟩
  have HNU := Lib.hid (show U.length ≤ nu ∧ nu ≤ U.length by omega)
  have HI3 := Lib.hid (show Ints w2 (.slice A2 nu c2) U by rw [← hnu, ← hv2]; exact HI2.out)
  rw [hnu] at hv2
  subst hv2
  have HB2 := Lib.hid (bthen HBX.out hb)
  have HIX2 := Lib.hid ((hb.block _ (Array.getElem?_eq_some_iff.1 HIX.out).1).trans HIX.out)
  clear ho hb hnu
  go_wp2_with fail
  refine (HBL.out w2 A2 nu c2 (by have := HNU.out; omega) HI3.out).mono ?_
  rintro r w3 ⟨rfl, hb⟩
  have HB3 := Lib.hid (bthen HB2.out hb)
  have hix3 := (hb.block _ (Array.getElem?_eq_some_iff.1 HIX2.out).1).trans HIX2.out
  have c0 := Lib.cell_of_heap hix3 0
  have c1 := Lib.cell_of_heap hix3 1
  have c2 := Lib.cell_of_heap hix3 2
  have c3 := Lib.cell_of_heap hix3 3
  have c4 := Lib.cell_of_heap hix3 4
  have c5 := Lib.cell_of_heap hix3 5
  simp only [List.getElem?_toArray, List.getElem?_cons_zero, List.getElem?_cons_succ] at c0 c1 c2 c3 c4 c5
  have HIX3 := Lib.hid hix3
  clear hb hix3
  obtain rfl : o = 16 := by have := HO.out; omega
  have t1 : decide ((16 : Int) < 1) = false := rfl
  have t2 : decide ((16 : Int) < 16) = false := rfl
  cases AM with
  | false =>
    have HV := Lib.hid (show instB n ⟨16, a, b, k, s, l⟩ = false by rw [HE.out]; simp)
    go_wp2_with fail
    go_ret
    exact ⟨by rw [HV.out]; rfl, HB3.out⟩
  | true =>
  by_cases h6 : nl ≤ 6
  case neg =>
    have t3 : decide (6 < nl) = true := decide_eq_true (by omega)
    have t3' : decide ((6 : Int) < (nl : Int)) = true := decide_eq_true (by omega)
    have HV := Lib.hid (show instB n ⟨16, a, b, k, s, l⟩ = false by rw [HE.out]; simp [h6])
    go_wp2_with fail
    go_ret
    exact ⟨by rw [HV.out]; rfl, HB3.out⟩
  have t3 : decide (6 < nl) = false := decide_eq_false (by omega)
  have t3' : decide ((6 : Int) < (nl : Int)) = false := decide_eq_false (by omega)
  have HE := Lib.hid (show instB n ⟨16, a, b, k, s, l⟩ = ((aB 16 || a == 0) && (bB 16 || b == 0) && ((16 : Int) == 1 || k == 0) && ((16 : Int) == 14 || decide (nl = 0)) && (if hasB 16 then nameB s else s == ByteArray.empty)) by rw [HE.out, decide_eq_true (show 1 ≤ (16 : Int) by have := HO.out; omega), decide_eq_true (show (16 : Int) ≤ 16 by have := HO.out; omega), decide_eq_true h6]; rfl)
  clear h6
  rw [show aB 16 = true from rfl, show bB 16 = false from rfl, show hasB 16 = false from rfl, show ((16 : Int) == 1) = false from rfl, show ((16 : Int) == 14) = false from rfl] at HE
  rw [show hasB 16 = false from rfl] at HNM
  by_cases hb : b = 0
  case neg =>
    have hb1 : (b == 0) = false := by simpa using hb
    have hb2 : (b != 0) = true := by simpa using hb
    have hb3 : decide (b = 0) = false := decide_eq_false hb
    have HV := Lib.hid (show instB n ⟨16, a, b, k, s, l⟩ = false by rw [HE.out]; simp [hb])
    go_wp2_with fail
    go_ret
    exact ⟨by rw [HV.out]; rfl, HB3.out⟩
  subst hb
  by_cases hk : k = 0
  case neg =>
    have hk1 : (k == 0) = false := by simpa using hk
    have hk2 : (k != 0) = true := by simpa using hk
    have hk3 : decide (k = 0) = false := decide_eq_false hk
    have HV := Lib.hid (show instB n ⟨16, a, 0, k, s, l⟩ = false by rw [HE.out]; simp [hk])
    go_wp2_with fail
    go_ret
    exact ⟨by rw [HV.out]; rfl, HB3.out⟩
  subst hk
  by_cases hz : nl = 0
  case neg =>
    have t0 : decide (0 < nl) = true := decide_eq_true (by omega)
    have t0' : decide ((0 : Int) < (nl : Int)) = true := decide_eq_true (by omega)
    have HV := Lib.hid (show instB n ⟨16, a, 0, 0, s, l⟩ = false by rw [HE.out]; simp [hz])
    go_wp2_with fail
    go_ret
    exact ⟨by rw [HV.out]; rfl, HB3.out⟩
  have t0 : decide (0 < nl) = false := decide_eq_false (by omega)
  have t0' : decide ((0 : Int) < (nl : Int)) = false := decide_eq_false (by omega)
  have HV := Lib.hid (show instB n ⟨16, a, 0, 0, s, l⟩ = (s == ByteArray.empty) by rw [HE.out]; simp [hz])
  clear hz
  go_wp2_with fail
  refine (HNM.out _).mono ?_
  rintro r w4 ⟨rfl, hb4⟩
  have HB4 := Lib.hid (bthen HB3.out hb4)
  have d4 := Lib.cell_of_heap ((hb4.block _ (Array.getElem?_eq_some_iff.1 HIX3.out).1).trans HIX3.out) 4
  simp only [List.getElem?_toArray, List.getElem?_cons_zero, List.getElem?_cons_succ] at d4
  clear hb4 c0 c1 c2 c3 c4 c5
  go_wp2_with fail
  go_ret
  exact ⟨by rw [HV.out, ← ba_isEmpty]; rfl, HB4.out⟩
set_option maxRecDepth 100000 in
set_option maxHeartbeats 8000000 in
theorem refInst_g (i : In) (n : Int) (A : Option Addr) (cap : Nat) (w : World) (hS : Ints w (.slice A i.l.length cap) i.l) (hn : i.l.length * 8 ≤ 140737488355328) (hs : i.s.size < 9223372036854775808) (ho : i.o = 2) :
    Calls Try.prog 67 #[inV i (.slice A i.l.length cap), .int .i64 n] w fun e w' => e = .returned (.bool (instB n i)) ∧ Below w.heap.size w w' := by
  have HU := Lib.hid (fun (W : World) (hb : Below w.heap.size w W) => refUses_any i A cap W (hS.next hb) hn)
  have HUL := Lib.hid (show (usesI i).length * 8 ≤ 140737488355328 from by
    unfold usesI usesL
    repeat' split
    all_goals first | exact hn | simp)
  obtain ⟨o, a, b, k, s, l⟩ := i
  have HE := Lib.hid (instB_is n o a b k s l)
  unfold inV at HU ⊢
  simp only at hS hn hs HU HUL ho ⊢
  have HO := Lib.hid (show o ≤ 2 ∧ 2 ≤ o by omega)
  clear ho
  obtain ⟨nl, hnl⟩ : ∃ x, l.length = x := ⟨_, rfl⟩
  have HNL := Lib.hid (show decide (l = []) = decide (nl = 0) by rw [← hnl]; cases l <;> simp)
  have HME := Lib.hid (fun W : World => refName_any s W hs)
  have HNM := Lib.hid (fun W : World => refNamed_any o a b k s (.slice A nl cap) W)
  rw [hnl] at HU HE ⊢
  obtain ⟨U, hU⟩ : ∃ U, usesI ⟨o, a, b, k, s, l⟩ = U := ⟨_, rfl⟩
  rw [hU] at HU HE HUL
  obtain ⟨AM, hAM⟩ : ∃ x, amongB n U = x := ⟨_, rfl⟩
  have HBL := Lib.hid (fun (W : World) (A2 : Option Addr) (m c2 : Nat) (hm : U.length = m) (hI : Ints W (.slice A2 m c2) U) => refBelow_any n U A2 m c2 W hI (by have := HUL.out; omega))
  rw [hAM] at HE HBL
  rw [HNL.out] at HE
  clear hS hn hs hnl hU hAM HNL
  go_enter Try.func67, Try.ntmps67
  go_wp2_with fail
  have HBX := Lib.hid (balloc (Below.refl _ w) (.cells #[.int .i64 o, .int .i64 a, .int .i64 b, .int .u64 k, .string s, .slice A nl cap] 76))
  have HIX := Lib.hid (heap_alloc_new w (.cells #[.int .i64 o, .int .i64 a, .int .i64 b, .int .u64 k, .string s, .slice A nl cap] 76))
  generalize w.alloc (.cells #[.int .i64 o, .int .i64 a, .int .i64 b, .int .u64 k, .string s, .slice A nl cap] 76) = W1 at *
  refine (HU.out _ HBX.out).mono ?_
  rintro r w2 ⟨v', rfl, ho, hb⟩
  have HI2 := Lib.hid ho.ints
  obtain ⟨A2, c2, hv2⟩ := HI2.out.slice
  obtain ⟨nu, hnu⟩ : ∃ x, U.length = x := ⟨_, rfl⟩
  have HNU := Lib.hid (show U.length ≤ nu ∧ nu ≤ U.length by omega)
  have HI3 := Lib.hid (show Ints w2 (.slice A2 nu c2) U by rw [← hnu, ← hv2]; exact HI2.out)
  rw [hnu] at hv2
  subst hv2
  have HB2 := Lib.hid (bthen HBX.out hb)
  have HIX2 := Lib.hid ((hb.block _ (Array.getElem?_eq_some_iff.1 HIX.out).1).trans HIX.out)
  clear ho hb hnu
  go_wp2_with fail
  refine (HBL.out w2 A2 nu c2 (by have := HNU.out; omega) HI3.out).mono ?_
  rintro r w3 ⟨rfl, hb⟩
  have HB3 := Lib.hid (bthen HB2.out hb)
  have hix3 := (hb.block _ (Array.getElem?_eq_some_iff.1 HIX2.out).1).trans HIX2.out
  have c0 := Lib.cell_of_heap hix3 0
  have c1 := Lib.cell_of_heap hix3 1
  have c2 := Lib.cell_of_heap hix3 2
  have c3 := Lib.cell_of_heap hix3 3
  have c4 := Lib.cell_of_heap hix3 4
  have c5 := Lib.cell_of_heap hix3 5
  simp only [List.getElem?_toArray, List.getElem?_cons_zero, List.getElem?_cons_succ] at c0 c1 c2 c3 c4 c5
  have HIX3 := Lib.hid hix3
  clear hb hix3
  obtain rfl : o = 2 := by have := HO.out; omega
  have t1 : decide ((2 : Int) < 1) = false := rfl
  have t2 : decide ((16 : Int) < 2) = false := rfl
  cases AM with
  | false =>
    have HV := Lib.hid (show instB n ⟨2, a, b, k, s, l⟩ = false by rw [HE.out]; simp)
    go_wp2_with fail
    go_ret
    exact ⟨by rw [HV.out]; rfl, HB3.out⟩
  | true =>
  by_cases h6 : nl ≤ 6
  case neg =>
    have t3 : decide (6 < nl) = true := decide_eq_true (by omega)
    have t3' : decide ((6 : Int) < (nl : Int)) = true := decide_eq_true (by omega)
    have HV := Lib.hid (show instB n ⟨2, a, b, k, s, l⟩ = false by rw [HE.out]; simp [h6])
    go_wp2_with fail
    go_ret
    exact ⟨by rw [HV.out]; rfl, HB3.out⟩
  have t3 : decide (6 < nl) = false := decide_eq_false (by omega)
  have t3' : decide ((6 : Int) < (nl : Int)) = false := decide_eq_false (by omega)
  have HE := Lib.hid (show instB n ⟨2, a, b, k, s, l⟩ = ((aB 2 || a == 0) && (bB 2 || b == 0) && ((2 : Int) == 1 || k == 0) && ((2 : Int) == 14 || decide (nl = 0)) && (if hasB 2 then nameB s else s == ByteArray.empty)) by rw [HE.out, decide_eq_true (show 1 ≤ (2 : Int) by have := HO.out; omega), decide_eq_true (show (2 : Int) ≤ 16 by have := HO.out; omega), decide_eq_true h6]; rfl)
  clear h6
  rw [show aB 2 = true from rfl, show bB 2 = true from rfl, show hasB 2 = false from rfl, show ((2 : Int) == 1) = false from rfl, show ((2 : Int) == 14) = false from rfl] at HE
  rw [show hasB 2 = false from rfl] at HNM
  by_cases hk : k = 0
  case neg =>
    have hk1 : (k == 0) = false := by simpa using hk
    have hk2 : (k != 0) = true := by simpa using hk
    have hk3 : decide (k = 0) = false := decide_eq_false hk
    have HV := Lib.hid (show instB n ⟨2, a, b, k, s, l⟩ = false by rw [HE.out]; simp [hk])
    go_wp2_with fail
    go_ret
    exact ⟨by rw [HV.out]; rfl, HB3.out⟩
  subst hk
  by_cases hz : nl = 0
  case neg =>
    have t0 : decide (0 < nl) = true := decide_eq_true (by omega)
    have t0' : decide ((0 : Int) < (nl : Int)) = true := decide_eq_true (by omega)
    have HV := Lib.hid (show instB n ⟨2, a, b, 0, s, l⟩ = false by rw [HE.out]; simp [hz])
    go_wp2_with fail
    go_ret
    exact ⟨by rw [HV.out]; rfl, HB3.out⟩
  have t0 : decide (0 < nl) = false := decide_eq_false (by omega)
  have t0' : decide ((0 : Int) < (nl : Int)) = false := decide_eq_false (by omega)
  have HV := Lib.hid (show instB n ⟨2, a, b, 0, s, l⟩ = (s == ByteArray.empty) by rw [HE.out]; simp [hz])
  clear hz
  go_wp2_with fail
  refine (HNM.out _).mono ?_
  rintro r w4 ⟨rfl, hb4⟩
  have HB4 := Lib.hid (bthen HB3.out hb4)
  have d4 := Lib.cell_of_heap ((hb4.block _ (Array.getElem?_eq_some_iff.1 HIX3.out).1).trans HIX3.out) 4
  simp only [List.getElem?_toArray, List.getElem?_cons_zero, List.getElem?_cons_succ] at d4
  clear hb4 c0 c1 c2 c3 c4 c5
  go_wp2_with fail
  go_ret
  exact ⟨by rw [HV.out, ← ba_isEmpty]; rfl, HB4.out⟩
set_option maxRecDepth 100000 in
set_option maxHeartbeats 8000000 in
theorem refInst_h (i : In) (n : Int) (A : Option Addr) (cap : Nat) (w : World) (hS : Ints w (.slice A i.l.length cap) i.l) (hn : i.l.length * 8 ≤ 140737488355328) (hs : i.s.size < 9223372036854775808) (ho : i.o = 3) :
    Calls Try.prog 67 #[inV i (.slice A i.l.length cap), .int .i64 n] w fun e w' => e = .returned (.bool (instB n i)) ∧ Below w.heap.size w w' := by
  have HU := Lib.hid (fun (W : World) (hb : Below w.heap.size w W) => refUses_any i A cap W (hS.next hb) hn)
  have HUL := Lib.hid (show (usesI i).length * 8 ≤ 140737488355328 from by
    unfold usesI usesL
    repeat' split
    all_goals first | exact hn | simp)
  obtain ⟨o, a, b, k, s, l⟩ := i
  have HE := Lib.hid (instB_is n o a b k s l)
  unfold inV at HU ⊢
  simp only at hS hn hs HU HUL ho ⊢
  have HO := Lib.hid (show o ≤ 3 ∧ 3 ≤ o by omega)
  clear ho
  obtain ⟨nl, hnl⟩ : ∃ x, l.length = x := ⟨_, rfl⟩
  have HNL := Lib.hid (show decide (l = []) = decide (nl = 0) by rw [← hnl]; cases l <;> simp)
  have HME := Lib.hid (fun W : World => refName_any s W hs)
  have HNM := Lib.hid (fun W : World => refNamed_any o a b k s (.slice A nl cap) W)
  rw [hnl] at HU HE ⊢
  obtain ⟨U, hU⟩ : ∃ U, usesI ⟨o, a, b, k, s, l⟩ = U := ⟨_, rfl⟩
  rw [hU] at HU HE HUL
  obtain ⟨AM, hAM⟩ : ∃ x, amongB n U = x := ⟨_, rfl⟩
  have HBL := Lib.hid (fun (W : World) (A2 : Option Addr) (m c2 : Nat) (hm : U.length = m) (hI : Ints W (.slice A2 m c2) U) => refBelow_any n U A2 m c2 W hI (by have := HUL.out; omega))
  rw [hAM] at HE HBL
  rw [HNL.out] at HE
  clear hS hn hs hnl hU hAM HNL
  go_enter Try.func67, Try.ntmps67
  go_wp2_with fail
  have HBX := Lib.hid (balloc (Below.refl _ w) (.cells #[.int .i64 o, .int .i64 a, .int .i64 b, .int .u64 k, .string s, .slice A nl cap] 76))
  have HIX := Lib.hid (heap_alloc_new w (.cells #[.int .i64 o, .int .i64 a, .int .i64 b, .int .u64 k, .string s, .slice A nl cap] 76))
  generalize w.alloc (.cells #[.int .i64 o, .int .i64 a, .int .i64 b, .int .u64 k, .string s, .slice A nl cap] 76) = W1 at *
  refine (HU.out _ HBX.out).mono ?_
  rintro r w2 ⟨v', rfl, ho, hb⟩
  have HI2 := Lib.hid ho.ints
  obtain ⟨A2, c2, hv2⟩ := HI2.out.slice
  obtain ⟨nu, hnu⟩ : ∃ x, U.length = x := ⟨_, rfl⟩
  have HNU := Lib.hid (show U.length ≤ nu ∧ nu ≤ U.length by omega)
  have HI3 := Lib.hid (show Ints w2 (.slice A2 nu c2) U by rw [← hnu, ← hv2]; exact HI2.out)
  rw [hnu] at hv2
  subst hv2
  have HB2 := Lib.hid (bthen HBX.out hb)
  have HIX2 := Lib.hid ((hb.block _ (Array.getElem?_eq_some_iff.1 HIX.out).1).trans HIX.out)
  clear ho hb hnu
  go_wp2_with fail
  refine (HBL.out w2 A2 nu c2 (by have := HNU.out; omega) HI3.out).mono ?_
  rintro r w3 ⟨rfl, hb⟩
  have HB3 := Lib.hid (bthen HB2.out hb)
  have hix3 := (hb.block _ (Array.getElem?_eq_some_iff.1 HIX2.out).1).trans HIX2.out
  have c0 := Lib.cell_of_heap hix3 0
  have c1 := Lib.cell_of_heap hix3 1
  have c2 := Lib.cell_of_heap hix3 2
  have c3 := Lib.cell_of_heap hix3 3
  have c4 := Lib.cell_of_heap hix3 4
  have c5 := Lib.cell_of_heap hix3 5
  simp only [List.getElem?_toArray, List.getElem?_cons_zero, List.getElem?_cons_succ] at c0 c1 c2 c3 c4 c5
  have HIX3 := Lib.hid hix3
  clear hb hix3
  obtain rfl : o = 3 := by have := HO.out; omega
  have t1 : decide ((3 : Int) < 1) = false := rfl
  have t2 : decide ((16 : Int) < 3) = false := rfl
  cases AM with
  | false =>
    have HV := Lib.hid (show instB n ⟨3, a, b, k, s, l⟩ = false by rw [HE.out]; simp)
    go_wp2_with fail
    go_ret
    exact ⟨by rw [HV.out]; rfl, HB3.out⟩
  | true =>
  by_cases h6 : nl ≤ 6
  case neg =>
    have t3 : decide (6 < nl) = true := decide_eq_true (by omega)
    have t3' : decide ((6 : Int) < (nl : Int)) = true := decide_eq_true (by omega)
    have HV := Lib.hid (show instB n ⟨3, a, b, k, s, l⟩ = false by rw [HE.out]; simp [h6])
    go_wp2_with fail
    go_ret
    exact ⟨by rw [HV.out]; rfl, HB3.out⟩
  have t3 : decide (6 < nl) = false := decide_eq_false (by omega)
  have t3' : decide ((6 : Int) < (nl : Int)) = false := decide_eq_false (by omega)
  have HE := Lib.hid (show instB n ⟨3, a, b, k, s, l⟩ = ((aB 3 || a == 0) && (bB 3 || b == 0) && ((3 : Int) == 1 || k == 0) && ((3 : Int) == 14 || decide (nl = 0)) && (if hasB 3 then nameB s else s == ByteArray.empty)) by rw [HE.out, decide_eq_true (show 1 ≤ (3 : Int) by have := HO.out; omega), decide_eq_true (show (3 : Int) ≤ 16 by have := HO.out; omega), decide_eq_true h6]; rfl)
  clear h6
  rw [show aB 3 = true from rfl, show bB 3 = true from rfl, show hasB 3 = false from rfl, show ((3 : Int) == 1) = false from rfl, show ((3 : Int) == 14) = false from rfl] at HE
  rw [show hasB 3 = false from rfl] at HNM
  by_cases hk : k = 0
  case neg =>
    have hk1 : (k == 0) = false := by simpa using hk
    have hk2 : (k != 0) = true := by simpa using hk
    have hk3 : decide (k = 0) = false := decide_eq_false hk
    have HV := Lib.hid (show instB n ⟨3, a, b, k, s, l⟩ = false by rw [HE.out]; simp [hk])
    go_wp2_with fail
    go_ret
    exact ⟨by rw [HV.out]; rfl, HB3.out⟩
  subst hk
  by_cases hz : nl = 0
  case neg =>
    have t0 : decide (0 < nl) = true := decide_eq_true (by omega)
    have t0' : decide ((0 : Int) < (nl : Int)) = true := decide_eq_true (by omega)
    have HV := Lib.hid (show instB n ⟨3, a, b, 0, s, l⟩ = false by rw [HE.out]; simp [hz])
    go_wp2_with fail
    go_ret
    exact ⟨by rw [HV.out]; rfl, HB3.out⟩
  have t0 : decide (0 < nl) = false := decide_eq_false (by omega)
  have t0' : decide ((0 : Int) < (nl : Int)) = false := decide_eq_false (by omega)
  have HV := Lib.hid (show instB n ⟨3, a, b, 0, s, l⟩ = (s == ByteArray.empty) by rw [HE.out]; simp [hz])
  clear hz
  go_wp2_with fail
  refine (HNM.out _).mono ?_
  rintro r w4 ⟨rfl, hb4⟩
  have HB4 := Lib.hid (bthen HB3.out hb4)
  have d4 := Lib.cell_of_heap ((hb4.block _ (Array.getElem?_eq_some_iff.1 HIX3.out).1).trans HIX3.out) 4
  simp only [List.getElem?_toArray, List.getElem?_cons_zero, List.getElem?_cons_succ] at d4
  clear hb4 c0 c1 c2 c3 c4 c5
  go_wp2_with fail
  go_ret
  exact ⟨by rw [HV.out, ← ba_isEmpty]; rfl, HB4.out⟩
end Go.Proofs.Ytjldddpchiaalaa
namespace Go.Proofs.Ytjldddpchiaalaa
open Go.RowKit
set_option maxRecDepth 100000 in
set_option maxHeartbeats 8000000 in
theorem refInst_i (i : In) (n : Int) (A : Option Addr) (cap : Nat) (w : World) (hS : Ints w (.slice A i.l.length cap) i.l) (hn : i.l.length * 8 ≤ 140737488355328) (hs : i.s.size < 9223372036854775808) (ho : i.o = 4) :
    Calls Try.prog 67 #[inV i (.slice A i.l.length cap), .int .i64 n] w fun e w' => e = .returned (.bool (instB n i)) ∧ Below w.heap.size w w' := by
  have HU := Lib.hid (fun (W : World) (hb : Below w.heap.size w W) => refUses_any i A cap W (hS.next hb) hn)
  have HUL := Lib.hid (show (usesI i).length * 8 ≤ 140737488355328 from by
    unfold usesI usesL
    repeat' split
    all_goals first | exact hn | simp)
  obtain ⟨o, a, b, k, s, l⟩ := i
  have HE := Lib.hid (instB_is n o a b k s l)
  unfold inV at HU ⊢
  simp only at hS hn hs HU HUL ho ⊢
  have HO := Lib.hid (show o ≤ 4 ∧ 4 ≤ o by omega)
  clear ho
  obtain ⟨nl, hnl⟩ : ∃ x, l.length = x := ⟨_, rfl⟩
  have HNL := Lib.hid (show decide (l = []) = decide (nl = 0) by rw [← hnl]; cases l <;> simp)
  have HME := Lib.hid (fun W : World => refName_any s W hs)
  have HNM := Lib.hid (fun W : World => refNamed_any o a b k s (.slice A nl cap) W)
  rw [hnl] at HU HE ⊢
  obtain ⟨U, hU⟩ : ∃ U, usesI ⟨o, a, b, k, s, l⟩ = U := ⟨_, rfl⟩
  rw [hU] at HU HE HUL
  obtain ⟨AM, hAM⟩ : ∃ x, amongB n U = x := ⟨_, rfl⟩
  have HBL := Lib.hid (fun (W : World) (A2 : Option Addr) (m c2 : Nat) (hm : U.length = m) (hI : Ints W (.slice A2 m c2) U) => refBelow_any n U A2 m c2 W hI (by have := HUL.out; omega))
  rw [hAM] at HE HBL
  rw [HNL.out] at HE
  clear hS hn hs hnl hU hAM HNL
  go_enter Try.func67, Try.ntmps67
  go_wp2_with fail
  have HBX := Lib.hid (balloc (Below.refl _ w) (.cells #[.int .i64 o, .int .i64 a, .int .i64 b, .int .u64 k, .string s, .slice A nl cap] 76))
  have HIX := Lib.hid (heap_alloc_new w (.cells #[.int .i64 o, .int .i64 a, .int .i64 b, .int .u64 k, .string s, .slice A nl cap] 76))
  generalize w.alloc (.cells #[.int .i64 o, .int .i64 a, .int .i64 b, .int .u64 k, .string s, .slice A nl cap] 76) = W1 at *
  refine (HU.out _ HBX.out).mono ?_
  rintro r w2 ⟨v', rfl, ho, hb⟩
  have HI2 := Lib.hid ho.ints
  obtain ⟨A2, c2, hv2⟩ := HI2.out.slice
  obtain ⟨nu, hnu⟩ : ∃ x, U.length = x := ⟨_, rfl⟩
  have HNU := Lib.hid (show U.length ≤ nu ∧ nu ≤ U.length by omega)
  have HI3 := Lib.hid (show Ints w2 (.slice A2 nu c2) U by rw [← hnu, ← hv2]; exact HI2.out)
  rw [hnu] at hv2
  subst hv2
  have HB2 := Lib.hid (bthen HBX.out hb)
  have HIX2 := Lib.hid ((hb.block _ (Array.getElem?_eq_some_iff.1 HIX.out).1).trans HIX.out)
  clear ho hb hnu
  go_wp2_with fail
  refine (HBL.out w2 A2 nu c2 (by have := HNU.out; omega) HI3.out).mono ?_
  rintro r w3 ⟨rfl, hb⟩
  have HB3 := Lib.hid (bthen HB2.out hb)
  have hix3 := (hb.block _ (Array.getElem?_eq_some_iff.1 HIX2.out).1).trans HIX2.out
  have c0 := Lib.cell_of_heap hix3 0
  have c1 := Lib.cell_of_heap hix3 1
  have c2 := Lib.cell_of_heap hix3 2
  have c3 := Lib.cell_of_heap hix3 3
  have c4 := Lib.cell_of_heap hix3 4
  have c5 := Lib.cell_of_heap hix3 5
  simp only [List.getElem?_toArray, List.getElem?_cons_zero, List.getElem?_cons_succ] at c0 c1 c2 c3 c4 c5
  have HIX3 := Lib.hid hix3
  clear hb hix3
  obtain rfl : o = 4 := by have := HO.out; omega
  have t1 : decide ((4 : Int) < 1) = false := rfl
  have t2 : decide ((16 : Int) < 4) = false := rfl
  cases AM with
  | false =>
    have HV := Lib.hid (show instB n ⟨4, a, b, k, s, l⟩ = false by rw [HE.out]; simp)
    go_wp2_with fail
    go_ret
    exact ⟨by rw [HV.out]; rfl, HB3.out⟩
  | true =>
  by_cases h6 : nl ≤ 6
  case neg =>
    have t3 : decide (6 < nl) = true := decide_eq_true (by omega)
    have t3' : decide ((6 : Int) < (nl : Int)) = true := decide_eq_true (by omega)
    have HV := Lib.hid (show instB n ⟨4, a, b, k, s, l⟩ = false by rw [HE.out]; simp [h6])
    go_wp2_with fail
    go_ret
    exact ⟨by rw [HV.out]; rfl, HB3.out⟩
  have t3 : decide (6 < nl) = false := decide_eq_false (by omega)
  have t3' : decide ((6 : Int) < (nl : Int)) = false := decide_eq_false (by omega)
  have HE := Lib.hid (show instB n ⟨4, a, b, k, s, l⟩ = ((aB 4 || a == 0) && (bB 4 || b == 0) && ((4 : Int) == 1 || k == 0) && ((4 : Int) == 14 || decide (nl = 0)) && (if hasB 4 then nameB s else s == ByteArray.empty)) by rw [HE.out, decide_eq_true (show 1 ≤ (4 : Int) by have := HO.out; omega), decide_eq_true (show (4 : Int) ≤ 16 by have := HO.out; omega), decide_eq_true h6]; rfl)
  clear h6
  rw [show aB 4 = true from rfl, show bB 4 = true from rfl, show hasB 4 = false from rfl, show ((4 : Int) == 1) = false from rfl, show ((4 : Int) == 14) = false from rfl] at HE
  rw [show hasB 4 = false from rfl] at HNM
  by_cases hk : k = 0
  case neg =>
    have hk1 : (k == 0) = false := by simpa using hk
    have hk2 : (k != 0) = true := by simpa using hk
    have hk3 : decide (k = 0) = false := decide_eq_false hk
    have HV := Lib.hid (show instB n ⟨4, a, b, k, s, l⟩ = false by rw [HE.out]; simp [hk])
    go_wp2_with fail
    go_ret
    exact ⟨by rw [HV.out]; rfl, HB3.out⟩
  subst hk
  by_cases hz : nl = 0
  case neg =>
    have t0 : decide (0 < nl) = true := decide_eq_true (by omega)
    have t0' : decide ((0 : Int) < (nl : Int)) = true := decide_eq_true (by omega)
    have HV := Lib.hid (show instB n ⟨4, a, b, 0, s, l⟩ = false by rw [HE.out]; simp [hz])
    go_wp2_with fail
    go_ret
    exact ⟨by rw [HV.out]; rfl, HB3.out⟩
  have t0 : decide (0 < nl) = false := decide_eq_false (by omega)
  have t0' : decide ((0 : Int) < (nl : Int)) = false := decide_eq_false (by omega)
  have HV := Lib.hid (show instB n ⟨4, a, b, 0, s, l⟩ = (s == ByteArray.empty) by rw [HE.out]; simp [hz])
  clear hz
  go_wp2_with fail
  refine (HNM.out _).mono ?_
  rintro r w4 ⟨rfl, hb4⟩
  have HB4 := Lib.hid (bthen HB3.out hb4)
  have d4 := Lib.cell_of_heap ((hb4.block _ (Array.getElem?_eq_some_iff.1 HIX3.out).1).trans HIX3.out) 4
  simp only [List.getElem?_toArray, List.getElem?_cons_zero, List.getElem?_cons_succ] at d4
  clear hb4 c0 c1 c2 c3 c4 c5
  go_wp2_with fail
  go_ret
  exact ⟨by rw [HV.out, ← ba_isEmpty]; rfl, HB4.out⟩
set_option maxRecDepth 100000 in
set_option maxHeartbeats 8000000 in
theorem refInst_j (i : In) (n : Int) (A : Option Addr) (cap : Nat) (w : World) (hS : Ints w (.slice A i.l.length cap) i.l) (hn : i.l.length * 8 ≤ 140737488355328) (hs : i.s.size < 9223372036854775808) (ho : i.o = 5) :
    Calls Try.prog 67 #[inV i (.slice A i.l.length cap), .int .i64 n] w fun e w' => e = .returned (.bool (instB n i)) ∧ Below w.heap.size w w' := by
  have HU := Lib.hid (fun (W : World) (hb : Below w.heap.size w W) => refUses_any i A cap W (hS.next hb) hn)
  have HUL := Lib.hid (show (usesI i).length * 8 ≤ 140737488355328 from by
    unfold usesI usesL
    repeat' split
    all_goals first | exact hn | simp)
  obtain ⟨o, a, b, k, s, l⟩ := i
  have HE := Lib.hid (instB_is n o a b k s l)
  unfold inV at HU ⊢
  simp only at hS hn hs HU HUL ho ⊢
  have HO := Lib.hid (show o ≤ 5 ∧ 5 ≤ o by omega)
  clear ho
  obtain ⟨nl, hnl⟩ : ∃ x, l.length = x := ⟨_, rfl⟩
  have HNL := Lib.hid (show decide (l = []) = decide (nl = 0) by rw [← hnl]; cases l <;> simp)
  have HME := Lib.hid (fun W : World => refName_any s W hs)
  have HNM := Lib.hid (fun W : World => refNamed_any o a b k s (.slice A nl cap) W)
  rw [hnl] at HU HE ⊢
  obtain ⟨U, hU⟩ : ∃ U, usesI ⟨o, a, b, k, s, l⟩ = U := ⟨_, rfl⟩
  rw [hU] at HU HE HUL
  obtain ⟨AM, hAM⟩ : ∃ x, amongB n U = x := ⟨_, rfl⟩
  have HBL := Lib.hid (fun (W : World) (A2 : Option Addr) (m c2 : Nat) (hm : U.length = m) (hI : Ints W (.slice A2 m c2) U) => refBelow_any n U A2 m c2 W hI (by have := HUL.out; omega))
  rw [hAM] at HE HBL
  rw [HNL.out] at HE
  clear hS hn hs hnl hU hAM HNL
  go_enter Try.func67, Try.ntmps67
  go_wp2_with fail
  have HBX := Lib.hid (balloc (Below.refl _ w) (.cells #[.int .i64 o, .int .i64 a, .int .i64 b, .int .u64 k, .string s, .slice A nl cap] 76))
  have HIX := Lib.hid (heap_alloc_new w (.cells #[.int .i64 o, .int .i64 a, .int .i64 b, .int .u64 k, .string s, .slice A nl cap] 76))
  generalize w.alloc (.cells #[.int .i64 o, .int .i64 a, .int .i64 b, .int .u64 k, .string s, .slice A nl cap] 76) = W1 at *
  refine (HU.out _ HBX.out).mono ?_
  rintro r w2 ⟨v', rfl, ho, hb⟩
  have HI2 := Lib.hid ho.ints
  obtain ⟨A2, c2, hv2⟩ := HI2.out.slice
  obtain ⟨nu, hnu⟩ : ∃ x, U.length = x := ⟨_, rfl⟩
  have HNU := Lib.hid (show U.length ≤ nu ∧ nu ≤ U.length by omega)
  have HI3 := Lib.hid (show Ints w2 (.slice A2 nu c2) U by rw [← hnu, ← hv2]; exact HI2.out)
  rw [hnu] at hv2
  subst hv2
  have HB2 := Lib.hid (bthen HBX.out hb)
  have HIX2 := Lib.hid ((hb.block _ (Array.getElem?_eq_some_iff.1 HIX.out).1).trans HIX.out)
  clear ho hb hnu
  go_wp2_with fail
  refine (HBL.out w2 A2 nu c2 (by have := HNU.out; omega) HI3.out).mono ?_
  rintro r w3 ⟨rfl, hb⟩
  have HB3 := Lib.hid (bthen HB2.out hb)
  have hix3 := (hb.block _ (Array.getElem?_eq_some_iff.1 HIX2.out).1).trans HIX2.out
  have c0 := Lib.cell_of_heap hix3 0
  have c1 := Lib.cell_of_heap hix3 1
  have c2 := Lib.cell_of_heap hix3 2
  have c3 := Lib.cell_of_heap hix3 3
  have c4 := Lib.cell_of_heap hix3 4
  have c5 := Lib.cell_of_heap hix3 5
  simp only [List.getElem?_toArray, List.getElem?_cons_zero, List.getElem?_cons_succ] at c0 c1 c2 c3 c4 c5
  have HIX3 := Lib.hid hix3
  clear hb hix3
  obtain rfl : o = 5 := by have := HO.out; omega
  have t1 : decide ((5 : Int) < 1) = false := rfl
  have t2 : decide ((16 : Int) < 5) = false := rfl
  cases AM with
  | false =>
    have HV := Lib.hid (show instB n ⟨5, a, b, k, s, l⟩ = false by rw [HE.out]; simp)
    go_wp2_with fail
    go_ret
    exact ⟨by rw [HV.out]; rfl, HB3.out⟩
  | true =>
  by_cases h6 : nl ≤ 6
  case neg =>
    have t3 : decide (6 < nl) = true := decide_eq_true (by omega)
    have t3' : decide ((6 : Int) < (nl : Int)) = true := decide_eq_true (by omega)
    have HV := Lib.hid (show instB n ⟨5, a, b, k, s, l⟩ = false by rw [HE.out]; simp [h6])
    go_wp2_with fail
    go_ret
    exact ⟨by rw [HV.out]; rfl, HB3.out⟩
  have t3 : decide (6 < nl) = false := decide_eq_false (by omega)
  have t3' : decide ((6 : Int) < (nl : Int)) = false := decide_eq_false (by omega)
  have HE := Lib.hid (show instB n ⟨5, a, b, k, s, l⟩ = ((aB 5 || a == 0) && (bB 5 || b == 0) && ((5 : Int) == 1 || k == 0) && ((5 : Int) == 14 || decide (nl = 0)) && (if hasB 5 then nameB s else s == ByteArray.empty)) by rw [HE.out, decide_eq_true (show 1 ≤ (5 : Int) by have := HO.out; omega), decide_eq_true (show (5 : Int) ≤ 16 by have := HO.out; omega), decide_eq_true h6]; rfl)
  clear h6
  rw [show aB 5 = true from rfl, show bB 5 = true from rfl, show hasB 5 = false from rfl, show ((5 : Int) == 1) = false from rfl, show ((5 : Int) == 14) = false from rfl] at HE
  rw [show hasB 5 = false from rfl] at HNM
  by_cases hk : k = 0
  case neg =>
    have hk1 : (k == 0) = false := by simpa using hk
    have hk2 : (k != 0) = true := by simpa using hk
    have hk3 : decide (k = 0) = false := decide_eq_false hk
    have HV := Lib.hid (show instB n ⟨5, a, b, k, s, l⟩ = false by rw [HE.out]; simp [hk])
    go_wp2_with fail
    go_ret
    exact ⟨by rw [HV.out]; rfl, HB3.out⟩
  subst hk
  by_cases hz : nl = 0
  case neg =>
    have t0 : decide (0 < nl) = true := decide_eq_true (by omega)
    have t0' : decide ((0 : Int) < (nl : Int)) = true := decide_eq_true (by omega)
    have HV := Lib.hid (show instB n ⟨5, a, b, 0, s, l⟩ = false by rw [HE.out]; simp [hz])
    go_wp2_with fail
    go_ret
    exact ⟨by rw [HV.out]; rfl, HB3.out⟩
  have t0 : decide (0 < nl) = false := decide_eq_false (by omega)
  have t0' : decide ((0 : Int) < (nl : Int)) = false := decide_eq_false (by omega)
  have HV := Lib.hid (show instB n ⟨5, a, b, 0, s, l⟩ = (s == ByteArray.empty) by rw [HE.out]; simp [hz])
  clear hz
  go_wp2_with fail
  refine (HNM.out _).mono ?_
  rintro r w4 ⟨rfl, hb4⟩
  have HB4 := Lib.hid (bthen HB3.out hb4)
  have d4 := Lib.cell_of_heap ((hb4.block _ (Array.getElem?_eq_some_iff.1 HIX3.out).1).trans HIX3.out) 4
  simp only [List.getElem?_toArray, List.getElem?_cons_zero, List.getElem?_cons_succ] at d4
  clear hb4 c0 c1 c2 c3 c4 c5
  go_wp2_with fail
  go_ret
  exact ⟨by rw [HV.out, ← ba_isEmpty]; rfl, HB4.out⟩
set_option maxRecDepth 100000 in
set_option maxHeartbeats 8000000 in
theorem refInst_k (i : In) (n : Int) (A : Option Addr) (cap : Nat) (w : World) (hS : Ints w (.slice A i.l.length cap) i.l) (hn : i.l.length * 8 ≤ 140737488355328) (hs : i.s.size < 9223372036854775808) (ho : i.o = 6) :
    Calls Try.prog 67 #[inV i (.slice A i.l.length cap), .int .i64 n] w fun e w' => e = .returned (.bool (instB n i)) ∧ Below w.heap.size w w' := by
  have HU := Lib.hid (fun (W : World) (hb : Below w.heap.size w W) => refUses_any i A cap W (hS.next hb) hn)
  have HUL := Lib.hid (show (usesI i).length * 8 ≤ 140737488355328 from by
    unfold usesI usesL
    repeat' split
    all_goals first | exact hn | simp)
  obtain ⟨o, a, b, k, s, l⟩ := i
  have HE := Lib.hid (instB_is n o a b k s l)
  unfold inV at HU ⊢
  simp only at hS hn hs HU HUL ho ⊢
  have HO := Lib.hid (show o ≤ 6 ∧ 6 ≤ o by omega)
  clear ho
  obtain ⟨nl, hnl⟩ : ∃ x, l.length = x := ⟨_, rfl⟩
  have HNL := Lib.hid (show decide (l = []) = decide (nl = 0) by rw [← hnl]; cases l <;> simp)
  have HME := Lib.hid (fun W : World => refName_any s W hs)
  have HNM := Lib.hid (fun W : World => refNamed_any o a b k s (.slice A nl cap) W)
  rw [hnl] at HU HE ⊢
  obtain ⟨U, hU⟩ : ∃ U, usesI ⟨o, a, b, k, s, l⟩ = U := ⟨_, rfl⟩
  rw [hU] at HU HE HUL
  obtain ⟨AM, hAM⟩ : ∃ x, amongB n U = x := ⟨_, rfl⟩
  have HBL := Lib.hid (fun (W : World) (A2 : Option Addr) (m c2 : Nat) (hm : U.length = m) (hI : Ints W (.slice A2 m c2) U) => refBelow_any n U A2 m c2 W hI (by have := HUL.out; omega))
  rw [hAM] at HE HBL
  rw [HNL.out] at HE
  clear hS hn hs hnl hU hAM HNL
  go_enter Try.func67, Try.ntmps67
  go_wp2_with fail
  have HBX := Lib.hid (balloc (Below.refl _ w) (.cells #[.int .i64 o, .int .i64 a, .int .i64 b, .int .u64 k, .string s, .slice A nl cap] 76))
  have HIX := Lib.hid (heap_alloc_new w (.cells #[.int .i64 o, .int .i64 a, .int .i64 b, .int .u64 k, .string s, .slice A nl cap] 76))
  generalize w.alloc (.cells #[.int .i64 o, .int .i64 a, .int .i64 b, .int .u64 k, .string s, .slice A nl cap] 76) = W1 at *
  refine (HU.out _ HBX.out).mono ?_
  rintro r w2 ⟨v', rfl, ho, hb⟩
  have HI2 := Lib.hid ho.ints
  obtain ⟨A2, c2, hv2⟩ := HI2.out.slice
  obtain ⟨nu, hnu⟩ : ∃ x, U.length = x := ⟨_, rfl⟩
  have HNU := Lib.hid (show U.length ≤ nu ∧ nu ≤ U.length by omega)
  have HI3 := Lib.hid (show Ints w2 (.slice A2 nu c2) U by rw [← hnu, ← hv2]; exact HI2.out)
  rw [hnu] at hv2
  subst hv2
  have HB2 := Lib.hid (bthen HBX.out hb)
  have HIX2 := Lib.hid ((hb.block _ (Array.getElem?_eq_some_iff.1 HIX.out).1).trans HIX.out)
  clear ho hb hnu
  go_wp2_with fail
  refine (HBL.out w2 A2 nu c2 (by have := HNU.out; omega) HI3.out).mono ?_
  rintro r w3 ⟨rfl, hb⟩
  have HB3 := Lib.hid (bthen HB2.out hb)
  have hix3 := (hb.block _ (Array.getElem?_eq_some_iff.1 HIX2.out).1).trans HIX2.out
  have c0 := Lib.cell_of_heap hix3 0
  have c1 := Lib.cell_of_heap hix3 1
  have c2 := Lib.cell_of_heap hix3 2
  have c3 := Lib.cell_of_heap hix3 3
  have c4 := Lib.cell_of_heap hix3 4
  have c5 := Lib.cell_of_heap hix3 5
  simp only [List.getElem?_toArray, List.getElem?_cons_zero, List.getElem?_cons_succ] at c0 c1 c2 c3 c4 c5
  have HIX3 := Lib.hid hix3
  clear hb hix3
  obtain rfl : o = 6 := by have := HO.out; omega
  have t1 : decide ((6 : Int) < 1) = false := rfl
  have t2 : decide ((16 : Int) < 6) = false := rfl
  cases AM with
  | false =>
    have HV := Lib.hid (show instB n ⟨6, a, b, k, s, l⟩ = false by rw [HE.out]; simp)
    go_wp2_with fail
    go_ret
    exact ⟨by rw [HV.out]; rfl, HB3.out⟩
  | true =>
  by_cases h6 : nl ≤ 6
  case neg =>
    have t3 : decide (6 < nl) = true := decide_eq_true (by omega)
    have t3' : decide ((6 : Int) < (nl : Int)) = true := decide_eq_true (by omega)
    have HV := Lib.hid (show instB n ⟨6, a, b, k, s, l⟩ = false by rw [HE.out]; simp [h6])
    go_wp2_with fail
    go_ret
    exact ⟨by rw [HV.out]; rfl, HB3.out⟩
  have t3 : decide (6 < nl) = false := decide_eq_false (by omega)
  have t3' : decide ((6 : Int) < (nl : Int)) = false := decide_eq_false (by omega)
  have HE := Lib.hid (show instB n ⟨6, a, b, k, s, l⟩ = ((aB 6 || a == 0) && (bB 6 || b == 0) && ((6 : Int) == 1 || k == 0) && ((6 : Int) == 14 || decide (nl = 0)) && (if hasB 6 then nameB s else s == ByteArray.empty)) by rw [HE.out, decide_eq_true (show 1 ≤ (6 : Int) by have := HO.out; omega), decide_eq_true (show (6 : Int) ≤ 16 by have := HO.out; omega), decide_eq_true h6]; rfl)
  clear h6
  rw [show aB 6 = true from rfl, show bB 6 = true from rfl, show hasB 6 = false from rfl, show ((6 : Int) == 1) = false from rfl, show ((6 : Int) == 14) = false from rfl] at HE
  rw [show hasB 6 = false from rfl] at HNM
  by_cases hk : k = 0
  case neg =>
    have hk1 : (k == 0) = false := by simpa using hk
    have hk2 : (k != 0) = true := by simpa using hk
    have hk3 : decide (k = 0) = false := decide_eq_false hk
    have HV := Lib.hid (show instB n ⟨6, a, b, k, s, l⟩ = false by rw [HE.out]; simp [hk])
    go_wp2_with fail
    go_ret
    exact ⟨by rw [HV.out]; rfl, HB3.out⟩
  subst hk
  by_cases hz : nl = 0
  case neg =>
    have t0 : decide (0 < nl) = true := decide_eq_true (by omega)
    have t0' : decide ((0 : Int) < (nl : Int)) = true := decide_eq_true (by omega)
    have HV := Lib.hid (show instB n ⟨6, a, b, 0, s, l⟩ = false by rw [HE.out]; simp [hz])
    go_wp2_with fail
    go_ret
    exact ⟨by rw [HV.out]; rfl, HB3.out⟩
  have t0 : decide (0 < nl) = false := decide_eq_false (by omega)
  have t0' : decide ((0 : Int) < (nl : Int)) = false := decide_eq_false (by omega)
  have HV := Lib.hid (show instB n ⟨6, a, b, 0, s, l⟩ = (s == ByteArray.empty) by rw [HE.out]; simp [hz])
  clear hz
  go_wp2_with fail
  refine (HNM.out _).mono ?_
  rintro r w4 ⟨rfl, hb4⟩
  have HB4 := Lib.hid (bthen HB3.out hb4)
  have d4 := Lib.cell_of_heap ((hb4.block _ (Array.getElem?_eq_some_iff.1 HIX3.out).1).trans HIX3.out) 4
  simp only [List.getElem?_toArray, List.getElem?_cons_zero, List.getElem?_cons_succ] at d4
  clear hb4 c0 c1 c2 c3 c4 c5
  go_wp2_with fail
  go_ret
  exact ⟨by rw [HV.out, ← ba_isEmpty]; rfl, HB4.out⟩
set_option maxRecDepth 100000 in
set_option maxHeartbeats 8000000 in
theorem refInst_l (i : In) (n : Int) (A : Option Addr) (cap : Nat) (w : World) (hS : Ints w (.slice A i.l.length cap) i.l) (hn : i.l.length * 8 ≤ 140737488355328) (hs : i.s.size < 9223372036854775808) (ho : i.o = 7) :
    Calls Try.prog 67 #[inV i (.slice A i.l.length cap), .int .i64 n] w fun e w' => e = .returned (.bool (instB n i)) ∧ Below w.heap.size w w' := by
  have HU := Lib.hid (fun (W : World) (hb : Below w.heap.size w W) => refUses_any i A cap W (hS.next hb) hn)
  have HUL := Lib.hid (show (usesI i).length * 8 ≤ 140737488355328 from by
    unfold usesI usesL
    repeat' split
    all_goals first | exact hn | simp)
  obtain ⟨o, a, b, k, s, l⟩ := i
  have HE := Lib.hid (instB_is n o a b k s l)
  unfold inV at HU ⊢
  simp only at hS hn hs HU HUL ho ⊢
  have HO := Lib.hid (show o ≤ 7 ∧ 7 ≤ o by omega)
  clear ho
  obtain ⟨nl, hnl⟩ : ∃ x, l.length = x := ⟨_, rfl⟩
  have HNL := Lib.hid (show decide (l = []) = decide (nl = 0) by rw [← hnl]; cases l <;> simp)
  have HME := Lib.hid (fun W : World => refName_any s W hs)
  have HNM := Lib.hid (fun W : World => refNamed_any o a b k s (.slice A nl cap) W)
  rw [hnl] at HU HE ⊢
  obtain ⟨U, hU⟩ : ∃ U, usesI ⟨o, a, b, k, s, l⟩ = U := ⟨_, rfl⟩
  rw [hU] at HU HE HUL
  obtain ⟨AM, hAM⟩ : ∃ x, amongB n U = x := ⟨_, rfl⟩
  have HBL := Lib.hid (fun (W : World) (A2 : Option Addr) (m c2 : Nat) (hm : U.length = m) (hI : Ints W (.slice A2 m c2) U) => refBelow_any n U A2 m c2 W hI (by have := HUL.out; omega))
  rw [hAM] at HE HBL
  rw [HNL.out] at HE
  clear hS hn hs hnl hU hAM HNL
  go_enter Try.func67, Try.ntmps67
  go_wp2_with fail
  have HBX := Lib.hid (balloc (Below.refl _ w) (.cells #[.int .i64 o, .int .i64 a, .int .i64 b, .int .u64 k, .string s, .slice A nl cap] 76))
  have HIX := Lib.hid (heap_alloc_new w (.cells #[.int .i64 o, .int .i64 a, .int .i64 b, .int .u64 k, .string s, .slice A nl cap] 76))
  generalize w.alloc (.cells #[.int .i64 o, .int .i64 a, .int .i64 b, .int .u64 k, .string s, .slice A nl cap] 76) = W1 at *
  refine (HU.out _ HBX.out).mono ?_
  rintro r w2 ⟨v', rfl, ho, hb⟩
  have HI2 := Lib.hid ho.ints
  obtain ⟨A2, c2, hv2⟩ := HI2.out.slice
  obtain ⟨nu, hnu⟩ : ∃ x, U.length = x := ⟨_, rfl⟩
  have HNU := Lib.hid (show U.length ≤ nu ∧ nu ≤ U.length by omega)
  have HI3 := Lib.hid (show Ints w2 (.slice A2 nu c2) U by rw [← hnu, ← hv2]; exact HI2.out)
  rw [hnu] at hv2
  subst hv2
  have HB2 := Lib.hid (bthen HBX.out hb)
  have HIX2 := Lib.hid ((hb.block _ (Array.getElem?_eq_some_iff.1 HIX.out).1).trans HIX.out)
  clear ho hb hnu
  go_wp2_with fail
  refine (HBL.out w2 A2 nu c2 (by have := HNU.out; omega) HI3.out).mono ?_
  rintro r w3 ⟨rfl, hb⟩
  have HB3 := Lib.hid (bthen HB2.out hb)
  have hix3 := (hb.block _ (Array.getElem?_eq_some_iff.1 HIX2.out).1).trans HIX2.out
  have c0 := Lib.cell_of_heap hix3 0
  have c1 := Lib.cell_of_heap hix3 1
  have c2 := Lib.cell_of_heap hix3 2
  have c3 := Lib.cell_of_heap hix3 3
  have c4 := Lib.cell_of_heap hix3 4
  have c5 := Lib.cell_of_heap hix3 5
  simp only [List.getElem?_toArray, List.getElem?_cons_zero, List.getElem?_cons_succ] at c0 c1 c2 c3 c4 c5
  have HIX3 := Lib.hid hix3
  clear hb hix3
  obtain rfl : o = 7 := by have := HO.out; omega
  have t1 : decide ((7 : Int) < 1) = false := rfl
  have t2 : decide ((16 : Int) < 7) = false := rfl
  cases AM with
  | false =>
    have HV := Lib.hid (show instB n ⟨7, a, b, k, s, l⟩ = false by rw [HE.out]; simp)
    go_wp2_with fail
    go_ret
    exact ⟨by rw [HV.out]; rfl, HB3.out⟩
  | true =>
  by_cases h6 : nl ≤ 6
  case neg =>
    have t3 : decide (6 < nl) = true := decide_eq_true (by omega)
    have t3' : decide ((6 : Int) < (nl : Int)) = true := decide_eq_true (by omega)
    have HV := Lib.hid (show instB n ⟨7, a, b, k, s, l⟩ = false by rw [HE.out]; simp [h6])
    go_wp2_with fail
    go_ret
    exact ⟨by rw [HV.out]; rfl, HB3.out⟩
  have t3 : decide (6 < nl) = false := decide_eq_false (by omega)
  have t3' : decide ((6 : Int) < (nl : Int)) = false := decide_eq_false (by omega)
  have HE := Lib.hid (show instB n ⟨7, a, b, k, s, l⟩ = ((aB 7 || a == 0) && (bB 7 || b == 0) && ((7 : Int) == 1 || k == 0) && ((7 : Int) == 14 || decide (nl = 0)) && (if hasB 7 then nameB s else s == ByteArray.empty)) by rw [HE.out, decide_eq_true (show 1 ≤ (7 : Int) by have := HO.out; omega), decide_eq_true (show (7 : Int) ≤ 16 by have := HO.out; omega), decide_eq_true h6]; rfl)
  clear h6
  rw [show aB 7 = true from rfl, show bB 7 = true from rfl, show hasB 7 = false from rfl, show ((7 : Int) == 1) = false from rfl, show ((7 : Int) == 14) = false from rfl] at HE
  rw [show hasB 7 = false from rfl] at HNM
  by_cases hk : k = 0
  case neg =>
    have hk1 : (k == 0) = false := by simpa using hk
    have hk2 : (k != 0) = true := by simpa using hk
    have hk3 : decide (k = 0) = false := decide_eq_false hk
    have HV := Lib.hid (show instB n ⟨7, a, b, k, s, l⟩ = false by rw [HE.out]; simp [hk])
    go_wp2_with fail
    go_ret
    exact ⟨by rw [HV.out]; rfl, HB3.out⟩
  subst hk
  by_cases hz : nl = 0
  case neg =>
    have t0 : decide (0 < nl) = true := decide_eq_true (by omega)
    have t0' : decide ((0 : Int) < (nl : Int)) = true := decide_eq_true (by omega)
    have HV := Lib.hid (show instB n ⟨7, a, b, 0, s, l⟩ = false by rw [HE.out]; simp [hz])
    go_wp2_with fail
    go_ret
    exact ⟨by rw [HV.out]; rfl, HB3.out⟩
  have t0 : decide (0 < nl) = false := decide_eq_false (by omega)
  have t0' : decide ((0 : Int) < (nl : Int)) = false := decide_eq_false (by omega)
  have HV := Lib.hid (show instB n ⟨7, a, b, 0, s, l⟩ = (s == ByteArray.empty) by rw [HE.out]; simp [hz])
  clear hz
  go_wp2_with fail
  refine (HNM.out _).mono ?_
  rintro r w4 ⟨rfl, hb4⟩
  have HB4 := Lib.hid (bthen HB3.out hb4)
  have d4 := Lib.cell_of_heap ((hb4.block _ (Array.getElem?_eq_some_iff.1 HIX3.out).1).trans HIX3.out) 4
  simp only [List.getElem?_toArray, List.getElem?_cons_zero, List.getElem?_cons_succ] at d4
  clear hb4 c0 c1 c2 c3 c4 c5
  go_wp2_with fail
  go_ret
  exact ⟨by rw [HV.out, ← ba_isEmpty]; rfl, HB4.out⟩
end Go.Proofs.Ytjldddpchiaalaa
