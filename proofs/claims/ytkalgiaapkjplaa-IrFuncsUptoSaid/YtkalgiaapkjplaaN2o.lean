/- The reference's Inst: one class of operations. -/
import Derived.Test.YtkalgiaapkjplaaN2
namespace Go.Proofs.Ytkalgiaapkjplaa
open Go.RowKit

set_option maxRecDepth 100000 in
set_option maxHeartbeats 8000000 in
theorem refInst_out (i : In) (n : Int) (A : Option Addr) (cap : Nat) (w : World) (hS : Ints w (.slice A i.l.length cap) i.l) (hn : i.l.length * 8 ≤ 140737488355328) (hs : i.s.size < 9223372036854775808) (ho : i.o < 1 ∨ 16 < i.o) :
    Calls Try.prog 82 #[inV i (.slice A i.l.length cap), .int .i64 n] w fun e w' => e = .returned (.bool (instB n i)) ∧ Below w.heap.size w w' := by
  have HU := Lib.hid (fun (W : World) (hb : Below w.heap.size w W) => refUses_any i A cap W (hS.next hb) hn)
  have HUL := Lib.hid (show (usesI i).length * 8 ≤ 140737488355328 from by
    unfold usesI usesL
    repeat' split
    all_goals first | exact hn | simp)
  obtain ⟨o, a, b, k, s, l⟩ := i
  have HE := Lib.hid (instB_is n o a b k s l)
  unfold inV at HU ⊢
  simp only at hS hn hs HU HUL ho ⊢
  have HO := Lib.hid (show o < 1 ∨ 16 < o by omega)
  clear ho
  obtain ⟨nl, hnl⟩ : ∃ x, l.length = x := ⟨_, rfl⟩
  have HNL := Lib.hid (show decide (l = []) = decide (nl = 0) by rw [← hnl]; cases l <;> simp)
  have HME := Lib.hid (fun W : World => refName_any s W hs)
  have HNM := Lib.hid (fun W : World => refNamed_any o a b k s (.slice A nl cap) W)
  rw [hnl] at HU HE ⊢
  obtain ⟨U, hU⟩ : ∃ U, usesI ⟨o, a, b, k, s, l⟩ = U := ⟨_, rfl⟩
  rw [hU] at HU HE HUL
  obtain ⟨AM, hAM⟩ : ∃ x, amongB n U = x := ⟨_, rfl⟩
  have HBL := Lib.hid (fun (W : World) (A2 : Option Addr) (m c2 : Nat) (hm : U.length = m) (hI : Ints W (.slice A2 m c2) U) => refBelow_any n U A2 m c2 W hI (by have := HUL.out; omega))
  rw [hAM] at HE HBL
  rw [HNL.out] at HE
  clear hS hn hs hnl hU hAM HNL
  go_enter Try.func82, Try.ntmps82
  go_wp2_with fail
  have HBX := Lib.hid (balloc (Below.refl _ w) (.cells #[.int .i64 o, .int .i64 a, .int .i64 b, .int .u64 k, .string s, .slice A nl cap] 60))
  have HIX := Lib.hid (heap_alloc_new w (.cells #[.int .i64 o, .int .i64 a, .int .i64 b, .int .u64 k, .string s, .slice A nl cap] 60))
  generalize w.alloc (.cells #[.int .i64 o, .int .i64 a, .int .i64 b, .int .u64 k, .string s, .slice A nl cap] 60) = W1 at *
  refine (HU.out _ HBX.out).mono ?_
  rintro r w2 ⟨v', rfl, ho, hb⟩
  have HI2 := Lib.hid ho.ints
  obtain ⟨A2, c2, hv2⟩ := HI2.out.slice
  obtain ⟨nu, hnu⟩ : ∃ x, U.length = x := ⟨_, rfl⟩
  have HNU := Lib.hid (show U.length ≤ nu ∧ nu ≤ U.length by omega)
  have HI3 := Lib.hid (show Ints w2 (.slice A2 nu c2) U by rw [← hnu, ← hv2]; exact HI2.out)
  rw [hnu] at hv2
  subst hv2
  have HB2 := Lib.hid (bthen HBX.out hb)
  have HIX2 := Lib.hid ((hb.block _ (Array.getElem?_eq_some_iff.1 HIX.out).1).trans HIX.out)
  clear ho hb hnu
  go_wp2_with fail
  refine (HBL.out w2 A2 nu c2 (by have := HNU.out; omega) HI3.out).mono ?_
  rintro r w3 ⟨rfl, hb⟩
  have HB3 := Lib.hid (bthen HB2.out hb)
  have hix3 := (hb.block _ (Array.getElem?_eq_some_iff.1 HIX2.out).1).trans HIX2.out
  have c0 := Lib.cell_of_heap hix3 0
  have c1 := Lib.cell_of_heap hix3 1
  have c2 := Lib.cell_of_heap hix3 2
  have c3 := Lib.cell_of_heap hix3 3
  have c4 := Lib.cell_of_heap hix3 4
  have c5 := Lib.cell_of_heap hix3 5
  simp only [List.getElem?_toArray, List.getElem?_cons_zero, List.getElem?_cons_succ] at c0 c1 c2 c3 c4 c5
  have HIX3 := Lib.hid hix3
  clear hb hix3
  by_cases h1 : o < 1
  · have t1 : decide (o < 1) = true := decide_eq_true h1
    have HV := Lib.hid (show instB n ⟨o, a, b, k, s, l⟩ = false by rw [HE.out]; simp [show ¬ 1 ≤ o by omega])
    go_wp2_with fail
    go_ret
    exact ⟨by rw [HV.out]; rfl, HB3.out⟩
  have t1 : decide (o < 1) = false := decide_eq_false h1
  have t2 : decide (16 < o) = true := decide_eq_true (by have := HO.out; omega)
  have HV := Lib.hid (show instB n ⟨o, a, b, k, s, l⟩ = false by rw [HE.out]; simp [show ¬ o ≤ 16 by have := HO.out; omega])
  go_wp2_with fail
  go_ret
  exact ⟨by rw [HV.out]; rfl, HB3.out⟩
end Go.Proofs.Ytkalgiaapkjplaa
