/- Package ir: is a module right, and why isn't it? -/
import Derived.Test.YtkalgiaapkjplaaK7
namespace Go.Proofs.Ytkalgiaapkjplaa
open Go.RowKit

set_option maxRecDepth 100000 in
set_option maxHeartbeats 4000000 in
theorem check_any (m : Md) (F G : Option Addr) (nf cf ng cg : Nat) (w : World) (hok : MdOk m) (hnf : m.f.length = nf) (hng : m.g.length = ng) (hS : MdAt w (.slice F nf cf) (.slice G ng cg) m) :
    Calls Try.prog 22 #[.agg #[.slice F nf cf, .slice G ng cg]] w fun e w' => e = .returned (.int .i64 (checkE m)) ∧ Below w.heap.size w w' := by
  have HS := Lib.hid hS
  have HOK := Lib.hid hok
  have HNF := Lib.hid hnf
  have HNG := Lib.hid hng
  have HE := Lib.hid (show checkE m = if 16 < nf ∨ 16 < ng then 4 else if aloneB m = false then 10 else if ¬ (namesM m).Nodup then 9 else foundE m by unfold checkE; rw [hnf, hng])
  have HB := Lib.hid (balloc (Below.refl _ w) (.cells #[.slice F nf cf, .slice G ng cg] 33))
  have HIN := Lib.hid (heap_alloc_new w (.cells #[.slice F nf cf, .slice G ng cg] 33))
  have f9 : (nf : Int) ≤ 9223372036854775807 := by have := hok.2.2.1; omega
  have g9 : (ng : Int) ≤ 9223372036854775807 := by have := hok.2.2.2; omega
  clear hS hok hnf hng
  go_enter Try.func22, Try.ntmps22
  by_cases h1 : 16 < nf
  · have t1 : decide ((16 : Int) < (nf : Int)) = true := decide_eq_true (by omega)
    have HV := Lib.hid (show checkE m = 4 by rw [HE.out, if_pos (.inl h1)])
    go_wp2_with fail
    go_ret
    exact ⟨by rw [HV.out]; rfl, HB.out⟩
  have t1 : decide ((16 : Int) < (nf : Int)) = false := decide_eq_false (by omega)
  by_cases h2 : 16 < ng
  · have t2 : decide ((16 : Int) < (ng : Int)) = true := decide_eq_true (by omega)
    have HV := Lib.hid (show checkE m = 4 by rw [HE.out, if_pos (.inr h2)])
    go_wp2_with fail
    go_ret
    exact ⟨by rw [HV.out]; rfl, HB.out⟩
  have t2 : decide ((16 : Int) < (ng : Int)) = false := decide_eq_false (by omega)
  have HE := Lib.hid (show checkE m = if aloneB m = false then 10 else if ¬ (namesM m).Nodup then 9 else foundE m by rw [HE.out, if_neg (by omega)])
  have HL := Lib.hid (show nf ≤ 1000000 ∧ ng ≤ 1000000 by omega)
  clear h1 h2
  go_wp2_with fail
  have HR := Lib.hid (rightAlone_any m F G nf cf ng cg (w.alloc (.cells #[.slice F nf cf, .slice G ng cg] 33)) HOK.out HNF.out HNG.out (HS.out.next HB.out))
  generalize w.alloc (.cells #[.slice F nf cf, .slice G ng cg] 33) = W1 at *
  refine HR.out.mono ?_
  rintro r w2 ⟨rfl, hb⟩
  have HB2 := Lib.hid (bthen HB.out hb)
  have hin2 := (hb.block _ (Array.getElem?_eq_some_iff.1 HIN.out).1).trans HIN.out
  have c0 := Lib.cell_of_heap hin2 0
  have c1 := Lib.cell_of_heap hin2 1
  simp only [List.getElem?_toArray, List.getElem?_cons_zero, List.getElem?_cons_succ] at c0 c1
  have HIN2 := Lib.hid hin2
  clear hb hin2
  cases ha : aloneB m with
  | false =>
    have HV := Lib.hid (show checkE m = 10 by rw [HE.out, if_pos ha])
    go_wp2_with fail
    go_ret
    exact ⟨by rw [HV.out]; rfl, HB2.out⟩
  | true =>
    have HE := Lib.hid (show checkE m = if ¬ (namesM m).Nodup then 9 else foundE m by rw [HE.out, ha]; rfl)
    clear ha
    go_wp2_with fail
    refine (named_any m F G nf cf ng cg w2 HOK.out HNF.out HNG.out HL.out.1 HL.out.2 (HS.out.next HB2.out)).mono ?_
    rintro r w3 ⟨hb, ⟨hn, mb, mn, rfl, hmb, hM⟩ | ⟨hn, rfl⟩⟩
    · have HE := Lib.hid (show checkE m = foundE m by rw [HE.out, if_neg (fun h => h hn)])
      have HB3 := Lib.hid (bthen HB2.out hb)
      have hin3 := (hb.block _ (Array.getElem?_eq_some_iff.1 HIN2.out).1).trans HIN2.out
      have d0 := Lib.cell_of_heap hin3 0
      have d1 := Lib.cell_of_heap hin3 1
      simp only [List.getElem?_toArray, List.getElem?_cons_zero, List.getElem?_cons_succ] at d0 d1
      have HM := Lib.hid hM
      have HN := Lib.hid hn
      clear hb hin3 hM hn c0 c1
      go_wp2_with fail
      refine (found_any m F G nf cf ng cg mb mn w3 HOK.out HNF.out HN.out (HS.out.next HB3.out) HM.out).mono ?_
      rintro r w4 ⟨rfl, hb⟩
      have HB4 := Lib.hid (bthen HB3.out hb)
      clear hb d0 d1
      go_wp2_with fail
      go_ret
      exact ⟨by rw [HE.out]; rfl, HB4.out⟩
    · have HE := Lib.hid (show checkE m = 9 by rw [HE.out, if_pos hn])
      have HB3 := Lib.hid (bthen HB2.out hb)
      clear hb c0 c1
      go_wp2_with fail
      go_ret
      exact ⟨by rw [HE.out]; rfl, HB3.out⟩
end Go.Proofs.Ytkalgiaapkjplaa
