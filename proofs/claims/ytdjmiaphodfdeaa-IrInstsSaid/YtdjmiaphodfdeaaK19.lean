/- IrInsts: what an instruction uses, whether it is right among so many values, and how many a block has, is as the reference says. -/
import Derived.Test.YtdjmiaphodfdeaaN3
import Derived.Test.YtdjmiaphodfdeaaK15
namespace Go.Proofs.Ytdjmiaphodfdeaa
open Go.RowKit

set_option maxRecDepth 100000 in
set_option maxHeartbeats 8000000 in
theorem insts_all (i : In) (A : Option Addr) (cap : Nat) (n : Int) (bp ek ea et ee : Int) (A1 A5 A7 : Option Addr) (ni z1 ll z5 lm z7 : Nat) (w : World) (hok : InOk i) (hI : Ints w (.slice A i.l.length cap) i.l) (hn : i.l.length * 8 ≤ 140737488355328) :
    Calls Try.prog 3 #[inV i (.slice A i.l.length cap), .int .i64 n, .agg #[.int .i64 bp, .slice A1 ni z1, .int .i64 ek, .int .i64 ea, .int .i64 et, .slice A5 ll z5, .int .i64 ee, .slice A7 lm z7]] w fun e w' => e = .returned (.bool true) ∧ Below w.heap.size w w' := by
  have HU := Lib.hid (fun (W : World) (hb : Below w.heap.size w W) => uses_any i _ W (hI.next hb) hn)
  have HR := Lib.hid (fun (W : World) (hb : Below w.heap.size w W) => refUses_any i A cap W (hI.next hb) hn)
  have H1 := Lib.hid (fun (W : World) (hb : Below w.heap.size w W) => inst_any i n A cap W (hI.next hb) hok.2 hok.1)
  have H2 := Lib.hid (fun (W : World) (hb : Below w.heap.size w W) => refInst_any i n A cap W (hI.next hb) hn hok.1)
  have HV := Lib.hid (fun (W : World) => values_any bp ek ea et ee A1 ni z1 (.slice A5 ll z5) (.slice A7 lm z7) W)
  have HUL := Lib.hid (show (usesI i).length ≤ 9223372036854775807 from by
    unfold usesI usesL
    split
    · simp
    · split
      · simp
      · split
        · omega
        · simp)
  obtain ⟨U, hU⟩ : ∃ U, usesI i = U := ⟨_, rfl⟩
  obtain ⟨q, hq⟩ : ∃ q, instB n i = q := ⟨_, rfl⟩
  rw [hU] at HU HR HUL
  rw [hq] at H1 H2
  obtain ⟨o, a, b, k, s, l⟩ := i
  unfold inV at HU HR H1 H2 ⊢
  simp only at HU HR H1 H2 ⊢
  obtain ⟨nl, hnl⟩ : ∃ x, l.length = x := ⟨_, rfl⟩
  rw [hnl] at HU HR H1 H2 ⊢
  clear hok hI hn hU hq hnl
  have HIN := Lib.hid ((heap_alloc_new w (.cells #[.int .i64 o, .int .i64 a, .int .i64 b, .int .u64 k, .string s, .slice A nl cap] 25)))
  have HIB := Lib.hid ((heap_alloc_new (w.alloc (.cells #[.int .i64 o, .int .i64 a, .int .i64 b, .int .u64 k, .string s, .slice A nl cap] 25)) (.cells #[.int .i64 bp, .slice A1 ni z1, .int .i64 ek, .int .i64 ea, .int .i64 et, .slice A5 ll z5, .int .i64 ee, .slice A7 lm z7] 30)))
  have hb1 := balloc (Below.refl _ w) (.cells #[.int .i64 o, .int .i64 a, .int .i64 b, .int .u64 k, .string s, .slice A nl cap] 25)
  have hb2 := balloc (Below.refl _ (w.alloc (.cells #[.int .i64 o, .int .i64 a, .int .i64 b, .int .u64 k, .string s, .slice A nl cap] 25))) (.cells #[.int .i64 bp, .slice A1 ni z1, .int .i64 ek, .int .i64 ea, .int .i64 et, .slice A5 ll z5, .int .i64 ee, .slice A7 lm z7] 30)
  have HIN := Lib.hid ((hb2.block _ (Array.getElem?_eq_some_iff.1 HIN.out).1).trans HIN.out)
  have HBW := Lib.hid (bthen hb1 hb2)
  rw [World.size_alloc] at HIB
  clear hb1 hb2
  go_enter Try.func3, Try.ntmps3
  go_wp2_with fail
  generalize (w.alloc (.cells #[.int .i64 o, .int .i64 a, .int .i64 b, .int .u64 k, .string s, .slice A nl cap] 25)).alloc (.cells #[.int .i64 bp, .slice A1 ni z1, .int .i64 ek, .int .i64 ea, .int .i64 et, .slice A5 ll z5, .int .i64 ee, .slice A7 lm z7] 30) = W0 at *
  refine (ishown_any _).mono ?_
  rintro r w1 ⟨rfl, hb⟩
  have hin := (hb.block _ (Array.getElem?_eq_some_iff.1 HIN.out).1).trans HIN.out
  have hib := (hb.block _ (Array.getElem?_eq_some_iff.1 HIB.out).1).trans HIB.out
  have HB1 := Lib.hid (bthen HBW.out hb)
  have HI1 := Lib.hid hin
  have HX1 := Lib.hid hib
  have c0 := Lib.cell_of_heap hin 0
  have c1 := Lib.cell_of_heap hin 1
  have c2 := Lib.cell_of_heap hin 2
  have c3 := Lib.cell_of_heap hin 3
  have c4 := Lib.cell_of_heap hin 4
  have c5 := Lib.cell_of_heap hin 5
  simp only [List.getElem?_toArray, List.getElem?_cons_zero, List.getElem?_cons_succ] at c0 c1 c2 c3 c4 c5
  clear hb hin hib
  go_upto_region 1 with fail
  have hd : w1.drew.cell? ⟨w.heap.size, 0, none⟩ = some (.int .i64 o) ∧ w1.drew.cell? ⟨w.heap.size, 1, none⟩ = some (.int .i64 a) ∧ w1.drew.cell? ⟨w.heap.size, 2, none⟩ = some (.int .i64 b) ∧ w1.drew.cell? ⟨w.heap.size, 3, none⟩ = some (.int .u64 k) ∧ w1.drew.cell? ⟨w.heap.size, 4, none⟩ = some (.string s) ∧ w1.drew.cell? ⟨w.heap.size, 5, none⟩ = some (.slice A nl cap) ∧ Below w1.heap.size w1 w1.drew := ⟨c0, c1, c2, c3, c4, c5, (Below.refl _ _).drew⟩
  go_region_held3 (fun W' => W'.cell? ⟨w.heap.size, 0, none⟩ = some (.int .i64 o) ∧ W'.cell? ⟨w.heap.size, 1, none⟩ = some (.int .i64 a) ∧ W'.cell? ⟨w.heap.size, 2, none⟩ = some (.int .i64 b) ∧ W'.cell? ⟨w.heap.size, 3, none⟩ = some (.int .u64 k) ∧ W'.cell? ⟨w.heap.size, 4, none⟩ = some (.string s) ∧ W'.cell? ⟨w.heap.size, 5, none⟩ = some (.slice A nl cap) ∧ Below w1.heap.size w1 W') (first | assumption | exact hd | exact sbox_next (by assumption) (by assumption))
    (first
      | (go_at_call 17; refine Calls.mono (HU.out _ (bthen HB1.out (sbox_below (by assumption)))) ?_; rintro r wa ⟨va, rfl, hoa, hba⟩; have HIa := Lib.hid hoa.ints; obtain ⟨Aa, ca, hva⟩ := HIa.out.slice; subst hva; clear hoa)
      | (go_at_call 18; refine Calls.mono (HR.out _ (bthen HB1.out (sbox_below (by assumption)))) ?_; rintro r wb ⟨vb, rfl, hob, hbb⟩; have HIb := Lib.hid hob.ints; obtain ⟨Ab, cb, hvb⟩ := HIb.out.slice; subst hvb; clear hob)
      | (go_at_call 16; refine Calls.mono (refInts_any U U Aa Ab U.length U.length ca cb _ (by first | exact HIa.out | exact HIa.out.next hbb) (by first | exact HIb.out | exact HIb.out.next hba) HUL.out HUL.out) ?_; rintro r wc ⟨rfl, hbc⟩))
  all_goals
    have hfin := sbox_below (w := w1) (by assumption)
    have HI2 := Lib.hid ((hfin.block _ (Array.getElem?_eq_some_iff.1 HI1.out).1).trans HI1.out)
    have HX2 := Lib.hid ((hfin.block _ (Array.getElem?_eq_some_iff.1 HX1.out).1).trans HX1.out)
    have HB2 := Lib.hid (bthen HB1.out hfin)
    clear hfin hd hbc hbb hba HU HR HUL HIa HIb HI1 HX1 HB1 c0 c1 c2 c3 c4 c5 HBW HIN HIB
    have hbx := (Array.getElem?_eq_some_iff.1 HI2.out).1
    have hby := (Array.getElem?_eq_some_iff.1 HX2.out).1
    have d0 := Lib.cell_of_heap HI2.out 0
    have d1 := Lib.cell_of_heap HI2.out 1
    have d2 := Lib.cell_of_heap HI2.out 2
    have d3 := Lib.cell_of_heap HI2.out 3
    have d4 := Lib.cell_of_heap HI2.out 4
    have d5 := Lib.cell_of_heap HI2.out 5
    have e0 := Lib.cell_of_heap HX2.out 0
    have e1 := Lib.cell_of_heap HX2.out 1
    have e2 := Lib.cell_of_heap HX2.out 2
    have e3 := Lib.cell_of_heap HX2.out 3
    have e4 := Lib.cell_of_heap HX2.out 4
    have e5 := Lib.cell_of_heap HX2.out 5
    have e6 := Lib.cell_of_heap HX2.out 6
    have e7 := Lib.cell_of_heap HX2.out 7
    simp only [List.getElem?_toArray, List.getElem?_cons_zero, List.getElem?_cons_succ] at d0 d1 d2 d3 d4 d5 e0 e1 e2 e3 e4 e5 e6 e7
    have f0 := fun p => Past.cell hbx d0 p
    have f1 := fun p => Past.cell hbx d1 p
    have f2 := fun p => Past.cell hbx d2 p
    have f3 := fun p => Past.cell hbx d3 p
    have f4 := fun p => Past.cell hbx d4 p
    have f5 := fun p => Past.cell hbx d5 p
    have g0 := fun p => Past.cell hby e0 p
    have g1 := fun p => Past.cell hby e1 p
    have g2 := fun p => Past.cell hby e2 p
    have g3 := fun p => Past.cell hby e3 p
    have g4 := fun p => Past.cell hby e4 p
    have g5 := fun p => Past.cell hby e5 p
    have g6 := fun p => Past.cell hby e6 p
    have g7 := fun p => Past.cell hby e7 p
    have HP1 := Lib.hid (fun (p : Past wc) => H1.out p.W (bthen HB2.out p.h))
    have HP2 := Lib.hid (fun (p : Past wc) => H2.out p.W (bthen HB2.out p.h))
    have HP3 := Lib.hid (fun (p : Past wc) => HV.out p.W)
    clear H1 H2 HV
    go_upto_region 1 with fail
    refine wp_region_past (by kernel_rfl) (by kernel_rfl) ?_
    repeat (go_big_quiet_step (first | (go_at_call 19; refine past_of (HP1.out _)) | (go_at_call 20; refine past_of (HP2.out _)) | (go_at_call 21; refine past_of (HP3.out _))))
    refine wpQuiet_nil ?_
    rintro _ ⟨⟨W9, hb9⟩, rfl⟩
    have HB9 := Lib.hid (bthen HB2.out hb9)
    clear hb9 f0 f1 f2 f3 f4 f5 g0 g1 g2 g3 g4 g5 g6 g7 hbx hby d0 d1 d2 d3 d4 d5 e0 e1 e2 e3 e4 e5 e6 e7
    go_wp2_with fail
    go_ret
    exact ⟨rfl, HB9.out⟩
end Go.Proofs.Ytdjmiaphodfdeaa
