/- IrFuncs: whether a function is right, and which names it has, is as the reference says. -/
import Derived.Test.YtkalgiaapkjplaaT8
import Derived.Test.YtkalgiaapkjplaaTA
import Derived.Test.YtkalgiaapkjplaaK9
import Derived.Test.YtkalgiaapkjplaaK15
namespace Go.Proofs.Ytkalgiaapkjplaa
open Go.RowKit

theorem fb4_next {w W W' : World} {B : Nat} {c0 c1 c2 c3 : Value} (hb : Below W.heap.size W W') (h : W.cell? ⟨B, 0, none⟩ = some c0 ∧ W.cell? ⟨B, 1, none⟩ = some c1 ∧ W.cell? ⟨B, 2, none⟩ = some c2 ∧ W.cell? ⟨B, 3, none⟩ = some c3 ∧ Below w.heap.size w W) :
    W'.cell? ⟨B, 0, none⟩ = some c0 ∧ W'.cell? ⟨B, 1, none⟩ = some c1 ∧ W'.cell? ⟨B, 2, none⟩ = some c2 ∧ W'.cell? ⟨B, 3, none⟩ = some c3 ∧ Below w.heap.size w W' := by
  obtain ⟨h0, h1, h2, h3, h5⟩ := h
  have hB := World.block_lt_of_cell? W _ h0
  exact ⟨(cellNext hB hb _).trans h0, (cellNext hB hb _).trans h1, (cellNext hB hb _).trans h2, (cellNext hB hb _).trans h3, bthen h5 hb⟩
theorem fb4_below {w W : World} {B : Nat} {c0 c1 c2 c3 : Value} (h : W.cell? ⟨B, 0, none⟩ = some c0 ∧ W.cell? ⟨B, 1, none⟩ = some c1 ∧ W.cell? ⟨B, 2, none⟩ = some c2 ∧ W.cell? ⟨B, 3, none⟩ = some c3 ∧ Below w.heap.size w W) : Below w.heap.size w W := h.2.2.2.2
set_option maxRecDepth 100000 in
set_option maxHeartbeats 8000000 in
theorem funcs_all (f : Fn) (C : Option Addr) (ca : Nat) (w : World) (hok : FnW f) (hcnt : (insF f).length * 16 ≤ 140737488355000) (hS : Blocks w (.slice C f.l.length ca) f.l) :
    Calls Try.prog 3 #[.agg #[.string f.s, .int .i64 f.b, .int .i64 f.p, .slice C f.l.length ca]] w fun e w' => e = .returned (.bool true) ∧ Below w.heap.size w w' := by
  have HU := Lib.hid (fun (W : World) (hb : Below w.heap.size w W) => refs_any f C _ ca W rfl hok.1 hcnt (hS.next hb))
  have HR := Lib.hid (fun (W : World) (hb : Below w.heap.size w W) => refRefs_any f C _ ca W rfl hok.1 hcnt (hS.next hb))
  have H1 := Lib.hid (fun (W : World) (hb : Below w.heap.size w W) => func_any f C ca W hok.1 (hS.next hb))
  have H2 := Lib.hid (fun (W : World) (hb : Below w.heap.size w W) => refFunc_any f C ca W hok (hS.next hb))
  have HUL := Lib.hid (show (refsL f).length ≤ 9223372036854775807 from by have := refs_ins f; omega)
  obtain ⟨U, hU⟩ : ∃ U, refsL f = U := ⟨_, rfl⟩
  obtain ⟨q, hq⟩ : ∃ q, funcB f = q := ⟨_, rfl⟩
  rw [hU] at HU HR HUL
  rw [hq] at H1 H2
  obtain ⟨s, b, p, l⟩ := f
  simp only at HU HR H1 H2 ⊢
  obtain ⟨nl, hnl⟩ : ∃ x, l.length = x := ⟨_, rfl⟩
  rw [hnl] at HU HR H1 H2 ⊢
  clear hok hcnt hS hU hq hnl
  go_enter Try.func3, Try.ntmps3
  go_upto_region 1 with fail
  have HIN := Lib.hid (heap_alloc_new w (.cells #[.string s, .int .i64 b, .int .i64 p, .slice C nl ca] 24))
  have HBW := Lib.hid (balloc (Below.refl _ w) (.cells #[.string s, .int .i64 b, .int .i64 p, .slice C nl ca] 24))
  generalize w.alloc (.cells #[.string s, .int .i64 b, .int .i64 p, .slice C nl ca] 24) = W0 at *
  go_wp2_with fail
  refine (ishown_any _).mono ?_
  rintro r w1 ⟨rfl, hb⟩
  have hin := (hb.block _ (Array.getElem?_eq_some_iff.1 HIN.out).1).trans HIN.out
  have HB1 := Lib.hid (bthen HBW.out hb)
  have HI1 := Lib.hid hin
  have c0 := Lib.cell_of_heap hin 0
  have c1 := Lib.cell_of_heap hin 1
  have c2 := Lib.cell_of_heap hin 2
  have c3 := Lib.cell_of_heap hin 3
  simp only [List.getElem?_toArray, List.getElem?_cons_zero, List.getElem?_cons_succ] at c0 c1 c2 c3
  clear hb hin
  go_upto_region 2 with fail
  have hd : w1.drew.cell? ⟨w.heap.size, 0, none⟩ = some (.string s) ∧ w1.drew.cell? ⟨w.heap.size, 1, none⟩ = some (.int .i64 b) ∧ w1.drew.cell? ⟨w.heap.size, 2, none⟩ = some (.int .i64 p) ∧ w1.drew.cell? ⟨w.heap.size, 3, none⟩ = some (.slice C nl ca) ∧ Below w1.heap.size w1 w1.drew := ⟨c0, c1, c2, c3, (Below.refl _ _).drew⟩
  go_region_held3 (fun W' => W'.cell? ⟨w.heap.size, 0, none⟩ = some (.string s) ∧ W'.cell? ⟨w.heap.size, 1, none⟩ = some (.int .i64 b) ∧ W'.cell? ⟨w.heap.size, 2, none⟩ = some (.int .i64 p) ∧ W'.cell? ⟨w.heap.size, 3, none⟩ = some (.slice C nl ca) ∧ Below w1.heap.size w1 W') (first | assumption | exact hd | exact fb4_next (by assumption) (by assumption))
    (first
      | (go_at_call 18; refine Calls.mono (HU.out _ (bthen HB1.out (fb4_below (by assumption)))) ?_; rintro r wa ⟨va, rfl, hoa, hba⟩; have HIa := Lib.hid hoa; obtain ⟨Aa, za, hva⟩ := RowOf.slice HIa.out; subst hva; clear hoa)
      | (go_at_call 19; refine Calls.mono (HR.out _ (bthen HB1.out (fb4_below (by assumption)))) ?_; rintro r wb ⟨vb, rfl, hob, hbb⟩; have HIb := Lib.hid hob; obtain ⟨Ab, zb, hvb⟩ := RowOf.slice HIb.out; subst hvb; clear hob)
      | (go_at_call 17; refine Calls.mono (refStrings_any U U Aa Ab U.length U.length za zb _ rfl rfl HUL.out (by first | exact HIa.out | exact Strs.next HIa.out hbb) (by first | exact HIb.out | exact Strs.next HIb.out hba)) ?_; rintro r wc ⟨rfl, hbc⟩))
  all_goals
    have hfin := fb4_below (w := w1) (by assumption)
    have HI2 := Lib.hid ((hfin.block _ (Array.getElem?_eq_some_iff.1 HI1.out).1).trans HI1.out)
    have HB2 := Lib.hid (bthen HB1.out hfin)
    clear hfin hd hbc hbb hba HU HR HUL HIa HIb HI1 HB1 c0 c1 c2 c3 HBW HIN
    have hbx := (Array.getElem?_eq_some_iff.1 HI2.out).1
    have d0 := Lib.cell_of_heap HI2.out 0
    have d1 := Lib.cell_of_heap HI2.out 1
    have d2 := Lib.cell_of_heap HI2.out 2
    have d3 := Lib.cell_of_heap HI2.out 3
    simp only [List.getElem?_toArray, List.getElem?_cons_zero, List.getElem?_cons_succ] at d0 d1 d2 d3
    have f0 := fun p => Past.cell hbx d0 p
    have f1 := fun p => Past.cell hbx d1 p
    have f2 := fun p => Past.cell hbx d2 p
    have f3 := fun p => Past.cell hbx d3 p
    have HP1 := Lib.hid (fun (p : Past wc) => H1.out p.W (bthen HB2.out p.h))
    have HP2 := Lib.hid (fun (p : Past wc) => H2.out p.W (bthen HB2.out p.h))
    clear H1 H2
    go_upto_region 3 with fail
    refine wp_region_past (by kernel_rfl) (by kernel_rfl) ?_
    repeat (go_big_quiet_step (first | (go_at_call 20; refine past_of (HP1.out _)) | (go_at_call 21; refine past_of (HP2.out _))))
    refine wpQuiet_nil ?_
    rintro _ ⟨⟨W9, hb9⟩, rfl⟩
    have HB9 := Lib.hid (bthen HB2.out hb9)
    clear hb9 f0 f1 f2 f3 hbx d0 d1 d2 d3
    go_wp2_with fail
    go_ret
    exact ⟨rfl, HB9.out⟩
end Go.Proofs.Ytkalgiaapkjplaa
