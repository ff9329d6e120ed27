/- Package ir: the names that a function's instructions have, in a row of the call's own. -/
import Derived.Test.YtoglmdadpchhoaaHY3
namespace Go.Proofs.Ytoglmdadpchhoaa
open Go.RowKit Go.Shelf

attribute [local go_sem] Oper.semAt_some

/-- what Refs answers: a row of its own -/
def OwnNames (l : List ByteArray) (w : World) (e : Ending) (w' : World) : Prop := ∃ v', e = .returned v' ∧ OwnsN w' w.heap.size v' l ∧ Below w.heap.size w w'
set_option maxRecDepth 100000 in
set_option maxHeartbeats 4000000 in
theorem refsO_any (f : Fn) (C : Option Addr) (na ca : Nat) (w : World) (hna : f.l.length = na) (hok : FnOk f) (hcnt : (insF f).length * 16 ≤ 140737488355000) (hS : Blocks w (.slice C na ca) f.l) :
    Calls Try.prog 59 #[.agg #[.string f.s, .int .i64 f.b, .int .i64 f.p, .slice C na ca]] w (OwnNames (refsL f) w) := by
  obtain ⟨ts, hD⟩ := blkIts_of hS
  have HD := Lib.hid hD
  have HOK := Lib.hid hok
  have HNE := Lib.hid hna
  have HREF := Lib.hid (refs_its hD)
  have HCNT := Lib.hid (show ts.flatten.length * 16 ≤ 140737488355000 by have := congrArg List.length hD.ins; rw [List.length_map] at this; unfold insF at hcnt; omega)
  have n9 : na ≤ 9223372036854775807 := by have := hok.2.1; omega
  obtain ⟨s, b, p, bl⟩ := f
  simp only at HNE HOK HD HREF HCNT ⊢
  clear hD hS hok hna hcnt
  refine (callsIn_wide (n := 3)).1 ?_
  refine callsIn_of_wp_marks Try.func59 rfl trivial ?_ rfl
  simp only [Try.ntmps59, List.size_toArray, List.length_cons, List.length_nil, Nat.reduceAdd, Nat.reduceSub, Array.replicate_succ, Array.replicate_zero, List.push_toArray, List.append_toArray, List.nil_append, List.cons_append]
  gi_wp2_with (fail)
  refine ⟨trivial, ?_⟩
  refine (insts_in 2 _ _ _ _ _).mono ?_
  rintro e w1 ⟨rfl, rfl⟩
  gi_wp2_with (fail)
  have bL := (Boxed.new (w.alloc (.cells #[.string s, .int .i64 b, .int .i64 p, .slice C na ca] 50)) 45 (.slice none 0 0)).alloc (.cells #[.string s, .int .i64 b, .int .i64 p, .slice C na ca] 50)
  have hFn := Lib.cell_of_heap (heap_alloc_new ((w.alloc (.cells #[.string s, .int .i64 b, .int .i64 p, .slice C na ca] 50)).alloc (.cells #[.slice none 0 0] 45)) (.cells #[.string s, .int .i64 b, .int .i64 p, .slice C na ca] 50)) 3
  have hB1 := balloc (balloc (balloc (Below.refl _ w) (.cells #[.string s, .int .i64 b, .int .i64 p, .slice C na ca] 50)) (.cells #[.slice none 0 0] 45)) (.cells #[.string s, .int .i64 b, .int .i64 p, .slice C na ca] 50)
  simp only [List.getElem?_toArray, List.getElem?_cons_zero, List.getElem?_cons_succ, World.size_alloc] at bL hFn
  have HIT := Lib.hid (show ∀ x ∈ ts.flatten, (∃ A cap, x.v = .slice A x.i.l.length cap) from fun x hx => (HD.out.all x hx).1)
  have HW0 := Lib.hid hB1
  generalize ((w.alloc (.cells #[.string s, .int .i64 b, .int .i64 p, .slice C na ca] 50)).alloc (.cells #[.slice none 0 0] 45)).alloc (.cells #[.string s, .int .i64 b, .int .i64 p, .slice C na ca] 50) = W1 at *
  refine wpIn_rangeFunc_ownH (α := {x : It // ∃ A cap, x.v = .slice A x.i.l.length cap}) rfl (by omega) (gf := 99) (lb := #[.pointer (some ⟨w.heap.size + 1 + 1, 0, none⟩)]) rfl trivial (enters_of Try.func99 (by kernel_rfl) rfl)
    (its_stops 2 (by omega) (w.heap.size + 1 + 1) na ca C bl ts _ HIT.out w W1 HNE.out (by omega) (fun b hb => (HOK.out.2.2 b hb).1) HD.out hB1 hFn) KeepB.trans (keepB_b hB1.size) (Below.refl _ _) (fun _ => rfl)
    (fun pre W => (∃ v, Boxed W (w.heap.size + 1) 45 v ∧ OwnsN W w.heap.size v (itNames (pre.map Subtype.val))) ∧ Below w.heap.size w W)
    (fun _ _ _ => False)
    (OwnFrom.and (ownN_own (fun pre : List {x : It // ∃ A cap, x.v = .slice A x.i.l.length cap} => itNames (pre.map Subtype.val))) (ownFrom_below (Nat.le_refl _) hB1.size))
    (fun _ _ _ _ _ hs _ _ => hs)
    ⟨⟨_, bL, rfl, .inl ⟨rfl, rfl⟩⟩, hB1⟩
    (fun x a' W => ∃ Bx, BoxedI W Bx x.1 ∧ a' = { tmps := #[.agg #[.string s, .int .i64 b, .int .i64 p, .slice C na ca], .pointer (some ⟨w.heap.size, 0, none⟩), .slice none 0 0, .pointer (some ⟨w.heap.size + 1, 0, none⟩), undef, .pointer (some ⟨Bx, 0, none⟩), .agg #[.string s, .int .i64 b, .int .i64 p, .slice C na ca], .func (.func 99) #[] #[.pointer (some ⟨w.heap.size + 1 + 1, 0, none⟩)], .int .i64 x.1.n, inV x.1.i x.1.v, undef, undef, undef, undef, undef, undef, undef, undef, undef], defers := [] })
    (fun x a' s X Y row hs hg hr => by obtain ⟨Bx, h1, h2⟩ := hs; exact ⟨Bx, boxedI_own Bx x.1 () X Y row h1 hg hr, h2⟩)
    ?assign ?body ?done ?stop
  case assign =>
    rintro l pre x W K ⟨⟨v, b1, ho⟩, hb⟩ hK
    have HK := Lib.hid hK
    clear hK
    obtain ⟨⟨n, ⟨o, a, b', k', s', l'⟩, vv⟩, hx⟩ := x
    obtain ⟨A', cap, hv⟩ := id hx
    simp only at hv
    subst hv
    simp only [encI, inV]
    gi_wp2
    exact HK.out _ _ ((KeepsOthers.alloc _ _).from _) (KeepB.below hb.size (balloc (Below.refl _ _) _)) ⟨⟨v, b1.alloc _, ownsN_kept ho (World.grownBy_alloc _ _ none) (by by_cases h : v.ownBlock = none; exact .inl h; exact .inr h)⟩, balloc hb _⟩ ⟨W.heap.size, BoxedI.new W ⟨n, ⟨o, a, b', k', s', l'⟩, .slice A' l'.length cap⟩, rfl⟩
  case body =>
    rintro l pre x a' W hl hr ⟨⟨v, b1, ho⟩, hb⟩ ⟨Bx, bx, rfl⟩ hlen
    obtain ⟨L, hL⟩ : ∃ L, itNames (pre.map Subtype.val) = L := ⟨_, rfl⟩
    have HL := Lib.hid (show itNames ((pre ++ [x]).map Subtype.val) = if hasB x.1.i.o = true then L ++ [x.1.i.s] else L by rw [List.map_append, ← hL]; exact itNames_snoc _ _)
    have HLL := Lib.hid (show (L.length + 1) * 16 ≤ 140737488355000 by
      have h1 := names_len (pre.map Subtype.val)
      rw [List.length_map, hL] at h1
      have := HCNT.out
      omega)
    rw [hL] at ho
    obtain ⟨A0, z0, hv0⟩ := ho.form
    obtain ⟨nL, hnL⟩ : ∃ n, L.length = n := ⟨_, rfl⟩
    rw [hnL] at hv0 HLL
    subst hv0
    have HI := Lib.hid (show (Boxed W (w.heap.size + 1) 45 (.slice A0 nL z0) ∧ OwnsN W w.heap.size (.slice A0 nL z0) L) ∧ Below w.heap.size w W from ⟨⟨b1, ho⟩, hb⟩)
    obtain ⟨c0, c1, c2, c3, c4, c5⟩ := bx.cells
    have HX := Lib.hid bx
    obtain ⟨A', cap, hv⟩ := x.2
    rw [hv] at c5
    obtain ⟨X0, h0⟩ : ∃ X, x.1.i.o = X := ⟨_, rfl⟩
    obtain ⟨X4, h4⟩ : ∃ X, x.1.i.s = X := ⟨_, rfl⟩
    rw [h0] at c0 HL
    rw [h4] at c4 HL
    have HH := Lib.hid (hasName_any X0 W)
    rw [show (X0 == 12 || X0 == 13 || X0 == 14) = hasB X0 from rfl] at HH
    have lc := b1.cell
    have lf := b1.frozen
    have HNL := Lib.hid hnL
    clear hb b1 bx hr hl hlen hv h0 h4 ho hL hnL
    cases hh : hasB X0 with
    | false =>
      rw [hh] at HH HL
      clear hh
      gi_wp2_with (fail)
      refine ⟨trivial, ?_⟩
      refine (CallsIn.inRound l (callsIn_wide.2 HH.out)).mono ?_
      rintro e w1 ⟨rfl, rfl⟩
      gi_wp2_with (fail)
      exact ⟨KeepsFrom.refl _ _, KeepB.below HI.out.2.size (Below.refl _ _), ⟨_, HI.out.1.1, by rw [HL.out]; exact HI.out.1.2⟩, HI.out.2⟩
    | true =>
      rw [hh] at HH HL
      clear hh
      gi_wp2_with (fail)
      refine ⟨trivial, ?_⟩
      refine (CallsIn.inRound l (callsIn_wide.2 HH.out)).mono ?_
      rintro e w1 ⟨rfl, rfl⟩
      obtain ⟨i0, hi, hz0, hz1, hz2⟩ := info_parts str_info
      have hne : Bx ≠ W.heap.size := Nat.ne_of_lt HX.out.lt
      have n1 : w.heap.size + 1 ≠ W.heap.size := Nat.ne_of_lt (Array.getElem?_eq_some_iff.1 HI.out.1.1).1
      have HAL := Lib.hid (heap_alloc_new W (.cells #[.string X4] 9))
      have HO1 := Lib.hid (ownsN_kept HI.out.1.2 (World.grownBy_alloc W (.cells #[.string X4] 9) none) (by by_cases h : (Value.slice A0 nL z0).ownBlock = none; exact .inl h; exact .inr h))
      have HII := Lib.hid (And.intro hi (And.intro hz0 (And.intro hz1 hz2)))
      clear hi hz0 hz1 hz2
      have HOWN := Lib.hid (show (W.alloc (.cells #[.string X4] 9)).ownsRow w.heap.size 9 1 (.slice A0 nL z0) nL (strRow L) by have := HO1.out; rw [← HNL.out]; unfold OwnsN at this; rw [HNL.out] at this ⊢; exact this)
      have HNEW := Lib.hid (show ∀ (j : Nat) (u : Value), [Value.string X4][j]? = some u → (W.alloc (.cells #[.string X4] 9)).cell? ((⟨W.heap.size, 0, none⟩ : Addr).add j) = some u from fun j u hj => by
        match j, hj with
        | 0, hj =>
          obtain rfl : Value.string X4 = u := by simpa using hj
          rw [int_add]
          exact Lib.cell_of_heap HAL.out 0)
      have HONE := Lib.hid (show ∀ u ∈ [Value.string X4], u.oneCell' = true from fun u hu => by obtain rfl : u = Value.string X4 := (by simpa using hu); rfl)
      have HL63 := Lib.hid (show nL + 1 ≤ maxLen by unfold maxLen; have := HLL.out; omega)
      have HL16 := Lib.hid (show (nL + 1) * 16 ≤ 140737488355328 by have := HLL.out; omega)
      have HBAS := Lib.hid (show w.heap.size ≤ (W.alloc (.cells #[.string X4] 9)).heap.size by have := HI.out.2.size; simp; omega)
      have HBK := Lib.hid (fun (w1 : World) (hg : (W.alloc (.cells #[.string X4] 9)).grownBy w1 (Value.slice A0 nL z0).ownBlock) => (show Boxed w1 (w.heap.size + 1) 45 (.slice A0 nL z0) from (HI.out.1.1.alloc (.cells #[.string X4] 9)).kept hg (fun e => by
        obtain ⟨_, cs, h⟩ := HO1.out.block _ e.symm
        rw [show _ = _ from HI.out.1.1.alloc (.cells #[.string X4] 9)] at h
        cases h)))
      gi_wp2_with (gi_at_builtin; refine wpListIn_append_own_at _ rfl _ _ 45 rfl w.heap.size 9 i0 (.string ⟨#[]⟩) 1 16 Try.underlying45 HII.out.1 HII.out.2.1 HII.out.2.2.1 HII.out.2.2.2 rfl (by omega) (.slice A0 nL z0) nL (strRow L) rfl HOWN.out ⟨W.heap.size, 0, none⟩ 1 1 [.string X4] rfl rfl HNEW.out HONE.out HL63.out HL16.out HBAS.out ?_; intro v' w1 hown hgrow hnil hat; obtain ⟨g, cap2, hv', hgb, hgl⟩ := hown.form (Nat.succ_pos nL); subst hv'; have lc2 := (HBK.out _ hgrow).cell; have lf2 := (HBK.out _ hgrow).frozen)
      have hin := balloc (Below.refl _ W) (.cells #[.string X4] 9)
      have hk1 : KeepB w.heap.size (W.alloc (.cells #[.string X4] 9)) w1 := KeepB.grown hgrow HBAS.out (fun r e => by
        obtain ⟨h1, cs, h2⟩ := HO1.out.block r e
        exact ⟨h1, fun cs' t f ht h => by rw [h2] at h; cases h; rcases ht with h | h <;> cases h⟩)
      have hk2 : KeepB w.heap.size w1 (w1.setCell ⟨w.heap.size + 1, 0, none⟩ (.slice (some ⟨g, 0, none⟩) (nL + 1) cap2)) := KeepB.grown (grownBy_setCell' _ _ _) (Nat.le_trans HBAS.out hgrow.size) (fun r e => by
        cases e
        exact ⟨Nat.le_succ _, fun cs' t f ht h => by rw [show _ = _ from HBK.out _ hgrow] at h; cases h; rcases ht with h | h <;> cases h⟩)
      refine ⟨?_, (KeepB.below HI.out.2.size hin).trans (hk1.trans hk2), ⟨_, (HBK.out _ hgrow).set _, ?_⟩, HI.out.2.trans ((hin.mono HI.out.2.size).trans (hk1.low.trans hk2.low))⟩
      · refine ((KeepsOthers.alloc W (.cells #[.string X4] 9)).from _).trans ((keeps_grown hgrow (fun r e => ?_)).trans ((KeepsOthers.setCell _ _ _).from _))
        obtain ⟨h1, cs, h2⟩ := HO1.out.block r e
        exact ⟨_, _, _, h2⟩
      · rw [HL.out, if_pos trivial]
        refine ownsN_kept (row := some (w.heap.size + 1)) ?_ (grownBy_setCell' _ _ _) (.inr (fun e => ?_))
        · unfold OwnsN
          rw [List.length_append, HNL.out]
          simpa [strRow] using hown
        · obtain rfl : g = w.heap.size + 1 := by simpa [Value.ownBlock] using e
          have h1 := hown.2
          rcases h1 with ⟨e, _⟩ | ⟨g', cap', cur, e, _, hgg, _⟩
          · cases e
          · cases e
            rw [show _ = _ from HBK.out _ hgrow] at hgg
            cases hgg
  case done =>
    rintro D ys W hD hys ⟨⟨v, b1, ho⟩, hb⟩ hK
    obtain ⟨A0, z0, hv0⟩ := ho.form
    subst hv0
    have c3 := b1.cell
    have HHB := Lib.hid hB1
    gi_wp2_with (fail)
    refine ⟨by simp, .inl ⟨_, _, rfl, run_takeDeferred hK, ?_⟩⟩
    have hg := grownBy_putObj' W D (.deferred none)
    refine ⟨_, results_tmp rfl _ _ _, _, rfl, ?_, hb.trans (below_grown hg hb.size (fun r e => by cases e; have := HHB.out.size; omega))⟩
    rw [← HREF.out, ← hys]
    refine ownsN_kept ho hg ?_
    by_cases h : (Value.slice A0 (itNames (ys.map Subtype.val)).length z0).ownBlock = none
    · exact .inl h
    · refine .inr fun e => ?_
      obtain ⟨_, cs, hcs⟩ := ho.block D e
      rw [hK] at hcs
      cases hcs
  case stop =>
    rintro D c pre W _ _ h _
    exact h.elim
end Go.Proofs.Ytoglmdadpchhoaa
