/- What the texts of package resolve stand on, of the packages ir and pick (part 5). -/
import Derived.Test.YtjldddpchiaalaaHU3
namespace Go.Proofs.Ytjldddpchiaalaa
open Go.RowKit Go.Shelf
attribute [local go_sem] Oper.semAt_some
/-- lengths that a machine can hold -/
def InOk (i : In) : Prop := i.s.size < 9223372036854775808 ∧ i.l.length ≤ 9223372036854775807
def BkOk (b : Bk) : Prop := b.i.length ≤ 9223372036854775807 ∧ b.e.l.length ≤ 9223372036854775807 ∧ b.e.m.length ≤ 9223372036854775807 ∧ ∀ i ∈ b.i, InOk i
def FnOk (f : Fn) : Prop := f.s.size < 9223372036854775808 ∧ f.l.length ≤ 9223372036854775807 ∧ ∀ b ∈ f.l, BkOk b
def GlOk (g : Gl) : Prop := g.s.size < 9223372036854775808
/-- all of a block but its instructions -/
def headB (all : List Bk) (b : Bk) : Bool := decide (0 ≤ b.p) && decide (b.p ≤ 6) && decide (b.i.length ≤ 32) && endB all (b.p + b.i.length) b.e
theorem blockB_head (all : List Bk) (b : Bk) : blockB all b = (headB all b && instsB b.p b.i) := rfl
theorem all_block (all l : List Bk) : l.all (blockB all) = (l.all (headB all) && l.all (fun b => instsB b.p b.i)) := by
  induction l with
  | nil => rfl
  | cons b l ih =>
    rw [List.all_cons, List.all_cons, List.all_cons, ih, blockB_head]
    cases headB all b <;> cases instsB b.p b.i <;> cases l.all (headB all) <;> rfl
theorem wrap_small {p : Int} {n : Nat} (h0 : 0 ≤ p) (h1 : p ≤ 6) (hn : n ≤ 9223372036854775000) : wrap64 (p + n) = p + n := by
  unfold wrap64
  omega
/-- all instructions are right, of blocks whose heads are -/
theorem all_insts {W : World} {v : Value} {all l : List Bk} {ts : List (List It)} (h : BlkIts W v l ts) (hh : l.all (headB all) = true) : l.all (fun b => instsB b.p b.i) = ts.flatten.all (fun x => instB x.n x.i) := by
  rw [List.all_flatten]
  have hk : ∀ (k : Nat) (h1 : k < l.length) (h2 : k < ts.length), instsB l[k].p l[k].i = ts[k].all (fun x => instB x.n x.i) := fun k h1 h2 => by
    obtain ⟨_, _, _, _, _, _, _, _, _, _, e, g⟩ := h.2.2 k h1 h2
    have hb := List.all_eq_true.1 hh l[k] (List.getElem_mem h1)
    simp only [headB, Bool.and_eq_true, decide_eq_true_eq] at hb
    rw [← e]
    have hl : ts[k].length ≤ 32 := by
      have := congrArg List.length e
      rw [List.length_map] at this
      omega
    exact instsB_its _ _ (fun j hj => by rw [g j hj, wrap_small hb.1.1.1 hb.1.1.2 (by omega)])
  have e : l.map (fun b => instsB b.p b.i) = ts.map (fun t => t.all (fun x => instB x.n x.i)) := by
    apply List.ext_getElem
    · simpa using h.2.1.symm
    · intro k h1 h2
      rw [List.getElem_map, List.getElem_map]
      exact hk k (by simpa using h1) (by simpa using h2)
  have a1 : l.all (fun b => instsB b.p b.i) = (l.map (fun b => instsB b.p b.i)).all id := by rw [List.all_map]; rfl
  have a2 : ts.all (fun t => t.all (fun x => instB x.n x.i)) = (ts.map (fun t => t.all (fun x => instB x.n x.i))).all id := by rw [List.all_map]; rfl
  rw [a1, a2, e]
/-- an instruction in a block of its own -/
def BoxedI (W : World) (B : Nat) (x : It) : Prop := W.heap[B]? = some (.cells #[.int .i64 x.i.o, .int .i64 x.i.a, .int .i64 x.i.b, .int .u64 x.i.k, .string x.i.s, x.v] 76 (0, 0))
theorem BoxedI.new (W : World) (x : It) : BoxedI (W.alloc (.cells #[.int .i64 x.i.o, .int .i64 x.i.a, .int .i64 x.i.b, .int .u64 x.i.k, .string x.i.s, x.v] 76)) W.heap.size x := heap_alloc_new W _
theorem BoxedI.lt {W : World} {B : Nat} {x : It} (h : BoxedI W B x) : B < W.heap.size := (Array.getElem?_eq_some_iff.1 h).1
theorem BoxedI.cells {W : World} {B : Nat} {x : It} (h : BoxedI W B x) : W.cell? ⟨B, 0, none⟩ = some (.int .i64 x.i.o) ∧ W.cell? ⟨B, 1, none⟩ = some (.int .i64 x.i.a) ∧ W.cell? ⟨B, 2, none⟩ = some (.int .i64 x.i.b) ∧ W.cell? ⟨B, 3, none⟩ = some (.int .u64 x.i.k) ∧ W.cell? ⟨B, 4, none⟩ = some (.string x.i.s) ∧ W.cell? ⟨B, 5, none⟩ = some x.v := by
  refine ⟨?_, ?_, ?_, ?_, ?_, ?_⟩ <;> (unfold World.cell?; rw [show W.heap[B]? = _ from h]; rfl)
theorem boxedI_own {B₀ : Nat} (B : Nat) (x : It) : OwnFrom B₀ (fun (_ : Unit) W => BoxedI W B x) := by
  intro _ W W' row h hg hr
  refine (hg.block B h.lt (fun e => ?_)).trans h
  obtain ⟨_, o, ho, hc⟩ := hr B e.symm
  rw [show W.heap[B]? = _ from h] at ho; cases ho; cases hc
theorem BoxedI.below {W W' : World} {B : Nat} {x : It} (h : BoxedI W B x) (hb : Below W.heap.size W W') : BoxedI W' B x := (hb.block B h.lt).trans h
theorem keeps_below {W W' : World} (B : Nat) (h : Below W.heap.size W W') : KeepsFrom B W W' := ⟨h.size, fun k _ _ hk _ => (h.block k (Array.getElem?_eq_some_iff.1 hk).1).trans hk⟩
theorem boxed_below {W W' : World} {B : Nat} {t : TypeId} {v : Value} (h : Boxed W B t v) (hb : Below W.heap.size W W') : Boxed W' B t v := (hb.block B h.lt).trans h
set_option maxRecDepth 100000 in
set_option maxHeartbeats 4000000 in
theorem rightBlocks_any (s : ByteArray) (b p : Int) (bl : List Bk) (C : Option Addr) (na ca : Nat) (w : World) (hna : bl.length = na) (h9 : na ≤ 9223372036854775807) (hok : ∀ b ∈ bl, BkOk b) (hS : Blocks w (.slice C na ca) bl) :
    Calls Try.prog 72 #[.agg #[.string s, .int .i64 b, .int .i64 p, .slice C na ca]] w fun e w' => e = .returned (.bool (bl.all (blockB bl))) ∧ Below w.heap.size w w' := by
  obtain ⟨ts, hD⟩ := blkIts_of hS
  have HD := Lib.hid hD
  have HS := Lib.hid hS
  have HOK := Lib.hid hok
  have HNA := Lib.hid (show bl.length ≤ na ∧ na ≤ bl.length by omega)
  have HNE := Lib.hid hna
  have n9 : (na : Int) ≤ 9223372036854775807 := by omega
  clear hD hS hok hna
  refine (callsIn_wide (n := 3)).1 ?_
  refine callsIn_of_wp_marks Try.func72 rfl trivial ?_ rfl
  simp only [Try.ntmps72, List.size_toArray, List.length_cons, List.length_nil, Nat.reduceAdd, Nat.reduceSub, Array.replicate_succ, Array.replicate_zero, List.push_toArray, List.append_toArray, List.nil_append, List.cons_append]
  gi_wp2_with (fail)
  have hFB := heap_alloc_new w (.cells #[.string s, .int .i64 b, .int .i64 p, .slice C na ca] 60)
  have HFB := Lib.hid ((balloc (Below.refl _ _) (.cells #[.bool false] 4)).block w.heap.size (Array.getElem?_eq_some_iff.1 hFB).1 |>.trans hFB)
  have HRB := Lib.hid (show Boxed ((w.alloc (.cells #[.string s, .int .i64 b, .int .i64 p, .slice C na ca] 60)).alloc (.cells #[.bool false] 4)) (w.heap.size + 1) 4 (.bool false) by
    have := Boxed.new (w.alloc (.cells #[.string s, .int .i64 b, .int .i64 p, .slice C na ca] 60)) 4 (.bool false)
    rwa [World.size_alloc] at this)
  have HB0 := Lib.hid (balloc (balloc (Below.refl _ w) (.cells #[.string s, .int .i64 b, .int .i64 p, .slice C na ca] 60)) (.cells #[.bool false] 4))
  clear hFB
  generalize (w.alloc (.cells #[.string s, .int .i64 b, .int .i64 p, .slice C na ca] 60)).alloc (.cells #[.bool false] 4) = W0 at *
  gi_loopw [10] (fun i wr => ∃ k : Nat, k ≤ na ∧ i = .int .i64 k ∧ (bl.take k).all (headB bl) = true ∧ wr.heap[w.heap.size]? = some (.cells #[.string s, .int .i64 b, .int .i64 p, .slice C na ca] 60 (0, 0)) ∧ Boxed wr (w.heap.size + 1) 4 (.bool false) ∧ Below w.heap.size w wr)
    (fun i _ => na - (intOf i).toNat)
  case atStart => exact ⟨0, Nat.zero_le _, rfl, rfl, HFB.out, HRB.out, HB0.out⟩
  case round =>
    obtain ⟨k, hk, rfl, he, hfb, hrb, hb⟩ := hrel
    have HE := Lib.hid he
    have HF := Lib.hid hfb
    have HR := Lib.hid hrb
    have HB := Lib.hid hb
    clear he hfb hrb hb HFB HRB HB0
    by_cases hlt : k < na
    · have hkl : k < bl.length := by have := HNA.out; omega
      have hv := HS.out
      obtain ⟨b2, off, hA, hbl, hbk⟩ := RowOf.at_ hv hkl
      subst hA
      have hbx := BkAt.next _ _ _ _ _ hbl HB.out hbk
      obtain ⟨c0, ⟨A1, z1, c1, -⟩, c2, c3, c4, ⟨A5, z5, c5, hi5⟩, c6, A7, z7, c7, hi7⟩ := hbx
      have HMEM := Lib.hid (List.getElem_mem hkl)
      have HOKB := Lib.hid (HOK.out _ HMEM.out)
      have HTK := Lib.hid (show (bl.take (k + 1)).all (headB bl) = headB bl bl[k] by
        rw [List.take_succ_eq_append_getElem hkl, List.all_append, HE.out]
        simp)
      have HNO := Lib.hid (show headB bl bl[k] = false → bl.all (blockB bl) = false from fun h => by
        rw [List.all_eq_false]
        exact ⟨_, HMEM.out, by rw [blockB_head, h]; simp⟩)
      have HHD := Lib.hid (show headB bl bl[k] = (decide (0 ≤ bl[k].p) && decide (bl[k].p ≤ 6) && decide (bl[k].i.length ≤ 32) && endB bl (bl[k].p + bl[k].i.length) bl[k].e) from rfl)
      have hk0 : (0 : Int) ≤ (k : Int) := Int.natCast_nonneg _
      have hk1 : (k : Int) < (na : Int) := by omega
      have HLT := Lib.hid hlt
      obtain ⟨m, hm⟩ : ∃ m, bl[k].i.length = m := ⟨_, rfl⟩
      obtain ⟨P, hP⟩ : ∃ P, bl[k].p = P := ⟨_, rfl⟩
      have HRE := Lib.hid (fun (W : World) (hb : Below wr.heap.size wr W) (h0 : 0 ≤ P) (h1 : P ≤ 6) (h2 : m ≤ 32) =>
        rightEnd_any bl P bl[k].e.k bl[k].e.a bl[k].e.t bl[k].e.e (P + m) bl[k].e.l bl[k].e.m A1 A5 A7 (some ⟨b2, off, none⟩) m z1 bl[k].e.l.length z5 bl[k].e.m.length z7 na ca W (wrap_small h0 h1 (by omega)) HNE.out rfl rfl h9 HOKB.out.2.1 HOKB.out.2.2.1 (HS.out.next (HB.out.trans (hb.mono HB.out.size))) (hi5.next hb) (hi7.next hb))
      have HE9 := Lib.hid (show m ≤ 9223372036854775807 from hm ▸ HOKB.out.1)
      have m9 : (m : Int) ≤ 9223372036854775807 := by have := HE9.out; omega
      rw [hm] at c1 HHD
      rw [hP] at c0 HHD
      obtain ⟨K1, hK1⟩ : ∃ K1, bl[k].e.k = K1 := ⟨_, rfl⟩
      obtain ⟨K2, hK2⟩ : ∃ K1, bl[k].e.a = K1 := ⟨_, rfl⟩
      obtain ⟨K3, hK3⟩ : ∃ K1, bl[k].e.t = K1 := ⟨_, rfl⟩
      obtain ⟨K4, hK4⟩ : ∃ K1, bl[k].e.l.length = K1 := ⟨_, rfl⟩
      obtain ⟨K5, hK5⟩ : ∃ K1, bl[k].e.e = K1 := ⟨_, rfl⟩
      obtain ⟨K6, hK6⟩ : ∃ K1, bl[k].e.m.length = K1 := ⟨_, rfl⟩
      have HEQ := Lib.hid (show (⟨K1, K2, K3, bl[k].e.l, K5, bl[k].e.m⟩ : Tm) = bl[k].e by rw [← hK1, ← hK2, ← hK3, ← hK5])
      rw [hK1, hK2, hK3, hK4, hK5, hK6] at HRE
      rw [HEQ.out] at HRE
      rw [hK1] at c2
      rw [hK2] at c3
      rw [hK3] at c4
      rw [hK4] at c5
      rw [hK5] at c6
      rw [hK6] at c7
      obtain ⟨EB, hEB⟩ : ∃ E, endB bl (P + m) bl[k].e = E := ⟨_, rfl⟩
      rw [hEB] at HHD HRE
      have HF1 := Lib.hid (Lib.cell_of_heap HF.out 3)
      have HQ := Lib.hid ((balloc (Below.refl _ wr) (.cells #[.int .i64 P, .slice A1 m z1, .int .i64 K1, .int .i64 K2, .int .i64 K3, .slice A5 K4 z5, .int .i64 K5, .slice A7 K6 z7] 74)))
      have HBX := Lib.hid (heap_alloc_new wr (.cells #[.int .i64 P, .slice A1 m z1, .int .i64 K1, .int .i64 K2, .int .i64 K3, .slice A5 K4 z5, .int .i64 K5, .slice A7 K6 z7] 74))
      clear hm hP hK1 hK2 hK3 hK4 hK5 hK6 hEB hi5 hi7 hbk hv hlt
      gi_wp2_with (fail)
      refine ⟨trivial, ?_⟩
      refine (callsIn_wide.2 (mayParams_any P _)).mono ?_
      rintro e w1 ⟨rfl, rfl⟩
      clear c0 c1 c2 c3 c4 c5 c6 c7
      generalize wr.alloc (.cells #[.int .i64 P, .slice A1 m z1, .int .i64 K1, .int .i64 K2, .int .i64 K3, .slice A5 K4 z5, .int .i64 K5, .slice A7 K6 z7] 74) = W1 at *
      have HRB1 := Lib.hid (boxed_below HR.out HQ.out)
      have HFB1 := Lib.hid ((HQ.out.block _ (Array.getElem?_eq_some_iff.1 HF.out).1).trans HF.out)
      have HB1 := Lib.hid (bthen HB.out HQ.out)
      have hrc := HRB1.out.cell
      have hrf := HRB1.out.frozen
      have d0 := Lib.cell_of_heap HBX.out 0
      have d1 := Lib.cell_of_heap HBX.out 1
      have d2 := Lib.cell_of_heap HBX.out 2
      have d3 := Lib.cell_of_heap HBX.out 3
      have d4 := Lib.cell_of_heap HBX.out 4
      have d5 := Lib.cell_of_heap HBX.out 5
      have d6 := Lib.cell_of_heap HBX.out 6
      have d7 := Lib.cell_of_heap HBX.out 7
      have e3 := Lib.cell_of_heap HFB1.out 3
      simp only [List.getElem?_toArray, List.getElem?_cons_zero, List.getElem?_cons_succ] at d0 d1 d2 d3 d4 d5 d6 d7 e3
      generalize wr.heap.size = BX at *
      cases hmp : (decide (0 ≤ P) && decide (P ≤ 6)) with
      | false =>
        have HV := Lib.hid (HNO.out (by rw [HHD.out, hmp]; rfl))
        clear hmp
        gi_wp2_with (fail)
        refine ⟨trivial, ?_⟩
        gi_wp2_with (fail)
        refine ⟨.bool false, ?_, by rw [HV.out], HB1.out.setCell (p := ⟨w.heap.size + 1, 0, none⟩) (by simp) _⟩
        have hc := (HRB1.out.set (.bool false)).cell
        simp [results, Try.f72, go_sem, hc]
      | true =>
        have hPP := hmp
        simp only [Bool.and_eq_true, decide_eq_true_eq] at hPP
        by_cases hm32 : m ≤ 32
        · have t32 : decide ((32 : Int) < (m : Int)) = false := decide_eq_false (by omega)
          have HRE1 := Lib.hid (HRE.out W1 HQ.out hPP.1 hPP.2 hm32)
          have HHD := Lib.hid (show headB bl bl[k] = EB by rw [HHD.out, hmp]; simp [hm32])
          have HM32 := Lib.hid hm32
          clear hPP hm32
          gi_wp2_with (fail)
          refine ⟨trivial, ?_⟩
          refine (callsIn_wide.2 HRE1.out).mono ?_
          rintro e w2 ⟨rfl, hb2⟩
          have HRB2 := Lib.hid (boxed_below HRB1.out hb2)
          have HFB2 := Lib.hid ((hb2.block _ (Array.getElem?_eq_some_iff.1 HFB1.out).1).trans HFB1.out)
          have HB2 := Lib.hid (bthen HB1.out hb2)
          clear hb2 hrc hrf d0 d1 d2 d3 d4 d5 d6 d7 e3
          have hrc := HRB2.out.cell
          have hrf := HRB2.out.frozen
          cases hEB : EB with
          | false =>
            have HV := Lib.hid (HNO.out (by rw [HHD.out, hEB]))
            gi_wp2_with (fail)
            refine ⟨.bool false, ?_, by rw [HV.out], HB2.out.setCell (p := ⟨w.heap.size + 1, 0, none⟩) (by simp) _⟩
            have hc := (HRB2.out.set (.bool false)).cell
            simp [results, Try.f72, go_sem, hc]
          | true =>
            have HV := Lib.hid (show (bl.take (k + 1)).all (headB bl) = true by rw [HTK.out, HHD.out, hEB])
            gi_wp2_with (fail)
            go_roundw
            case rel => exact ⟨k + 1, HLT.out, by go_num, HV.out, HFB2.out, HRB2.out, HB2.out⟩
            case measure => have := HLT.out; simp [intOf]; omega
        · have t32 : decide ((32 : Int) < (m : Int)) = true := decide_eq_true (by omega)
          have HV := Lib.hid (HNO.out (by rw [HHD.out, hmp]; simp [hm32]))
          clear hPP hm32
          gi_wp2_with (fail)
          refine ⟨trivial, ?_⟩
          gi_wp2_with (fail)
          refine ⟨.bool false, ?_, by rw [HV.out], HB1.out.setCell (p := ⟨w.heap.size + 1, 0, none⟩) (by simp) _⟩
          have hc := (HRB1.out.set (.bool false)).cell
          simp [results, Try.f72, go_sem, hc]
    · have hd : decide ((k : Int) < (na : Int)) = false := by simp; omega
      have HH := Lib.hid (show bl.all (headB bl) = true by have h := HE.out; rwa [List.take_of_length_le (by have := HNA.out; omega)] at h)
      have f0 := Lib.cell_of_heap HF.out 0
      have f1 := Lib.cell_of_heap HF.out 1
      have f2 := Lib.cell_of_heap HF.out 2
      have f3 := Lib.cell_of_heap HF.out 3
      simp only [List.getElem?_toArray, List.getElem?_cons_zero, List.getElem?_cons_succ] at f0 f1 f2 f3
      gi_wp2_with (fail)
      refine ⟨trivial, ?_⟩
      refine (insts_in 2 _ _ _ _ _).mono ?_
      rintro e w1 ⟨rfl, rfl⟩
      gi_wp2_with (fail)
      have bR := HR.out.alloc (.cells #[.string s, .int .i64 b, .int .i64 p, .slice C na ca] 60)
      have hFn := Lib.cell_of_heap (heap_alloc_new wr (.cells #[.string s, .int .i64 b, .int .i64 p, .slice C na ca] 60)) 3
      simp only [List.getElem?_toArray, List.getElem?_cons_zero, List.getElem?_cons_succ] at hFn
      have hB1 := HB.out.trans ((balloc (Below.refl _ wr) (.cells #[.string s, .int .i64 b, .int .i64 p, .slice C na ca] 60)).mono HB.out.size)
      have HAI := Lib.hid (show bl.all (blockB bl) = ts.flatten.all (fun x => instB x.n x.i) by rw [all_block, HH.out, all_insts HD.out HH.out]; rfl)
      have HIT := Lib.hid (show ∀ x ∈ ts.flatten, InOk x.i ∧ (∃ A cap, x.v = .slice A x.i.l.length cap) ∧ Ints w x.v x.i.l from fun x hx => by
        refine ⟨?_, HD.out.all x hx⟩
        have h1 : x.i ∈ ts.flatten.map (·.i) := List.mem_map_of_mem hx
        rw [HD.out.ins] at h1
        obtain ⟨l, hl, hxl⟩ := List.mem_flatten.1 h1
        obtain ⟨b', hb', rfl⟩ := List.mem_map.1 hl
        exact (HOK.out b' hb').2.2.2 _ hxl)
      generalize wr.alloc (.cells #[.string s, .int .i64 b, .int .i64 p, .slice C na ca] 60) = W1 at *
      generalize wr.heap.size = FB at *
      clear f0 f1 f2 f3
      refine wpIn_rangeFunc_ownH (α := {x : It // InOk x.i ∧ (∃ A cap, x.v = .slice A x.i.l.length cap) ∧ Ints w x.v x.i.l}) rfl (by omega) (gf := 73) (lb := #[.pointer (some ⟨FB, 0, none⟩)]) rfl trivial (enters_of Try.func73 (by kernel_rfl) rfl)
        (its_stops 2 (by omega) FB na ca C bl ts _ HIT.out w W1 HNE.out (by omega) (fun b hb => (HOK.out b hb).1) HD.out hB1 hFn) KeepB.trans (keepB_b hB1.size) (Below.refl _ _) (fun _ => rfl)
        (fun pre W => Boxed W (w.heap.size + 1) 4 (.bool false) ∧ (∀ x ∈ pre, instB x.1.n x.1.i = true) ∧ Below w.heap.size w W)
        (fun c pre W => Boxed W (w.heap.size + 1) 4 (.bool false) ∧ (c = .ret ∧ ∃ x ∈ pre, instB x.1.n x.1.i = false) ∧ Below w.heap.size w W)
        (OwnFrom.and (Own.from (boxed_own _ _ _) _) (OwnFrom.and (ownFrom_pure _ _) (ownFrom_below (Nat.le_refl _) hB1.size)))
        (fun c => OwnFrom.and (Own.from (boxed_own _ _ _) _) (OwnFrom.and (ownFrom_pure _ _) (ownFrom_below (Nat.le_refl _) hB1.size)))
        ⟨bR, by simp, hB1⟩
        (fun x a' W => ∃ Bx, w.heap.size ≤ Bx ∧ BoxedI W Bx x.1 ∧ a' = { tmps := #[.agg #[.string s, .int .i64 b, .int .i64 p, .slice C na ca], .pointer (some ⟨w.heap.size, 0, none⟩), .pointer (some ⟨w.heap.size + 1, 0, none⟩), undef, u4, .int .i64 x.1.n, .pointer (some ⟨Bx, 0, none⟩), .pointer (some ⟨w.heap.size, 3, none⟩), .slice C na ca, .int .i64 na, .int .i64 k, .bool false, u12, u13, u14, u15, u16, u17, u18, u19, u20, u21, u22, u23, u24, u25, u26, u27, u28, u29, u30, u31, .agg #[.string s, .int .i64 b, .int .i64 p, .slice C na ca], .func (.func 73) #[] #[.pointer (some ⟨FB, 0, none⟩)], .int .i64 x.1.n, inV x.1.i x.1.v, undef, undef, undef, undef], defers := [] })
        (fun x a' s X Y row hs hg hr => by obtain ⟨Bx, h0, h1, h2⟩ := hs; exact ⟨Bx, h0, boxedI_own Bx x.1 () X Y row h1 hg hr, h2⟩)
        ?assign ?body ?done ?stop
      case assign =>
        rintro l pre x W K ⟨b1, hp, hb⟩ hK
        have HK := Lib.hid hK
        clear hK
        obtain ⟨⟨n, ⟨o, a, b', k', s', l'⟩, v⟩, hx⟩ := x
        obtain ⟨-, ⟨A, cap, hv⟩, -⟩ := id hx
        simp only at hv
        subst hv
        simp only [encI, inV]
        gi_wp2
        exact HK.out _ _ ((KeepsOthers.alloc _ _).from _) (KeepB.below hb.size (balloc (Below.refl _ _) _)) ⟨b1.alloc _, hp, balloc hb _⟩ ⟨W.heap.size, hb.size, BoxedI.new W ⟨n, ⟨o, a, b', k', s', l'⟩, .slice A l'.length cap⟩, rfl⟩
      case body =>
        rintro l pre x a' W hl hr ⟨b1, hp, hb⟩ ⟨Bx, hBx, bx, rfl⟩ hlen
        obtain ⟨A, cap, hv⟩ := x.2.2.1
        have HG := Lib.hid (inst_any x.1.i x.1.n A cap W (by rw [← hv]; exact (x.2.2.2).next hb) x.2.1.2 x.2.1.1)
        have HI := Lib.hid (show Boxed W (w.heap.size + 1) 4 (.bool false) ∧ (∀ x ∈ pre, instB x.1.n x.1.i = true) ∧ Below w.heap.size w W from ⟨b1, hp, hb⟩)
        obtain ⟨c0, c1, c2, c3, c4, c5⟩ := bx.cells
        have HP := Lib.hid (show x ∈ pre ++ [x] by simp)
        obtain ⟨q, hq⟩ : ∃ q, instB x.1.n x.1.i = q := ⟨_, rfl⟩
        have HQ := Lib.hid (show (instB x.1.n x.1.i = true → q = true) ∧ (q = true → instB x.1.n x.1.i = true) by rw [hq]; exact ⟨id, id⟩)
        rw [hq] at HG
        unfold inV at HG
        rw [hv] at c5 ⊢
        clear hb b1 bx hr hl hlen hq hp hBx
        obtain ⟨X0, h0⟩ : ∃ X, x.1.i.o = X := ⟨_, rfl⟩
        obtain ⟨X1, h1⟩ : ∃ X, x.1.i.a = X := ⟨_, rfl⟩
        obtain ⟨X2, h2⟩ : ∃ X, x.1.i.b = X := ⟨_, rfl⟩
        obtain ⟨X3, h3⟩ : ∃ X, x.1.i.k = X := ⟨_, rfl⟩
        obtain ⟨X4, h4⟩ : ∃ X, x.1.i.s = X := ⟨_, rfl⟩
        obtain ⟨nn, hnn⟩ : ∃ X, x.1.i.l.length = X := ⟨_, rfl⟩
        obtain ⟨xn, hxn⟩ : ∃ X, x.1.n = X := ⟨_, rfl⟩
        rw [h0, h1, h2, h3, h4, hnn, hxn] at HG
        rw [h0] at c0
        rw [h1] at c1
        rw [h2] at c2
        rw [h3] at c3
        rw [h4] at c4
        rw [hnn] at c5
        unfold inV
        rw [h0, h1, h2, h3, h4, hnn, hxn]
        clear h0 h1 h2 h3 h4 hnn hxn hv
        cases q
        · gi_wp2_with (fail)
          refine ⟨trivial, ?_⟩
          refine (CallsIn.inRound l (callsIn_wide.2 HG.out)).mono ?_
          rintro e w1 ⟨rfl, hb1⟩
          have HB1 := Lib.hid hb1
          have f3 := (boxed_below HI.out.1 hb1).frozen
          have d3 := (boxed_below HI.out.1 hb1).cell
          clear hb1 c0 c1 c2 c3 c4 c5
          gi_wp2_with (fail)
          refine ⟨(keeps_below _ HB1.out).trans ((KeepsOthers.setCell _ _ _).from _), ?_, ⟨rfl, x, HP.out, ?_⟩, ?_⟩
          · exact (boxed_below HI.out.1 HB1.out).set _
          · cases h : instB x.1.n x.1.i with
            | false => rfl
            | true => have := HQ.out.1 h; cases this
          · exact (bthen HI.out.2.2 HB1.out).setCell (p := ⟨w.heap.size + 1, 0, none⟩) (by simp) _
        · gi_wp2_with (fail)
          refine ⟨trivial, ?_⟩
          refine (CallsIn.inRound l (callsIn_wide.2 HG.out)).mono ?_
          rintro e w1 ⟨rfl, hb1⟩
          have HB1 := Lib.hid hb1
          clear hb1 c0 c1 c2 c3 c4 c5
          gi_wp2_with (fail)
          refine ⟨keeps_below _ HB1.out, KeepB.below HI.out.2.2.size HB1.out, boxed_below HI.out.1 HB1.out, fun y hy => ?_, bthen HI.out.2.2 HB1.out⟩
          rcases List.mem_append.1 hy with h | h
          · exact HI.out.2.1 y h
          · obtain rfl : y = x := by simpa using h
            exact HQ.out.2 (by trivial)
      case done =>
        rintro D ys W hD hys ⟨b3, hp, hb⟩ hK
        have f3 := b3.frozen
        have c3 := b3.cell
        have HHB := Lib.hid hB1
        gi_wp2_with (fail)
        have hK' := (KeepsOthers.setCell W ⟨w.heap.size + 1, 0, none⟩ (.bool true)).same D _ hK rfl
        refine ⟨by simp, .inl ⟨_, _, rfl, run_takeDeferred hK', ?_⟩⟩
        have hc := cell_kept (b3.set (.bool true)).cell (grownBy_putObj' _ D (.deferred none)) (fun r e => by cases e; exact ⟨_, hK', rfl⟩)
        refine ⟨.bool true, ?_, ?_, (hb.setCell (p := ⟨w.heap.size + 1, 0, none⟩) (by simp) _).trans (below_grown (grownBy_putObj' _ D (.deferred none)) (by have := hb.size; simp [World.setCell]; omega) (fun r e => by cases e; have := HHB.out.size; omega))⟩
        · simp [results, Try.f72, go_sem, hc]
        · rw [HAI.out, ← hys, List.all_map]
          congr 2
          symm
          rw [List.all_eq_true]
          exact hp
      case stop =>
        rintro D c pre W hD hpre ⟨b3, ⟨rfl, y, hy, hg⟩, hb⟩ hK
        have HHB := Lib.hid hB1
        gi_wp2_with (fail)
        refine ⟨by simp, .inl ⟨_, _, rfl, run_takeDeferred hK, ?_⟩⟩
        have hc := cell_kept b3.cell (grownBy_putObj' _ D (.deferred none)) (fun r e => by cases e; exact ⟨_, hK, rfl⟩)
        refine ⟨.bool false, ?_, ?_, hb.trans (below_grown (grownBy_putObj' _ D (.deferred none)) hb.size (fun r e => by cases e; have := HHB.out.size; omega))⟩
        · simp [results, Try.f72, go_sem, hc]
        · rw [HAI.out]
          congr 2
          symm
          rw [List.all_eq_false]
          exact ⟨y.1, hpre.subset (List.mem_map_of_mem hy), by simp [hg]⟩
end Go.Proofs.Ytjldddpchiaalaa
namespace Go.Proofs.Ytjldddpchiaalaa
open Go.RowKit
theorem funcB_eq (s : ByteArray) (b p : Int) (l : List Bk) : funcB ⟨s, b, p, l⟩ = (nameB s && (decide (1 ≤ b) && decide (b ≤ 3)) && (decide (0 ≤ p) && decide (p ≤ 6)) && decide (l.length ≤ 16) &&
    (match l with | [] => !(b == 1) | c :: _ => c.p == p && l.all (blockB l))) := rfl
theorem fbox_next {w W W' : World} {B bb off : Nat} {c0 c1 c2 c3 d : Value} (hb : Below W.heap.size W W') (h : W.cell? ⟨B, 0, none⟩ = some c0 ∧ W.cell? ⟨B, 1, none⟩ = some c1 ∧ W.cell? ⟨B, 2, none⟩ = some c2 ∧ W.cell? ⟨B, 3, none⟩ = some c3 ∧ W.cell? ⟨bb, off, none⟩ = some d ∧ Below w.heap.size w W) :
    W'.cell? ⟨B, 0, none⟩ = some c0 ∧ W'.cell? ⟨B, 1, none⟩ = some c1 ∧ W'.cell? ⟨B, 2, none⟩ = some c2 ∧ W'.cell? ⟨B, 3, none⟩ = some c3 ∧ W'.cell? ⟨bb, off, none⟩ = some d ∧ Below w.heap.size w W' := by
  obtain ⟨h0, h1, h2, h3, h4, h5⟩ := h
  have hB := World.block_lt_of_cell? W _ h0
  have hD := World.block_lt_of_cell? W _ h4
  exact ⟨(cellNext hB hb _).trans h0, (cellNext hB hb _).trans h1, (cellNext hB hb _).trans h2, (cellNext hB hb _).trans h3, (cellNext hD hb _).trans h4, bthen h5 hb⟩
theorem fbox_below {w W : World} {B bb off : Nat} {c0 c1 c2 c3 d : Value} (h : W.cell? ⟨B, 0, none⟩ = some c0 ∧ W.cell? ⟨B, 1, none⟩ = some c1 ∧ W.cell? ⟨B, 2, none⟩ = some c2 ∧ W.cell? ⟨B, 3, none⟩ = some c3 ∧ W.cell? ⟨bb, off, none⟩ = some d ∧ Below w.heap.size w W) : Below w.heap.size w W := h.2.2.2.2.2
set_option maxRecDepth 100000 in
set_option maxHeartbeats 4000000 in
theorem func_any (f : Fn) (C : Option Addr) (ca : Nat) (w : World) (hok : FnOk f) (hS : Blocks w (.slice C f.l.length ca) f.l) :
    Calls Try.prog 47 #[.agg #[.string f.s, .int .i64 f.b, .int .i64 f.p, .slice C f.l.length ca]] w fun e w' => e = .returned (.bool (funcB f)) ∧ Below w.heap.size w w' := by
  obtain ⟨s, b, p, l⟩ := f
  obtain ⟨hs, hl, hbk⟩ := hok
  simp only at hs hl hbk hS ⊢
  have HN := Lib.hid (fun W : World => mayName_any s W hs)
  rw [show (decide (1 ≤ (s.size : Int)) && decide ((s.size : Int) ≤ 16)) = nameB s from rfl] at HN
  have HR := Lib.hid (fun (W : World) (hb : Below w.heap.size w W) => rightBlocks_any s b p l C l.length ca W rfl hl hbk (hS.next hb))
  obtain ⟨nl, hnl⟩ : ∃ n, l.length = n := ⟨_, rfl⟩
  have HE := Lib.hid (funcB_eq s b p l)
  have HS := Lib.hid hS
  have HL := Lib.hid (show l.length ≤ nl ∧ nl ≤ l.length by omega)
  rw [hnl] at HR HE HS ⊢
  clear hbk hS hs hl hnl
  go_enter Try.func47, Try.ntmps47
  go_wp2_with fail
  obtain ⟨W, hW⟩ : ∃ W, W = w.alloc (.cells #[.string s, .int .i64 b, .int .i64 p, .slice C nl ca] 60) := ⟨_, rfl⟩
  have hin := heap_alloc_new w (.cells #[.string s, .int .i64 b, .int .i64 p, .slice C nl ca] 60)
  have hbw := balloc (Below.refl _ w) (.cells #[.string s, .int .i64 b, .int .i64 p, .slice C nl ca] 60)
  rw [← hW] at hin hbw ⊢
  have c0 := Lib.cell_of_heap hin 0
  have c1 := Lib.cell_of_heap hin 1
  have c2 := Lib.cell_of_heap hin 2
  have c3 := Lib.cell_of_heap hin 3
  simp only [List.getElem?_toArray, List.getElem?_cons_zero, List.getElem?_cons_succ] at c0 c1 c2 c3
  have HIN := Lib.hid hin
  have HB := Lib.hid hbw
  clear hW hin hbw
  refine (HN.out _).mono ?_
  rintro r w1 ⟨rfl, rfl⟩
  cases hn : nameB s with
  | false =>
    have HV := Lib.hid (show funcB ⟨s, b, p, l⟩ = false by rw [HE.out, hn]; rfl)
    clear HE hn
    go_wp2_with fail
    go_ret
    exact ⟨by rw [HV.out]; rfl, HB.out⟩
  | true =>
    rw [hn] at HE
    clear hn
    go_wp2_with fail
    refine (mayBind_any b _).mono ?_
    rintro r w1 ⟨rfl, rfl⟩
    cases hb : (decide (1 ≤ b) && decide (b ≤ 3)) with
    | false =>
      have HV := Lib.hid (show funcB ⟨s, b, p, l⟩ = false by rw [HE.out, hb]; rfl)
      clear HE hb
      go_wp2_with fail
      go_ret
      exact ⟨by rw [HV.out]; rfl, HB.out⟩
    | true =>
      rw [hb] at HE
      clear hb
      go_wp2_with fail
      refine (mayParams_any p _).mono ?_
      rintro r w1 ⟨rfl, rfl⟩
      cases hp : (decide (0 ≤ p) && decide (p ≤ 6)) with
      | false =>
        have HV := Lib.hid (show funcB ⟨s, b, p, l⟩ = false by rw [HE.out, hp]; rfl)
        clear HE hp
        go_wp2_with fail
        go_ret
        exact ⟨by rw [HV.out]; rfl, HB.out⟩
      | true =>
        rw [hp] at HE
        clear hp
        by_cases h16 : nl ≤ 16
        case neg =>
          have t : decide ((16 : Int) < (nl : Int)) = true := decide_eq_true (by omega)
          have HV := Lib.hid (show funcB ⟨s, b, p, l⟩ = false by rw [HE.out, decide_eq_false h16]; rfl)
          clear HE h16
          go_wp2_with fail
          go_ret
          exact ⟨by rw [HV.out]; rfl, HB.out⟩
        have t : decide ((16 : Int) < (nl : Int)) = false := decide_eq_false (by omega)
        rw [decide_eq_true h16] at HE
        cases l with
        | nil =>
          obtain rfl : nl = 0 := by have := HL.out; simp at this; omega
          have HV := Lib.hid (show funcB ⟨s, b, p, []⟩ = !(b == 1) by rw [HE.out]; rfl)
          clear HE h16 HL HS HR t
          go_wp2_with fail
          go_ret
          exact ⟨by rw [HV.out]; rfl, HB.out⟩
        | cons c l =>
          have h0 : 0 < nl := by have := HL.out; simp at this; omega
          have hS := HS.out
          rcases hS with ⟨hq, -⟩ | ⟨_, bb, off, cap, hv, hbb, hat⟩
          · cases hq
          obtain ⟨hC, -, -⟩ := Value.slice.inj hv
          subst hC
          have hb0 := BkAt.next _ _ _ _ _ hbb HB.out (hat 0 (by simp))
          obtain ⟨d0, -⟩ := hb0
          simp only [Nat.zero_mul, Nat.add_zero, List.getElem_cons_zero] at d0
          have HV := Lib.hid (show funcB ⟨s, b, p, c :: l⟩ = (c.p == p && (c :: l).all (blockB (c :: l))) by rw [HE.out]; rfl)
          obtain ⟨P, hP⟩ : ∃ P, c.p = P := ⟨_, rfl⟩
          rw [hP] at d0 HV
          have ez : ((nl : Int) == 0) = false := by simp; omega
          have i1 : (0 : Int) < (nl : Int) := by omega
          have HR1 := Lib.hid (fun (U : World) (hu : Below w.heap.size w U) => HR.out U hu)
          obtain ⟨V, hV⟩ : ∃ V, (c :: l).all (blockB (c :: l)) = V := ⟨_, rfl⟩
          rw [hV] at HR1 HV
          have HBB := Lib.hid hbb
          clear HE hv hat HR HS HL hP hV
          go_wp2_with fail
          cases hq : (P == p) with
          | false =>
            have HF := Lib.hid (show funcB ⟨s, b, p, c :: l⟩ = false by rw [HV.out, hq]; rfl)
            go_quiet (fail)
            go_wp2_with fail
            go_ret
            exact ⟨by rw [HF.out]; rfl, bthen HB.out (drewN_below' _ nq)⟩
          | true =>
            have HF := Lib.hid (show funcB ⟨s, b, p, c :: l⟩ = V by rw [HV.out, hq]; rfl)
            have hu : undef = Value.tuple #[] := rfl
            have hd : W.drew.cell? ⟨w.heap.size, 0, none⟩ = some (.string s) ∧ W.drew.cell? ⟨w.heap.size, 1, none⟩ = some (.int .i64 b) ∧ W.drew.cell? ⟨w.heap.size, 2, none⟩ = some (.int .i64 p) ∧ W.drew.cell? ⟨w.heap.size, 3, none⟩ = some (.slice (some ⟨bb, off, none⟩) nl ca) ∧ W.drew.cell? ⟨bb, off, none⟩ = some (.int .i64 P) ∧ Below w.heap.size w W.drew := ⟨c0, c1, c2, c3, d0, HB.out.drew⟩
            go_region_held3 (fun W' => W'.cell? ⟨w.heap.size, 0, none⟩ = some (.string s) ∧ W'.cell? ⟨w.heap.size, 1, none⟩ = some (.int .i64 b) ∧ W'.cell? ⟨w.heap.size, 2, none⟩ = some (.int .i64 p) ∧ W'.cell? ⟨w.heap.size, 3, none⟩ = some (.slice (some ⟨bb, off, none⟩) nl ca) ∧ W'.cell? ⟨bb, off, none⟩ = some (.int .i64 P) ∧ Below w.heap.size w W') (first | assumption | exact hd | exact fbox_next (by assumption) (by assumption))
              (first
                | (go_at_call 72; refine Calls.mono (HR1.out _ (fbox_below (by assumption))) ?_; rintro r w2 ⟨rfl, hb2⟩))
            all_goals
              go_wp2_with fail
              go_ret
              exact ⟨by rw [HF.out]; rfl, fbox_below (by assumption)⟩
end Go.Proofs.Ytjldddpchiaalaa
namespace Go.Proofs.Ytjldddpchiaalaa
open Go.RowKit
set_option maxRecDepth 100000 in
set_option maxHeartbeats 4000000 in
theorem rightGlob_any (s : ByteArray) (b : Int) (h : Bool) (i : Int) (w : World) (hs : s.size < 9223372036854775808) :
    Calls Try.prog 48 #[.agg #[.string s, .int .i64 b, .bool h, .int .u64 i]] w fun e w' => e = .returned (.bool (globB ⟨s, b, h, i⟩)) ∧ Below w.heap.size w w' := by
  have HN := Lib.hid (fun W : World => mayName_any s W hs)
  rw [show (decide (1 ≤ (s.size : Int)) && decide ((s.size : Int) ≤ 16)) = nameB s from rfl] at HN
  have HE := Lib.hid (show globB ⟨s, b, h, i⟩ = (nameB s && (decide (1 ≤ b) && decide (b ≤ 3)) && (h || (i == 0 && !(b == 1)))) from rfl)
  go_enter Try.func48, Try.ntmps48
  go_wp2_with fail
  refine (HN.out _).mono ?_
  rintro r w1 ⟨rfl, rfl⟩
  cases hn : nameB s with
  | false =>
    have HV := Lib.hid (show globB ⟨s, b, h, i⟩ = false by rw [HE.out, hn]; rfl)
    clear HE hn
    go_wp2_with fail
    go_ret
    exact ⟨by rw [HV.out]; rfl, balloc (Below.refl _ w) _⟩
  | true =>
    rw [hn] at HE
    clear hn
    go_wp2_with fail
    refine (mayBind_any b _).mono ?_
    rintro r w1 ⟨rfl, rfl⟩
    cases hb : (decide (1 ≤ b) && decide (b ≤ 3)) with
    | false =>
      have HV := Lib.hid (show globB ⟨s, b, h, i⟩ = false by rw [HE.out, hb]; rfl)
      clear HE hb
      go_wp2_with fail
      go_ret
      exact ⟨by rw [HV.out]; rfl, balloc (Below.refl _ w) _⟩
    | true =>
      rw [hb] at HE
      clear hb
      cases h with
      | true =>
        have HV := Lib.hid (show globB ⟨s, b, true, i⟩ = true by rw [HE.out]; rfl)
        clear HE
        go_wp2_with fail
        go_ret
        exact ⟨by rw [HV.out]; rfl, balloc (Below.refl _ w) _⟩
      | false =>
        cases hi : (i == 0) with
        | false =>
          have HV := Lib.hid (show globB ⟨s, b, false, i⟩ = false by rw [HE.out, hi]; rfl)
          clear HE
          go_wp2_with fail
          go_ret
          exact ⟨by rw [HV.out]; rfl, balloc (Below.refl _ w) _⟩
        | true =>
          have HV := Lib.hid (show globB ⟨s, b, false, i⟩ = !(b == 1) by rw [HE.out, hi]; rfl)
          clear HE
          go_wp2_with fail
          go_ret
          exact ⟨by rw [HV.out]; rfl, balloc (Below.refl _ w) _⟩
/-- a module in memory -/
def MdAt (W : World) (vf vg : Value) (m : Md) : Prop := Funcs W vf m.f ∧ Globs W vg m.g
def MdOk (m : Md) : Prop := (∀ f ∈ m.f, FnOk f) ∧ (∀ g ∈ m.g, GlOk g) ∧ m.f.length ≤ 9223372036854775807 ∧ m.g.length ≤ 9223372036854775807
theorem MdAt.next {W W' : World} {vf vg : Value} {m : Md} (h : MdAt W vf vg m) (hb : Below W.heap.size W W') : MdAt W' vf vg m := ⟨h.1.next hb, h.2.next hb⟩
set_option maxRecDepth 100000 in
set_option maxHeartbeats 4000000 in
theorem rightAlone_any (m : Md) (F G : Option Addr) (nf cf ng cg : Nat) (w : World) (hok : MdOk m) (hnf : m.f.length = nf) (hng : m.g.length = ng) (hS : MdAt w (.slice F nf cf) (.slice G ng cg) m) :
    Calls Try.prog 29 #[.agg #[.slice F nf cf, .slice G ng cg]] w fun e w' => e = .returned (.bool (aloneB m)) ∧ Below w.heap.size w w' := by
  have HS := Lib.hid hS
  have HOK := Lib.hid hok
  have HNF := Lib.hid (show m.f.length ≤ nf ∧ nf ≤ m.f.length by omega)
  have HNG := Lib.hid (show m.g.length ≤ ng ∧ ng ≤ m.g.length by omega)
  have f9 : (nf : Int) ≤ 9223372036854775807 := by have := hok.2.2.1; omega
  have g9 : (ng : Int) ≤ 9223372036854775807 := by have := hok.2.2.2; omega
  clear hS hok hnf hng
  go_enter Try.func29, Try.ntmps29
  go_wp2_with fail
  have HIN := Lib.hid (heap_alloc_new w (.cells #[.slice F nf cf, .slice G ng cg] 25))
  have HBW := Lib.hid (balloc (Below.refl _ w) (.cells #[.slice F nf cf, .slice G ng cg] 25))
  generalize w.alloc (.cells #[.slice F nf cf, .slice G ng cg] 25) = W0 at *
  go_loopw [10] (fun iv wr => ∃ i : Nat, i ≤ nf ∧ iv = .int .i64 i ∧ (m.f.take i).all funcB = true ∧ wr.heap[w.heap.size]? = some (.cells #[.slice F nf cf, .slice G ng cg] 25 (0, 0)) ∧ Below w.heap.size w wr) (fun iv _ => nf - (intOf iv).toNat)
  case atStart => exact ⟨0, Nat.zero_le _, rfl, rfl, HIN.out, HBW.out⟩
  case round =>
    obtain ⟨i, hi, rfl, hs, hin, hb⟩ := hrel
    have HT := Lib.hid hs
    have HI := Lib.hid hin
    have HB := Lib.hid hb
    clear hs hin hb HIN HBW
    by_cases hlt : i < nf
    · have hm : i < m.f.length := by have := HNF.out; omega
      obtain ⟨b, off, hA, hbl, e0⟩ := RowOf.at_ HS.out.1 hm
      subst hA
      obtain ⟨c0, c1, c2, A, cc, c3, hbk⟩ := FnAt.next _ _ _ _ _ hbl HB.out e0
      have HFN := Lib.hid (fun (W : World) (hu : Below wr.heap.size wr W) => func_any m.f[i] A cc W (HOK.out.1 _ (List.getElem_mem hm)) (hbk.next hu))
      have HNX := Lib.hid (show (m.f.take (i + 1)).all funcB = funcB m.f[i] by
        rw [List.take_succ_eq_append_getElem hm, List.all_append, HT.out]
        simp)
      have HNO := Lib.hid (show funcB m.f[i] = false → aloneB m = false from fun h => by
        unfold aloneB
        rw [show m.f.all funcB = false from by rw [List.all_eq_false]; exact ⟨m.f[i], List.getElem_mem hm, by simp [h]⟩]
        rfl)
      obtain ⟨X, hX⟩ : ∃ x, funcB m.f[i] = x := ⟨_, rfl⟩
      obtain ⟨x0, h0⟩ : ∃ x, m.f[i].s = x := ⟨_, rfl⟩
      obtain ⟨x1, h1⟩ : ∃ x, m.f[i].b = x := ⟨_, rfl⟩
      obtain ⟨x2, h2⟩ : ∃ x, m.f[i].p = x := ⟨_, rfl⟩
      obtain ⟨x3, h3⟩ : ∃ x, m.f[i].l.length = x := ⟨_, rfl⟩
      rw [hX, h0, h1, h2, h3] at HFN
      rw [hX] at HNX HNO
      rw [h0] at c0
      rw [h1] at c1
      rw [h2] at c2
      rw [h3] at c3
      have hk0 : (0 : Int) ≤ (i : Int) := Int.natCast_nonneg _
      have hk1 : (i : Int) < (nf : Int) := by omega
      have HLT := Lib.hid hlt
      clear hX h0 h1 h2 h3 hm hlt hbk e0
      go_wp2_with fail
      have hbx := balloc (Below.refl _ wr) (.cells #[.string x0, .int .i64 x1, .int .i64 x2, .slice A x3 cc] 60)
      refine (HFN.out _ hbx).mono ?_
      rintro r w2 ⟨rfl, hb2⟩
      have HB2 := Lib.hid (bthen HB.out (bthen hbx hb2))
      have HI2 := Lib.hid (((bthen hbx hb2).block _ (Array.getElem?_eq_some_iff.1 HI.out).1).trans HI.out)
      clear hbx hb2 c0 c1 c2 c3
      cases X with
      | false =>
        have HV := Lib.hid (HNO.out rfl)
        go_wp2_with fail
        go_ret
        exact ⟨by rw [HV.out]; rfl, HB2.out⟩
      | true =>
        go_wp2_with fail
        go_roundw
        case rel => exact ⟨i + 1, HLT.out, by go_num, HNX.out, HI2.out, HB2.out⟩
        case measure => have := HLT.out; simp [intOf]; omega
    · have hd : decide ((i : Int) < (nf : Int)) = false := by simp; omega
      have HF := Lib.hid (show m.f.all funcB = true by
        have h := HT.out
        rwa [List.take_of_length_le (by have := HNF.out; omega)] at h)
      have c1 := Lib.cell_of_heap HI.out 1
      simp only [List.getElem?_toArray, List.getElem?_cons_zero, List.getElem?_cons_succ] at c1
      go_wp2_with fail
      clear c1
      go_loopw [21] (fun iv wr => ∃ i : Nat, i ≤ ng ∧ iv = .int .i64 i ∧ (m.g.take i).all globB = true ∧ Below w.heap.size w wr) (fun iv _ => ng - (intOf iv).toNat)
      case atStart => exact ⟨0, Nat.zero_le _, rfl, rfl, HB.out⟩
      case round =>
        obtain ⟨j, hj, rfl, hs, hb⟩ := hrel
        have HT2 := Lib.hid hs
        have HB2 := Lib.hid hb
        clear hs hb
        by_cases hlt2 : j < ng
        · have hm : j < m.g.length := by have := HNG.out; omega
          obtain ⟨b, off, hA, hbl, e0⟩ := RowOf.at_ HS.out.2 hm
          subst hA
          obtain ⟨c0, c1, c2, c3⟩ := GlAt.next _ _ _ _ _ hbl HB2.out e0
          have HGL := Lib.hid (fun (W : World) => rightGlob_any m.g[j].s m.g[j].b m.g[j].h m.g[j].i W (HOK.out.2.1 _ (List.getElem_mem hm)))
          rw [show (⟨m.g[j].s, m.g[j].b, m.g[j].h, m.g[j].i⟩ : Gl) = m.g[j] from rfl] at HGL
          have HNX := Lib.hid (show (m.g.take (j + 1)).all globB = globB m.g[j] by
            rw [List.take_succ_eq_append_getElem hm, List.all_append, HT2.out]
            simp)
          have HNO := Lib.hid (show globB m.g[j] = false → aloneB m = false from fun h => by
            unfold aloneB
            rw [show m.g.all globB = false from by rw [List.all_eq_false]; exact ⟨m.g[j], List.getElem_mem hm, by simp [h]⟩]
            simp)
          obtain ⟨X, hX⟩ : ∃ x, globB m.g[j] = x := ⟨_, rfl⟩
          obtain ⟨x0, h0⟩ : ∃ x, m.g[j].s = x := ⟨_, rfl⟩
          obtain ⟨x1, h1⟩ : ∃ x, m.g[j].b = x := ⟨_, rfl⟩
          obtain ⟨x2, h2⟩ : ∃ x, m.g[j].h = x := ⟨_, rfl⟩
          obtain ⟨x3, h3⟩ : ∃ x, m.g[j].i = x := ⟨_, rfl⟩
          rw [hX, h0, h1, h2, h3] at HGL
          rw [hX] at HNX HNO
          rw [h0] at c0
          rw [h1] at c1
          rw [h2] at c2
          rw [h3] at c3
          have hk0 : (0 : Int) ≤ (j : Int) := Int.natCast_nonneg _
          have hk1 : (j : Int) < (ng : Int) := by omega
          have HLT := Lib.hid hlt2
          clear hX h0 h1 h2 h3 hm hlt2 e0
          go_wp2_with fail
          have hbx := balloc (Below.refl _ wr) (.cells #[.string x0, .int .i64 x1, .bool x2, .int .u64 x3] 62)
          refine (HGL.out _).mono ?_
          rintro r w2 ⟨rfl, hb2⟩
          have HB3 := Lib.hid (bthen HB2.out (bthen hbx hb2))
          clear hbx hb2 c0 c1 c2 c3
          cases X with
          | false =>
            have HV := Lib.hid (HNO.out rfl)
            go_wp2_with fail
            go_ret
            exact ⟨by rw [HV.out]; rfl, HB3.out⟩
          | true =>
            go_wp2_with fail
            go_roundw
            case rel => exact ⟨j + 1, HLT.out, by go_num, HNX.out, HB3.out⟩
            case measure => have := HLT.out; simp [intOf]; omega
        · have hd : decide ((j : Int) < (ng : Int)) = false := by simp; omega
          have HG := Lib.hid (show m.g.all globB = true by
            have h := HT2.out
            rwa [List.take_of_length_le (by have := HNG.out; omega)] at h)
          have HV := Lib.hid (show aloneB m = true by unfold aloneB; rw [HF.out, HG.out]; rfl)
          go_wp2_with fail
          go_ret
          exact ⟨by rw [HV.out]; rfl, HB2.out⟩
end Go.Proofs.Ytjldddpchiaalaa
namespace Go.Proofs.Ytjldddpchiaalaa
open Go.RowKit
def slit (s : ByteArray) : Lit := .string s.data.toList
theorem slit_inj {s t : ByteArray} (h : slit s = slit t) : s = t := by
  obtain ⟨s⟩ := s
  obtain ⟨t⟩ := t
  congr 1
  exact Array.toList_inj.1 (Lit.string.inj h)
theorem slit_key (s : ByteArray) : WideAt.IsKeyLit (slit s) := trivial
/-- what a name names -/
def thD (x : Bool × Int) : DataW Unit := .agg [.lit (.bool x.1), .lit (.int .i64 x.2)]
def thV (x : Bool × Int) : Value := .agg #[.bool x.1, .int .i64 x.2]
def thR : Value → Option (DataW Unit × List MemPlace)
  | .agg cs => match cs.toList with
    | [.bool b, .int .i64 p] => some (thD (b, p), [])
    | _ => none
  | _ => none
theorem thR_of (x : Bool × Int) : thR (thV x) = some (thD x, []) := rfl
theorem thR_inv {v : Value} {x : Bool × Int} {ps : List MemPlace} (h : thR v = some (thD x, ps)) : v = thV x := by
  unfold thR at h
  split at h
  · rename_i cs
    split at h
    · rename_i b p e
      simp only [Option.some.injEq, Prod.mk.injEq, thD, DataW.agg.injEq, List.cons.injEq, DataW.lit.injEq, Lit.int.injEq, Lit.bool.injEq, true_and, and_true] at h
      obtain ⟨⟨h1, h2⟩, -⟩ := h
      obtain ⟨xa, xp⟩ := x
      simp only at h1 h2
      subst h1; subst h2
      obtain ⟨cs⟩ := cs
      simp only at e
      subst e
      rfl
    · cases h
  · cases h
noncomputable def mapD (l : List (ByteArray × Bool × Int)) : DataW Unit := l.foldl (fun m x => m.put (slit x.1) (thD x.2)) (.map [])
theorem mapD_snoc (l : List (ByteArray × Bool × Int)) (x : ByteArray × Bool × Int) : mapD (l ++ [x]) = (mapD l).put (slit x.1) (thD x.2) := by simp [mapD]
theorem mapD_rev : ∀ (r : List (ByteArray × Bool × Int)), Maps.Tidy (mapD r.reverse) ∧ (∀ s, Maps.has (mapD r.reverse) (slit s) = true ↔ ∃ x ∈ r, x.1 = s) ∧ Maps.size (mapD r.reverse) ≤ r.length ∧ (Maps.size (mapD r.reverse) = r.length ↔ (r.map (·.1)).Nodup) ∧
    ((r.map (·.1)).Nodup → ∀ x ∈ r, ∀ z, (mapD r.reverse).atKey (slit x.1) z = thD x.2)
  | [] => ⟨Maps.tidy_empty, fun s => by simp [mapD, Maps.has_eq], Nat.le_refl _, by simp [mapD, Maps.size_eq], fun _ x hx => by simp at hx⟩
  | x :: r => by
    obtain ⟨h1, h2, h3, h4, h5⟩ := mapD_rev r
    rw [List.reverse_cons, mapD_snoc]
    have hz : Maps.size ((mapD r.reverse).put (slit x.1) (thD x.2)) = if Maps.has (mapD r.reverse) (slit x.1) then Maps.size (mapD r.reverse) else Maps.size (mapD r.reverse) + 1 := Maps.size_put h1 _
    refine ⟨h1.put (slit_key _) _, fun s => ?_, ?_, ?_, fun hn y hy z => ?_⟩
    · by_cases hs : x.1 = s
      · subst hs
        rw [Maps.has_put_same h1.isMap (slit_key _)]
        simp
      · rw [Maps.has_put_other (fun e => hs (slit_inj e).symm), h2]
        simp [hs]
    · rw [hz, List.length_cons]
      split <;> omega
    · rw [hz, List.length_cons, List.map_cons, List.nodup_cons]
      by_cases hh : Maps.has (mapD r.reverse) (slit x.1) = true
      · rw [if_pos hh]
        obtain ⟨y, hy, e⟩ := (h2 x.1).1 hh
        constructor
        · intro h; omega
        · intro h
          exact absurd (List.mem_map.2 ⟨y, hy, e⟩) h.1
      · rw [if_neg hh]
        have hx : x.1 ∉ r.map (·.1) := fun h => by
          obtain ⟨y, hy, e⟩ := List.mem_map.1 h
          exact hh ((h2 x.1).2 ⟨y, hy, e⟩)
        constructor
        · intro h
          exact ⟨hx, h4.1 (by omega)⟩
        · intro h
          have := h4.2 h.2
          omega
    · rw [List.map_cons, List.nodup_cons] at hn
      rcases List.mem_cons.1 hy with rfl | hy
      · exact Maps.atKey_put_same h1.isMap (slit_key _) _ _
      · rw [Maps.atKey_put_other, h5 hn.2 y hy]
        intro e
        exact hn.1 (by rw [← slit_inj e]; exact List.mem_map_of_mem hy)
theorem mapD_facts (l : List (ByteArray × Bool × Int)) : (∀ s, Maps.has (mapD l) (slit s) = true ↔ ∃ x ∈ l, x.1 = s) ∧ Maps.size (mapD l) ≤ l.length ∧ (Maps.size (mapD l) = l.length ↔ (l.map (·.1)).Nodup) ∧
    ((l.map (·.1)).Nodup → ∀ x ∈ l, ∀ z, (mapD l).atKey (slit x.1) z = thD x.2) := by
  obtain ⟨-, h2, h3, h4, h5⟩ := mapD_rev l.reverse
  rw [List.reverse_reverse] at h2 h3 h4 h5
  rw [List.length_reverse] at h3 h4
  have hn : (l.reverse.map (·.1)).Nodup ↔ (l.map (·.1)).Nodup := by rw [List.map_reverse]; exact (List.reverse_perm _).nodup_iff
  exact ⟨fun s => by rw [h2]; simp, h3, by rw [h4, hn], fun h x hx z => h5 (hn.2 h) x (by simpa using hx) z⟩
/-- the names of a module, each with what it names -/
def entF (f : Fn) : ByteArray × Bool × Int := (f.s, true, f.p)
def entG (g : Gl) : ByteArray × Bool × Int := (g.s, false, 0)
def entM (m : Md) : List (ByteArray × Bool × Int) := m.f.map entF ++ m.g.map entG
theorem entM_names (m : Md) : (entM m).map (·.1) = namesM m := by
  simp [entM, namesM, entF, entG, Function.comp_def]
theorem skeyed : Maps.Keyed Try.prog 9 := Maps.string_keyed Try.underlying9
theorem skey_of {s : ByteArray} (h : s.size < 9223372036854775808) : keyOf Try.prog 9 (.string s) = some (slit s) := WideMaps.keyOf_string_mk Try.underlying9 (by unfold maxLen; omega)
/-- what named answers -/
def NamedPost (m : Md) (w : World) (e : Ending) (w' : World) : Prop :=
  Below w.heap.size w w' ∧ (((namesM m).Nodup ∧ ∃ b n, e = .returned (.tuple #[.map (some b), .int .i64 0]) ∧ w.heap.size ≤ b ∧ w'.ownsMap Try.prog 9 thR b n (mapD (entM m))) ∨ (¬ (namesM m).Nodup ∧ e = .returned (.tuple #[.map none, .int .i64 9])))
theorem below_turned {n b : Nat} {A B W : World} (h : Below n A B) (hg : B.grownBy W (some b)) (hb : n ≤ b) (hn : n ≤ B.heap.size) : Below n A W :=
  h.trans ⟨hg.os, hg.tape, hg.output, hg.size, fun k hk => hg.block k (Nat.lt_of_lt_of_le hk hn) (fun e => by cases e; omega)⟩
set_option maxRecDepth 100000 in
set_option maxHeartbeats 4000000 in
theorem named_any (m : Md) (F G : Option Addr) (nf cf ng cg : Nat) (w : World) (hok : MdOk m) (hnf : m.f.length = nf) (hng : m.g.length = ng) (h16 : nf ≤ 1000000) (g16 : ng ≤ 1000000) (hS : MdAt w (.slice F nf cf) (.slice G ng cg) m) :
    Calls Try.prog 30 #[.agg #[.slice F nf cf, .slice G ng cg]] w (NamedPost m w) := by
  have HS := Lib.hid hS
  have HOK := Lib.hid hok
  have HNF := Lib.hid (show m.f.length ≤ nf ∧ nf ≤ m.f.length by omega)
  have HNG := Lib.hid (show m.g.length ≤ ng ∧ ng ≤ m.g.length by omega)
  have f9 : (nf : Int) ≤ 1000000 := by omega
  have g9 : (ng : Int) ≤ 1000000 := by omega
  clear hS hok hnf hng h16 g16
  have hmm := @run_makeMap Try.prog
  go_enter Try.func30, Try.ntmps30
  go_wp2_with fail
  clear hmm
  have HIN := Lib.hid (((balloc (Below.refl _ _) (.map #[] 0)).block w.heap.size (by simp)).trans (heap_alloc_new w (.cells #[.slice F nf cf, .slice G ng cg] 25)))
  have HOM := Lib.hid (World.ownsMap_made (w.alloc (.cells #[.slice F nf cf, .slice G ng cg] 25)) Try.prog 9 thR)
  have HBW := Lib.hid (balloc (balloc (Below.refl _ w) (.cells #[.slice F nf cf, .slice G ng cg] 25)) (.map #[] 0))
  rw [World.size_alloc] at HOM
  generalize (w.alloc (.cells #[.slice F nf cf, .slice G ng cg] 25)).alloc (.map #[] 0) = W0 at *
  go_loopw [13] (fun iv wr => ∃ i : Nat, i ≤ nf ∧ iv = .int .i64 i ∧ wr.ownsMap Try.prog 9 thR (w.heap.size + 1) i (mapD ((m.f.take i).map entF)) ∧ wr.heap[w.heap.size]? = some (.cells #[.slice F nf cf, .slice G ng cg] 25 (0, 0)) ∧ Below w.heap.size w wr) (fun iv _ => nf - (intOf iv).toNat)
  case atStart => exact ⟨0, Nat.zero_le _, rfl, HOM.out, HIN.out, HBW.out⟩
  case round =>
    obtain ⟨i, hi, rfl, hm, hin, hb⟩ := hrel
    have HM := Lib.hid hm
    have HI := Lib.hid hin
    have HB := Lib.hid hb
    clear hm hin hb HIN HBW HOM
    by_cases hlt : i < nf
    · have hmf : i < m.f.length := by have := HNF.out; omega
      obtain ⟨b, off, hA, hbl, e0⟩ := RowOf.at_ HS.out.1 hmf
      subst hA
      obtain ⟨c0, c1, c2, A, cc, c3, -⟩ := FnAt.next _ _ _ _ _ hbl HB.out e0
      have HNX := Lib.hid (show (m.f.take (i + 1)).map entF = (m.f.take i).map entF ++ [(m.f[i].s, true, m.f[i].p)] by
        rw [List.take_succ_eq_append_getElem hmf, List.map_append]
        rfl)
      have HKY := Lib.hid (skey_of (HOK.out.1 _ (List.getElem_mem hmf)).1)
      obtain ⟨x0, h0⟩ : ∃ x, m.f[i].s = x := ⟨_, rfl⟩
      obtain ⟨x1, h1⟩ : ∃ x, m.f[i].b = x := ⟨_, rfl⟩
      obtain ⟨x2, h2⟩ : ∃ x, m.f[i].p = x := ⟨_, rfl⟩
      obtain ⟨x3, h3⟩ : ∃ x, m.f[i].l.length = x := ⟨_, rfl⟩
      rw [h0] at c0 HNX HKY
      rw [h1] at c1
      rw [h2] at c2 HNX
      rw [h3] at c3
      have hk0 : (0 : Int) ≤ (i : Int) := Int.natCast_nonneg _
      have hk1 : (i : Int) < (nf : Int) := by omega
      have HLT := Lib.hid hlt
      have HML := Lib.hid (show i < maxLen by unfold maxLen; omega)
      have HM1 := Lib.hid (HM.out.alloc (.cells #[.string x0, .int .i64 x1, .int .i64 x2, .slice A x3 cc] 60))
      have HB1 := Lib.hid (bthen HB.out (balloc (Below.refl _ wr) (.cells #[.string x0, .int .i64 x1, .int .i64 x2, .slice A x3 cc] 60)))
      have HI1 := Lib.hid (((balloc (Below.refl _ wr) (.cells #[.string x0, .int .i64 x1, .int .i64 x2, .slice A x3 cc] 60)).block _ (Array.getElem?_eq_some_iff.1 HI.out).1).trans HI.out)
      clear h0 h1 h2 h3 hmf hlt e0
      go_wp2_with (at_mapUpdate; refine wpList_mapUpdate_own _ rfl _ _ _ 79 rfl 9 107 skeyed Try.underlying79 _ (w.heap.size + 1) i _ rfl HM1.out HML.out _ _ _ rfl rfl HKY.out _ [] (thR_of (true, x2)) ?_; intro w3 hm3 hg3)
      have HM3 := Lib.hid (show w3.ownsMap Try.prog 9 thR (w.heap.size + 1) (i + 1) (mapD ((m.f.take (i + 1)).map entF)) by rw [HNX.out, mapD_snoc]; exact hm3)
      have HI3 := Lib.hid ((hg3.block _ (Array.getElem?_eq_some_iff.1 HI1.out).1 (by simp)).trans HI1.out)
      have HB3 := Lib.hid (below_turned HB1.out hg3 (Nat.le_succ _) HB1.out.size)
      clear hm3 hg3 c0 c1 c2 c3
      go_wp2_with fail
      go_roundw
      case rel => exact ⟨i + 1, HLT.out, by go_num, HM3.out, HI3.out, HB3.out⟩
      case measure => have := HLT.out; simp [intOf]; omega
    · have hd : decide ((i : Int) < (nf : Int)) = false := by simp; omega
      have HF := Lib.hid (show wr.ownsMap Try.prog 9 thR (w.heap.size + 1) (nf + 0) (mapD (m.f.map entF ++ (m.g.take 0).map entG)) by
        have h := HM.out
        rw [List.take_of_length_le (by have := HNF.out; omega)] at h
        simp only [List.take_zero, List.map_nil, List.append_nil]
        exact h.mono (by omega))
      have c1 := Lib.cell_of_heap HI.out 1
      simp only [List.getElem?_toArray, List.getElem?_cons_zero, List.getElem?_cons_succ] at c1
      go_wp2_with fail
      clear c1
      go_loopw [27] (fun iv wr => ∃ j : Nat, j ≤ ng ∧ iv = .int .i64 j ∧ wr.ownsMap Try.prog 9 thR (w.heap.size + 1) (nf + j) (mapD (m.f.map entF ++ (m.g.take j).map entG)) ∧ wr.heap[w.heap.size]? = some (.cells #[.slice F nf cf, .slice G ng cg] 25 (0, 0)) ∧ Below w.heap.size w wr) (fun iv _ => ng - (intOf iv).toNat)
      case atStart => exact ⟨0, Nat.zero_le _, rfl, HF.out, HI.out, HB.out⟩
      case round =>
        obtain ⟨j, hj, rfl, hm, hin, hb⟩ := hrel
        have HM2 := Lib.hid hm
        have HI2 := Lib.hid hin
        have HB2 := Lib.hid hb
        clear hm hin hb
        by_cases hlt2 : j < ng
        · have hmg : j < m.g.length := by have := HNG.out; omega
          obtain ⟨b, off, hA, hbl, e0⟩ := RowOf.at_ HS.out.2 hmg
          subst hA
          obtain ⟨c0, c1, c2, c3⟩ := GlAt.next _ _ _ _ _ hbl HB2.out e0
          have HNX := Lib.hid (show m.f.map entF ++ (m.g.take (j + 1)).map entG = (m.f.map entF ++ (m.g.take j).map entG) ++ [(m.g[j].s, false, 0)] by
            rw [List.take_succ_eq_append_getElem hmg, List.map_append, List.append_assoc]
            rfl)
          have HKY := Lib.hid (skey_of (HOK.out.2.1 _ (List.getElem_mem hmg)))
          obtain ⟨x0, h0⟩ : ∃ x, m.g[j].s = x := ⟨_, rfl⟩
          obtain ⟨x1, h1⟩ : ∃ x, m.g[j].b = x := ⟨_, rfl⟩
          obtain ⟨x2, h2⟩ : ∃ x, m.g[j].h = x := ⟨_, rfl⟩
          obtain ⟨x3, h3⟩ : ∃ x, m.g[j].i = x := ⟨_, rfl⟩
          rw [h0] at c0 HNX HKY
          rw [h1] at c1
          rw [h2] at c2
          rw [h3] at c3
          have hk0 : (0 : Int) ≤ (j : Int) := Int.natCast_nonneg _
          have hk1 : (j : Int) < (ng : Int) := by omega
          have HLT := Lib.hid hlt2
          have HML := Lib.hid (show nf + j < maxLen by unfold maxLen; omega)
          have HM1 := Lib.hid (HM2.out.alloc (.cells #[.string x0, .int .i64 x1, .bool x2, .int .u64 x3] 62))
          have HB1 := Lib.hid (bthen HB2.out (balloc (Below.refl _ wr) (.cells #[.string x0, .int .i64 x1, .bool x2, .int .u64 x3] 62)))
          have HI1 := Lib.hid (((balloc (Below.refl _ wr) (.cells #[.string x0, .int .i64 x1, .bool x2, .int .u64 x3] 62)).block _ (Array.getElem?_eq_some_iff.1 HI2.out).1).trans HI2.out)
          clear h0 h1 h2 h3 hmg hlt2 e0
          go_wp2_with (at_mapUpdate; refine wpList_mapUpdate_own _ rfl _ _ _ 79 rfl 9 107 skeyed Try.underlying79 _ (w.heap.size + 1) (nf + j) _ rfl HM1.out HML.out _ _ _ rfl rfl HKY.out _ [] (thR_of (false, 0)) ?_; intro w3 hm3 hg3)
          have HM3 := Lib.hid (show w3.ownsMap Try.prog 9 thR (w.heap.size + 1) (nf + (j + 1)) (mapD (m.f.map entF ++ (m.g.take (j + 1)).map entG)) by rw [HNX.out, mapD_snoc]; exact hm3)
          have HI3 := Lib.hid ((hg3.block _ (Array.getElem?_eq_some_iff.1 HI1.out).1 (by simp)).trans HI1.out)
          have HB3 := Lib.hid (below_turned HB1.out hg3 (Nat.le_succ _) HB1.out.size)
          clear hm3 hg3 c0 c1 c2 c3
          go_wp2_with fail
          go_roundw
          case rel => exact ⟨j + 1, HLT.out, by go_num, HM3.out, HI3.out, HB3.out⟩
          case measure => have := HLT.out; simp [intOf]; omega
        · have hd : decide ((j : Int) < (ng : Int)) = false := by simp; omega
          have HG := Lib.hid (show wr.ownsMap Try.prog 9 thR (w.heap.size + 1) (nf + j) (mapD (entM m)) by
            have h := HM2.out
            rwa [List.take_of_length_le (by have := HNG.out; omega)] at h)
          obtain ⟨-, z1, z2, -⟩ := mapD_facts (entM m)
          have el : (entM m).length = nf + ng := by
            have h1 := HNF.out
            have h2 := HNG.out
            simp only [entM, List.length_append, List.length_map]
            omega
          rw [el] at z1 z2
          rw [entM_names] at z2
          have c0 := Lib.cell_of_heap HI2.out 0
          have c1 := Lib.cell_of_heap HI2.out 1
          simp only [List.getElem?_toArray, List.getElem?_cons_zero, List.getElem?_cons_succ] at c0 c1
          obtain ⟨Z, hZ⟩ : ∃ z, Maps.size (mapD (entM m)) = z := ⟨_, rfl⟩
          have hlen : (Builtin.len_ #[79] 3 #[.map (some (w.heap.size + 1))]).run Try.prog wr = .ok (.int .i64 Z) wr := by
            rw [← hZ]
            exact HG.out.len Try.underlying79 _
          rw [hZ] at z1 z2
          have ew : wrap64 ((nf : Int) + (ng : Int)) = (nf : Int) + (ng : Int) := by unfold wrap64; omega
          by_cases hn : (namesM m).Nodup
          · have ez := z2.2 hn
            have ed : decide ((Z : Int) < (nf : Int) + (ng : Int)) = false := decide_eq_false (by omega)
            have HN := Lib.hid hn
            clear z1 z2 hn el hZ ez
            go_wp2_with fail
            go_ret2
            exact ⟨HB2.out, .inl ⟨HN.out, _, _, rfl, Nat.le_succ _, HG.out⟩⟩
          · have hne : Z ≠ nf + ng := fun e => hn (z2.1 e)
            have ed : decide ((Z : Int) < (nf : Int) + (ng : Int)) = true := decide_eq_true (by omega)
            have HN := Lib.hid hn
            clear z1 z2 hn el hZ hne
            go_wp2_with fail
            go_ret2
            exact ⟨HB2.out, .inr ⟨HN.out, rfl⟩⟩
end Go.Proofs.Ytjldddpchiaalaa
namespace Go.Proofs.Ytjldddpchiaalaa
open Go.RowKit Go.Shelf Go.Maps
attribute [local go_sem] Oper.semAt_some
/-- what a name names, if anything -/
def lookO (m : Md) (s : ByteArray) : Option (Bool × Int) := match m.f.find? (fun f => f.s == s) with | some f => some (true, f.p) | none => if m.g.any (fun g => g.s == s) = true then some (false, 0) else none
theorem look_map (m : Md) (hn : (namesM m).Nodup) (s : ByteArray) : Maps.has (mapD (entM m)) (slit s) = (lookO m s).isSome ∧ (mapD (entM m)).atKey (slit s) (thD (false, 0)) = thD ((lookO m s).getD (false, 0)) ∧
    (∀ i : In, i.s = s → hasB i.o = true → noneI m i = (!(lookO m s).isSome || ((lookO m s).getD (false, 0)).1 != (i.o == 14))) ∧
    (∀ i : In, i.s = s → hasB i.o = true → noneI m i = false → oddI m i = (((lookO m s).getD (false, 0)).1 && ((lookO m s).getD (false, 0)).2 != (i.l.length : Int))) := by
  obtain ⟨h1, -, -, h4⟩ := mapD_facts (entM m)
  have h4 := h4 (by rw [entM_names]; exact hn)
  have hno : ∀ (i : In), hasB i.o = true → (i.o == 14) = true ∨ ((i.o == 14) = false ∧ (i.o == 12 || i.o == 13) = true) := fun i h => by
    cases h14 : i.o == 14 with
    | true => exact .inl rfl
    | false =>
      refine .inr ⟨rfl, ?_⟩
      unfold hasB at h
      rw [h14] at h
      simpa using h
  unfold lookO
  cases hf : m.f.find? (fun f => f.s == s) with
  | some f =>
    have hfs : f.s = s := by
      have := List.find?_some hf
      exact (jba_beq _ _).1 this
    have hfm := List.mem_of_find?_eq_some hf
    have hany : m.f.any (fun f => f.s == s) = true := List.any_eq_true.2 ⟨f, hfm, by rw [hfs]; exact jba_refl s⟩
    have hg : m.g.any (fun g => g.s == s) = false := by
      cases h : m.g.any (fun g => g.s == s) with
      | false => rfl
      | true =>
        obtain ⟨g, hgm, hgs⟩ := List.any_eq_true.1 h
        have hgs := (jba_beq _ _).1 hgs
        unfold namesM at hn
        exact absurd (hfs.trans hgs.symm) ((List.nodup_append.1 hn).2.2 _ (List.mem_map_of_mem hfm) _ (List.mem_map_of_mem hgm))
    refine ⟨?_, ?_, fun i hi hh => ?_, fun i hi hh _ => ?_⟩
    · exact (h1 s).2 ⟨entF f, by unfold entM; exact List.mem_append_left _ (List.mem_map_of_mem hfm), hfs⟩
    · have := h4 (entF f) (by unfold entM; exact List.mem_append_left _ (List.mem_map_of_mem hfm)) (thD (false, 0))
      unfold entF at this
      rw [hfs] at this
      exact this
    · subst hi
      unfold noneI
      rw [hany, hg]
      rcases hno i hh with h | ⟨h, h'⟩
      · have e : i.o = 14 := by simpa using h
        rw [e]; rfl
      · rw [h, h']; rfl
    · subst hi
      unfold oddI
      rw [hf]
      rcases hno i hh with h | ⟨h, h'⟩
      · rw [h]; simp [bne]
      · rename_i hz
        unfold noneI at hz
        rw [hg, h'] at hz
        simp at hz
  | none =>
    have hany : m.f.any (fun f => f.s == s) = false := by
      rw [List.any_eq_false]
      exact fun f hfm => by have := List.find?_eq_none.1 hf f hfm; simpa using this
    have hff : ∀ f ∈ m.f, f.s ≠ s := fun f hfm e => by
      have := List.find?_eq_none.1 hf f hfm
      rw [e] at this
      exact this (jba_refl s)
    cases hg : m.g.any (fun g => g.s == s) with
    | true =>
      obtain ⟨g, hgm, hgs⟩ := List.any_eq_true.1 hg
      have hgs := (jba_beq _ _).1 hgs
      refine ⟨?_, ?_, fun i hi hh => ?_, fun i hi hh hz => ?_⟩
      · exact (h1 s).2 ⟨entG g, by unfold entM; exact List.mem_append_right _ (List.mem_map_of_mem hgm), hgs⟩
      · have := h4 (entG g) (by unfold entM; exact List.mem_append_right _ (List.mem_map_of_mem hgm)) (thD (false, 0))
        unfold entG at this
        rw [hgs] at this
        exact this
      · subst hi
        unfold noneI
        rw [hany, hg]
        rcases hno i hh with h | ⟨h, h'⟩
        · rw [h]; simp
        · rw [h, h']; rfl
      · subst hi
        unfold oddI
        rw [hf]
        simp
    | false =>
      have hH : Maps.has (mapD (entM m)) (slit s) = false := by
        cases h : Maps.has (mapD (entM m)) (slit s) with
        | false => rfl
        | true =>
          obtain ⟨x, hx, e⟩ := (h1 s).1 h
          unfold entM at hx
          rcases List.mem_append.1 hx with hx | hx
          · obtain ⟨f, hfm, rfl⟩ := List.mem_map.1 hx
            exact absurd e (hff f hfm)
          · obtain ⟨g, hgm, rfl⟩ := List.mem_map.1 hx
            have := List.any_eq_false.1 hg g hgm
            rw [show g.s = s from e] at this
            exact absurd (jba_refl s) this
      refine ⟨hH, Maps.atKey_of_not_has hH _, fun i hi hh => ?_, fun i hi hh hz => ?_⟩
      · subst hi
        unfold noneI
        rw [hany, hg]
        rcases hno i hh with h | ⟨h, h'⟩
        · rw [h]; simp
        · rw [h, h']; simp
      · subst hi
        unfold oddI
        rw [hf]
        simp
/-- the marks of the loops that ended -/
def Marks (B : Nat) (W : World) : List Deferred → Prop
  | [] => True
  | d :: ds => (∃ D, d = { target := .collected D, args := #[] } ∧ B ≤ D ∧ W.heap[D]? = some (.deferred (some [])) ∧ ∀ d' ∈ ds, d'.target ≠ .collected D) ∧ Marks B W ds
theorem Marks.kept {B : Nat} {W W' : World} : ∀ {ds : List Deferred}, Marks B W ds → (∀ D, (∃ d ∈ ds, d.target = .collected D) → W.heap[D]? = some (.deferred (some [])) → W'.heap[D]? = some (.deferred (some []))) → Marks B W' ds
  | [], _, _ => trivial
  | d :: ds, ⟨⟨D, h1, h2, h3, h4⟩, h⟩, hk => ⟨⟨D, h1, h2, hk D ⟨d, by simp, by rw [h1]⟩ h3, h4⟩, h.kept fun D' ⟨d', hd', e⟩ => hk D' ⟨d', by simp [hd'], e⟩⟩
theorem Marks.lt {B : Nat} {W : World} : ∀ {ds : List Deferred}, Marks B W ds → ∀ d ∈ ds, ∃ D, d.target = .collected D ∧ D < W.heap.size
  | [], _, d, hd => by simp at hd
  | d0 :: ds, ⟨⟨D, h1, h2, h3, h4⟩, h⟩, d, hd => by
    rcases List.mem_cons.1 hd with rfl | hd
    · exact ⟨D, by rw [h1], (Array.getElem?_eq_some_iff.1 h3).1⟩
    · exact h.lt d hd
theorem leaves_marks {F : Fence} {n : Nat} {P : Program} {fn : Func} {tmps : Array Value} {R : Ending → World → Prop} {B : Nat} : ∀ (ds : List Deferred) (W : World), Marks B W ds → B ≤ W.heap.size →
    (∀ W', Below B W W' → (∀ (k : Nat) (cs : Array Value) (t : TypeId) (f : Nat × Nat), W.heap[k]? = some (Obj.cells cs t f) → W'.heap[k]? = some (Obj.cells cs t f)) → ∃ v, (results fn tmps).run P W' = .ok v W' ∧ R (.returned v) W') → LeavesInM F n P fn tmps R ds .returning W
  | [], W, _, _, h => h W (Below.refl _ _) (fun _ _ _ _ h => h)
  | d :: ds, W, ⟨⟨D, h1, h2, h3, h4⟩, hm⟩, hB, h => by
    have hg := grownBy_putObj' W D (.deferred none)
    refine ⟨by simp, .inl ⟨D, _, by rw [h1], run_takeDeferred h3, leaves_marks ds _ (hm.kept fun D' ⟨d', hd', e⟩ hD => ?_) (Nat.le_trans hB hg.size) fun W' hb hk => h W' ((below_grown hg hB (fun r e => by cases e; exact h2)).trans hb) (fun k cs t f hc => hk k cs t f ?_)⟩⟩
    · exact (hg.block D' (Array.getElem?_eq_some_iff.1 hD).1 (fun e' => h4 d' hd' (by rw [e]; cases e'; rfl))).trans hD
    · exact (hg.block k (Array.getElem?_eq_some_iff.1 hc).1 (fun e' => by cases e'; rw [h3] at hc; cases hc)).trans hc
/-- 'x, there := names[..]' -/
theorem wpListIn_lookup_th {F : Fence} {nF : Nat} {P : Program} (w : World) {ops : Array Oper} {rest : List Oper} {o : Oper} {a : Act} {Q : Exit → Act → World → Prop} (hg : o.guard = none) (m x : Operand) (t : TypeId) (hop : o.op = Op.lookup t m x true)
    (k e : TypeId) (K : Keyed P k) (ht : P.underlying t = some (.map k e)) (hz : (zeroValue e).run P w = .ok (.agg #[.bool false, .int .i64 0]) w) (b n : Nat) (D : DataW Unit)
    (hm : a.eval m = .map (some b)) (hown : w.ownsMap P k thR b n D) (key : Value) (kl : Lit) (hx : a.eval x = key) (hkey : keyOf P k key = some kl) (th xb : Bool) (xp : Int) (h1 : Maps.has D kl = th) (h2 : D.atKey kl (thD (false, 0)) = thD (xb, xp))
    (hK : wpListIn F nF P ops Q rest (a.put o.dst (.tuple #[.agg #[.bool xb, .int .i64 xp], .bool th])) w) :
    wpListIn F nF P ops Q (o :: rest) a w := by
  refine wpListIn_lookup_own_ok w hg m x t hop k e K ht thR hz (thD (false, 0)) [] (thR_of (false, 0)) b n D hm hown key kl hx hkey (fun v ps hv => ?_)
  rw [h2] at hv
  rw [thR_inv hv, h1]
  exact hK
/-- the error so far -/
def eOf (m : Md) (L : List In) : Int := if L.any (oddI m) = true then 1 else 0
def insT (m : Md) (k : Nat) : List In := ((m.f.take k).map insF).flatten
theorem insT_succ (m : Md) (k : Nat) (h : k < m.f.length) : insT m (k + 1) = insT m k ++ insF m.f[k] := by
  unfold insT
  rw [List.take_succ_eq_append_getElem h, List.map_append, List.flatten_append]
  simp
theorem insT_all (m : Md) (k : Nat) (h : m.f.length ≤ k) : insT m k = insM m := by
  unfold insT insM
  rw [List.take_of_length_le h]
theorem insT_pre (m : Md) (k : Nat) : insT m k <+: insM m := by
  unfold insT insM
  refine ⟨((m.f.drop k).map insF).flatten, ?_⟩
  rw [← List.flatten_append, ← List.map_append, List.take_append_drop]
theorem found_none {m : Md} {L : List In} (hp : L <+: insM m) (h : L.any (noneI m) = true) : foundE m = 8 := by
  unfold foundE
  rw [if_pos]
  obtain ⟨x, hx, h⟩ := List.any_eq_true.1 h
  exact List.any_eq_true.2 ⟨x, hp.subset hx, h⟩
theorem found_some {m : Md} (h : (insM m).any (noneI m) = false) : foundE m = eOf m (insM m) := by
  unfold foundE eOf
  rw [h]
  rfl
theorem eOf_snoc (m : Md) (L : List In) (i : In) : eOf m (L ++ [i]) = if oddI m i = true then 1 else eOf m L := by
  unfold eOf
  rw [List.any_append]
  cases L.any (oddI m) <;> cases h : oddI m i <;> simp [h]
theorem none_snoc (m : Md) (L : List In) (i : In) : (L ++ [i]).any (noneI m) = (L.any (noneI m) || noneI m i) := by simp
end Go.Proofs.Ytjldddpchiaalaa
