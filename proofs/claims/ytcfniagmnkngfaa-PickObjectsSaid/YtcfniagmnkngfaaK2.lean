/- Package ir: is all right that stands in a function's blocks? -/
import Derived.RangeFuncBox
import Derived.Test.YtcfniagmnkngfaaK1
import Derived.Test.YtcfniagmnkngfaaJ8
import Derived.Test.YtcfniagmnkngfaaJ5
import Derived.Test.YtcfniagmnkngfaaBA
namespace Go.Proofs.Ytcfniagmnkngfaa
open Go.RowKit Go.Shelf

attribute [local go_sem] Oper.semAt_some

/-- lengths that a machine can hold -/
def InOk (i : In) : Prop := i.s.size < 9223372036854775808 ∧ i.l.length ≤ 9223372036854775807
def BkOk (b : Bk) : Prop := b.i.length ≤ 9223372036854775807 ∧ b.e.l.length ≤ 9223372036854775807 ∧ b.e.m.length ≤ 9223372036854775807 ∧ ∀ i ∈ b.i, InOk i
def FnOk (f : Fn) : Prop := f.s.size < 9223372036854775808 ∧ f.l.length ≤ 9223372036854775807 ∧ ∀ b ∈ f.l, BkOk b
def GlOk (g : Gl) : Prop := g.s.size < 9223372036854775808
/-- all of a block but its instructions -/
def headB (all : List Bk) (b : Bk) : Bool := decide (0 ≤ b.p) && decide (b.p ≤ 6) && decide (b.i.length ≤ 32) && endB all (b.p + b.i.length) b.e
theorem blockB_head (all : List Bk) (b : Bk) : blockB all b = (headB all b && instsB b.p b.i) := rfl
theorem all_block (all l : List Bk) : l.all (blockB all) = (l.all (headB all) && l.all (fun b => instsB b.p b.i)) := by
  induction l with
  | nil => rfl
  | cons b l ih =>
    rw [List.all_cons, List.all_cons, List.all_cons, ih, blockB_head]
    cases headB all b <;> cases instsB b.p b.i <;> cases l.all (headB all) <;> rfl
theorem wrap_small {p : Int} {n : Nat} (h0 : 0 ≤ p) (h1 : p ≤ 6) (hn : n ≤ 9223372036854775000) : wrap64 (p + n) = p + n := by
  unfold wrap64
  omega
/-- all instructions are right, of blocks whose heads are -/
theorem all_insts {W : World} {v : Value} {all l : List Bk} {ts : List (List It)} (h : BlkIts W v l ts) (hh : l.all (headB all) = true) : l.all (fun b => instsB b.p b.i) = ts.flatten.all (fun x => instB x.n x.i) := by
  rw [List.all_flatten]
  have hk : ∀ (k : Nat) (h1 : k < l.length) (h2 : k < ts.length), instsB l[k].p l[k].i = ts[k].all (fun x => instB x.n x.i) := fun k h1 h2 => by
    obtain ⟨_, _, _, _, _, _, _, _, _, _, e, g⟩ := h.2.2 k h1 h2
    have hb := List.all_eq_true.1 hh l[k] (List.getElem_mem h1)
    simp only [headB, Bool.and_eq_true, decide_eq_true_eq] at hb
    rw [← e]
    have hl : ts[k].length ≤ 32 := by
      have := congrArg List.length e
      rw [List.length_map] at this
      omega
    exact instsB_its _ _ (fun j hj => by rw [g j hj, wrap_small hb.1.1.1 hb.1.1.2 (by omega)])
  have e : l.map (fun b => instsB b.p b.i) = ts.map (fun t => t.all (fun x => instB x.n x.i)) := by
    apply List.ext_getElem
    · simpa using h.2.1.symm
    · intro k h1 h2
      rw [List.getElem_map, List.getElem_map]
      exact hk k (by simpa using h1) (by simpa using h2)
  have a1 : l.all (fun b => instsB b.p b.i) = (l.map (fun b => instsB b.p b.i)).all id := by rw [List.all_map]; rfl
  have a2 : ts.all (fun t => t.all (fun x => instB x.n x.i)) = (ts.map (fun t => t.all (fun x => instB x.n x.i))).all id := by rw [List.all_map]; rfl
  rw [a1, a2, e]
/-- an instruction in a block of its own -/
def BoxedI (W : World) (B : Nat) (x : It) : Prop := W.heap[B]? = some (.cells #[.int .i64 x.i.o, .int .i64 x.i.a, .int .i64 x.i.b, .int .u64 x.i.k, .string x.i.s, x.v] 85 (0, 0))
theorem BoxedI.new (W : World) (x : It) : BoxedI (W.alloc (.cells #[.int .i64 x.i.o, .int .i64 x.i.a, .int .i64 x.i.b, .int .u64 x.i.k, .string x.i.s, x.v] 85)) W.heap.size x := heap_alloc_new W _
theorem BoxedI.lt {W : World} {B : Nat} {x : It} (h : BoxedI W B x) : B < W.heap.size := (Array.getElem?_eq_some_iff.1 h).1
theorem BoxedI.cells {W : World} {B : Nat} {x : It} (h : BoxedI W B x) : W.cell? ⟨B, 0, none⟩ = some (.int .i64 x.i.o) ∧ W.cell? ⟨B, 1, none⟩ = some (.int .i64 x.i.a) ∧ W.cell? ⟨B, 2, none⟩ = some (.int .i64 x.i.b) ∧ W.cell? ⟨B, 3, none⟩ = some (.int .u64 x.i.k) ∧ W.cell? ⟨B, 4, none⟩ = some (.string x.i.s) ∧ W.cell? ⟨B, 5, none⟩ = some x.v := by
  refine ⟨?_, ?_, ?_, ?_, ?_, ?_⟩ <;> (unfold World.cell?; rw [show W.heap[B]? = _ from h]; rfl)
theorem boxedI_own {B₀ : Nat} (B : Nat) (x : It) : OwnFrom B₀ (fun (_ : Unit) W => BoxedI W B x) := by
  intro _ W W' row h hg hr
  refine (hg.block B h.lt (fun e => ?_)).trans h
  obtain ⟨_, o, ho, hc⟩ := hr B e.symm
  rw [show W.heap[B]? = _ from h] at ho; cases ho; cases hc
theorem BoxedI.below {W W' : World} {B : Nat} {x : It} (h : BoxedI W B x) (hb : Below W.heap.size W W') : BoxedI W' B x := (hb.block B h.lt).trans h
theorem keeps_below {W W' : World} (B : Nat) (h : Below W.heap.size W W') : KeepsFrom B W W' := ⟨h.size, fun k _ _ hk _ => (h.block k (Array.getElem?_eq_some_iff.1 hk).1).trans hk⟩
theorem boxed_below {W W' : World} {B : Nat} {t : TypeId} {v : Value} (h : Boxed W B t v) (hb : Below W.heap.size W W') : Boxed W' B t v := (hb.block B h.lt).trans h
set_option maxRecDepth 100000 in
set_option maxHeartbeats 4000000 in
theorem rightBlocks_any (s : ByteArray) (b p : Int) (bl : List Bk) (C : Option Addr) (na ca : Nat) (w : World) (hna : bl.length = na) (h9 : na ≤ 9223372036854775807) (hok : ∀ b ∈ bl, BkOk b) (hS : Blocks w (.slice C na ca) bl) :
    Calls Try.prog 142 #[.agg #[.string s, .int .i64 b, .int .i64 p, .slice C na ca]] w fun e w' => e = .returned (.bool (bl.all (blockB bl))) ∧ Below w.heap.size w w' := by
  obtain ⟨ts, hD⟩ := blkIts_of hS
  have HD := Lib.hid hD
  have HS := Lib.hid hS
  have HOK := Lib.hid hok
  have HNA := Lib.hid (show bl.length ≤ na ∧ na ≤ bl.length by omega)
  have HNE := Lib.hid hna
  have n9 : (na : Int) ≤ 9223372036854775807 := by omega
  clear hD hS hok hna
  refine (callsIn_wide (n := 3)).1 ?_
  refine callsIn_of_wp_marks Try.func142 rfl trivial ?_ rfl
  simp only [Try.ntmps142, List.size_toArray, List.length_cons, List.length_nil, Nat.reduceAdd, Nat.reduceSub, Array.replicate_succ, Array.replicate_zero, List.push_toArray, List.append_toArray, List.nil_append, List.cons_append]
  gi_wp2_with (fail)
  have hFB := heap_alloc_new w (.cells #[.string s, .int .i64 b, .int .i64 p, .slice C na ca] 78)
  have HFB := Lib.hid ((balloc (Below.refl _ _) (.cells #[.bool false] 4)).block w.heap.size (Array.getElem?_eq_some_iff.1 hFB).1 |>.trans hFB)
  have HRB := Lib.hid (show Boxed ((w.alloc (.cells #[.string s, .int .i64 b, .int .i64 p, .slice C na ca] 78)).alloc (.cells #[.bool false] 4)) (w.heap.size + 1) 4 (.bool false) by
    have := Boxed.new (w.alloc (.cells #[.string s, .int .i64 b, .int .i64 p, .slice C na ca] 78)) 4 (.bool false)
    rwa [World.size_alloc] at this)
  have HB0 := Lib.hid (balloc (balloc (Below.refl _ w) (.cells #[.string s, .int .i64 b, .int .i64 p, .slice C na ca] 78)) (.cells #[.bool false] 4))
  clear hFB
  generalize (w.alloc (.cells #[.string s, .int .i64 b, .int .i64 p, .slice C na ca] 78)).alloc (.cells #[.bool false] 4) = W0 at *
  gi_loopw [10] (fun i wr => ∃ k : Nat, k ≤ na ∧ i = .int .i64 k ∧ (bl.take k).all (headB bl) = true ∧ wr.heap[w.heap.size]? = some (.cells #[.string s, .int .i64 b, .int .i64 p, .slice C na ca] 78 (0, 0)) ∧ Boxed wr (w.heap.size + 1) 4 (.bool false) ∧ Below w.heap.size w wr)
    (fun i _ => na - (intOf i).toNat)
  case atStart => exact ⟨0, Nat.zero_le _, rfl, rfl, HFB.out, HRB.out, HB0.out⟩
  case round =>
    obtain ⟨k, hk, rfl, he, hfb, hrb, hb⟩ := hrel
    have HE := Lib.hid he
    have HF := Lib.hid hfb
    have HR := Lib.hid hrb
    have HB := Lib.hid hb
    clear he hfb hrb hb HFB HRB HB0
    by_cases hlt : k < na
    · have hkl : k < bl.length := by have := HNA.out; omega
      have hv := HS.out
      obtain ⟨b2, off, hA, hbl, hbk⟩ := RowOf.at_ hv hkl
      subst hA
      have hbx := BkAt.next _ _ _ _ _ hbl HB.out hbk
      obtain ⟨c0, ⟨A1, z1, c1, -⟩, c2, c3, c4, ⟨A5, z5, c5, hi5⟩, c6, A7, z7, c7, hi7⟩ := hbx
      have HMEM := Lib.hid (List.getElem_mem hkl)
      have HOKB := Lib.hid (HOK.out _ HMEM.out)
      have HTK := Lib.hid (show (bl.take (k + 1)).all (headB bl) = headB bl bl[k] by
        rw [List.take_succ_eq_append_getElem hkl, List.all_append, HE.out]
        simp)
      have HNO := Lib.hid (show headB bl bl[k] = false → bl.all (blockB bl) = false from fun h => by
        rw [List.all_eq_false]
        exact ⟨_, HMEM.out, by rw [blockB_head, h]; simp⟩)
      have HHD := Lib.hid (show headB bl bl[k] = (decide (0 ≤ bl[k].p) && decide (bl[k].p ≤ 6) && decide (bl[k].i.length ≤ 32) && endB bl (bl[k].p + bl[k].i.length) bl[k].e) from rfl)
      have hk0 : (0 : Int) ≤ (k : Int) := Int.natCast_nonneg _
      have hk1 : (k : Int) < (na : Int) := by omega
      have HLT := Lib.hid hlt
      obtain ⟨m, hm⟩ : ∃ m, bl[k].i.length = m := ⟨_, rfl⟩
      obtain ⟨P, hP⟩ : ∃ P, bl[k].p = P := ⟨_, rfl⟩
      have HRE := Lib.hid (fun (W : World) (hb : Below wr.heap.size wr W) (h0 : 0 ≤ P) (h1 : P ≤ 6) (h2 : m ≤ 32) =>
        rightEnd_any bl P bl[k].e.k bl[k].e.a bl[k].e.t bl[k].e.e (P + m) bl[k].e.l bl[k].e.m A1 A5 A7 (some ⟨b2, off, none⟩) m z1 bl[k].e.l.length z5 bl[k].e.m.length z7 na ca W (wrap_small h0 h1 (by omega)) HNE.out rfl rfl h9 HOKB.out.2.1 HOKB.out.2.2.1 (HS.out.next (HB.out.trans (hb.mono HB.out.size))) (hi5.next hb) (hi7.next hb))
      have HE9 := Lib.hid (show m ≤ 9223372036854775807 from hm ▸ HOKB.out.1)
      have m9 : (m : Int) ≤ 9223372036854775807 := by have := HE9.out; omega
      rw [hm] at c1 HHD
      rw [hP] at c0 HHD
      obtain ⟨K1, hK1⟩ : ∃ K1, bl[k].e.k = K1 := ⟨_, rfl⟩
      obtain ⟨K2, hK2⟩ : ∃ K1, bl[k].e.a = K1 := ⟨_, rfl⟩
      obtain ⟨K3, hK3⟩ : ∃ K1, bl[k].e.t = K1 := ⟨_, rfl⟩
      obtain ⟨K4, hK4⟩ : ∃ K1, bl[k].e.l.length = K1 := ⟨_, rfl⟩
      obtain ⟨K5, hK5⟩ : ∃ K1, bl[k].e.e = K1 := ⟨_, rfl⟩
      obtain ⟨K6, hK6⟩ : ∃ K1, bl[k].e.m.length = K1 := ⟨_, rfl⟩
      have HEQ := Lib.hid (show (⟨K1, K2, K3, bl[k].e.l, K5, bl[k].e.m⟩ : Tm) = bl[k].e by rw [← hK1, ← hK2, ← hK3, ← hK5])
      rw [hK1, hK2, hK3, hK4, hK5, hK6] at HRE
      rw [HEQ.out] at HRE
      rw [hK1] at c2
      rw [hK2] at c3
      rw [hK3] at c4
      rw [hK4] at c5
      rw [hK5] at c6
      rw [hK6] at c7
      obtain ⟨EB, hEB⟩ : ∃ E, endB bl (P + m) bl[k].e = E := ⟨_, rfl⟩
      rw [hEB] at HHD HRE
      have HF1 := Lib.hid (Lib.cell_of_heap HF.out 3)
      have HQ := Lib.hid ((balloc (Below.refl _ wr) (.cells #[.int .i64 P, .slice A1 m z1, .int .i64 K1, .int .i64 K2, .int .i64 K3, .slice A5 K4 z5, .int .i64 K5, .slice A7 K6 z7] 90)))
      have HBX := Lib.hid (heap_alloc_new wr (.cells #[.int .i64 P, .slice A1 m z1, .int .i64 K1, .int .i64 K2, .int .i64 K3, .slice A5 K4 z5, .int .i64 K5, .slice A7 K6 z7] 90))
      clear hm hP hK1 hK2 hK3 hK4 hK5 hK6 hEB hi5 hi7 hbk hv hlt
      gi_wp2_with (fail)
      refine ⟨trivial, ?_⟩
      refine (callsIn_wide.2 (mayParams_any P _)).mono ?_
      rintro e w1 ⟨rfl, rfl⟩
      clear c0 c1 c2 c3 c4 c5 c6 c7
      generalize wr.alloc (.cells #[.int .i64 P, .slice A1 m z1, .int .i64 K1, .int .i64 K2, .int .i64 K3, .slice A5 K4 z5, .int .i64 K5, .slice A7 K6 z7] 90) = W1 at *
      have HRB1 := Lib.hid (boxed_below HR.out HQ.out)
      have HFB1 := Lib.hid ((HQ.out.block _ (Array.getElem?_eq_some_iff.1 HF.out).1).trans HF.out)
      have HB1 := Lib.hid (bthen HB.out HQ.out)
      have hrc := HRB1.out.cell
      have hrf := HRB1.out.frozen
      have d0 := Lib.cell_of_heap HBX.out 0
      have d1 := Lib.cell_of_heap HBX.out 1
      have d2 := Lib.cell_of_heap HBX.out 2
      have d3 := Lib.cell_of_heap HBX.out 3
      have d4 := Lib.cell_of_heap HBX.out 4
      have d5 := Lib.cell_of_heap HBX.out 5
      have d6 := Lib.cell_of_heap HBX.out 6
      have d7 := Lib.cell_of_heap HBX.out 7
      have e3 := Lib.cell_of_heap HFB1.out 3
      simp only [List.getElem?_toArray, List.getElem?_cons_zero, List.getElem?_cons_succ] at d0 d1 d2 d3 d4 d5 d6 d7 e3
      generalize wr.heap.size = BX at *
      cases hmp : (decide (0 ≤ P) && decide (P ≤ 6)) with
      | false =>
        have HV := Lib.hid (HNO.out (by rw [HHD.out, hmp]; rfl))
        clear hmp
        gi_wp2_with (fail)
        refine ⟨trivial, ?_⟩
        gi_wp2_with (fail)
        refine ⟨.bool false, ?_, by rw [HV.out], HB1.out.setCell (p := ⟨w.heap.size + 1, 0, none⟩) (by simp) _⟩
        have hc := (HRB1.out.set (.bool false)).cell
        simp [results, Try.f142, go_sem, hc]
      | true =>
        have hPP := hmp
        simp only [Bool.and_eq_true, decide_eq_true_eq] at hPP
        by_cases hm32 : m ≤ 32
        · have t32 : decide ((32 : Int) < (m : Int)) = false := decide_eq_false (by omega)
          have HRE1 := Lib.hid (HRE.out W1 HQ.out hPP.1 hPP.2 hm32)
          have HHD := Lib.hid (show headB bl bl[k] = EB by rw [HHD.out, hmp]; simp [hm32])
          have HM32 := Lib.hid hm32
          clear hPP hm32
          gi_wp2_with (fail)
          refine ⟨trivial, ?_⟩
          refine (callsIn_wide.2 HRE1.out).mono ?_
          rintro e w2 ⟨rfl, hb2⟩
          have HRB2 := Lib.hid (boxed_below HRB1.out hb2)
          have HFB2 := Lib.hid ((hb2.block _ (Array.getElem?_eq_some_iff.1 HFB1.out).1).trans HFB1.out)
          have HB2 := Lib.hid (bthen HB1.out hb2)
          clear hb2 hrc hrf d0 d1 d2 d3 d4 d5 d6 d7 e3
          have hrc := HRB2.out.cell
          have hrf := HRB2.out.frozen
          cases hEB : EB with
          | false =>
            have HV := Lib.hid (HNO.out (by rw [HHD.out, hEB]))
            gi_wp2_with (fail)
            refine ⟨.bool false, ?_, by rw [HV.out], HB2.out.setCell (p := ⟨w.heap.size + 1, 0, none⟩) (by simp) _⟩
            have hc := (HRB2.out.set (.bool false)).cell
            simp [results, Try.f142, go_sem, hc]
          | true =>
            have HV := Lib.hid (show (bl.take (k + 1)).all (headB bl) = true by rw [HTK.out, HHD.out, hEB])
            gi_wp2_with (fail)
            go_roundw
            case rel => exact ⟨k + 1, HLT.out, by go_num, HV.out, HFB2.out, HRB2.out, HB2.out⟩
            case measure => have := HLT.out; simp [intOf]; omega
        · have t32 : decide ((32 : Int) < (m : Int)) = true := decide_eq_true (by omega)
          have HV := Lib.hid (HNO.out (by rw [HHD.out, hmp]; simp [hm32]))
          clear hPP hm32
          gi_wp2_with (fail)
          refine ⟨trivial, ?_⟩
          gi_wp2_with (fail)
          refine ⟨.bool false, ?_, by rw [HV.out], HB1.out.setCell (p := ⟨w.heap.size + 1, 0, none⟩) (by simp) _⟩
          have hc := (HRB1.out.set (.bool false)).cell
          simp [results, Try.f142, go_sem, hc]
    · have hd : decide ((k : Int) < (na : Int)) = false := by simp; omega
      have HH := Lib.hid (show bl.all (headB bl) = true by have h := HE.out; rwa [List.take_of_length_le (by have := HNA.out; omega)] at h)
      have f0 := Lib.cell_of_heap HF.out 0
      have f1 := Lib.cell_of_heap HF.out 1
      have f2 := Lib.cell_of_heap HF.out 2
      have f3 := Lib.cell_of_heap HF.out 3
      simp only [List.getElem?_toArray, List.getElem?_cons_zero, List.getElem?_cons_succ] at f0 f1 f2 f3
      gi_wp2_with (fail)
      refine ⟨trivial, ?_⟩
      refine (insts_in 2 _ _ _ _ _).mono ?_
      rintro e w1 ⟨rfl, rfl⟩
      gi_wp2_with (fail)
      have bR := HR.out.alloc (.cells #[.string s, .int .i64 b, .int .i64 p, .slice C na ca] 78)
      have hFn := Lib.cell_of_heap (heap_alloc_new wr (.cells #[.string s, .int .i64 b, .int .i64 p, .slice C na ca] 78)) 3
      simp only [List.getElem?_toArray, List.getElem?_cons_zero, List.getElem?_cons_succ] at hFn
      have hB1 := HB.out.trans ((balloc (Below.refl _ wr) (.cells #[.string s, .int .i64 b, .int .i64 p, .slice C na ca] 78)).mono HB.out.size)
      have HAI := Lib.hid (show bl.all (blockB bl) = ts.flatten.all (fun x => instB x.n x.i) by rw [all_block, HH.out, all_insts HD.out HH.out]; rfl)
      have HIT := Lib.hid (show ∀ x ∈ ts.flatten, InOk x.i ∧ (∃ A cap, x.v = .slice A x.i.l.length cap) ∧ Ints w x.v x.i.l from fun x hx => by
        refine ⟨?_, HD.out.all x hx⟩
        have h1 : x.i ∈ ts.flatten.map (·.i) := List.mem_map_of_mem hx
        rw [HD.out.ins] at h1
        obtain ⟨l, hl, hxl⟩ := List.mem_flatten.1 h1
        obtain ⟨b', hb', rfl⟩ := List.mem_map.1 hl
        exact (HOK.out b' hb').2.2.2 _ hxl)
      generalize wr.alloc (.cells #[.string s, .int .i64 b, .int .i64 p, .slice C na ca] 78) = W1 at *
      generalize wr.heap.size = FB at *
      clear f0 f1 f2 f3
      refine wpIn_rangeFunc_ownH (α := {x : It // InOk x.i ∧ (∃ A cap, x.v = .slice A x.i.l.length cap) ∧ Ints w x.v x.i.l}) rfl (by omega) (gf := 143) (lb := #[.pointer (some ⟨FB, 0, none⟩)]) rfl trivial (enters_of Try.func143 (by kernel_rfl) rfl)
        (its_stops 2 (by omega) FB na ca C bl ts _ HIT.out w W1 HNE.out (by omega) (fun b hb => (HOK.out b hb).1) HD.out hB1 hFn) KeepB.trans (keepB_b hB1.size) (Below.refl _ _) (fun _ => rfl)
        (fun pre W => Boxed W (w.heap.size + 1) 4 (.bool false) ∧ (∀ x ∈ pre, instB x.1.n x.1.i = true) ∧ Below w.heap.size w W)
        (fun c pre W => Boxed W (w.heap.size + 1) 4 (.bool false) ∧ (c = .ret ∧ ∃ x ∈ pre, instB x.1.n x.1.i = false) ∧ Below w.heap.size w W)
        (OwnFrom.and (Own.from (boxed_own _ _ _) _) (OwnFrom.and (ownFrom_pure _ _) (ownFrom_below (Nat.le_refl _) hB1.size)))
        (fun c => OwnFrom.and (Own.from (boxed_own _ _ _) _) (OwnFrom.and (ownFrom_pure _ _) (ownFrom_below (Nat.le_refl _) hB1.size)))
        ⟨bR, by simp, hB1⟩
        (fun x a' W => ∃ Bx, w.heap.size ≤ Bx ∧ BoxedI W Bx x.1 ∧ a' = { tmps := #[.agg #[.string s, .int .i64 b, .int .i64 p, .slice C na ca], .pointer (some ⟨w.heap.size, 0, none⟩), .pointer (some ⟨w.heap.size + 1, 0, none⟩), undef, u4, .int .i64 x.1.n, .pointer (some ⟨Bx, 0, none⟩), .pointer (some ⟨w.heap.size, 3, none⟩), .slice C na ca, .int .i64 na, .int .i64 k, .bool false, u12, u13, u14, u15, u16, u17, u18, u19, u20, u21, u22, u23, u24, u25, u26, u27, u28, u29, u30, u31, .agg #[.string s, .int .i64 b, .int .i64 p, .slice C na ca], .func (.func 143) #[] #[.pointer (some ⟨FB, 0, none⟩)], .int .i64 x.1.n, inV x.1.i x.1.v, undef, undef, undef, undef], defers := [] })
        (fun x a' s X Y row hs hg hr => by obtain ⟨Bx, h0, h1, h2⟩ := hs; exact ⟨Bx, h0, boxedI_own Bx x.1 () X Y row h1 hg hr, h2⟩)
        ?assign ?body ?done ?stop
      case assign =>
        rintro l pre x W K ⟨b1, hp, hb⟩ hK
        have HK := Lib.hid hK
        clear hK
        obtain ⟨⟨n, ⟨o, a, b', k', s', l'⟩, v⟩, hx⟩ := x
        obtain ⟨-, ⟨A, cap, hv⟩, -⟩ := id hx
        simp only at hv
        subst hv
        simp only [encI, inV]
        gi_wp2
        exact HK.out _ _ ((KeepsOthers.alloc _ _).from _) (KeepB.below hb.size (balloc (Below.refl _ _) _)) ⟨b1.alloc _, hp, balloc hb _⟩ ⟨W.heap.size, hb.size, BoxedI.new W ⟨n, ⟨o, a, b', k', s', l'⟩, .slice A l'.length cap⟩, rfl⟩
      case body =>
        rintro l pre x a' W hl hr ⟨b1, hp, hb⟩ ⟨Bx, hBx, bx, rfl⟩ hlen
        obtain ⟨A, cap, hv⟩ := x.2.2.1
        have HG := Lib.hid (inst_any x.1.i x.1.n A cap W (by rw [← hv]; exact (x.2.2.2).next hb) x.2.1.2 x.2.1.1)
        have HI := Lib.hid (show Boxed W (w.heap.size + 1) 4 (.bool false) ∧ (∀ x ∈ pre, instB x.1.n x.1.i = true) ∧ Below w.heap.size w W from ⟨b1, hp, hb⟩)
        obtain ⟨c0, c1, c2, c3, c4, c5⟩ := bx.cells
        have HP := Lib.hid (show x ∈ pre ++ [x] by simp)
        obtain ⟨q, hq⟩ : ∃ q, instB x.1.n x.1.i = q := ⟨_, rfl⟩
        have HQ := Lib.hid (show (instB x.1.n x.1.i = true → q = true) ∧ (q = true → instB x.1.n x.1.i = true) by rw [hq]; exact ⟨id, id⟩)
        rw [hq] at HG
        unfold inV at HG
        rw [hv] at c5 ⊢
        clear hb b1 bx hr hl hlen hq hp hBx
        obtain ⟨X0, h0⟩ : ∃ X, x.1.i.o = X := ⟨_, rfl⟩
        obtain ⟨X1, h1⟩ : ∃ X, x.1.i.a = X := ⟨_, rfl⟩
        obtain ⟨X2, h2⟩ : ∃ X, x.1.i.b = X := ⟨_, rfl⟩
        obtain ⟨X3, h3⟩ : ∃ X, x.1.i.k = X := ⟨_, rfl⟩
        obtain ⟨X4, h4⟩ : ∃ X, x.1.i.s = X := ⟨_, rfl⟩
        obtain ⟨nn, hnn⟩ : ∃ X, x.1.i.l.length = X := ⟨_, rfl⟩
        obtain ⟨xn, hxn⟩ : ∃ X, x.1.n = X := ⟨_, rfl⟩
        rw [h0, h1, h2, h3, h4, hnn, hxn] at HG
        rw [h0] at c0
        rw [h1] at c1
        rw [h2] at c2
        rw [h3] at c3
        rw [h4] at c4
        rw [hnn] at c5
        unfold inV
        rw [h0, h1, h2, h3, h4, hnn, hxn]
        clear h0 h1 h2 h3 h4 hnn hxn hv
        cases q
        · gi_wp2_with (fail)
          refine ⟨trivial, ?_⟩
          refine (CallsIn.inRound l (callsIn_wide.2 HG.out)).mono ?_
          rintro e w1 ⟨rfl, hb1⟩
          have HB1 := Lib.hid hb1
          have f3 := (boxed_below HI.out.1 hb1).frozen
          have d3 := (boxed_below HI.out.1 hb1).cell
          clear hb1 c0 c1 c2 c3 c4 c5
          gi_wp2_with (fail)
          refine ⟨(keeps_below _ HB1.out).trans ((KeepsOthers.setCell _ _ _).from _), ?_, ⟨rfl, x, HP.out, ?_⟩, ?_⟩
          · exact (boxed_below HI.out.1 HB1.out).set _
          · cases h : instB x.1.n x.1.i with
            | false => rfl
            | true => have := HQ.out.1 h; cases this
          · exact (bthen HI.out.2.2 HB1.out).setCell (p := ⟨w.heap.size + 1, 0, none⟩) (by simp) _
        · gi_wp2_with (fail)
          refine ⟨trivial, ?_⟩
          refine (CallsIn.inRound l (callsIn_wide.2 HG.out)).mono ?_
          rintro e w1 ⟨rfl, hb1⟩
          have HB1 := Lib.hid hb1
          clear hb1 c0 c1 c2 c3 c4 c5
          gi_wp2_with (fail)
          refine ⟨keeps_below _ HB1.out, KeepB.below HI.out.2.2.size HB1.out, boxed_below HI.out.1 HB1.out, fun y hy => ?_, bthen HI.out.2.2 HB1.out⟩
          rcases List.mem_append.1 hy with h | h
          · exact HI.out.2.1 y h
          · obtain rfl : y = x := by simpa using h
            exact HQ.out.2 (by trivial)
      case done =>
        rintro D ys W hD hys ⟨b3, hp, hb⟩ hK
        have f3 := b3.frozen
        have c3 := b3.cell
        have HHB := Lib.hid hB1
        gi_wp2_with (fail)
        have hK' := (KeepsOthers.setCell W ⟨w.heap.size + 1, 0, none⟩ (.bool true)).same D _ hK rfl
        refine ⟨by simp, .inl ⟨_, _, rfl, run_takeDeferred hK', ?_⟩⟩
        have hc := cell_kept (b3.set (.bool true)).cell (grownBy_putObj' _ D (.deferred none)) (fun r e => by cases e; exact ⟨_, hK', rfl⟩)
        refine ⟨.bool true, ?_, ?_, (hb.setCell (p := ⟨w.heap.size + 1, 0, none⟩) (by simp) _).trans (below_grown (grownBy_putObj' _ D (.deferred none)) (by have := hb.size; simp [World.setCell]; omega) (fun r e => by cases e; have := HHB.out.size; omega))⟩
        · simp [results, Try.f142, go_sem, hc]
        · rw [HAI.out, ← hys, List.all_map]
          congr 2
          symm
          rw [List.all_eq_true]
          exact hp
      case stop =>
        rintro D c pre W hD hpre ⟨b3, ⟨rfl, y, hy, hg⟩, hb⟩ hK
        have HHB := Lib.hid hB1
        gi_wp2_with (fail)
        refine ⟨by simp, .inl ⟨_, _, rfl, run_takeDeferred hK, ?_⟩⟩
        have hc := cell_kept b3.cell (grownBy_putObj' _ D (.deferred none)) (fun r e => by cases e; exact ⟨_, hK, rfl⟩)
        refine ⟨.bool false, ?_, ?_, hb.trans (below_grown (grownBy_putObj' _ D (.deferred none)) hb.size (fun r e => by cases e; have := HHB.out.size; omega))⟩
        · simp [results, Try.f142, go_sem, hc]
        · rw [HAI.out]
          congr 2
          symm
          rw [List.all_eq_false]
          exact ⟨y.1, hpre.subset (List.mem_map_of_mem hy), by simp [hg]⟩
end Go.Proofs.Ytcfniagmnkngfaa
