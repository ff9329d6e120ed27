/- EvalStraight: a main of one block, without calls, that ends with a return, makes a step for each instruction, and one more. -/
import Derived.Test.YtkalgiaapkjplaaVH
import Derived.BigQuiet
namespace Go.Proofs.Ytkalgiaapkjplaa
open Go.RowKit

theorem fnOf_main {m : Md} {i : Nat} (h : wholeE m = 0) (hi : i < m.f.length) (hs : m.f[i].s = mainN) : fnOf m mainN = some m.f[i] := by
  obtain ⟨hc, -, -⟩ := whole_parts h
  obtain ⟨-, -, -, hn, -, -⟩ := check_parts hc
  have h1 := func_idx hn hi
  rw [hs] at h1
  obtain ⟨h2, h3, h4⟩ := List.findIdx?_eq_some_iff_getElem.1 h1
  unfold fnOf
  rw [List.find?_eq_some_iff_getElem]
  refine ⟨by rw [hs]; exact jba_refl _, i, hi, rfl, fun j hj => ?_⟩
  have := h4 j hj
  simpa using this
theorem straight {m : Md} {inp : ByteArray} {b : Bk} (hk : b.e.k = 3) (hno : ∀ i ∈ b.i, i.o ≠ 14) : ∀ (d n : Nat) (s : Rs) (nx : Nat) (vs : List Int), s.cs = [⟨[b], 0, nx, vs⟩] → nx + d = b.i.length → d < n → s.read ≤ inp.size →
    (runE m inp 1 n s).2 = 0 ∧ (runE m inp 1 n s).1.en = true ∧ (runE m inp 1 n s).1.steps = s.steps + d + 1 ∧ (runE m inp 1 n s).1.deep = s.deep := by
  intro d
  induction d with
  | zero =>
    intro n s nx vs hcs hnx hn hr
    obtain ⟨n, rfl⟩ : ∃ k, n = k + 1 := ⟨n - 1, by omega⟩
    have ht : tick m inp 1 s ⟨[b], 0, nx, vs⟩ [] = ({ s with steps := s.steps + 1, en := true, co := vs.getD b.e.a.toNat 0, cs := [] }, true) := by
      unfold tick
      simp only [List.getElem?_cons_zero]
      rw [show b.i[nx]? = none from List.getElem?_eq_none (by omega)]
      simp only [endE]
      rw [if_pos hk]
    have e : runE m inp 1 (n + 1) s = runE m inp 1 n { s with steps := s.steps + 1, en := true, co := vs.getD b.e.a.toNat 0, cs := [] } := by
      rw [runE, hcs]
      simp only [ht]
    rw [e]
    cases n <;> exact ⟨rfl, rfl, rfl, rfl⟩
  | succ d ih =>
    intro n s nx vs hcs hnx hn hr
    obtain ⟨n, rfl⟩ : ∃ k, n = k + 1 := ⟨n - 1, by omega⟩
    have hlt : nx < b.i.length := by omega
    obtain ⟨v1, -, v3, v4⟩ := value_bnd (inp := inp) (s := { s with steps := s.steps + 1 }) (i := b.i[nx]) (vs := vs) hr
    obtain ⟨⟨v, t⟩, hv⟩ : ∃ q, valueE inp { s with steps := s.steps + 1 } b.i[nx] vs = q := ⟨_, rfl⟩
    have ht : tick m inp 1 s ⟨[b], 0, nx, vs⟩ [] = (⟨t.en, t.co, t.read, t.steps, t.deep, t.out, t.gl, [⟨[b], 0, nx + 1, vs ++ [v]⟩]⟩, true) := by
      unfold tick
      simp only [List.getElem?_cons_zero]
      rw [List.getElem?_eq_getElem hlt]
      simp only
      rw [if_neg (hno _ (List.getElem_mem hlt)), hv]
    rw [hv] at v1 v3 v4
    simp only at v1 v3 v4
    have e : runE m inp 1 (n + 1) s = runE m inp 1 n ⟨t.en, t.co, t.read, t.steps, t.deep, t.out, t.gl, [⟨[b], 0, nx + 1, vs ++ [v]⟩]⟩ := by
      rw [runE, hcs]
      simp only [ht]
    rw [e]
    obtain ⟨i1, i2, i3, i4⟩ := ih n ⟨t.en, t.co, t.read, t.steps, t.deep, t.out, t.gl, [⟨[b], 0, nx + 1, vs ++ [v]⟩]⟩ (nx + 1) _ rfl (by omega) (by omega) v1
    simp only at i3 i4
    exact ⟨i1, i2, by omega, i4.trans v3⟩
theorem straight_run {m : Md} {inp : ByteArray} {i : Nat} {bk : Bk} (hw : wholeE m = 0) (hi : i < m.f.length) (hs : m.f[i].s = mainN) (hl : m.f[i].l = [bk]) (hk : bk.e.k = 3) (hno : ∀ x ∈ bk.i, x.o ≠ 14) :
    bk.i.length ≤ 32 ∧ ∃ (co rd : Int) (so : ByteArray), trV (trE m inp 100 1) = .tuple #[.agg #[.bool true, .int .u64 co, .string so, .int .i64 rd, .int .i64 ((bk.i.length : Int) + 1), .int .i64 1], .int .i64 0] := by
  have hm : blksOf m mainN = [bk] := by
    unfold blksOf
    rw [fnOf_main hw hi hs]
    exact hl
  have h32 : bk.i.length ≤ 32 := by
    obtain ⟨hc, -, -⟩ := whole_parts hw
    obtain ⟨-, -, ha, -, -, -⟩ := check_parts hc
    unfold aloneB at ha
    rw [Bool.and_eq_true] at ha
    have hf := List.all_eq_true.1 ha.1 _ (List.getElem_mem hi)
    obtain ⟨-, hb, -⟩ := func_parts hf
    rw [hl] at hb
    exact (block_parts (hb bk (by simp))).2.2.1
  have e : trE m inp 100 1 = runE m inp 1 100 (s1E m [bk]) := by
    unfold trE
    rw [if_neg (by decide), if_pos hw, hm]
    rfl
  obtain ⟨h1, h2, h3, h4⟩ := straight (m := m) (inp := inp) hk hno bk.i.length 100 (s1E m [bk]) 0 [] rfl (by omega) (by omega) (Nat.zero_le _)
  rw [e]
  obtain ⟨⟨T, c⟩, hT⟩ : ∃ x, runE m inp 1 100 (s1E m [bk]) = x := ⟨_, rfl⟩
  rw [hT] at h1 h2 h3 h4 ⊢
  simp only at h1 h2 h3 h4
  refine ⟨h32, T.co, T.read, strOfNums T.out, ?_⟩
  unfold trV trC
  simp only
  rw [h1, h2, h3, h4]
  have h5 : (s1E m [bk]).steps = 0 := rfl
  have h6 : (s1E m [bk]).deep = 1 := rfl
  rw [h5, h6, show (((0 + bk.i.length + 1 : Nat)) : Int) = (bk.i.length : Int) + 1 by omega]
  rfl
set_option maxRecDepth 100000 in
set_option maxHeartbeats 8000000 in
theorem straight_all (m : Md) (inp : ByteArray) (F G : Option Addr) (nf cf ng cg : Nat) (w : World) (hok : MdOk m) (hr : MdR m) (hin : inp.size < 9223372036854775808) (hnf : m.f.length = nf) (hng : m.g.length = ng) (hS : MdAt w (.slice F nf cf) (.slice G ng cg) m) :
    Calls Try.prog 8 #[.agg #[.slice F nf cf, .slice G ng cg], .string inp] w fun e w' => e = .returned (.bool true) ∧ Below w.heap.size w w' := by
  have HW := Lib.hid (fun (W : World) (hb : Below w.heap.size w W) => whole_any m F G nf cf ng cg W hok hnf hng (hS.next hb))
  have HR := Lib.hid (fun (W : World) (hb : Below w.heap.size w W) => run_any m inp 100 1 F G nf cf ng cg W hok hr hin hnf hng (hS.next hb))
  have HS := Lib.hid hS
  have HOK := Lib.hid hok
  have HNF := Lib.hid (show m.f.length ≤ nf ∧ nf ≤ m.f.length by omega)
  have f9 : (nf : Int) ≤ 9223372036854775807 := by have := hok.2.2.1; omega
  clear hS hok hr hin hnf hng
  go_enter Try.func8, Try.ntmps8
  go_upto_region 1 with fail
  have HIN := Lib.hid (heap_alloc_new w (.cells #[.slice F nf cf, .slice G ng cg] 33))
  have HBW := Lib.hid (balloc (Below.refl _ w) (.cells #[.slice F nf cf, .slice G ng cg] 33))
  generalize w.alloc (.cells #[.slice F nf cf, .slice G ng cg] 33) = W0 at *
  go_wp2_with fail
  refine (vshown_any W0).mono ?_
  rintro r w1 ⟨rfl, hb⟩
  have HI1 := Lib.hid ((hb.block _ (Array.getElem?_eq_some_iff.1 HIN.out).1).trans HIN.out)
  have HB1 := Lib.hid (bthen HBW.out hb)
  clear hb HIN HBW
  have c0 := Lib.cell_of_heap HI1.out 0
  have c1 := Lib.cell_of_heap HI1.out 1
  simp only [List.getElem?_toArray, List.getElem?_cons_zero, List.getElem?_cons_succ] at c0 c1
  go_wp2_with fail
  refine (HW.out w1 HB1.out).mono ?_
  rintro r w2 ⟨rfl, hb⟩
  have HI2 := Lib.hid ((hb.block _ (Array.getElem?_eq_some_iff.1 HI1.out).1).trans HI1.out)
  have HB2 := Lib.hid (bthen HB1.out hb)
  clear hb HI1 HB1 c0 c1 HW
  obtain ⟨q, hq⟩ : ∃ q, wholeE m = q := ⟨_, rfl⟩
  have HQ := Lib.hid hq
  rw [hq]
  clear hq
  by_cases h0 : q = 0
  case neg =>
    have z : (q == 0) = false := by simpa using h0
    go_wp2_with fail
    go_ret
    exact ⟨rfl, HB2.out⟩
  subst h0
  go_wp2_with fail
  go_loopw [6] (fun iv wr => ∃ i : Nat, i ≤ nf ∧ iv = .int .i64 i ∧ wr.heap[w.heap.size]? = some (.cells #[.slice F nf cf, .slice G ng cg] 33 (0, 0)) ∧ Below w.heap.size w wr) (fun iv _ => nf - (intOf iv).toNat)
  case atStart => exact ⟨0, Nat.zero_le _, rfl, HI2.out, HB2.out⟩
  case round =>
    obtain ⟨i, hi, rfl, hxx, hb⟩ := hrel
    have HI := Lib.hid hxx
    have HB := Lib.hid hb
    have c0 := Lib.cell_of_heap hxx 0
    have c1 := Lib.cell_of_heap hxx 1
    simp only [List.getElem?_toArray, List.getElem?_cons_zero, List.getElem?_cons_succ] at c0 c1
    clear hxx hb HI2 HB2
    by_cases hlt : i < nf
    · have hm : i < m.f.length := by have := HNF.out; omega
      obtain ⟨b1, off, hA, hbl, e0⟩ := RowOf.at_ HS.out.1 hm
      subst hA
      have hbk0 := e0.2.2.2
      obtain ⟨g0, g1, g2, A, cc, g3, -⟩ := FnAt.next _ _ _ _ _ hbl HB.out e0
      obtain ⟨A', cc', g3', hbk⟩ := hbk0
      have g3'' := (cellNext hbl HB.out _).trans g3'
      rw [g3''] at g3
      obtain ⟨rfl, -, rfl⟩ := Value.slice.inj (Option.some.inj g3)
      clear g3 g3'
      have HRUN := Lib.hid (fun (bk : Bk) (hs : m.f[i].s = mainN) (hl : m.f[i].l = [bk]) (hk : bk.e.k = 3) (hno : ∀ x ∈ bk.i, x.o ≠ 14) => straight_run (inp := inp) HQ.out hm hs hl hk hno)
      have hfo := HOK.out.1 _ (List.getElem_mem hm)
      obtain ⟨f, hf⟩ : ∃ f, m.f[i] = f := ⟨_, rfl⟩
      rw [hf] at g0 g1 g2 g3'' hbk HRUN hfo
      obtain ⟨x0, x1, x2, fl⟩ := f
      simp only at g0 g1 g2 g3'' hbk HRUN
      obtain ⟨x3, hx3⟩ : ∃ n, fl.length = n := ⟨_, rfl⟩
      rw [hx3] at g3'' hbk
      have HX3 := Lib.hid (show fl.length ≤ x3 ∧ x3 ≤ fl.length by omega)
      have HBK := Lib.hid hbk
      have HFO := Lib.hid hfo
      have hk0 : (0 : Int) ≤ (i : Int) := Int.natCast_nonneg _
      have hk1 : (i : Int) < (nf : Int) := by omega
      have HLT := Lib.hid hlt
      have hbx := balloc (Below.refl _ wr) (.cells #[.string x0, .int .i64 x1, .int .i64 x2, .slice A' x3 cc'] 24)
      have HIX := Lib.hid (heap_alloc_new wr (.cells #[.string x0, .int .i64 x1, .int .i64 x2, .slice A' x3 cc'] 24))
      have HI2 := Lib.hid ((hbx.block _ (Array.getElem?_eq_some_iff.1 HI.out).1).trans HI.out)
      have HB2 := Lib.hid (bthen HB.out hbx)
      clear hbx hlt hm hf hx3 e0 hbk hfo hbl
      go_upto_region 8 with fail
      clear c0 c1 g0 g1 g2 g3''
      generalize wr.alloc (.cells #[.string x0, .int .i64 x1, .int .i64 x2, .slice A' x3 cc'] 24) = W1 at *
      generalize wr.heap.size = BX at *
      have d0 := Lib.cell_of_heap HIX.out 0
      have d1 := Lib.cell_of_heap HIX.out 1
      have d2 := Lib.cell_of_heap HIX.out 2
      have d3 := Lib.cell_of_heap HIX.out 3
      simp only [List.getElem?_toArray, List.getElem?_cons_zero, List.getElem?_cons_succ] at d0 d1 d2 d3
      cases hq : x0 == mainN with
      | false =>
        have n1 : (x0.toList == mainN.toList) = false := by rw [← beq_toListBytes]; exact hq
        rw [mainN_list] at n1
        clear hq
        go_wp2_with fail
        go_roundw
        case rel => exact ⟨i + 1, HLT.out, by go_num, HI2.out, HB2.out⟩
        case measure => have := HLT.out; simp [intOf]; omega
      | true =>
        have n1 : (x0.toList == mainN.toList) = true := by rw [← beq_toListBytes]; exact hq
        rw [mainN_list] at n1
        have HX0 := Lib.hid ((jba_beq _ _).1 hq)
        clear hq
        by_cases h1 : x3 = 1
        case neg =>
          have n2 : (x3 == 1) = false := by simpa using h1
          have n2' : ((x3 : Int) == 1) = false := by simp; omega
          go_wp2_with fail
          go_roundw
          case rel => exact ⟨i + 1, HLT.out, by go_num, HI2.out, HB2.out⟩
          case measure => have := HLT.out; simp [intOf]; omega
        subst h1
        obtain ⟨bk, hbk⟩ : ∃ bk, fl = [bk] := List.length_eq_one_iff.1 (by have := HX3.out; omega)
        subst hbk
        obtain ⟨b2, off2, hA2, hbl2, e2⟩ := RowOf.at_ HBK.out (show 0 < [bk].length by simp)
        subst hA2
        simp only [List.getElem_cons_zero, Nat.zero_mul, Nat.add_zero] at e2
        obtain ⟨-, ⟨A3, z3, g1, hins⟩, gk, -⟩ := e2
        have hbko := HFO.out.2.2 bk (by simp)
        have HRUN2 := Lib.hid (fun (hk : bk.e.k = 3) (hno : ∀ x ∈ bk.i, x.o ≠ 14) => HRUN.out bk HX0.out rfl hk hno)
        obtain ⟨bp, bi, ⟨ek, ea, et, el, ee, em⟩⟩ := bk
        simp only at g1 hins gk hbko HRUN2
        have hbo := hbko.1
        simp only at hbo
        obtain ⟨ni, hni⟩ : ∃ n, bi.length = n := ⟨_, rfl⟩
        rw [hni] at g1 hins hbo HRUN2
        have HNI := Lib.hid (show bi.length ≤ ni ∧ ni ≤ bi.length by omega)
        have HG1 := Lib.hid (fun (U : World) (hU : Below w.heap.size w U) => (cellNext hbl2 hU _).trans g1)
        have HINS := Lib.hid hins
        have gk' := (cellNext hbl2 HB2.out _).trans gk
        have n9 : (ni : Int) ≤ 9223372036854775807 := by omega
        clear g1 hins gk hbko hbo hni hbl2 HRUN
        by_cases h3 : ek = 3
        case neg =>
          have n3 : (ek == 3) = false := by simpa using h3
          go_wp2_with fail
          go_roundw
          case rel => exact ⟨i + 1, HLT.out, by go_num, HI2.out, HB2.out⟩
          case measure => have := HLT.out; simp [intOf]; omega
        subst h3
        go_wp2_with fail
        clear d0 d1 d2 d3 gk' n1
        go_loopw [8] (fun kv wi => ∃ k : Nat, k ≤ ni ∧ kv = .int .i64 k ∧ (∀ j (hj : j < bi.length), j < k → bi[j].o ≠ 14) ∧ wi.heap[BX]? = some (.cells #[.string x0, .int .i64 x1, .int .i64 x2, .slice (some ⟨b2, off2, none⟩) 1 cc'] 24 (0, 0)) ∧ wi.heap[w.heap.size]? = some (.cells #[.slice (some ⟨b1, off, none⟩) nf cf, .slice G ng cg] 33 (0, 0)) ∧ Below w.heap.size w wi) (fun kv _ => ni - (intOf kv).toNat)
        case atStart => exact ⟨0, Nat.zero_le _, rfl, fun j _ h => by omega, HIX.out, HI2.out, HB2.out⟩
        case round =>
          obtain ⟨k, hk, rfl, hs, hxx, hyy, hb⟩ := hrel
          have HT := Lib.hid hs
          have HFX := Lib.hid hxx
          have HMX := Lib.hid hyy
          have HB3 := Lib.hid hb
          have d0 := Lib.cell_of_heap hxx 0
          have d1 := Lib.cell_of_heap hxx 1
          have d2 := Lib.cell_of_heap hxx 2
          have d3 := Lib.cell_of_heap hxx 3
          simp only [List.getElem?_toArray, List.getElem?_cons_zero, List.getElem?_cons_succ] at d0 d1 d2 d3
          have c0 := Lib.cell_of_heap hyy 0
          have c1 := Lib.cell_of_heap hyy 1
          simp only [List.getElem?_toArray, List.getElem?_cons_zero, List.getElem?_cons_succ] at c0 c1
          have g1 := HG1.out _ hb
          clear hs hxx hyy hb
          by_cases hlk : k < ni
          · have hkm : k < bi.length := by have := HNI.out; omega
            obtain ⟨b3, off3, hA3, hbl3, e3⟩ := RowOf.at_ HINS.out hkm
            subst hA3
            obtain ⟨p0, -⟩ := InAt.next _ _ _ _ _ hbl3 HB3.out e3
            have HNO := Lib.hid (show bi[k].o ≠ 14 → ∀ j (hj : j < bi.length), j < k + 1 → bi[j].o ≠ 14 from fun h j hj hjk => by
              by_cases e : j = k
              · subst e; exact h
              · exact HT.out j hj (by omega))
            obtain ⟨y0, hy0⟩ : ∃ y, bi[k].o = y := ⟨_, rfl⟩
            rw [hy0] at p0 HNO
            have q0 : (0 : Int) ≤ (k : Int) := Int.natCast_nonneg _
            have q1 : (k : Int) < (ni : Int) := by omega
            have HLK := Lib.hid hlk
            clear hkm hlk hy0 e3 hbl3
            by_cases ho : y0 = 14
            · subst ho
              go_wp2_with fail
              go_ret
              exact ⟨rfl, HB3.out⟩
            · have n4 : (y0 == 14) = false := by simpa using ho
              have HNO2 := Lib.hid (HNO.out ho)
              go_wp2_with fail
              go_roundw
              case rel => exact ⟨k + 1, HLK.out, by go_num, HNO2.out, HFX.out, HMX.out, HB3.out⟩
              case measure => have := HLK.out; simp [intOf]; omega
          · have hd : decide ((k : Int) < (ni : Int)) = false := by simp; omega
            obtain ⟨hn32, co, rd, so, hrv⟩ := HRUN2.out trivial (fun x hx => by
              obtain ⟨j, hj, rfl⟩ := List.getElem_of_mem hx
              exact HT.out j hj (by have := HNI.out; omega))
            have HR2 := Lib.hid (HR.out wr HB3.out)
            rw [hrv] at HR2
            have HN32 := Lib.hid hn32
            clear hrv HRUN2 HR hn32
            go_wp2_with fail
            refine HR2.out.mono ?_
            rintro r w9 ⟨rfl, hb9⟩
            have HB9 := Lib.hid (bthen HB3.out hb9)
            have HF9 := Lib.hid ((hb9.block _ (Array.getElem?_eq_some_iff.1 HFX.out).1).trans HFX.out)
            have g19 := HG1.out _ HB9.out
            clear hb9 d0 d1 d2 d3 c0 c1 g1
            have htx := balloc (Below.refl _ w9) (.cells #[.bool true, .int .u64 co, .string so, .int .i64 rd, .int .i64 ((ni : Int) + 1), .int .i64 1] 43)
            have HTX := Lib.hid (heap_alloc_new w9 (.cells #[.bool true, .int .u64 co, .string so, .int .i64 rd, .int .i64 ((ni : Int) + 1), .int .i64 1] 43))
            have HFT := Lib.hid ((htx.block _ (Array.getElem?_eq_some_iff.1 HF9.out).1).trans HF9.out)
            have HBT := Lib.hid (bthen HB9.out htx)
            have g1t := HG1.out _ HBT.out
            clear htx g19 hd
            go_upto_region 15 with fail
            generalize w9.alloc (.cells #[.bool true, .int .u64 co, .string so, .int .i64 rd, .int .i64 ((ni : Int) + 1), .int .i64 1] 43) = W9 at *
            generalize w9.heap.size = TX at *
            have t0 := Lib.cell_of_heap HTX.out 0
            have t1 := Lib.cell_of_heap HTX.out 1
            have t2 := Lib.cell_of_heap HTX.out 2
            have t3 := Lib.cell_of_heap HTX.out 3
            have t4 := Lib.cell_of_heap HTX.out 4
            have t5 := Lib.cell_of_heap HTX.out 5
            simp only [List.getElem?_toArray, List.getElem?_cons_zero, List.getElem?_cons_succ] at t0 t1 t2 t3 t4 t5
            have d0 := Lib.cell_of_heap HFT.out 0
            have d1 := Lib.cell_of_heap HFT.out 1
            have d2 := Lib.cell_of_heap HFT.out 2
            have d3 := Lib.cell_of_heap HFT.out 3
            simp only [List.getElem?_toArray, List.getElem?_cons_zero, List.getElem?_cons_succ] at d0 d1 d2 d3
            have bw : IntKind.i64.wrap ((ni : Int) + 1) = (ni : Int) + 1 := by rw [IntKind.wrap_i64]; have := HN32.out; omega
            go_quiet (fail)
            go_wp2_with fail
            go_ret
            exact ⟨rfl, below_drewN HBT.out _⟩
    · have hd : decide ((i : Int) < (nf : Int)) = false := by simp; omega
      go_wp2_with fail
      go_ret
      exact ⟨rfl, HB.out⟩
end Go.Proofs.Ytkalgiaapkjplaa
