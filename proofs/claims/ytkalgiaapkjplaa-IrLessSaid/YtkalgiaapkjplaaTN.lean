/- IrLess: a right module without a function that no instruction names is right. -/
import Derived.Test.YtkalgiaapkjplaaTL
import Derived.Test.YtkalgiaapkjplaaK18
import Derived.BigQuiet
import Derived.Deep.RegionHeld3
namespace Go.Proofs.Ytkalgiaapkjplaa
open Go.RowKit

theorem less_ok {m : Md} (n : Nat) (h : MdOk m) : MdOk (lessM m n) := by
  have hs := less_sub m n
  exact ⟨fun f hf => h.1 f (hs.subset hf), h.2.1, Nat.le_trans hs.length_le h.2.2.1, h.2.2.2⟩
theorem less_len {m : Md} {n : Nat} (h : n < m.f.length) : (lessM m n).f.length = m.f.length - 1 := by
  unfold lessM
  rw [List.length_append, List.length_take, List.length_drop]
  omega
set_option maxRecDepth 100000 in
set_option maxHeartbeats 8000000 in
theorem less_all (m : Md) (F G : Option Addr) (cf cg : Nat) (n : Int) (w : World) (hok : MdOk m) (hcf : m.f.length ≤ cf) (hcm : cf ≤ 9223372036854775807) (hS : MdAt w (.slice F m.f.length cf) (.slice G m.g.length cg) m) :
    Calls Try.prog 5 #[.agg #[.slice F m.f.length cf, .slice G m.g.length cg], .int .i64 n] w fun e w' => e = .returned (.bool true) ∧ Below w.heap.size w w' := by
  obtain ⟨nf, hnf⟩ : ∃ n, m.f.length = n := ⟨_, rfl⟩
  obtain ⟨ng, hng⟩ : ∃ n, m.g.length = n := ⟨_, rfl⟩
  rw [hnf, hng] at hS ⊢
  have HC := Lib.hid (fun (W : World) (hb : Below w.heap.size w W) => check_any m F G nf cf ng cg W hok hnf hng (hS.next hb))
  have HRF := Lib.hid (fun (h0 : checkE m = 0) (i : Nat) (hi : i < m.f.length) (A : Option Addr) (ca : Nat) (W : World) (hB : Blocks W (.slice A m.f[i].l.length ca) m.f[i].l) => (show Calls Try.prog 18 #[.agg #[.string m.f[i].s, .int .i64 m.f[i].b, .int .i64 m.f[i].p, .slice A m.f[i].l.length ca]] W (NewNames (refsL m.f[i]) W) ∧ (refsL m.f[i]).length ≤ 512 from by
    obtain ⟨-, -, ha, -, -, -⟩ := check_parts h0
    unfold aloneB at ha
    rw [Bool.and_eq_true] at ha
    have h5 := ins_512 (List.all_eq_true.1 ha.1 _ (List.getElem_mem hi))
    exact ⟨refs_any m.f[i] A _ ca W rfl (hok.1 _ (List.getElem_mem hi)) (by omega) hB, Nat.le_trans (refs_ins _) h5⟩))
  have HS := Lib.hid hS
  have HOK := Lib.hid hok
  have HNF := Lib.hid (show m.f.length ≤ nf ∧ nf ≤ m.f.length by omega)
  have HNE := Lib.hid (And.intro hnf hng)
  obtain ⟨ce, hce⟩ : ∃ c, checkE m = c := ⟨_, rfl⟩
  rw [hce] at HC
  have HCE := Lib.hid (show ce = 0 → checkE m = 0 from fun h => hce.trans h)
  have f9 : (nf : Int) ≤ 9223372036854775807 := by have := hok.2.2.1; omega
  have HCF := Lib.hid (show nf ≤ cf ∧ cf ≤ 9223372036854775807 by omega)
  clear hS hok hnf hng hce hcf hcm
  go_enter Try.func5, Try.ntmps5
  go_upto_region 1 with fail
  have HIN := Lib.hid (heap_alloc_new w (.cells #[.slice F nf cf, .slice G ng cg] 33))
  have HBW := Lib.hid (balloc (Below.refl _ w) (.cells #[.slice F nf cf, .slice G ng cg] 33))
  generalize w.alloc (.cells #[.slice F nf cf, .slice G ng cg] 33) = W0 at *
  go_wp2_with fail
  refine (ishown_any _).mono ?_
  rintro r w1 ⟨rfl, hb⟩
  have HI1 := Lib.hid ((hb.block _ (Array.getElem?_eq_some_iff.1 HIN.out).1).trans HIN.out)
  have HB1 := Lib.hid (bthen HBW.out hb)
  clear hb HIN HBW
  have c0 := Lib.cell_of_heap HI1.out 0
  have c1 := Lib.cell_of_heap HI1.out 1
  simp only [List.getElem?_toArray, List.getElem?_cons_zero, List.getElem?_cons_succ] at c0 c1
  go_wp2_with fail
  refine (HC.out _ HB1.out).mono ?_
  rintro r w2 ⟨rfl, hb⟩
  have HI2 := Lib.hid ((hb.block _ (Array.getElem?_eq_some_iff.1 HI1.out).1).trans HI1.out)
  have HB2 := Lib.hid (bthen HB1.out hb)
  clear hb HI1 HB1 c0 c1 HC
  have c0 := Lib.cell_of_heap HI2.out 0
  have c1 := Lib.cell_of_heap HI2.out 1
  simp only [List.getElem?_toArray, List.getElem?_cons_zero, List.getElem?_cons_succ] at c0 c1
  by_cases hz : ce = 0
  case neg =>
    have tz : (ce == 0) = false := by simpa using hz
    go_wp2_with fail
    go_ret
    exact ⟨rfl, HB2.out⟩
  have HP := Lib.hid (HCE.out hz)
  subst hz
  by_cases hn0 : n < 0
  · have t0 : decide (n < 0) = true := decide_eq_true hn0
    go_wp2_with fail
    go_ret
    exact ⟨rfl, HB2.out⟩
  have t0 : decide (n < 0) = false := decide_eq_false hn0
  by_cases hn1 : (nf : Int) ≤ n
  · have t1 : decide ((nf : Int) ≤ n) = true := decide_eq_true hn1
    go_wp2_with fail
    go_ret
    exact ⟨rfl, HB2.out⟩
  have t1 : decide ((nf : Int) ≤ n) = false := decide_eq_false hn1
  obtain ⟨nn, rfl⟩ : ∃ k : Nat, n = k := ⟨n.toNat, by omega⟩
  have t1' : decide (nf ≤ nn) = false := decide_eq_false (by omega)
  have hnm : nn < m.f.length := by have := HNF.out; omega
  have hnn : nn < nf := by omega
  have HNN := Lib.hid hnn
  obtain ⟨b1, off, hA, hbl, e0⟩ := RowOf.at_ HS.out.1 hnm
  subst hA
  have HBL := Lib.hid hbl
  have HNAME := Lib.hid (fun (U : World) (hU : Below w.heap.size w U) => (cellNext hbl hU _).trans e0.1)
  obtain ⟨S, hSS⟩ : ∃ S, m.f[nn].s = S := ⟨_, rfl⟩
  have HLR := Lib.hid (fun (hno : ∀ (i : Nat) (hi : i < m.f.length), i ≠ nn → ∀ s ∈ refsL m.f[i], s ≠ m.f[nn].s) => less_right HP.out hnm hno)
  rw [hSS] at HNAME
  simp only [hSS] at HLR
  clear hn0 hn1 hnm hnn e0 hbl hSS
  go_wp2_with fail
  clear c0 c1 t0 t1 t1'
  go_loopw [6] (fun iv wr => ∃ i : Nat, i ≤ nf ∧ iv = .int .i64 i ∧ (∀ j (hj : j < m.f.length), j < i → j ≠ nn → ∀ s ∈ refsL m.f[j], s ≠ S) ∧ wr.heap[w.heap.size]? = some (.cells #[.slice (some ⟨b1, off, none⟩) nf cf, .slice G ng cg] 33 (0, 0)) ∧ Below w.heap.size w wr) (fun iv _ => nf - (intOf iv).toNat)
  case atStart => exact ⟨0, Nat.zero_le _, rfl, fun j _ h => by omega, HI2.out, HB2.out⟩
  case round =>
    obtain ⟨i, hi, rfl, hs, hxx, hb⟩ := hrel
    have HT := Lib.hid hs
    have HI := Lib.hid hxx
    have HB := Lib.hid hb
    have c0 := Lib.cell_of_heap hxx 0
    have c1 := Lib.cell_of_heap hxx 1
    simp only [List.getElem?_toArray, List.getElem?_cons_zero, List.getElem?_cons_succ] at c0 c1
    clear hs hxx hb HI2 HB2
    by_cases hlt : i < nf
    · have hm : i < m.f.length := by have := HNF.out; omega
      obtain ⟨b2, off2, hA2, hbl2, e2⟩ := RowOf.at_ HS.out.1 hm
      obtain ⟨rfl, rfl⟩ : b1 = b2 ∧ off = off2 := by simpa using hA2
      obtain ⟨g0, g1, g2, A, cc, g3, hbk⟩ := FnAt.next _ _ _ _ _ hbl2 HB.out e2
      obtain ⟨hcal, hr512⟩ := HRF.out HP.out i hm A cc wr hbk
      have HCAL := Lib.hid hcal
      have HNX := Lib.hid (show (i ≠ nn → ∀ s ∈ refsL m.f[i], s ≠ S) → ∀ j (hj : j < m.f.length), j < i + 1 → j ≠ nn → ∀ s ∈ refsL m.f[j], s ≠ S from fun h j hj hji hjn => by
        by_cases e : j = i
        · subst e; exact h hjn
        · exact HT.out j hj (by omega) hjn)
      obtain ⟨R, hR⟩ : ∃ R, refsL m.f[i] = R := ⟨_, rfl⟩
      rw [hR] at HCAL HNX hr512
      obtain ⟨x0, h0⟩ : ∃ x, m.f[i].s = x := ⟨_, rfl⟩
      obtain ⟨x1, h1⟩ : ∃ x, m.f[i].b = x := ⟨_, rfl⟩
      obtain ⟨x2, h2⟩ : ∃ x, m.f[i].p = x := ⟨_, rfl⟩
      obtain ⟨x3, h3⟩ : ∃ x, m.f[i].l.length = x := ⟨_, rfl⟩
      rw [h0, h1, h2, h3] at HCAL
      rw [h0] at g0
      rw [h1] at g1
      rw [h2] at g2
      rw [h3] at g3
      have k0 : (0 : Int) ≤ (i : Int) := Int.natCast_nonneg _
      have k1 : (i : Int) < (nf : Int) := by omega
      have HLT := Lib.hid hlt
      clear h0 h1 h2 h3 hm hlt hbk e2 hcal hR hA2 hbl2
      go_wp2_with fail
      refine HCAL.out.mono ?_
      rintro r w3 ⟨v', rfl, hst, hb3⟩
      obtain ⟨A8, z8, hv8⟩ := RowOf.slice hst
      obtain ⟨nr, hnr⟩ : ∃ n, R.length = n := ⟨_, rfl⟩
      rw [hnr] at hv8
      subst hv8
      have HNR := Lib.hid (show R.length ≤ nr ∧ nr ≤ R.length by omega)
      have r512 : (nr : Int) ≤ 512 := by omega
      have HST := Lib.hid hst
      have HI3 := Lib.hid ((hb3.block _ (Array.getElem?_eq_some_iff.1 HI.out).1).trans HI.out)
      have HB3 := Lib.hid (bthen HB.out hb3)
      clear hst hb3 hnr hr512 c0 c1 g0 g1 g2 g3
      go_wp2_with fail
      go_loopw [8] (fun kv wi => ∃ k : Nat, k ≤ nr ∧ kv = .int .i64 k ∧ (∀ t (ht : t < R.length), t < k → R[t] ≠ S) ∧ wi.heap[w.heap.size]? = some (.cells #[.slice (some ⟨b1, off, none⟩) nf cf, .slice G ng cg] 33 (0, 0)) ∧ Below w3.heap.size w3 wi) (fun kv _ => nr - (intOf kv).toNat)
      case atStart => exact ⟨0, Nat.zero_le _, rfl, fun t _ h => by omega, HI3.out, Below.refl _ _⟩
      case round =>
        obtain ⟨k, hk, rfl, hs, hxx, hb⟩ := hrel
        have HT2 := Lib.hid hs
        have HI4 := Lib.hid hxx
        have HB4 := Lib.hid hb
        have c0 := Lib.cell_of_heap hxx 0
        have c1 := Lib.cell_of_heap hxx 1
        simp only [List.getElem?_toArray, List.getElem?_cons_zero, List.getElem?_cons_succ] at c0 c1
        clear hs hxx hb
        by_cases hlk : k < nr
        · have hkm : k < R.length := by have := HNR.out; omega
          have d1 : decide (k < nr) = true := decide_eq_true hlk
          by_cases hin : i = nn
          · have e1 : ((i : Int) == (nn : Int)) = true := by simp; omega
            have e1' : (i == nn) = true := by simpa using hin
            have HX := Lib.hid (HNX.out (fun h => absurd hin h))
            have HB5 := Lib.hid (bthen HB3.out HB4.out)
            subst hin
            clear hkm
            go_wp2_with fail
            go_roundw
            case rel => exact ⟨i + 1, HLT.out, by go_num, HX.out, HI4.out, HB5.out⟩
            case measure => have := HLT.out; simp [intOf]; omega
          · have e1 : ((i : Int) == (nn : Int)) = false := by simp; omega
            have e1' : (i == nn) = false := by simpa using hin
            obtain ⟨b3, off3, hA3, hbl3, e3⟩ := RowOf.at_ (Strs.next HST.out HB4.out) hkm
            subst hA3
            simp only [Nat.mul_one] at e3
            have gn := HNAME.out _ (bthen HB3.out HB4.out)
            have HNO := Lib.hid (show R[k] ≠ S → ∀ t (ht : t < R.length), t < k + 1 → R[t] ≠ S from fun h t ht htk => by
              by_cases e : t = k
              · subst e; exact h
              · exact HT2.out t ht (by omega))
            obtain ⟨x, hx⟩ : ∃ x, R[k] = x := ⟨_, rfl⟩
            rw [hx] at e3 HNO
            have q0 : (0 : Int) ≤ (k : Int) := Int.natCast_nonneg _
            have q1 : (k : Int) < (nr : Int) := by omega
            have u0 : (0 : Int) ≤ (nn : Int) := Int.natCast_nonneg _
            have u1 : (nn : Int) < (nf : Int) := by have := HNN.out; omega
            have HLK := Lib.hid hlk
            clear hx hkm hin hbl3
            go_upto_region 11 with fail
            cases hq : x == S with
            | true =>
              have h1 : (x.toList == S.toList) = true := by rw [← beq_toListBytes]; exact hq
              clear hq
              go_quiet (fail)
              go_wp2_with fail
              go_ret
              exact ⟨rfl, below_drewN (bthen HB3.out HB4.out) _⟩
            | false =>
              have h1 : (x.toList == S.toList) = false := by rw [← beq_toListBytes]; exact hq
              have HZ := Lib.hid (HNO.out (fun e => by rw [e, jba_refl] at hq; cases hq))
              clear hq
              go_quiet (fail)
              go_wp2_with fail
              go_roundw
              case rel => exact ⟨k + 1, HLK.out, by go_num, HZ.out, HI4.out, below_drewN HB4.out _⟩
              case measure => have := HLK.out; simp [intOf]; omega
        · have hd : decide ((k : Int) < (nr : Int)) = false := by simp; omega
          have HX := Lib.hid (HNX.out (fun _ s hs => by
            obtain ⟨t, ht, rfl⟩ := List.getElem_of_mem hs
            exact HT2.out t ht (by have := HNR.out; omega)))
          have HB5 := Lib.hid (bthen HB3.out HB4.out)
          go_wp2_with fail
          go_roundw
          case rel => exact ⟨i + 1, HLT.out, by go_num, HX.out, HI4.out, HB5.out⟩
          case measure => have := HLT.out; simp [intOf]; omega
    · have hd : decide ((i : Int) < (nf : Int)) = false := by simp; omega
      have HRT := Lib.hid (HLR.out (fun j hj hjn => HT.out j hj (by have := HNF.out; omega) hjn))
      clear HT HLR HRF
      go_upto_region 13 with fail
      have hb4 := balloc (Below.refl _ wr) (.cells #[.slice (some ⟨b1, off, none⟩) nf cf, .slice G ng cg] 33)
      have HKB := Lib.hid (heap_alloc_new wr (.cells #[.slice (some ⟨b1, off, none⟩) nf cf, .slice G ng cg] 33))
      have HM4 := Lib.hid ((hb4.block _ (Array.getElem?_eq_some_iff.1 HI.out).1).trans HI.out)
      have HB4 := Lib.hid (bthen HB.out hb4)
      have HKS := Lib.hid (show w.heap.size ≤ wr.heap.size ∧ w.heap.size < wr.heap.size from ⟨HB.out.size, (Array.getElem?_eq_some_iff.1 HI.out).1⟩)
      clear hb4 hd hlt
      go_upto_region 14 with fail
      clear c0 c1
      generalize wr.alloc (.cells #[.slice (some ⟨b1, off, none⟩) nf cf, .slice G ng cg] 33) = W4 at *
      generalize wr.heap.size = KB at *
      have HSC := Lib.hid (fun (U : World) (hU : U.heap[w.heap.size]? = some (.cells #[.slice (some ⟨b1, off, none⟩) nf cf, .slice G ng cg] 33 (0, 0))) => (show U.cell? ⟨w.heap.size, 0, none⟩ = some (.slice (some ⟨b1, off, none⟩) nf cf) ∧ U.cell? ⟨w.heap.size, 1, none⟩ = some (.slice G ng cg) from ⟨Lib.cell_of_heap hU 0, Lib.cell_of_heap hU 1⟩))
      have u0 : (0 : Int) ≤ (nn : Int) := Int.natCast_nonneg _
      have u1 : (nn : Int) < (nf : Int) := by have := HNN.out; omega
      have u2 : (nn : Int) ≤ (cf : Int) := by have := HCF.out; omega
      have u3 : nn ≤ cf := by omega
      have u4 : (nf : Int) ≤ (cf : Int) := by have := HCF.out; omega
      have bw : IntKind.i64.wrap ((nn : Int) + 1) = ((nn + 1 : Nat) : Int) := by rw [IntKind.wrap_i64]; omega
      have u5 : ((nn + 1 : Nat) : Int) ≤ (nf : Int) := by omega
      have u6 : nn + 1 ≤ nf := by omega
      obtain ⟨o2, ho2, hoo⟩ : ∃ o2, (if cf = nn + 1 then some (⟨b1, off, none⟩ : Addr) else some ⟨b1, off + (nn + 1) * 4, none⟩) = some ⟨b1, o2, none⟩ ∧ (nn + 1 < nf → o2 = off + (nn + 1) * 4) := by
        by_cases h : cf = nn + 1
        · exact ⟨off, if_pos h, fun h2 => by omega⟩
        · exact ⟨off + (nn + 1) * 4, if_neg h, fun _ => rfl⟩
      have HP1 := Lib.hid (show Funcs w (.slice (some ⟨b1, off, none⟩) nn cf) (m.f.take nn) by
        have := Funcs.part HS.out.1 0 nn cf (Nat.zero_le _) (by have := HNF.out; omega) HBL.out
        simpa using this)
      have HP2 := Lib.hid (show Funcs w (.slice (some ⟨b1, o2, none⟩) (nf - (nn + 1)) (cf - (nn + 1))) (m.f.drop (nn + 1)) by
        by_cases h : nn + 1 < nf
        · have := Funcs.part HS.out.1 (nn + 1) nf (cf - (nn + 1)) (by omega) (by have := HNF.out; omega) HBL.out
          rw [← hoo h, List.take_of_length_le (by rw [List.length_drop]; have := HNF.out; omega)] at this
          exact this
        · rw [show nf - (nn + 1) = 0 by omega, List.drop_eq_nil_of_le (by have := HNF.out; omega)]
          exact .inl ⟨rfl, .inr ⟨_, _, rfl⟩⟩)
      have HK1 := Lib.hid (show (m.f.take nn).length = nn by rw [List.length_take]; have := HNF.out; omega)
      have HK2 := Lib.hid (show (m.f.drop (nn + 1)).length = nf - (nn + 1) by rw [List.length_drop]; have := HNF.out; omega)
      have H16 := Lib.hid (show nf ≤ 16 by have := (check_parts HP.out).1; have := HNF.out; omega)
      have hmd0 := ((Below.refl W4.heap.size W4).drew.block _ (Array.getElem?_eq_some_iff.1 HM4.out).1).trans HM4.out
      have hkd0 := ((Below.refl W4.heap.size W4).drew.block _ (Array.getElem?_eq_some_iff.1 HKB.out).1).trans HKB.out
      have HM5 := Lib.hid (((balloc (Below.refl _ W4.drew) (.cells #[] 24)).block _ (Array.getElem?_eq_some_iff.1 hmd0).1).trans hmd0)
      have HK5 := Lib.hid (((balloc (Below.refl _ W4.drew) (.cells #[] 24)).block _ (Array.getElem?_eq_some_iff.1 hkd0).1).trans hkd0)
      have HB5 := Lib.hid (bthen HB4.out.drew (balloc (Below.refl _ W4.drew) (.cells #[] 24)))
      have HZ5 := Lib.hid HB5.out.size
      have HO5 := Lib.hid (show (W4.drew.alloc (.cells #[] 24)).ownsRow w.heap.size 24 4 (.slice (some ⟨W4.drew.heap.size, 0, none⟩) 0 0) 0 [] from ⟨rfl, .inr ⟨W4.drew.heap.size, 0, #[], rfl, HB4.out.drew.size, heap_alloc_new _ _, Nat.le_refl _, by unfold maxLen; omega, rfl, rfl⟩⟩)
      have HN5 := Lib.hid (show (0 + nn) * 56 ≤ 140737488355328 by have := H16.out; omega)
      have HN6 := Lib.hid (show (nn + (nf - (nn + 1))) * 56 ≤ 140737488355328 by have := H16.out; omega)
      clear hmd0 hkd0
      refine wp_region_held_drew (S := (fun U => U.cell? ⟨w.heap.size, 0, none⟩ = some (.slice (some ⟨b1, off, none⟩) nf cf) ∧ U.cell? ⟨w.heap.size, 1, none⟩ = some (.slice G ng cg))) (by kernel_rfl) (HSC.out _ HM4.out) (fun hHeld => ?_)
      refine wpAnyH_take (i := 1) (v := ?_) rfl (by kernel_rfl) (by kernel_rfl) (by kernel_rfl) (fun _ _ _ h => h) (Or.inl ⟨by rfl, ?_⟩) hHeld ?_
      rotate_left
      · intro W' hSw; (try dsimp only at hSw); go_simp; try (with_reducible rfl)
      (try simp only [Act.put, List.getElem_toArray, List.getElem_cons_zero, List.getElem_cons_succ, List.setIfInBounds_toArray, List.set_cons_zero, List.set_cons_succ])
      refine wpAnyH_take (i := 2) (v := ?_) rfl (by kernel_rfl) (by kernel_rfl) (by kernel_rfl) (fun _ _ _ h => h) (Or.inl ⟨by rfl, ?_⟩) hHeld ?_
      rotate_left
      · intro W' hSw; (try dsimp only at hSw); go_simp; try (with_reducible rfl)
      (try simp only [Act.put, List.getElem_toArray, List.getElem_cons_zero, List.getElem_cons_succ, List.setIfInBounds_toArray, List.set_cons_zero, List.set_cons_succ])
      refine wpAnyH_take (i := 3) (v := ?_) rfl (by kernel_rfl) (by kernel_rfl) (by kernel_rfl) (fun _ _ _ h => h) (Or.inl ⟨by rfl, ?_⟩) hHeld ?_
      rotate_left
      · intro W' hSw; (try dsimp only at hSw); go_simp; try (with_reducible rfl)
      (try simp only [Act.put, List.getElem_toArray, List.getElem_cons_zero, List.getElem_cons_succ, List.setIfInBounds_toArray, List.set_cons_zero, List.set_cons_succ])
      refine wpAnyH_take (i := 4) (v := ?_) rfl (by kernel_rfl) (by kernel_rfl) (by kernel_rfl) (fun _ _ _ h => h) (Or.inl ⟨by rfl, ?_⟩) hHeld ?_
      rotate_left
      · intro W' hSw; (try dsimp only at hSw); go_simp; try (with_reducible rfl)
      (try simp only [Act.put, List.getElem_toArray, List.getElem_cons_zero, List.getElem_cons_succ, List.setIfInBounds_toArray, List.set_cons_zero, List.set_cons_succ])
      refine wpAnyH_take (i := 6) (v := ?_) rfl (by kernel_rfl) (by kernel_rfl) (by kernel_rfl) (fun _ _ _ h => h) (Or.inl ⟨by rfl, ?_⟩) hHeld ?_
      rotate_left
      · intro W' hSw; (try dsimp only at hSw); go_simp; try (with_reducible rfl)
      (try simp only [Act.put, List.getElem_toArray, List.getElem_cons_zero, List.getElem_cons_succ, List.setIfInBounds_toArray, List.set_cons_zero, List.set_cons_succ])
      refine wpAnyH_take (i := 7) (v := ?_) rfl (by kernel_rfl) (by kernel_rfl) (by kernel_rfl) (fun _ _ _ h => h) (Or.inl ⟨by rfl, ?_⟩) hHeld ?_
      rotate_left
      · intro W' hSw; (try dsimp only at hSw); go_simp; try (with_reducible rfl)
      (try simp only [Act.put, List.getElem_toArray, List.getElem_cons_zero, List.getElem_cons_succ, List.setIfInBounds_toArray, List.set_cons_zero, List.set_cons_succ])
      refine wpAnyH_take (i := 8) (v := ?_) rfl (by kernel_rfl) (by kernel_rfl) (by kernel_rfl) (fun _ _ _ h => h) (Or.inl ⟨by rfl, ?_⟩) hHeld ?_
      rotate_left
      · intro W' hSw; (try dsimp only at hSw); go_simp; try (with_reducible rfl)
      (try simp only [Act.put, List.getElem_toArray, List.getElem_cons_zero, List.getElem_cons_succ, List.setIfInBounds_toArray, List.set_cons_zero, List.set_cons_succ])
      refine wpAnyH_take (i := 9) (v := .int .i64 ((nn + 1 : Nat) : Int)) rfl (by kernel_rfl) (by kernel_rfl) (by kernel_rfl) (fun _ _ _ h => h) (Or.inl ⟨by rfl, ?_⟩) hHeld ?_
      · intro W' hSw; (try dsimp only at hSw); go_simp; try (with_reducible rfl)
      (try simp only [Act.put, List.getElem_toArray, List.getElem_cons_zero, List.getElem_cons_succ, List.setIfInBounds_toArray, List.set_cons_zero, List.set_cons_succ])
      refine wpAnyH_take (i := 10) (v := .slice (some ⟨b1, o2, none⟩) (nf - (nn + 1)) (cf - (nn + 1))) rfl (by kernel_rfl) (by kernel_rfl) (by kernel_rfl) (fun _ _ _ h => h) (Or.inl ⟨by rfl, ?_⟩) hHeld ?_
      · intro W' hSw; (try dsimp only at hSw); go_simp; intro h5; exfalso; have h6 := h5 (by omega); omega
      (try simp only [Act.put, List.getElem_toArray, List.getElem_cons_zero, List.getElem_cons_succ, List.setIfInBounds_toArray, List.set_cons_zero, List.set_cons_succ])
      refine wpAnyH_ready (rs := [0]) (by kernel_rfl) (by simp) ?_
      refine AllReadyH.cons rfl (fun K hK => ?_) AllReadyH.nil
      go_simp
      refine hK.out _ _ (HSC.out _ HM5.out) (fun hHeld2 => ?_)
      clear hK
      (try simp only [Act.put, List.getElem_toArray, List.getElem_cons_zero, List.getElem_cons_succ, List.setIfInBounds_toArray, List.set_cons_zero, List.set_cons_succ])
      refine wpAnyH_ready (rs := [5]) (by kernel_rfl) (by simp) ?_
      refine AllReadyH.cons rfl (fun K hK => ?_) AllReadyH.nil
      refine step_append_funcs rfl (.tmp 63) (.tmp 67) rfl w.heap.size (.slice (some ⟨W4.drew.heap.size, 0, none⟩) 0 0) 0 [] (by rfl) HO5.out b1 off nn cf (by rfl) (m.f.take nn) HK1.out w HB5.out HBL.out HP1.out HN5.out HZ5.out ?_
      intro v1 w6 ys1 hown1 hgrow1 hrc1
      have HM6 := Lib.hid (box_grown HO5.out hgrow1 HM5.out)
      have HK6 := Lib.hid (box_grown HO5.out hgrow1 HK5.out)
      have HB6 := Lib.hid (HB5.out.trans (below_own HO5.out hgrow1 HZ5.out))
      rw [Nat.zero_add, List.nil_append] at hown1
      obtain ⟨A1, cp1, hv1⟩ := own_form hown1
      subst hv1
      have HO6 := Lib.hid hown1
      have HR1 := Lib.hid hrc1
      have HZ6 := Lib.hid HB6.out.size
      clear hown1 hgrow1 hrc1
      refine hK.out _ _ (HSC.out _ HM6.out) (fun hHeld3 => ?_)
      clear hK
      (try simp only [Act.put, List.getElem_toArray, List.getElem_cons_zero, List.getElem_cons_succ, List.setIfInBounds_toArray, List.set_cons_zero, List.set_cons_succ])
      refine wpAnyH_ready (rs := [11]) (by kernel_rfl) (by simp) ?_
      refine AllReadyH.cons rfl (fun K hK => ?_) AllReadyH.nil
      refine step_append_funcs rfl (.tmp 68) (.tmp 73) rfl w.heap.size (.slice A1 nn cp1) nn ys1 (by rfl) HO6.out b1 o2 (nf - (nn + 1)) (cf - (nn + 1)) (by rfl) (m.f.drop (nn + 1)) HK2.out w HB6.out HBL.out HP2.out HN6.out HZ6.out ?_
      intro v2 w7 ys2 hown2 hgrow2 hrc2
      have HM7 := Lib.hid (box_grown HO6.out hgrow2 HM6.out)
      have HK7 := Lib.hid (box_grown HO6.out hgrow2 HK6.out)
      have HB7 := Lib.hid (HB6.out.trans (below_own HO6.out hgrow2 HZ6.out))
      obtain ⟨A2, cp2, hv2⟩ := own_form hown2
      subst hv2
      have HO7 := Lib.hid hown2
      have HR2 := Lib.hid hrc2
      clear hown2 hgrow2 hrc2
      refine hK.out _ _ (HSC.out _ HM7.out) (fun hHeld4 => ?_)
      clear hK
      (try simp only [Act.put, List.getElem_toArray, List.getElem_cons_zero, List.getElem_cons_succ, List.setIfInBounds_toArray, List.set_cons_zero, List.set_cons_succ])
      refine wpAnyH_take (i := 12) (v := ?_) rfl (by kernel_rfl) (by kernel_rfl) (by kernel_rfl) (fun _ _ _ h => h) (Or.inl ⟨by rfl, ?_⟩) hHeld4 ?_
      rotate_left
      · intro W' hSw; (try dsimp only at hSw); go_simp; try (with_reducible rfl)
      (try simp only [Act.put, List.getElem_toArray, List.getElem_cons_zero, List.getElem_cons_succ, List.setIfInBounds_toArray, List.set_cons_zero, List.set_cons_succ])
      have hgs := grownBy_setCell' w7 KB (.slice A2 (nn + (nf - (nn + 1))) cp2)
      have HNEQ := Lib.hid (show w.heap.size ≠ KB from by have := HKS.out.2; omega)
      have HM8 := Lib.hid ((hgs.block _ (Array.getElem?_eq_some_iff.1 HM7.out).1 (fun e => HNEQ.out (Option.some.inj e))).trans HM7.out)
      have HO8 := Lib.hid (HO7.out.kept hgs (by by_cases h : (Value.slice A2 (nn + (nf - (nn + 1))) cp2).ownBlock = none; exact .inl h; exact .inr (fun e => by obtain ⟨_, cs, h'⟩ := own_block HO7.out _ e; rw [HK7.out] at h'; cases h')))
      have HB8 := Lib.hid (Below.setCell (p := ⟨KB, 0, none⟩) HB7.out HKS.out.1 (.slice A2 (nn + (nf - (nn + 1))) cp2))
      have HK7W := (HK7.out : Whole _ _ _ _)
      have HK8 := Lib.hid (Whole.put HK7W 0 (.slice A2 (nn + (nf - (nn + 1))) cp2))
      have kf := Whole.free HK7W
      have k0 := Whole.cell HK7W 0
      simp only [List.getElem?_toArray, List.getElem?_cons_zero] at k0
      clear hgs HK7W
      refine wpAnyH_ready (rs := [13]) (by kernel_rfl) (by simp) ?_
      refine AllReadyH.cons rfl (fun K hK => ?_) AllReadyH.nil
      go_simp
      refine hK.out _ _ (HSC.out _ HM8.out) (fun _ => ?_)
      clear hK kf k0
      (try simp only [Act.put, List.getElem_toArray, List.getElem_cons_zero, List.getElem_cons_succ, List.setIfInBounds_toArray, List.set_cons_zero, List.set_cons_succ])
      refine wpAnyH_done (by kernel_rfl) ?_ _
      have hmd : MdAt (w7.setCell ⟨KB, 0, none⟩ (.slice A2 (nn + (nf - (nn + 1))) cp2)) (.slice A2 (nn + (nf - (nn + 1))) cp2) (.slice G ng cg) (lessM m nn) := by
        refine ⟨RowCells.funcs (ys := ys1 ++ ys2) HO8.out (by unfold lessM; rw [List.length_append, HK1.out, HK2.out]) (RowCells.append (HR1.out.next HB8.out) (HR2.out.next HB8.out)), HS.out.2.next HB8.out⟩
      have HC8 := Lib.hid (check_any (lessM m nn) A2 G (nn + (nf - (nn + 1))) cp2 ng cg _ (less_ok nn HOK.out) (by unfold lessM; rw [List.length_append, HK1.out, HK2.out]) HNE.out.2 hmd)
      rw [HRT.out] at HC8
      clear hmd
      have k0 := Lib.cell_of_heap HK8.out 0
      have k1 := Lib.cell_of_heap HK8.out 1
      generalize w7.setCell ⟨KB, 0, none⟩ (.slice A2 (nn + (nf - (nn + 1))) cp2) = W8 at *
      simp only [List.setIfInBounds_toArray, List.set_cons_zero, List.getElem?_toArray, List.getElem?_cons_zero, List.getElem?_cons_succ] at k0 k1
      go_wp2_with fail
      refine HC8.out.mono ?_
      rintro r w9 ⟨rfl, hb9⟩
      have HB9 := Lib.hid (bthen HB8.out hb9)
      clear hb9 k0 k1
      go_wp2_with fail
      go_ret
      exact ⟨rfl, HB9.out⟩
end Go.Proofs.Ytkalgiaapkjplaa
