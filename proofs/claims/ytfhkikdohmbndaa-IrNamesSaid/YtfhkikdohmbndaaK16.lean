/- IrNames: in a right module all names are of one each, and each name that an instruction has is there. -/
import Derived.Test.YtfhkikdohmbndaaK15
namespace Go.Proofs.Ytfhkikdohmbndaa
open Go.RowKit

set_option maxRecDepth 100000 in
set_option maxHeartbeats 8000000 in
theorem names_all (m : Md) (F G : Option Addr) (cf cg : Nat) (w : World) (hok : MdOk m) (hS : MdAt w (.slice F m.f.length cf) (.slice G m.g.length cg) m) :
    Calls Try.prog 12 #[.agg #[.slice F m.f.length cf, .slice G m.g.length cg]] w fun e w' => e = .returned (.bool true) ∧ Below w.heap.size w w' := by
  obtain ⟨nf, hnf⟩ : ∃ n, m.f.length = n := ⟨_, rfl⟩
  obtain ⟨ng, hng⟩ : ∃ n, m.g.length = n := ⟨_, rfl⟩
  rw [hnf, hng] at hS ⊢
  have HC := Lib.hid (fun (W : World) (hb : Below w.heap.size w W) => check_any m F G nf cf ng cg W hok hnf hng (hS.next hb))
  have HFF := Lib.hid (fun (s : ByteArray) (W : World) (hb : Below w.heap.size w W) => findFunc_any m F G nf cf ng cg s W hok hnf (hS.next hb))
  have HFG := Lib.hid (fun (s : ByteArray) (W : World) (hb : Below w.heap.size w W) => findGlob_any m F G nf cf ng cg s W hok hng (hS.next hb))
  have HS := Lib.hid hS
  have HOK := Lib.hid hok
  have HNF := Lib.hid (show m.f.length ≤ nf ∧ nf ≤ m.f.length by omega)
  have HNG := Lib.hid (show m.g.length ≤ ng ∧ ng ≤ m.g.length by omega)
  obtain ⟨ce, hce⟩ : ∃ c, checkE m = c := ⟨_, rfl⟩
  rw [hce] at HC
  have HCP := Lib.hid (show ce = 0 → m.f.length ≤ 16 ∧ m.g.length ≤ 16 ∧ aloneB m = true ∧ (namesM m).Nodup ∧ (insM m).any (noneI m) = false ∧ (insM m).any (oddI m) = false from fun h => check_parts (hce.trans h))
  have HIN := Lib.hid (heap_alloc_new w (.cells #[.slice F nf cf, .slice G ng cg] 80))
  have HBW := Lib.hid (balloc (Below.refl _ w) (.cells #[.slice F nf cf, .slice G ng cg] 80))
  clear hS hok hnf hng hce
  go_enter Try.func12, Try.ntmps12
  go_wp2_with fail
  generalize w.alloc (.cells #[.slice F nf cf, .slice G ng cg] 80) = W0 at *
  refine (ishown_any _).mono ?_
  rintro r w1 ⟨rfl, hb⟩
  have hin := (hb.block _ (Array.getElem?_eq_some_iff.1 HIN.out).1).trans HIN.out
  have c0 := Lib.cell_of_heap hin 0
  have c1 := Lib.cell_of_heap hin 1
  simp only [List.getElem?_toArray, List.getElem?_cons_zero, List.getElem?_cons_succ] at c0 c1
  have HB1 := Lib.hid (bthen HBW.out hb)
  have HIN1 := Lib.hid hin
  clear hb hin
  go_wp2_with fail
  refine (HC.out _ HB1.out).mono ?_
  rintro r w2 ⟨rfl, hb⟩
  have HB2 := Lib.hid (bthen HB1.out hb)
  have HIN2 := Lib.hid ((hb.block _ (Array.getElem?_eq_some_iff.1 HIN1.out).1).trans HIN1.out)
  clear hb c0 c1
  by_cases hz : ce = 0
  case neg =>
    have tz : (ce == 0) = false := by simpa using hz
    go_wp2_with fail
    go_ret
    exact ⟨rfl, HB2.out⟩
  have HP := Lib.hid (HCP.out hz)
  subst hz
  have n16 : (nf : Int) ≤ 16 := by have := HP.out.1; have := HNF.out; omega
  have g16 : (ng : Int) ≤ 16 := by have := HP.out.2.1; have := HNG.out; omega
  go_wp2_with fail
  go_loopw [4] (fun iv wr => ∃ i : Nat, i ≤ nf ∧ iv = .int .i64 i ∧ wr.heap[w.heap.size]? = some (.cells #[.slice F nf cf, .slice G ng cg] 80 (0, 0)) ∧ Below w.heap.size w wr) (fun iv _ => nf - (intOf iv).toNat)
  case atStart => exact ⟨0, Nat.zero_le _, rfl, HIN2.out, HB2.out⟩
  case round =>
    obtain ⟨i, hi, rfl, hin, hb⟩ := hrel
    have HI := Lib.hid hin
    have HB := Lib.hid hb
    have c0 := Lib.cell_of_heap hin 0
    have c1 := Lib.cell_of_heap hin 1
    simp only [List.getElem?_toArray, List.getElem?_cons_zero, List.getElem?_cons_succ] at c0 c1
    clear hin hb
    by_cases hlt : i < nf
    · have hm : i < m.f.length := by have := HNF.out; omega
      obtain ⟨b, off, hA, hbl, e0⟩ := RowOf.at_ HS.out.1 hm
      subst hA
      obtain ⟨k0, k1, k2, A1, z1, k3, hbk⟩ := FnAt.next _ _ _ _ _ hbl HB.out e0
      have HFA := Lib.hid (fun (U : World) (hU : Below w.heap.size w U) => (FnAt.next _ _ _ _ _ hbl hU e0).1)
      have hfr : funcB m.f[i] = true := by
        have h := HP.out.2.2.1
        unfold aloneB at h
        rw [Bool.and_eq_true] at h
        exact List.all_eq_true.1 h.1 _ (List.getElem_mem hm)
      have HR := Lib.hid (refs_any m.f[i] A1 m.f[i].l.length z1 wr rfl (HOK.out.1 _ (List.getElem_mem hm)) (by have := ins_512 hfr; omega) hbk)
      have HTH := Lib.hid (fun (s : ByteArray) (hs : s ∈ refsL m.f[i]) => ref_there HP.out.2.2.2.2.1 (List.getElem_mem hm) hs)
      have HFI := Lib.hid (func_idx HP.out.2.2.2.1 hm)
      have HGN := Lib.hid (glob_none HP.out.2.2.2.1 hm)
      obtain ⟨R, hR⟩ : ∃ R, refsL m.f[i] = R := ⟨_, rfl⟩
      have HRL := Lib.hid (show R.length ≤ 512 from hR ▸ Nat.le_trans (refs_ins _) (ins_512 hfr))
      obtain ⟨x0, h0⟩ : ∃ x, m.f[i].s = x := ⟨_, rfl⟩
      obtain ⟨x1, h1⟩ : ∃ x, m.f[i].b = x := ⟨_, rfl⟩
      obtain ⟨x2, h2⟩ : ∃ x, m.f[i].p = x := ⟨_, rfl⟩
      obtain ⟨x3, h3⟩ : ∃ x, m.f[i].l.length = x := ⟨_, rfl⟩
      rw [hR, h0, h1, h2, h3] at HR
      rw [hR] at HTH
      rw [h0] at k0 HFA HFI HGN
      rw [h1] at k1
      rw [h2] at k2
      rw [h3] at k3
      have hk0 : (0 : Int) ≤ (i : Int) := Int.natCast_nonneg _
      have hk1 : (i : Int) < (nf : Int) := by omega
      have HLT := Lib.hid hlt
      clear hfr hR h0 h1 h2 h3 hbk e0 hlt hm
      go_wp2_with fail
      refine HR.out.mono ?_
      rintro r w3 ⟨v', rfl, hs3, hb3⟩
      obtain ⟨A8, z8, hv8⟩ := RowOf.slice hs3
      obtain ⟨nu, hnu⟩ : ∃ x, R.length = x := ⟨_, rfl⟩
      rw [hnu] at hv8
      subst hv8
      have HRS := Lib.hid hs3
      have HNU := Lib.hid (show R.length ≤ nu ∧ nu ≤ R.length by omega)
      have u9 : (nu : Int) ≤ 512 := by have := HRL.out; omega
      have HI3 := Lib.hid ((hb3.block _ (Array.getElem?_eq_some_iff.1 HI.out).1).trans HI.out)
      have HB3 := Lib.hid (bthen HB.out hb3)
      clear hs3 hb3 hnu c0 c1 k0 k1 k2 k3
      go_wp2_with fail
      go_loopw [6] (fun iv wz => ∃ n : Nat, n ≤ nu ∧ iv = .int .i64 n ∧ Below w3.heap.size w3 wz) (fun iv _ => nu - (intOf iv).toNat)
      case atStart => exact ⟨0, Nat.zero_le _, rfl, Below.refl _ _⟩
      case round =>
        obtain ⟨n, hn, rfl, hbz⟩ := hrel
        have HBZ := Lib.hid hbz
        have HIZ := Lib.hid ((hbz.block _ (Array.getElem?_eq_some_iff.1 HI3.out).1).trans HI3.out)
        have HBB := Lib.hid (bthen HB3.out hbz)
        by_cases hln : n < nu
        · have hnm : n < R.length := by have := HNU.out; omega
          obtain ⟨b8, off8, hA8, hb8, e8⟩ := RowOf.at_ (HRS.out.next hbz) hnm
          subst hA8
          rw [Nat.mul_one] at e8
          have hth := HTH.out _ (List.getElem_mem hnm)
          obtain ⟨x, hx⟩ : ∃ x, R[n] = x := ⟨_, rfl⟩
          rw [hx] at e8 hth
          have d0 := Lib.cell_of_heap HIZ.out 0
          have d1 := Lib.cell_of_heap HIZ.out 1
          simp only [List.getElem?_toArray, List.getElem?_cons_zero, List.getElem?_cons_succ] at d0 d1
          have q2 : (0 : Int) ≤ (n : Int) := Int.natCast_nonneg _
          have q3 : (n : Int) < (nu : Int) := by omega
          have HLN := Lib.hid hln
          have hbx := (Array.getElem?_eq_some_iff.1 HIZ.out).1
          have f0 := fun p => Past.cell hbx d0 p
          have f1 := fun p => Past.cell hbx d1 p
          have f8 := fun p => Past.cell hb8 e8 p
          have HPF := Lib.hid (fun (p : Past wr) => HFF.out x p.W (bthen HBB.out p.h))
          have HPG := Lib.hid (fun (p : Past wr) => HFG.out x p.W (bthen HBB.out p.h))
          clear hx hnm hln hbz
          go_upto_region 1 with fail
          cases hf : fIdx (m.f.map (·.s)) x with
          | some j =>
            have tj : decide (idxE (some j) < 0) = false := decide_eq_false (by show ¬ ((j : Int) < 0); omega)
            rw [hf] at HPF
            clear hf hth
            refine wp_region_past (by kernel_rfl) (by kernel_rfl) ?_
            repeat (go_big_quiet_step (first | (go_at_call 48; refine past_of (HPF.out _)) | (go_at_call 49; refine past_of (HPG.out _))))
            refine wpQuiet_nil ?_
            rintro _ ⟨⟨W9, hb9⟩, rfl⟩
            clear f0 f1 f8 hbx
            have HB9 := Lib.hid (bthen HBZ.out hb9)
            clear hb9
            go_wp2_with fail
            go_roundw
            case rel => exact ⟨n + 1, HLN.out, by go_num, HB9.out⟩
            case measure => have := HLN.out; simp [intOf]; omega
          | none =>
            have hg : ∃ j, fIdx (m.g.map (·.s)) x = some j := by
              rcases hth with h | h
              · obtain ⟨j, hj⟩ := fIdx_mem h
                rw [hf] at hj; cases hj
              · exact fIdx_mem h
            obtain ⟨j, hg⟩ := hg
            have tn : decide (idxE none < 0) = true := rfl
            have tj : decide (idxE (some j) < 0) = false := decide_eq_false (by show ¬ ((j : Int) < 0); omega)
            rw [hf] at HPF
            rw [hg] at HPG
            clear hf hg hth
            refine wp_region_past (by kernel_rfl) (by kernel_rfl) ?_
            repeat (go_big_quiet_step (first | (go_at_call 48; refine past_of (HPF.out _)) | (go_at_call 49; refine past_of (HPG.out _))))
            refine wpQuiet_nil ?_
            rintro _ ⟨⟨W9, hb9⟩, rfl⟩
            clear f0 f1 f8 hbx
            have HB9 := Lib.hid (bthen HBZ.out hb9)
            clear hb9
            go_wp2_with fail
            go_roundw
            case rel => exact ⟨n + 1, HLN.out, by go_num, HB9.out⟩
            case measure => have := HLN.out; simp [intOf]; omega
        · have hd : decide ((n : Int) < (nu : Int)) = false := by simp; omega
          clear hbz
          have d0 := Lib.cell_of_heap HIZ.out 0
          have d1 := Lib.cell_of_heap HIZ.out 1
          simp only [List.getElem?_toArray, List.getElem?_cons_zero, List.getElem?_cons_succ] at d0 d1
          have d3 := HFA.out _ HBB.out
          have hbx := (Array.getElem?_eq_some_iff.1 HIZ.out).1
          have hbb := World.block_lt_of_cell? _ _ d3
          have f0 := fun p => Past.cell hbx d0 p
          have f1 := fun p => Past.cell hbx d1 p
          have f3 := fun p => Past.cell hbb d3 p
          have HPF := Lib.hid (fun (p : Past wr) => HFF.out x0 p.W (bthen HBB.out p.h))
          have HPG := Lib.hid (fun (p : Past wr) => HFG.out x0 p.W (bthen HBB.out p.h))
          rw [HFI.out] at HPF
          rw [HGN.out] at HPG
          have tn : decide (0 ≤ idxE none) = false := rfl
          have tj : (idxE (some i) == (i : Int)) = true := by simp [idxE]
          go_upto_region 1 with fail
          refine wp_region_past (by kernel_rfl) (by kernel_rfl) ?_
          repeat (go_big_quiet_step (first | (go_at_call 48; refine past_of (HPF.out _)) | (go_at_call 49; refine past_of (HPG.out _))))
          refine wpQuiet_nil ?_
          rintro _ ⟨⟨W9, hb9⟩, rfl⟩
          clear f0 f1 f3 hbx hbb
          have HI9 := Lib.hid ((hb9.block _ (Array.getElem?_eq_some_iff.1 HIZ.out).1).trans HIZ.out)
          have HB9 := Lib.hid (bthen HBB.out hb9)
          clear hb9
          go_wp2_with fail
          go_roundw
          case rel => exact ⟨i + 1, HLT.out, by go_num, HI9.out, HB9.out⟩
          case measure => have := HLT.out; simp [intOf]; omega
    · have hd : decide ((i : Int) < (nf : Int)) = false := by simp; omega
      have t1 : decide (nf ≤ 16) = true := decide_eq_true (by omega)
      have t2 : decide (ng ≤ 16) = true := decide_eq_true (by omega)
      go_wp2_with fail
      go_ret
      exact ⟨rfl, HB.out⟩
end Go.Proofs.Ytfhkikdohmbndaa
