/- What ReachNamed stands on, of the reference of layer 5 (part 3). -/
import Derived.Test.YtoglmdadpchhoaaHW1

namespace Go.Proofs.Ytoglmdadpchhoaa
open Go.RowKit
set_option maxRecDepth 100000 in
set_option maxHeartbeats 8000000 in
theorem refFunc_any (f : Fn) (C : Option Addr) (ca : Nat) (w : World) (hok : FnW f) (hS : Blocks w (.slice C f.l.length ca) f.l) :
    Calls Try.prog 45 #[.agg #[.string f.s, .int .i64 f.b, .int .i64 f.p, .slice C f.l.length ca]] w fun e w' => e = .returned (.bool (funcB f)) ∧ Below w.heap.size w w' := by
  obtain ⟨s, b, p, l⟩ := f
  obtain ⟨⟨hs, hl, -⟩, hbk⟩ := hok
  simp only at hs hl hbk hS ⊢
  have HN := Lib.hid (fun W : World => refName_any s W hs)
  obtain ⟨nl, hnl⟩ : ∃ n, l.length = n := ⟨_, rfl⟩
  have HE := Lib.hid (funcB_eq s b p l)
  have HL := Lib.hid (show l.length ≤ nl ∧ nl ≤ l.length by omega)
  rw [hnl] at HE hS hl ⊢
  have HR := Lib.hid (fun (k : Nat) (hk : k < l.length) (W : World) (hb : Below w.heap.size w W) => refBlock_any s b p l C nl ca k W hk hnl hl (hbk _ (List.getElem_mem hk)) (hS.next hb))
  have HS := Lib.hid hS
  have n9 : (nl : Int) ≤ 9223372036854775807 := by omega
  clear hbk hS hs hl hnl
  obtain ⟨V, hV⟩ : ∃ V, funcB ⟨s, b, p, l⟩ = V := ⟨_, rfl⟩
  rw [hV] at HE ⊢
  clear hV
  go_enter Try.func45, Try.ntmps45
  go_upto_region 1 with fail
  have HIN := Lib.hid (heap_alloc_new w (.cells #[.string s, .int .i64 b, .int .i64 p, .slice C nl ca] 50))
  have HB := Lib.hid (balloc (Below.refl _ w) (.cells #[.string s, .int .i64 b, .int .i64 p, .slice C nl ca] 50))
  generalize w.alloc (.cells #[.string s, .int .i64 b, .int .i64 p, .slice C nl ca] 50) = W at *
  have c0 := Lib.cell_of_heap HIN.out 0
  have c1 := Lib.cell_of_heap HIN.out 1
  have c2 := Lib.cell_of_heap HIN.out 2
  have c3 := Lib.cell_of_heap HIN.out 3
  simp only [List.getElem?_toArray, List.getElem?_cons_zero, List.getElem?_cons_succ] at c0 c1 c2 c3
  go_wp2_with fail
  refine (HN.out _).mono ?_
  rintro r w1 ⟨rfl, rfl⟩
  cases hn : nameB s with
  | false =>
    have HV := Lib.hid (show V = false by rw [HE.out, hn]; rfl)
    clear HE
    go_wp2_with fail
    go_ret
    exact ⟨by rw [HV.out]; rfl, HB.out⟩
  | true =>
    rw [hn] at HE
    clear hn
    by_cases b1 : b < 1
    case pos =>
      have tb1 : decide (b < 1) = true := decide_eq_true b1
      have HV := Lib.hid (show V = false by rw [HE.out, decide_eq_false (by omega : ¬ 1 ≤ b)]; rfl)
      clear HE
      go_wp2_with fail
      go_ret
      exact ⟨by rw [HV.out]; rfl, HB.out⟩
    have tb1 : decide (b < 1) = false := decide_eq_false b1
    by_cases b3 : 3 < b
    case pos =>
      have tb3 : decide (3 < b) = true := decide_eq_true b3
      have HV := Lib.hid (show V = false by rw [HE.out, decide_eq_false (by omega : ¬ b ≤ 3)]; simp)
      clear HE
      go_wp2_with fail
      go_ret
      exact ⟨by rw [HV.out]; rfl, HB.out⟩
    have tb3 : decide (3 < b) = false := decide_eq_false b3
    by_cases p0 : p < 0
    case pos =>
      have tp0 : decide (p < 0) = true := decide_eq_true p0
      have HV := Lib.hid (show V = false by rw [HE.out, decide_eq_false (by omega : ¬ 0 ≤ p)]; simp)
      clear HE
      go_wp2_with fail
      go_ret
      exact ⟨by rw [HV.out]; rfl, HB.out⟩
    have tp0 : decide (p < 0) = false := decide_eq_false p0
    by_cases p6 : 6 < p
    case pos =>
      have tp6 : decide (6 < p) = true := decide_eq_true p6
      have HV := Lib.hid (show V = false by rw [HE.out, decide_eq_false (by omega : ¬ p ≤ 6)]; simp)
      clear HE
      go_wp2_with fail
      go_ret
      exact ⟨by rw [HV.out]; rfl, HB.out⟩
    have tp6 : decide (6 < p) = false := decide_eq_false p6
    by_cases l16 : 16 < nl
    case pos =>
      have t16 : decide ((16 : Int) < (nl : Int)) = true := decide_eq_true (by omega)
      have HV := Lib.hid (show V = false by rw [HE.out, decide_eq_false (by omega : ¬ nl ≤ 16)]; simp)
      clear HE
      go_wp2_with fail
      go_ret
      exact ⟨by rw [HV.out]; rfl, HB.out⟩
    have t16 : decide ((16 : Int) < (nl : Int)) = false := decide_eq_false (by omega)
    rw [decide_eq_true (by omega : 1 ≤ b), decide_eq_true (by omega : b ≤ 3), decide_eq_true (by omega : 0 ≤ p), decide_eq_true (by omega : p ≤ 6), decide_eq_true (by omega : nl ≤ 16)] at HE
    have n16 : (nl : Int) ≤ 16 := by omega
    clear b1 b3 p0 p6 l16 n9
    cases l with
    | nil =>
      obtain rfl : nl = 0 := by have := HL.out; simp at this; omega
      have HV := Lib.hid (show V = !(b == 1) by rw [HE.out]; rfl)
      clear HE HL HS HR
      go_wp2_with fail
      go_ret
      exact ⟨by rw [HV.out]; rfl, HB.out⟩
    | cons c l =>
      have h0 : 0 < nl := by have := HL.out; simp at this; omega
      have hS := HS.out
      rcases hS with ⟨hq, -⟩ | ⟨_, bb, off, cap, hv, hbb, hat⟩
      · cases hq
      obtain ⟨hC, -, -⟩ := Value.slice.inj hv
      subst hC
      obtain ⟨d0, -⟩ := BkAt.next _ _ _ _ _ hbb HB.out (hat 0 (by simp))
      simp only [Nat.zero_mul, Nat.add_zero, List.getElem_cons_zero] at d0
      have HV := Lib.hid (show V = (c.p == p && (c :: l).all (blockB (c :: l))) by rw [HE.out]; rfl)
      obtain ⟨P, hP⟩ : ∃ P, c.p = P := ⟨_, rfl⟩
      rw [hP] at d0 HV
      have ez : ((nl : Int) == 0) = false := by simp; omega
      have i1 : (0 : Int) < (nl : Int) := by omega
      obtain ⟨L, hLL⟩ : ∃ L, c :: l = L := ⟨_, rfl⟩
      rw [hLL] at HR HL HV
      clear HE hv hat HS hP hLL hbb
      go_upto_region 6 with fail
      cases hq : (P == p) with
      | false =>
        have HF := Lib.hid (show V = false by rw [HV.out, hq]; rfl)
        go_quiet (fail)
        go_wp2_with fail
        go_ret
        exact ⟨by rw [HF.out]; rfl, below_drewN HB.out _⟩
      | true =>
        have HF := Lib.hid (show V = L.all (blockB L) by rw [HV.out, hq]; rfl)
        clear HV
        obtain rfl : p = P := by simp at hq; exact hq.symm
        go_quiet (fail)
        have HBW := Lib.hid (show Below w.heap.size w (W.drewN nq) from below_drewN HB.out _)
        have HIW := Lib.hid (show (W.drewN nq).heap[w.heap.size]? = some (.cells #[.string s, .int .i64 b, .int .i64 p, .slice (some ⟨bb, off, none⟩) nl ca] 50 (0, 0)) from HIN.out)
        generalize W.drewN nq = W5 at *
        go_wp2_with fail
        clear c0 c1 c2 c3 d0 hq ez i1
        go_loopw [4] (fun iv wr => ∃ k : Nat, k ≤ nl ∧ iv = .int .i64 k ∧ (L.take k).all (blockB L) = true ∧ wr.heap[w.heap.size]? = some (.cells #[.string s, .int .i64 b, .int .i64 p, .slice (some ⟨bb, off, none⟩) nl ca] 50 (0, 0)) ∧ Below w.heap.size w wr) (fun iv _ => nl - (intOf iv).toNat)
        case atStart => exact ⟨0, Nat.zero_le _, rfl, rfl, HIW.out, HBW.out⟩
        case round =>
          obtain ⟨k, hk, rfl, hs, hin, hb⟩ := hrel
          have HT := Lib.hid hs
          have HI2 := Lib.hid hin
          have HB2 := Lib.hid hb
          have c0 := Lib.cell_of_heap hin 0
          have c1 := Lib.cell_of_heap hin 1
          have c2 := Lib.cell_of_heap hin 2
          have c3 := Lib.cell_of_heap hin 3
          simp only [List.getElem?_toArray, List.getElem?_cons_zero, List.getElem?_cons_succ] at c0 c1 c2 c3
          clear hs hin hb
          by_cases hlt : k < nl
          · have hm : k < L.length := by have := HL.out; omega
            have HC := Lib.hid (HR.out k hm wr HB2.out)
            have HNX := Lib.hid (show (L.take (k + 1)).all (blockB L) = blockB L L[k] by
              rw [List.take_succ_eq_append_getElem hm, List.all_append, HT.out]
              simp)
            have HNO := Lib.hid (show blockB L L[k] = false → L.all (blockB L) = false from fun h => by
              rw [List.all_eq_false]
              exact ⟨L[k], List.getElem_mem hm, by simp [h]⟩)
            obtain ⟨X, hX⟩ : ∃ X, blockB L L[k] = X := ⟨_, rfl⟩
            rw [hX] at HC HNX HNO
            have k0 : (0 : Int) ≤ (k : Int) := Int.natCast_nonneg _
            have k1 : (k : Int) < (nl : Int) := by omega
            have HLT := Lib.hid hlt
            clear hX hm hlt
            go_wp2_with fail
            refine HC.out.mono ?_
            rintro r w2 ⟨rfl, hb2⟩
            have HI3 := Lib.hid ((hb2.block _ (Array.getElem?_eq_some_iff.1 HI2.out).1).trans HI2.out)
            have HB3 := Lib.hid (bthen HB2.out hb2)
            clear hb2 c0 c1 c2 c3
            cases X with
            | false =>
              have HZ := Lib.hid (show V = false by rw [HF.out]; exact HNO.out rfl)
              go_wp2_with fail
              go_ret
              exact ⟨by rw [HZ.out]; rfl, HB3.out⟩
            | true =>
              go_wp2_with fail
              go_roundw
              case rel => exact ⟨k + 1, HLT.out, by go_num, HNX.out, HI3.out, HB3.out⟩
              case measure => have := HLT.out; simp [intOf]; omega
          · have hd : decide ((k : Int) < (nl : Int)) = false := by simp; omega
            have HZ := Lib.hid (show V = true by
              have h := HT.out
              rw [List.take_of_length_le (by have := HL.out; omega)] at h
              rw [HF.out]; exact h)
            go_wp2_with fail
            go_ret
            exact ⟨by rw [HZ.out]; rfl, HB2.out⟩
theorem str_info0 : ∃ i : TypeInfo, Try.prog.info? 9 = some i ∧ i.zero = some (.string ⟨#[]⟩) ∧ i.size = 1 ∧ i.bytes = 16 := by
  obtain ⟨i, h1, h2, h3, h4⟩ := info_parts str_info
  exact ⟨i, h1, h2, h3, h4⟩
set_option maxRecDepth 100000 in
set_option maxHeartbeats 8000000 in
/-- all names of a module, where there are not too many -/
theorem refNames_any (m : Md) (F G : Option Addr) (nf cf ng cg : Nat) (w : World) (hnf : m.f.length = nf) (hng : m.g.length = ng) (hf16 : nf ≤ 16) (hg16 : ng ≤ 16) (hS : MdAt w (.slice F nf cf) (.slice G ng cg) m) :
    Calls Try.prog 47 #[.agg #[.slice F nf cf, .slice G ng cg]] w (NewNames (namesM m) w) := by
  have HS := Lib.hid hS
  have HNF := Lib.hid (show m.f.length ≤ nf ∧ nf ≤ m.f.length by omega)
  have HNG := Lib.hid (show m.g.length ≤ ng ∧ ng ≤ m.g.length by omega)
  have f16 : (nf : Int) ≤ 16 := by omega
  have g16 : (ng : Int) ≤ 16 := by omega
  obtain ⟨i0, qi, qz0, qz1, qz2⟩ := str_info0
  have HII := Lib.hid (And.intro qi (And.intro qz0 (And.intro qz1 qz2)))
  clear hS hnf hng hf16 hg16 qi qz0 qz1 qz2
  go_enter Try.func47, Try.ntmps47
  go_upto_region 1 with fail
  have HIN := Lib.hid (heap_alloc_new w (.cells #[.slice F nf cf, .slice G ng cg] 25))
  have HBW := Lib.hid (balloc (Below.refl _ w) (.cells #[.slice F nf cf, .slice G ng cg] 25))
  generalize w.alloc (.cells #[.slice F nf cf, .slice G ng cg] 25) = W0 at *
  go_wp2_with fail
  go_loopw [3, 4] (fun vv iv wr => ∃ i : Nat, i ≤ nf ∧ iv = .int .i64 i ∧ OwnsN wr (w.heap.size + 1) vv ((m.f.take i).map (·.s)) ∧ wr.heap[w.heap.size]? = some (.cells #[.slice F nf cf, .slice G ng cg] 25 (0, 0)) ∧ Below w.heap.size w wr ∧ w.heap.size + 1 ≤ wr.heap.size) (fun _ iv _ => nf - (intOf iv).toNat)
  case atStart => exact ⟨0, Nat.zero_le _, rfl, ⟨rfl, .inl ⟨rfl, rfl⟩⟩, HIN.out, HBW.out, (Array.getElem?_eq_some_iff.1 HIN.out).1⟩
  case round =>
    obtain ⟨i, hi, rfl, ho, hin, hb, hsz⟩ := hrel
    obtain ⟨L, hL⟩ : ∃ L, (m.f.take i).map (·.s) = L := ⟨_, rfl⟩
    rw [hL] at ho
    have HO := Lib.hid ho
    have HI := Lib.hid hin
    have HB := Lib.hid hb
    have HSZ := Lib.hid hsz
    obtain ⟨A0, z0, hv0⟩ := ho.form
    have c0 := Lib.cell_of_heap hin 0
    have c1 := Lib.cell_of_heap hin 1
    simp only [List.getElem?_toArray, List.getElem?_cons_zero, List.getElem?_cons_succ] at c0 c1
    have HLL := Lib.hid (show L.length ≤ 32 by rw [← hL]; simp; have := HNF.out; omega)
    by_cases hlt : i < nf
    · have hm : i < m.f.length := by have := HNF.out; omega
      have HNX := Lib.hid (show (m.f.take (i + 1)).map (·.s) = L ++ [m.f[i].s] by rw [← hL, List.take_succ_eq_append_getElem hm, List.map_append]; rfl)
      obtain ⟨b2, off, hA, hbl, e0⟩ := RowOf.at_ HS.out.1 hm
      subst hA
      obtain ⟨c4, -⟩ := FnAt.next _ _ _ _ _ hbl hb e0
      obtain ⟨x, hx⟩ : ∃ x, m.f[i].s = x := ⟨_, rfl⟩
      rw [hx] at c4 HNX
      obtain ⟨nL, hnL⟩ : ∃ n, L.length = n := ⟨_, rfl⟩
      rw [hnL] at hv0 HLL
      subst hv0
      have hk0 : (0 : Int) ≤ (i : Int) := Int.natCast_nonneg _
      have hk1 : (i : Int) < (nf : Int) := by omega
      have HLT := Lib.hid hlt
      have HAL := Lib.hid (ownsN_kept ho (World.grownBy_alloc wr (.cells #[.string x] 9) none) (by by_cases h : (Value.slice A0 nL z0).ownBlock = none; exact .inl h; exact .inr h))
      have HOWN := Lib.hid (show (wr.alloc (.cells #[.string x] 9)).ownsRow (w.heap.size + 1) 9 1 (.slice A0 nL z0) nL (strRow L) by have := HAL.out; rw [← hnL]; unfold OwnsN at this; rw [hnL] at this ⊢; exact this)
      have HONE := Lib.hid (show ∀ u ∈ [Value.string x], u.oneCell' = true from fun u hu => by obtain rfl : u = Value.string x := (by simpa using hu); rfl)
      have HL63 := Lib.hid (show nL + 1 ≤ maxLen by unfold maxLen; have := HLL.out; omega)
      have HL16 := Lib.hid (show (nL + 1) * 16 ≤ 140737488355328 by have := HLL.out; omega)
      have HBAS := Lib.hid (show w.heap.size + 1 ≤ (wr.alloc (.cells #[.string x] 9)).heap.size by have := HSZ.out; simp; omega)
      have HBX := Lib.hid (balloc (Below.refl _ wr) (.cells #[.string x] 9))
      have HNL := Lib.hid hnL
      clear hx hm hlt e0 ho hin hb hsz hL hnL hbl
      go_wp2_with (at_builtin; go_loud (refine wpList_append_own_at _ rfl _ _ 45 rfl (w.heap.size + 1) 9 i0 (.string ⟨#[]⟩) 1 16 Try.underlying45 HII.out.1 HII.out.2.1 HII.out.2.2.1 HII.out.2.2.2 rfl (by omega) (.slice A0 nL z0) nL (strRow L) rfl HOWN.out ⟨wr.heap.size, 0, none⟩ 1 1 [.string x] rfl rfl (cell_one_new _ _ _) HONE.out HL63.out HL16.out HBAS.out ?_; intro v' w1 hown hgrow hnil hat))
      have HG := Lib.hid hgrow
      have HOW := Lib.hid hown
      clear hgrow hown hnil hat c0 c1 c4
      go_wp2_with fail
      have HKB := Lib.hid ((HG.out.block w.heap.size (by have := HSZ.out; simp; omega) (fun e => by have := (HO.out.block _ e.symm).1; omega)).trans ((HBX.out.block _ (Array.getElem?_eq_some_iff.1 HI.out).1).trans HI.out))
      have HBB := Lib.hid (show Below w.heap.size w w1 from below_grown HG.out (bthen HB.out HBX.out).size (fun r e => by have := (HO.out.block _ e).1; omega) |> fun g => (bthen HB.out HBX.out).trans g)
      go_roundw
      case rel =>
        refine ⟨i + 1, HLT.out, by go_num, ?_, HKB.out, HBB.out, Nat.le_trans HBAS.out HG.out.size⟩
        rw [HNX.out]
        unfold OwnsN
        rw [List.length_append, HNL.out]
        simpa [strRow] using HOW.out
      case measure => have := HLT.out; simp [intOf]; omega
    · have hd : decide ((i : Int) < (nf : Int)) = false := by simp; omega
      have HF := Lib.hid (show L = m.f.map (·.s) by rw [← hL, List.take_of_length_le (by have := HNF.out; omega)])
      go_wp2_with fail
      clear c0 c1 hd
      go_loopw [3, 5] (fun vv iv wr => ∃ i : Nat, i ≤ ng ∧ iv = .int .i64 i ∧ OwnsN wr (w.heap.size + 1) vv (m.f.map (·.s) ++ (m.g.take i).map (·.s)) ∧ wr.heap[w.heap.size]? = some (.cells #[.slice F nf cf, .slice G ng cg] 25 (0, 0)) ∧ Below w.heap.size w wr ∧ w.heap.size + 1 ≤ wr.heap.size) (fun _ iv _ => ng - (intOf iv).toNat)
      case atStart => exact ⟨0, Nat.zero_le _, rfl, by rw [List.take_zero, List.map_nil, List.append_nil, ← HF.out]; exact HO.out, HI.out, HB.out, HSZ.out⟩
      case round =>
        obtain ⟨i, hi, rfl, ho, hin, hb, hsz⟩ := hrel
        obtain ⟨L, hL⟩ : ∃ L, m.f.map (·.s) ++ (m.g.take i).map (·.s) = L := ⟨_, rfl⟩
        rw [hL] at ho
        have HO := Lib.hid ho
        have HI := Lib.hid hin
        have HB := Lib.hid hb
        have HSZ := Lib.hid hsz
        obtain ⟨A0, z0, hv0⟩ := ho.form
        have c0 := Lib.cell_of_heap hin 0
        have c1 := Lib.cell_of_heap hin 1
        simp only [List.getElem?_toArray, List.getElem?_cons_zero, List.getElem?_cons_succ] at c0 c1
        have HLL := Lib.hid (show L.length ≤ 32 by rw [← hL]; simp; have := HNF.out; have := HNG.out; omega)
        by_cases hlt : i < ng
        · have hm : i < m.g.length := by have := HNG.out; omega
          have HNX := Lib.hid (show m.f.map (·.s) ++ (m.g.take (i + 1)).map (·.s) = L ++ [m.g[i].s] by rw [← hL, List.take_succ_eq_append_getElem hm, List.map_append]; rw [← List.append_assoc]; rfl)
          obtain ⟨b2, off, hA, hbl, e0⟩ := RowOf.at_ HS.out.2 hm
          subst hA
          obtain ⟨c4, -⟩ := GlAt.next _ _ _ _ _ hbl hb e0
          obtain ⟨x, hx⟩ : ∃ x, m.g[i].s = x := ⟨_, rfl⟩
          rw [hx] at c4 HNX
          obtain ⟨nL, hnL⟩ : ∃ n, L.length = n := ⟨_, rfl⟩
          rw [hnL] at hv0 HLL
          subst hv0
          have hk0 : (0 : Int) ≤ (i : Int) := Int.natCast_nonneg _
          have hk1 : (i : Int) < (ng : Int) := by omega
          have HLT := Lib.hid hlt
          have HAL := Lib.hid (ownsN_kept ho (World.grownBy_alloc wr (.cells #[.string x] 9) none) (by by_cases h : (Value.slice A0 nL z0).ownBlock = none; exact .inl h; exact .inr h))
          have HOWN := Lib.hid (show (wr.alloc (.cells #[.string x] 9)).ownsRow (w.heap.size + 1) 9 1 (.slice A0 nL z0) nL (strRow L) by have := HAL.out; rw [← hnL]; unfold OwnsN at this; rw [hnL] at this ⊢; exact this)
          have HONE := Lib.hid (show ∀ u ∈ [Value.string x], u.oneCell' = true from fun u hu => by obtain rfl : u = Value.string x := (by simpa using hu); rfl)
          have HL63 := Lib.hid (show nL + 1 ≤ maxLen by unfold maxLen; have := HLL.out; omega)
          have HL16 := Lib.hid (show (nL + 1) * 16 ≤ 140737488355328 by have := HLL.out; omega)
          have HBAS := Lib.hid (show w.heap.size + 1 ≤ (wr.alloc (.cells #[.string x] 9)).heap.size by have := HSZ.out; simp; omega)
          have HBX := Lib.hid (balloc (Below.refl _ wr) (.cells #[.string x] 9))
          have HNL := Lib.hid hnL
          clear hx hm hlt e0 ho hin hb hsz hL hnL hbl
          go_wp2_with (at_builtin; go_loud (refine wpList_append_own_at _ rfl _ _ 45 rfl (w.heap.size + 1) 9 i0 (.string ⟨#[]⟩) 1 16 Try.underlying45 HII.out.1 HII.out.2.1 HII.out.2.2.1 HII.out.2.2.2 rfl (by omega) (.slice A0 nL z0) nL (strRow L) rfl HOWN.out ⟨wr.heap.size, 0, none⟩ 1 1 [.string x] rfl rfl (cell_one_new _ _ _) HONE.out HL63.out HL16.out HBAS.out ?_; intro v' w1 hown hgrow hnil hat))
          have HG := Lib.hid hgrow
          have HOW := Lib.hid hown
          clear hgrow hown hnil hat c0 c1 c4
          go_wp2_with fail
          have HKB := Lib.hid ((HG.out.block w.heap.size (by have := HSZ.out; simp; omega) (fun e => by have := (HO.out.block _ e.symm).1; omega)).trans ((HBX.out.block _ (Array.getElem?_eq_some_iff.1 HI.out).1).trans HI.out))
          have HBB := Lib.hid (show Below w.heap.size w w1 from below_grown HG.out (bthen HB.out HBX.out).size (fun r e => by have := (HO.out.block _ e).1; omega) |> fun g => (bthen HB.out HBX.out).trans g)
          go_roundw
          case rel =>
            refine ⟨i + 1, HLT.out, by go_num, ?_, HKB.out, HBB.out, Nat.le_trans HBAS.out HG.out.size⟩
            rw [HNX.out]
            unfold OwnsN
            rw [List.length_append, HNL.out]
            simpa [strRow] using HOW.out
          case measure => have := HLT.out; simp [intOf]; omega
        · have hd : decide ((i : Int) < (ng : Int)) = false := by simp; omega
          have HF := Lib.hid (show L = namesM m by rw [← hL, List.take_of_length_le (by have := HNG.out; omega)]; rfl)
          subst hv0
          go_wp2_with fail
          go_ret
          exact ⟨_, rfl, by rw [← HF.out]; exact HO.out.strs, HB.out⟩
end Go.Proofs.Ytoglmdadpchhoaa
namespace Go.Proofs.Ytoglmdadpchhoaa
open Go.RowKit
theorem grown_of {W W' : World} (h : Below W.heap.size W W') : W.grownBy W' none := ⟨h.os, h.tape, h.output, h.size, fun i hi _ => h.block i hi⟩
theorem insNames_app (l k : List In) : insNames (l ++ k) = insNames l ++ insNames k := by
  unfold insNames
  rw [List.filter_append, List.map_append]
theorem insNames_take {l : List In} {j : Nat} (hj : j < l.length) : insNames (l.take (j + 1)) = if hasB l[j].o = true then insNames (l.take j) ++ [l[j].s] else insNames (l.take j) := by
  rw [List.take_succ_eq_append_getElem hj, insNames_app]
  unfold insNames
  cases h : hasB l[j].o <;> simp [h]
theorem insNames_len (l : List In) : (insNames l).length ≤ l.length := by
  unfold insNames
  rw [List.length_map]
  exact List.length_filter_le _ _
def refK (l : List Bk) (k : Nat) : List ByteArray := ((l.take k).map fun b => insNames b.i).flatten
theorem refK_succ (l : List Bk) (k : Nat) (h : k < l.length) : refK l (k + 1) = refK l k ++ insNames l[k].i := by
  unfold refK
  rw [List.take_succ_eq_append_getElem h, List.map_append, List.flatten_append]
  simp
theorem refK_all (f : Fn) (k : Nat) (h : f.l.length ≤ k) : refK f.l k = refsL f := by
  unfold refK refsL
  rw [List.take_of_length_le h]
theorem refK_len (l : List Bk) (k : Nat) : (refK l k).length ≤ (((l.take k).map (·.i)).flatten).length := by
  unfold refK
  generalize l.take k = r
  induction r with
  | nil => simp
  | cons c r ih =>
    rw [List.map_cons, List.map_cons, List.flatten_cons, List.flatten_cons, List.length_append, List.length_append]
    have := insNames_len c.i
    omega
theorem ref_room {f : Fn} {k n : Nat} (hk : k < f.l.length) : (refK f.l k ++ insNames (f.l[k].i.take n)).length ≤ (insF f).length := by
  have h1 := refK_len f.l k
  have h2 := insNames_len (f.l[k].i.take n)
  have h3 : (f.l[k].i.take n).length ≤ f.l[k].i.length := by rw [List.length_take]; omega
  have h4 : (((f.l.take (k + 1)).map (·.i)).flatten).length ≤ (insF f).length := by
    unfold insF
    rw [show (f.l.map (·.i)).flatten = ((f.l.take (k + 1)).map (·.i)).flatten ++ ((f.l.drop (k + 1)).map (·.i)).flatten by rw [← List.flatten_append, ← List.map_append, List.take_append_drop], List.length_append]
    omega
  rw [List.take_succ_eq_append_getElem hk, List.map_append, List.flatten_append, List.length_append] at h4
  simp only [List.map_cons, List.map_nil, List.flatten_cons, List.flatten_nil, List.append_nil] at h4
  rw [List.length_append]
  omega
set_option maxRecDepth 100000 in
set_option maxHeartbeats 8000000 in
theorem refRefs_any (f : Fn) (C : Option Addr) (nl ca : Nat) (w : World) (hna : f.l.length = nl) (hok : FnOk f) (hcnt : (insF f).length * 16 ≤ 140737488355000) (hS : Blocks w (.slice C nl ca) f.l) :
    Calls Try.prog 22 #[.agg #[.string f.s, .int .i64 f.b, .int .i64 f.p, .slice C nl ca]] w (NewNames (refsL f) w) := by
  have HS := Lib.hid hS
  have HOK := Lib.hid hok
  have HNL := Lib.hid (show f.l.length ≤ nl ∧ nl ≤ f.l.length by omega)
  have HRM := Lib.hid (fun (k n : Nat) (hk : k < f.l.length) => (show (refK f.l k ++ insNames (f.l[k].i.take n)).length * 16 ≤ 140737488355000 from by have := ref_room (n := n) hk; omega))
  have HALL := Lib.hid (refK_all f)
  have n9 : (nl : Int) ≤ 9223372036854775807 := by have := hok.2.1; omega
  obtain ⟨s, b, p, l⟩ := f
  simp only at HS HNL HRM HALL ⊢
  obtain ⟨i0, qi, qz0, qz1, qz2⟩ := str_info0
  have HII := Lib.hid (And.intro qi (And.intro qz0 (And.intro qz1 qz2)))
  clear hS hok hcnt hna qi qz0 qz1 qz2
  go_enter Try.func22, Try.ntmps22
  go_upto_region 1 with fail
  have HIN := Lib.hid (heap_alloc_new w (.cells #[.string s, .int .i64 b, .int .i64 p, .slice C nl ca] 50))
  have HBW := Lib.hid (balloc (Below.refl _ w) (.cells #[.string s, .int .i64 b, .int .i64 p, .slice C nl ca] 50))
  generalize w.alloc (.cells #[.string s, .int .i64 b, .int .i64 p, .slice C nl ca] 50) = W0 at *
  go_wp2_with fail
  go_loopw [3, 4] (fun vv iv wr => ∃ k : Nat, k ≤ nl ∧ iv = .int .i64 k ∧ OwnsN wr (w.heap.size + 1) vv (refK l k) ∧ wr.heap[w.heap.size]? = some (.cells #[.string s, .int .i64 b, .int .i64 p, .slice C nl ca] 50 (0, 0)) ∧ Below w.heap.size w wr ∧ w.heap.size + 1 ≤ wr.heap.size) (fun _ iv _ => nl - (intOf iv).toNat)
  case atStart => exact ⟨0, Nat.zero_le _, rfl, ⟨rfl, .inl ⟨rfl, rfl⟩⟩, HIN.out, HBW.out, (Array.getElem?_eq_some_iff.1 HIN.out).1⟩
  case round =>
    obtain ⟨k, hk, rfl, ho, hin, hb, hsz⟩ := hrel
    have HO := Lib.hid ho
    have HI := Lib.hid hin
    have HB := Lib.hid hb
    have HSZ := Lib.hid hsz
    have c3 := Lib.cell_of_heap hin 3
    simp only [List.getElem?_toArray, List.getElem?_cons_zero, List.getElem?_cons_succ] at c3
    clear ho hin hb hsz
    by_cases hlk : k < nl
    · have hkm : k < l.length := by have := HNL.out; omega
      obtain ⟨b1, off, hA, hbl, e0⟩ := RowOf.at_ HS.out hkm
      subst hA
      obtain ⟨-, ⟨A3, z3, g1, hins⟩, -⟩ := id e0
      have HG1 := Lib.hid (fun (U : World) (hU : Below w.heap.size w U) => (cellNext hbl hU _).trans g1)
      have HINS := Lib.hid hins
      have HSK := Lib.hid (refK_succ l k hkm)
      have HR2 := Lib.hid (fun (n : Nat) => HRM.out k n hkm)
      have hbo := (HOK.out.2.2 l[k] (List.getElem_mem hkm)).1
      obtain ⟨bi, hbi⟩ : ∃ x, l[k].i = x := ⟨_, rfl⟩
      rw [hbi] at HG1 HINS HSK hbo
      simp only [hbi] at HR2
      obtain ⟨ni, hni⟩ : ∃ n, bi.length = n := ⟨_, rfl⟩
      have HNI := Lib.hid (show bi.length ≤ ni ∧ ni ≤ bi.length by omega)
      rw [hni] at HG1 HINS hbo
      have q0 : (0 : Int) ≤ (k : Int) := Int.natCast_nonneg _
      have q1 : (k : Int) < (nl : Int) := by omega
      have i9 : (ni : Int) ≤ 9223372036854775807 := by omega
      have HLK := Lib.hid hlk
      clear hbi hkm e0 hins g1 hni hlk hbo hbl
      go_wp2_with fail
      clear c3
      go_loopw [3, 5] (fun vv iv wr => ∃ n : Nat, n ≤ ni ∧ iv = .int .i64 n ∧ OwnsN wr (w.heap.size + 1) vv (refK l k ++ insNames (bi.take n)) ∧ wr.heap[w.heap.size]? = some (.cells #[.string s, .int .i64 b, .int .i64 p, .slice (some ⟨b1, off, none⟩) nl ca] 50 (0, 0)) ∧ Below w.heap.size w wr ∧ w.heap.size + 1 ≤ wr.heap.size) (fun _ iv _ => ni - (intOf iv).toNat)
      case atStart => exact ⟨0, Nat.zero_le _, rfl, by rw [List.take_zero, show insNames [] = [] from rfl, List.append_nil]; exact HO.out, HI.out, HB.out, HSZ.out⟩
      case round =>
        obtain ⟨n, hn, rfl, ho, hin, hb, hsz⟩ := hrel
        have HL16 := Lib.hid (HR2.out (n + 1))
        have HX0 := Lib.hid (show refK l k ++ insNames (bi.take ni) = refK l (k + 1) by rw [HSK.out, List.take_of_length_le (by have := HNI.out; omega)])
        have HX := Lib.hid (fun (hn : n < bi.length) => insNames_take hn)
        obtain ⟨L, hL⟩ : ∃ L, refK l k ++ insNames (bi.take n) = L := ⟨_, rfl⟩
        have HLQ := Lib.hid hL
        rw [hL] at ho
        have HO2 := Lib.hid ho
        have HI2 := Lib.hid hin
        have HB2 := Lib.hid hb
        have HSZ2 := Lib.hid hsz
        obtain ⟨A0, z0, hv0⟩ := ho.form
        have c3 := Lib.cell_of_heap hin 3
        simp only [List.getElem?_toArray, List.getElem?_cons_zero, List.getElem?_cons_succ] at c3
        have g1 := HG1.out _ hb
        clear hin hb hsz
        by_cases hln : n < ni
        · have hnm : n < bi.length := by have := HNI.out; omega
          obtain ⟨b2, off2, hA2, hbl2, e2⟩ := RowOf.at_ HINS.out hnm
          subst hA2
          obtain ⟨p0, p1, p2, p3, p4, A5, z5, p5, -⟩ := InAt.next _ _ _ _ _ hbl2 HB2.out e2
          have HN1 := Lib.hid (HX.out hnm)
          obtain ⟨⟨y0, y1, y2, y3, y4, yl⟩, hy⟩ : ∃ y, bi[n] = y := ⟨_, rfl⟩
          rw [hy] at p0 p1 p2 p3 p4 p5 HN1
          simp only at p0 p1 p2 p3 p4 p5 HN1
          obtain ⟨y5, hy5⟩ : ∃ n, yl.length = n := ⟨_, rfl⟩
          rw [hy5] at p5
          have HNM := Lib.hid (fun (U : World) => refNamed_any y0 y1 y2 y3 y4 (.slice A5 y5 z5) U)
          have r0 : (0 : Int) ≤ (n : Int) := Int.natCast_nonneg _
          have r1 : (n : Int) < (ni : Int) := by omega
          have HLN := Lib.hid hln
          obtain ⟨nL, hnL⟩ : ∃ n, L.length = n := ⟨_, rfl⟩
          rw [hnL] at hv0
          subst hv0
          have HNQ := Lib.hid hnL
          have HP4 := Lib.hid (fun (U : World) (hU : Below w.heap.size w U) => (show U.cell? ⟨b2, off2 + n * 6 + 4, none⟩ = some (.string y4) from by
            have h := (cellNext hbl2 hU (off2 + n * 6 + 4)).trans e2.2.2.2.2.1
            rw [hy] at h
            exact h))
          clear e2 hbl2 ho
          clear hy hy5 hnm hln hnL hL
          go_wp2_with fail
          refine (HNM.out _).mono ?_
          rintro r w3 ⟨rfl, hb3⟩
          have HB3 := Lib.hid (bthen HB2.out hb3)
          have HI3 := Lib.hid ((hb3.block _ (Array.getElem?_eq_some_iff.1 HI2.out).1).trans HI2.out)
          have HO3 := Lib.hid (show OwnsN w3 (w.heap.size + 1) (.slice A0 nL z0) L from ownsN_kept HO2.out (grown_of hb3) (by by_cases h : (Value.slice A0 nL z0).ownBlock = none; exact .inl h; exact .inr h))
          have HSZ3 := Lib.hid (Nat.le_trans HSZ2.out hb3.size)
          clear hb3 c3 g1 p0 p1 p2 p3 p4 p5
          cases hh : hasB y0 with
          | false =>
            have HV := Lib.hid (show refK l k ++ insNames (bi.take (n + 1)) = L by rw [HN1.out, hh, ← HLQ.out]; rfl)
            clear hh
            go_wp2_with fail
            go_roundw
            case rel => exact ⟨n + 1, HLN.out, by go_num, by rw [HV.out]; exact HO3.out, HI3.out, HB3.out, HSZ3.out⟩
            case measure => have := HLN.out; simp [intOf]; omega
          | true =>
            have HV := Lib.hid (show refK l k ++ insNames (bi.take (n + 1)) = L ++ [y4] by rw [HN1.out, hh, ← HLQ.out]; simp)
            rw [HV.out, List.length_append, HNQ.out] at HL16
            clear hh
            have c3 := Lib.cell_of_heap HI3.out 3
            simp only [List.getElem?_toArray, List.getElem?_cons_zero, List.getElem?_cons_succ] at c3
            have g1 := HG1.out _ HB3.out
            have p4 := HP4.out _ HB3.out
            have HAL := Lib.hid (ownsN_kept HO3.out (World.grownBy_alloc w3 (.cells #[.string y4] 9) none) (by by_cases h : (Value.slice A0 nL z0).ownBlock = none; exact .inl h; exact .inr h))
            have HOWN := Lib.hid (show (w3.alloc (.cells #[.string y4] 9)).ownsRow (w.heap.size + 1) 9 1 (.slice A0 nL z0) nL (strRow L) by have := HAL.out; unfold OwnsN at this; rwa [HNQ.out] at this)
            have HONE := Lib.hid (show ∀ u ∈ [Value.string y4], u.oneCell' = true from fun u hu => by obtain rfl : u = Value.string y4 := (by simpa using hu); rfl)
            have HM63 := Lib.hid (show nL + 1 ≤ maxLen by unfold maxLen; have := HL16.out; simp at this; omega)
            have HM16 := Lib.hid (show (nL + 1) * 16 ≤ 140737488355328 by have := HL16.out; simp at this; omega)
            have HBAS := Lib.hid (show w.heap.size + 1 ≤ (w3.alloc (.cells #[.string y4] 9)).heap.size by have := HSZ3.out; simp; omega)
            have HBX := Lib.hid (balloc (Below.refl _ w3) (.cells #[.string y4] 9))
            go_wp2_with (at_builtin; go_loud (refine wpList_append_own_at _ rfl _ _ 45 rfl (w.heap.size + 1) 9 i0 (.string ⟨#[]⟩) 1 16 Try.underlying45 HII.out.1 HII.out.2.1 HII.out.2.2.1 HII.out.2.2.2 rfl (by omega) (.slice A0 nL z0) nL (strRow L) rfl HOWN.out ⟨w3.heap.size, 0, none⟩ 1 1 [.string y4] rfl rfl (cell_one_new _ _ _) HONE.out HM63.out HM16.out HBAS.out ?_; intro v' w4 hown hgrow hnil hat))
            have HG := Lib.hid hgrow
            have HOW := Lib.hid hown
            clear hgrow hown hnil hat c3 g1 p4
            go_wp2_with fail
            have HKB := Lib.hid ((HG.out.block w.heap.size (by have := HSZ3.out; simp; omega) (fun e => by have := (HO3.out.block _ e.symm).1; omega)).trans ((HBX.out.block _ (Array.getElem?_eq_some_iff.1 HI3.out).1).trans HI3.out))
            have HBB := Lib.hid (show Below w.heap.size w w4 from below_grown HG.out (bthen HB3.out HBX.out).size (fun r e => by have := (HO3.out.block _ e).1; omega) |> fun g => (bthen HB3.out HBX.out).trans g)
            go_roundw
            case rel =>
              refine ⟨n + 1, HLN.out, by go_num, ?_, HKB.out, HBB.out, Nat.le_trans HBAS.out HG.out.size⟩
              rw [HV.out]
              unfold OwnsN
              rw [List.length_append, HNQ.out]
              simpa [strRow] using HOW.out
            case measure => have := HLN.out; simp [intOf]; omega
        · have hd : decide ((n : Int) < (ni : Int)) = false := by simp; omega
          obtain rfl : n = ni := by omega
          have HV := Lib.hid (show L = refK l (k + 1) by rw [← HLQ.out]; exact HX0.out)
          go_wp2_with fail
          go_roundw
          case rel => exact ⟨k + 1, HLK.out, by go_num, by rw [← HV.out]; exact HO2.out, HI2.out, HB2.out, HSZ2.out⟩
          case measure => have := HLK.out; simp [intOf]; omega
    · have hd : decide ((k : Int) < (nl : Int)) = false := by simp; omega
      have HV := Lib.hid (HALL.out k (by have := HNL.out; omega))
      obtain ⟨A0, z0, hv0⟩ := HO.out.form
      subst hv0
      go_wp2_with fail
      go_ret
      exact ⟨_, rfl, by rw [← HV.out]; exact HO.out.strs, HB.out⟩
end Go.Proofs.Ytoglmdadpchhoaa
namespace Go.Proofs.Ytoglmdadpchhoaa
open Go.RowKit
def insK (f : Fn) (k : Nat) : List In := ((f.l.take k).map (·.i)).flatten
theorem insK_succ (f : Fn) (k : Nat) (h : k < f.l.length) : insK f (k + 1) = insK f k ++ f.l[k].i := by
  unfold insK
  rw [List.take_succ_eq_append_getElem h, List.map_append, List.flatten_append]
  simp
theorem insK_all (f : Fn) (k : Nat) (h : f.l.length ≤ k) : insK f k = insF f := by
  unfold insK insF
  rw [List.take_of_length_le h]
theorem insK_pre (f : Fn) (k : Nat) : insK f k <+: insF f := by
  unfold insK insF
  refine ⟨((f.l.drop k).map (·.i)).flatten, ?_⟩
  rw [← List.flatten_append, ← List.map_append, List.take_append_drop]
theorem insTK_pre {m : Md} {f : Fn} {i k n : Nat} (hi : i < m.f.length) (hf : m.f[i] = f) (hk : k < f.l.length) : insT m i ++ (insK f k ++ f.l[k].i.take n) <+: insM m := by
  subst hf
  refine List.IsPrefix.trans ?_ (insT_pre m (i + 1))
  rw [insT_succ m i hi]
  refine (List.prefix_append_right_inj _).2 (List.IsPrefix.trans ?_ (insK_pre m.f[i] (k + 1)))
  rw [insK_succ _ k hk]
  exact (List.prefix_append_right_inj _).2 (List.take_prefix _ _)
theorem fIdx_any {m : List ByteArray} {s : ByteArray} : m.any (fun x => x == s) = (fIdx m s).isSome := by
  cases h : m.any (fun x => x == s) with
  | true =>
    obtain ⟨x, hx, e⟩ := List.any_eq_true.1 h
    have e := (jba_beq _ _).1 e
    subst e
    obtain ⟨i, hi⟩ := fIdx_mem hx
    rw [hi]
    rfl
  | false =>
    have : fIdx m s = none := by
      refine fIdx_none fun j hj => ?_
      have := List.any_eq_false.1 h m[j] (List.getElem_mem hj)
      simpa using this
    rw [this]
    rfl
theorem noneI_call {m : Md} {i : In} (h : i.o = 14) : noneI m i = (fIdx (m.f.map (·.s)) i.s).isNone := by
  unfold noneI
  rw [h, show m.f.any (fun f => f.s == i.s) = (m.f.map (·.s)).any (fun x => x == i.s) by rw [List.any_map]; rfl, fIdx_any]
  cases fIdx (m.f.map (·.s)) i.s <;> simp
theorem noneI_var {m : Md} {i : In} (h : i.o = 12 ∨ i.o = 13) : noneI m i = (fIdx (m.g.map (·.s)) i.s).isNone := by
  unfold noneI
  rw [show m.g.any (fun f => f.s == i.s) = (m.g.map (·.s)).any (fun x => x == i.s) by rw [List.any_map]; rfl, fIdx_any]
  rcases h with h | h <;> rw [h] <;> cases fIdx (m.g.map (·.s)) i.s <;> simp
theorem noneI_no {m : Md} {i : In} (h : i.o ≠ 14) (h2 : i.o ≠ 12) (h3 : i.o ≠ 13) : noneI m i = false := by
  unfold noneI
  rw [show (i.o == 14) = false by simpa using h, show (i.o == 12) = false by simpa using h2, show (i.o == 13) = false by simpa using h3]
  rfl
theorem oddI_no {m : Md} {i : In} (h : i.o ≠ 14) : oddI m i = false := by
  unfold oddI
  rw [show (i.o == 14) = false by simpa using h]
  rfl
theorem fIdx_lt {m : Md} {s : ByteArray} {at' : Nat} (h : fIdx (m.f.map (·.s)) s = some at') : ∃ h : at' < m.f.length, m.f.find? (fun f => f.s == s) = some m.f[at'] := by
  obtain ⟨h1, h2, h3⟩ := List.findIdx?_eq_some_iff_getElem.1 h
  have h1' : at' < m.f.length := by simpa using h1
  refine ⟨h1', ?_⟩
  rw [List.find?_eq_some_iff_getElem]
  refine ⟨by simpa using h2, at', h1', rfl, fun j hj => ?_⟩
  have := h3 j hj
  simpa using this
theorem oddI_call {m : Md} {i : In} {at' : Nat} (h : i.o = 14) (hf : fIdx (m.f.map (·.s)) i.s = some at') (ha : at' < m.f.length) : oddI m i = !(m.f[at'].p == (i.l.length : Int)) := by
  obtain ⟨_, e⟩ := fIdx_lt hf
  unfold oddI
  rw [h, e]
  rfl
theorem nodup_of {L : List ByteArray} (h : ∀ a b (ha : a < L.length) (hb : b < L.length), a < b → L[a] ≠ L[b]) : L.Nodup := by
  unfold List.Nodup
  exact List.pairwise_iff_getElem.2 fun i j hi hj hij => h i j hi hj hij
theorem not_nodup {L : List ByteArray} {a b : Nat} (ha : a < L.length) (hb : b < L.length) (hab : a < b) (e : L[b] = L[a]) : ¬ L.Nodup := fun h => by
  unfold List.Nodup at h
  exact List.pairwise_iff_getElem.1 h a b ha hb hab e.symm
theorem all_take {α : Type} {p : α → Bool} {l : List α} {i : Nat} (hi : i < l.length) (h : (l.take i).all p = true) : (l.take (i + 1)).all p = p l[i] := by
  rw [List.take_succ_eq_append_getElem hi, List.all_append, h]
  simp
theorem all_no {α : Type} {p : α → Bool} {l : List α} {i : Nat} (hi : i < l.length) (h : p l[i] = false) : l.all p = false := by
  rw [List.all_eq_false]
  exact ⟨l[i], List.getElem_mem hi, by simp [h]⟩
set_option maxRecDepth 100000 in
set_option maxHeartbeats 16000000 in
theorem refCheck_any (m : Md) (F G : Option Addr) (nf cf ng cg : Nat) (w : World) (hok : MdOk m) (hw : MdW m) (hnf : m.f.length = nf) (hng : m.g.length = ng) (hS : MdAt w (.slice F nf cf) (.slice G ng cg) m) :
    Calls Try.prog 19 #[.agg #[.slice F nf cf, .slice G ng cg]] w fun e w' => e = .returned (.int .i64 (checkE m)) ∧ Below w.heap.size w w' := by
  have HFN := Lib.hid (fun (i : Nat) (hi : i < m.f.length) (A : Option Addr) (ca : Nat) (W : World) (h : Blocks W (.slice A m.f[i].l.length ca) m.f[i].l) => refFunc_any m.f[i] A ca W (hw.1 _ (List.getElem_mem hi)) h)
  have HNA := Lib.hid (fun (i : Nat) (hi : i < m.g.length) (W : World) => refName_any m.g[i].s W (hok.2.1 _ (List.getElem_mem hi)))
  have HFF := Lib.hid (fun (s : ByteArray) (W : World) (hb : Below w.heap.size w W) => findFunc_any m F G nf cf ng cg s W hok hnf (hS.next hb))
  have HFG := Lib.hid (fun (s : ByteArray) (W : World) (hb : Below w.heap.size w W) => findGlob_any m F G nf cf ng cg s W hok hng (hS.next hb))
  have HNS := Lib.hid (fun (h1 : nf ≤ 16) (h2 : ng ≤ 16) (W : World) (hb : Below w.heap.size w W) => refNames_any m F G nf cf ng cg W hnf hng h1 h2 (hS.next hb))
  have HS := Lib.hid hS
  have HOK := Lib.hid hok
  obtain ⟨V, hV⟩ : ∃ V, checkE m = V := ⟨_, rfl⟩
  rw [hV]
  have HVE := Lib.hid (show V = if 16 < nf ∨ 16 < ng then 4 else if aloneB m = false then 10 else if ¬ (namesM m).Nodup then 9 else foundE m by rw [← hV, ← hnf, ← hng]; rfl)
  have HNF := Lib.hid (show m.f.length ≤ nf ∧ nf ≤ m.f.length by omega)
  have HNG := Lib.hid (show m.g.length ≤ ng ∧ ng ≤ m.g.length by omega)
  clear hS hok hw hnf hng hV
  go_enter Try.func19, Try.ntmps19
  go_upto_region 1 with fail
  have HIN := Lib.hid (heap_alloc_new w (.cells #[.slice F nf cf, .slice G ng cg] 25))
  have HB0 := Lib.hid (balloc (Below.refl _ w) (.cells #[.slice F nf cf, .slice G ng cg] 25))
  generalize w.alloc (.cells #[.slice F nf cf, .slice G ng cg] 25) = W0 at *
  have c0 := Lib.cell_of_heap HIN.out 0
  have c1 := Lib.cell_of_heap HIN.out 1
  simp only [List.getElem?_toArray, List.getElem?_cons_zero, List.getElem?_cons_succ] at c0 c1
  by_cases hf16 : 16 < nf
  · have t : decide ((16 : Int) < (nf : Int)) = true := decide_eq_true (by omega)
    have t' : decide (16 < nf) = true := decide_eq_true (by omega)
    have HZ := Lib.hid (show V = 4 by rw [HVE.out, if_pos (.inl hf16)])
    go_wp2_with fail
    go_ret
    exact ⟨by rw [HZ.out]; rfl, HB0.out⟩
  have t : decide ((16 : Int) < (nf : Int)) = false := decide_eq_false (by omega)
  have t' : decide (16 < nf) = false := decide_eq_false (by omega)
  by_cases hg16 : 16 < ng
  · have u : decide ((16 : Int) < (ng : Int)) = true := decide_eq_true (by omega)
    have u' : decide (16 < ng) = true := decide_eq_true (by omega)
    have HZ := Lib.hid (show V = 4 by rw [HVE.out, if_pos (.inr hg16)])
    go_wp2_with fail
    go_ret
    exact ⟨by rw [HZ.out]; rfl, HB0.out⟩
  have u : decide ((16 : Int) < (ng : Int)) = false := decide_eq_false (by omega)
  have u' : decide (16 < ng) = false := decide_eq_false (by omega)
  have HE := Lib.hid (show V = if aloneB m = false then 10 else if ¬ (namesM m).Nodup then 9 else foundE m by rw [HVE.out, if_neg (by omega)])
  have HNS2 := Lib.hid (HNS.out (by omega) (by omega))
  have f16 : (nf : Int) ≤ 16 := by omega
  have g16 : (ng : Int) ≤ 16 := by omega
  clear HVE HNS hf16 hg16
  go_wp2_with fail
  clear t t' u u' c0 c1
  go_loopw [3] (fun iv wr => ∃ i : Nat, i ≤ nf ∧ iv = .int .i64 i ∧ (m.f.take i).all funcB = true ∧ wr.heap[w.heap.size]? = some (.cells #[.slice F nf cf, .slice G ng cg] 25 (0, 0)) ∧ Below w.heap.size w wr) (fun iv _ => nf - (intOf iv).toNat)
  case atStart => exact ⟨0, Nat.zero_le _, rfl, rfl, HIN.out, HB0.out⟩
  case round =>
    obtain ⟨i, hi, rfl, hs, hin, hb⟩ := hrel
    have HT := Lib.hid hs
    have HI := Lib.hid hin
    have HB := Lib.hid hb
    have c0 := Lib.cell_of_heap hin 0
    have c1 := Lib.cell_of_heap hin 1
    simp only [List.getElem?_toArray, List.getElem?_cons_zero, List.getElem?_cons_succ] at c0 c1
    clear hs hin hb HIN HB0
    by_cases hlt : i < nf
    · have hm : i < m.f.length := by have := HNF.out; omega
      obtain ⟨b1, off, hA, hbl, e0⟩ := RowOf.at_ HS.out.1 hm
      subst hA
      obtain ⟨g0, g1, g2, A, cc, g3, hbk⟩ := FnAt.next _ _ _ _ _ hbl HB.out e0
      have HC := Lib.hid (HFN.out i hm A cc wr hbk)
      have HNX := Lib.hid (all_take hm HT.out)
      have HNO := Lib.hid (fun h => all_no (p := funcB) hm h)
      obtain ⟨X, hX⟩ : ∃ x, funcB m.f[i] = x := ⟨_, rfl⟩
      rw [hX] at HC HNX HNO
      obtain ⟨x0, h0⟩ : ∃ x, m.f[i].s = x := ⟨_, rfl⟩
      obtain ⟨x1, h1⟩ : ∃ x, m.f[i].b = x := ⟨_, rfl⟩
      obtain ⟨x2, h2⟩ : ∃ x, m.f[i].p = x := ⟨_, rfl⟩
      obtain ⟨x3, h3⟩ : ∃ x, m.f[i].l.length = x := ⟨_, rfl⟩
      rw [h0, h1, h2, h3] at HC
      rw [h0] at g0
      rw [h1] at g1
      rw [h2] at g2
      rw [h3] at g3
      have k0 : (0 : Int) ≤ (i : Int) := Int.natCast_nonneg _
      have k1 : (i : Int) < (nf : Int) := by omega
      have HLT := Lib.hid hlt
      clear hX h0 h1 h2 h3 hm hlt hbk e0
      go_wp2_with fail
      refine HC.out.mono ?_
      rintro r w2 ⟨rfl, hb2⟩
      have HB2 := Lib.hid (bthen HB.out hb2)
      have HI2 := Lib.hid ((hb2.block _ (Array.getElem?_eq_some_iff.1 HI.out).1).trans HI.out)
      clear hb2 c0 c1 g0 g1 g2 g3
      cases X with
      | false =>
        have HZ := Lib.hid (show V = 10 by rw [HE.out, if_pos (by unfold aloneB; rw [HNO.out rfl]; rfl)])
        go_wp2_with fail
        go_ret
        exact ⟨by rw [HZ.out]; rfl, HB2.out⟩
      | true =>
        go_wp2_with fail
        go_roundw
        case rel => exact ⟨i + 1, HLT.out, by go_num, HNX.out, HI2.out, HB2.out⟩
        case measure => have := HLT.out; simp [intOf]; omega
    · have hd : decide ((i : Int) < (nf : Int)) = false := by simp; omega
      have HAF := Lib.hid (show m.f.all funcB = true by
        have h := HT.out
        rwa [List.take_of_length_le (by have := HNF.out; omega)] at h)
      clear HT HFN
      go_wp2_with fail
      clear c0 c1 hd hlt
      go_loopw [5] (fun iv wr => ∃ i : Nat, i ≤ ng ∧ iv = .int .i64 i ∧ (m.g.take i).all globB = true ∧ wr.heap[w.heap.size]? = some (.cells #[.slice F nf cf, .slice G ng cg] 25 (0, 0)) ∧ Below w.heap.size w wr) (fun iv _ => ng - (intOf iv).toNat)
      case atStart => exact ⟨0, Nat.zero_le _, rfl, rfl, HI.out, HB.out⟩
      case round =>
        obtain ⟨i, hi, rfl, hs, hin, hb⟩ := hrel
        have HT := Lib.hid hs
        have HI := Lib.hid hin
        have HB := Lib.hid hb
        have c0 := Lib.cell_of_heap hin 0
        have c1 := Lib.cell_of_heap hin 1
        simp only [List.getElem?_toArray, List.getElem?_cons_zero, List.getElem?_cons_succ] at c0 c1
        clear hs hin hb
        by_cases hlt : i < ng
        · have hm : i < m.g.length := by have := HNG.out; omega
          obtain ⟨b1, off, hA, hbl, e0⟩ := RowOf.at_ HS.out.2 hm
          subst hA
          obtain ⟨g0, g1, g2, g3⟩ := GlAt.next _ _ _ _ _ hbl HB.out e0
          have HC := Lib.hid (HNA.out i hm)
          have HNX := Lib.hid (all_take hm HT.out)
          have HNO := Lib.hid (show globB m.g[i] = false → V = 10 from fun h => by rw [HE.out, if_pos (by unfold aloneB; rw [HAF.out, all_no (p := globB) hm h]; rfl)])
          have HGB := Lib.hid (show globB m.g[i] = (nameB m.g[i].s && (decide (1 ≤ m.g[i].b) && decide (m.g[i].b ≤ 3)) && (m.g[i].h || (m.g[i].i == 0 && !(m.g[i].b == 1)))) from rfl)
          obtain ⟨X, hX⟩ : ∃ x, globB m.g[i] = x := ⟨_, rfl⟩
          obtain ⟨Y, hY⟩ : ∃ x, nameB m.g[i].s = x := ⟨_, rfl⟩
          rw [hX] at HNX HNO
          rw [hX, hY] at HGB
          rw [hY] at HC
          obtain ⟨x0, h0⟩ : ∃ x, m.g[i].s = x := ⟨_, rfl⟩
          obtain ⟨x1, h1⟩ : ∃ x, m.g[i].b = x := ⟨_, rfl⟩
          obtain ⟨x2, h2⟩ : ∃ x, m.g[i].h = x := ⟨_, rfl⟩
          obtain ⟨x3, h3⟩ : ∃ x, m.g[i].i = x := ⟨_, rfl⟩
          rw [h1, h2, h3] at HGB
          rw [h0] at HC g0
          rw [h1] at g1
          rw [h2] at g2
          rw [h3] at g3
          have k0 : (0 : Int) ≤ (i : Int) := Int.natCast_nonneg _
          have k1 : (i : Int) < (ng : Int) := by omega
          have HLT := Lib.hid hlt
          have hbx := balloc (Below.refl _ wr) (.cells #[.string x0, .int .i64 x1, .bool x2, .int .u64 x3] 54)
          have HIX := Lib.hid (heap_alloc_new wr (.cells #[.string x0, .int .i64 x1, .bool x2, .int .u64 x3] 54))
          have HI1 := Lib.hid ((hbx.block _ (Array.getElem?_eq_some_iff.1 HI.out).1).trans HI.out)
          have HB1 := Lib.hid (bthen HB.out hbx)
          clear hX hY h0 h1 h2 h3 hm hlt hbx e0
          go_upto_region 13 with fail
          clear c0 c1 g0 g1 g2 g3
          generalize wr.alloc (.cells #[.string x0, .int .i64 x1, .bool x2, .int .u64 x3] 54) = W1 at *
          generalize wr.heap.size = BX at *
          have d0 := Lib.cell_of_heap HIX.out 0
          have d1 := Lib.cell_of_heap HIX.out 1
          have d2 := Lib.cell_of_heap HIX.out 2
          have d3 := Lib.cell_of_heap HIX.out 3
          simp only [List.getElem?_toArray, List.getElem?_cons_zero, List.getElem?_cons_succ] at d0 d1 d2 d3
          go_wp2_with fail
          refine (HC.out W1).mono ?_
          rintro r w2 ⟨rfl, rfl⟩
          cases Y with
          | false =>
            have HX := Lib.hid (show X = false by rw [HGB.out]; rfl)
            have HZ := Lib.hid (HNO.out HX.out)
            go_wp2_with fail
            go_ret
            exact ⟨by rw [HZ.out]; rfl, HB1.out⟩
          | true =>
            by_cases b1 : x1 < 1
            case pos =>
              have t1 : decide (x1 < 1) = true := decide_eq_true b1
              have HX := Lib.hid (show X = false by rw [HGB.out]; rw [decide_eq_false (by omega : ¬ 1 ≤ x1)]; rfl)
              have HZ := Lib.hid (HNO.out HX.out)
              go_wp2_with fail
              go_ret
              exact ⟨by rw [HZ.out]; rfl, HB1.out⟩
            have t1 : decide (x1 < 1) = false := decide_eq_false b1
            by_cases b3 : 3 < x1
            case pos =>
              have t3 : decide (3 < x1) = true := decide_eq_true b3
              have HX := Lib.hid (show X = false by rw [HGB.out]; rw [decide_eq_false (by omega : ¬ x1 ≤ 3)]; simp)
              have HZ := Lib.hid (HNO.out HX.out)
              go_wp2_with fail
              go_ret
              exact ⟨by rw [HZ.out]; rfl, HB1.out⟩
            have t3 : decide (3 < x1) = false := decide_eq_false b3
            rw [decide_eq_true (by omega : 1 ≤ x1), decide_eq_true (by omega : x1 ≤ 3)] at HGB
            cases x2 with
            | true =>
              have HX := Lib.hid (show X = true by rw [HGB.out]; rfl)
              have HTR := Lib.hid (HNX.out.trans HX.out)
              go_wp2_with fail
              go_roundw
              case rel => exact ⟨i + 1, HLT.out, by go_num, HTR.out, HI1.out, HB1.out⟩
              case measure => have := HLT.out; simp [intOf]; omega
            | false =>
              by_cases hq : x3 = 0
              case neg =>
                have hq2 : (x3 == 0) = false := by simpa using hq
                have HX := Lib.hid (show X = false by rw [HGB.out]; rw [hq2]; rfl)
                have HZ := Lib.hid (HNO.out HX.out)
                go_wp2_with fail
                go_ret
                exact ⟨by rw [HZ.out]; rfl, HB1.out⟩
              subst hq
              by_cases hr : x1 = 1
              · subst hr
                have HX := Lib.hid (show X = false by rw [HGB.out]; rfl)
                have HZ := Lib.hid (HNO.out HX.out)
                go_wp2_with fail
                go_ret
                exact ⟨by rw [HZ.out]; rfl, HB1.out⟩
              · have hr2 : (x1 == 1) = false := by simpa using hr
                have HX := Lib.hid (show X = true by rw [HGB.out]; rw [hr2]; rfl)
                have HTR := Lib.hid (HNX.out.trans HX.out)
                go_wp2_with fail
                go_roundw
                case rel => exact ⟨i + 1, HLT.out, by go_num, HTR.out, HI1.out, HB1.out⟩
                case measure => have := HLT.out; simp [intOf]; omega
        · have hd : decide ((i : Int) < (ng : Int)) = false := by simp; omega
          have HAL := Lib.hid (show aloneB m = true by
            have h := HT.out
            rw [List.take_of_length_le (by have := HNG.out; omega)] at h
            unfold aloneB
            rw [HAF.out, h]
            rfl)
          have HE2 := Lib.hid (show V = if ¬ (namesM m).Nodup then 9 else foundE m by rw [HE.out, if_neg (by rw [HAL.out]; decide)])
          have HN := Lib.hid (HNS2.out wr HB.out)
          clear HT HAF HAL HE HNA HNS2
          go_wp2_with fail
          refine HN.out.mono ?_
          rintro r w2 ⟨v', rfl, hs, hb2⟩
          have HB2 := Lib.hid (bthen HB.out hb2)
          have HI2 := Lib.hid ((hb2.block _ (Array.getElem?_eq_some_iff.1 HI.out).1).trans HI.out)
          obtain ⟨L, hL⟩ : ∃ L, namesM m = L := ⟨_, rfl⟩
          have HLL := Lib.hid (show L.length ≤ 32 by rw [← hL]; unfold namesM; rw [List.length_append, List.length_map, List.length_map]; have := HNF.out; have := HNG.out; omega)
          rw [hL] at hs HE2
          obtain ⟨A8, z8, hv8⟩ := RowOf.slice hs
          obtain ⟨nl, hnl⟩ : ∃ n, L.length = n := ⟨_, rfl⟩
          rw [hnl] at hv8 HLL
          subst hv8
          have HL := Lib.hid (show L.length ≤ nl ∧ nl ≤ L.length by omega)
          have HST := Lib.hid hs
          have l32 : (nl : Int) ≤ 32 := by have := HLL.out; omega
          clear hs hb2 hL hnl c0 c1 hd HN hlt
          go_wp2_with fail
          go_loopw [9] (fun iv wr => ∃ i : Nat, i ≤ nl ∧ iv = .int .i64 i ∧ (∀ a b (ha : a < L.length) (hb : b < L.length), a < b → b < i → L[a] ≠ L[b]) ∧ wr.heap[w.heap.size]? = some (.cells #[.slice F nf cf, .slice G ng cg] 25 (0, 0)) ∧ Below w2.heap.size w2 wr) (fun iv _ => nl - (intOf iv).toNat)
          case atStart => exact ⟨0, Nat.zero_le _, rfl, fun a b _ _ _ h => by omega, HI2.out, Below.refl _ _⟩
          case round =>
            obtain ⟨i, hi, rfl, hs, hin, hb⟩ := hrel
            have HT := Lib.hid hs
            have HI3 := Lib.hid hin
            have HB3 := Lib.hid hb
            clear hs hin hb
            by_cases hlt : i < nl
            · have hm : i < L.length := by have := HL.out; omega
              have k0 : (0 : Int) ≤ (i : Int) := Int.natCast_nonneg _
              have k1 : (i : Int) < (nl : Int) := by omega
              have HLT := Lib.hid hlt
              clear hlt
              go_wp2_with fail
              go_loopw [10] (fun iv wi => ∃ k : Nat, k ≤ i ∧ iv = .int .i64 k ∧ (∀ a (ha : a < L.length), a < k → L[a] ≠ L[i]) ∧ wi.heap[w.heap.size]? = some (.cells #[.slice F nf cf, .slice G ng cg] 25 (0, 0)) ∧ Below w2.heap.size w2 wi) (fun iv _ => i - (intOf iv).toNat)
              case atStart => exact ⟨0, Nat.zero_le _, rfl, fun a _ h => by omega, HI3.out, HB3.out⟩
              case round =>
                obtain ⟨k, hk, rfl, hs, hin, hb⟩ := hrel
                have HT2 := Lib.hid hs
                have HI4 := Lib.hid hin
                have HB4 := Lib.hid hb
                clear hs hin hb
                by_cases hlk : k < i
                · have hkm : k < L.length := by omega
                  obtain ⟨b1, off, hA, hbl, e0⟩ := RowOf.at_ (Strs.next HST.out HB4.out) hm
                  obtain ⟨b1', off', hA', hbl', e1⟩ := RowOf.at_ (Strs.next HST.out HB4.out) hkm
                  subst hA
                  obtain ⟨rfl, rfl⟩ : b1 = b1' ∧ off = off' := by simpa using hA'
                  simp only [Nat.mul_one] at e0 e1
                  have HEQ := Lib.hid (show L[i] = L[k] → V = 9 from fun e => by rw [HE2.out, if_pos (not_nodup hkm hm hlk e)])
                  have HNE := Lib.hid (show L[i] ≠ L[k] → ∀ a (ha : a < L.length), a < k + 1 → L[a] ≠ L[i] from fun e a ha hak => by
                    by_cases h : a = k
                    · subst h; exact fun h => e h.symm
                    · exact HT2.out a ha (by omega))
                  obtain ⟨x, hx⟩ : ∃ x, L[i] = x := ⟨_, rfl⟩
                  obtain ⟨y, hy⟩ : ∃ x, L[k] = x := ⟨_, rfl⟩
                  have HXI := Lib.hid hx
                  rw [hx, hy] at HEQ
                  have HNE2 := Lib.hid (fun (e : x ≠ y) => HNE.out (by rw [hx, hy]; exact e))
                  rw [hx] at e0
                  rw [hy] at e1
                  have q0 : (0 : Int) ≤ (k : Int) := Int.natCast_nonneg _
                  have q1 : (k : Int) < (nl : Int) := by omega
                  have q2 : (k : Int) < (i : Int) := by omega
                  have HLK := Lib.hid hlk
                  clear hx hy hkm hlk hA' HNE
                  go_upto_region 23 with fail
                  cases hq : x == y with
                  | true =>
                    have h1 : (x.toList == y.toList) = true := by rw [← beq_toListBytes]; exact hq
                    have HZ := Lib.hid (HEQ.out ((jba_beq _ _).1 hq))
                    clear hq
                    go_quiet (fail)
                    go_wp2_with fail
                    go_ret
                    exact ⟨by rw [HZ.out]; rfl, below_drewN (bthen HB2.out HB4.out) _⟩
                  | false =>
                    have h1 : (x.toList == y.toList) = false := by rw [← beq_toListBytes]; exact hq
                    have HZ := Lib.hid (HNE2.out (fun e => by rw [e, jba_refl] at hq; cases hq))
                    clear hq
                    go_quiet (fail)
                    go_wp2_with fail
                    go_roundw
                    case rel => exact ⟨k + 1, HLK.out, by go_num, HZ.out, HI4.out, below_drewN HB4.out _⟩
                    case measure => have := HLK.out; simp [intOf]; omega
                · have hd : decide ((k : Int) < (i : Int)) = false := by simp; omega
                  have HX := Lib.hid (show ∀ a b (ha : a < L.length) (hb : b < L.length), a < b → b < i + 1 → L[a] ≠ L[b] from fun a b ha hb hab hbi => by
                    by_cases h : b = i
                    · subst h; exact HT2.out a ha (by omega)
                    · exact HT.out a b ha hb hab (by omega))
                  go_wp2_with fail
                  go_roundw
                  case rel => exact ⟨i + 1, HLT.out, by go_num, HX.out, HI4.out, HB4.out⟩
                  case measure => have := HLT.out; simp [intOf]; omega
            · have hd : decide ((i : Int) < (nl : Int)) = false := by simp; omega
              have HE3 := Lib.hid (show V = foundE m by
                rw [HE2.out, if_neg (fun n => n (nodup_of fun a b ha hb hab => HT.out a b ha hb hab (by have := HL.out; omega)))])
              have HB5 := Lib.hid (bthen HB2.out HB3.out)
              clear HT HE2 HST HL HLL HB2 HI2 HB HI
              go_wp2_with fail
              clear hd hlt
              go_loopw [11, 12] (fun ov iv wr => ∃ i : Nat, i ≤ nf ∧ iv = .int .i64 i ∧ (insT m i).any (noneI m) = false ∧ ov = .bool ((insT m i).any (oddI m)) ∧ wr.heap[w.heap.size]? = some (.cells #[.slice F nf cf, .slice G ng cg] 25 (0, 0)) ∧ Below w.heap.size w wr) (fun _ iv _ => nf - (intOf iv).toNat)
              case atStart => exact ⟨0, Nat.zero_le _, rfl, rfl, rfl, HI3.out, HB5.out⟩
              case round =>
                obtain ⟨i, hi, rfl, hn, rfl, hin, hb⟩ := hrel
                have HT := Lib.hid hn
                have HI := Lib.hid hin
                have HB := Lib.hid hb
                have c0 := Lib.cell_of_heap hin 0
                have c1 := Lib.cell_of_heap hin 1
                simp only [List.getElem?_toArray, List.getElem?_cons_zero, List.getElem?_cons_succ] at c0 c1
                clear hn hin hb HI3 HB5 HB3
                by_cases hlt : i < nf
                · have hm : i < m.f.length := by have := HNF.out; omega
                  obtain ⟨b1, off, hA, hbl, e0⟩ := RowOf.at_ HS.out.1 hm
                  subst hA
                  have HSU := Lib.hid (insT_succ m i hm)
                  have hFO := HOK.out.1 _ (List.getElem_mem hm)
                  obtain ⟨f, hf⟩ : ∃ f, m.f[i] = f := ⟨_, rfl⟩
                  rw [hf] at e0 hFO
                  rw [hf] at HSU
                  have HPR := Lib.hid (fun (k n : Nat) (hk : k < f.l.length) => insTK_pre (n := n) hm hf hk)
                  obtain ⟨-, -, -, A1, z1, g3, hbk⟩ := id e0
                  have HG3 := Lib.hid (fun (U : World) (hU : Below w.heap.size w U) => (cellNext hbl hU _).trans g3)
                  have HBK := Lib.hid hbk
                  obtain ⟨nl, hnl⟩ : ∃ n, f.l.length = n := ⟨_, rfl⟩
                  have HNL := Lib.hid (show f.l.length ≤ nl ∧ nl ≤ f.l.length by omega)
                  have HN9 := Lib.hid (show nl ≤ 9223372036854775807 by have := hFO.2.1; rw [hnl] at this; exact this)
                  have HFO := Lib.hid hFO
                  rw [hnl] at HG3 HBK
                  have k0 : (0 : Int) ≤ (i : Int) := Int.natCast_nonneg _
                  have k1 : (i : Int) < (nf : Int) := by omega
                  have n9 : (nl : Int) ≤ 9223372036854775807 := by have := HN9.out; omega
                  have HLT := Lib.hid hlt
                  clear hm e0 hbk g3 hf hnl hlt hFO hbl
                  go_wp2_with fail
                  clear c0 c1
                  go_loopw [11, 13] (fun ov kv wi => ∃ k : Nat, k ≤ nl ∧ kv = .int .i64 k ∧ (insT m i ++ insK f k).any (noneI m) = false ∧ ov = .bool ((insT m i ++ insK f k).any (oddI m)) ∧ wi.heap[w.heap.size]? = some (.cells #[.slice (some ⟨b1, off, none⟩) nf cf, .slice G ng cg] 25 (0, 0)) ∧ Below w.heap.size w wi) (fun _ kv _ => nl - (intOf kv).toNat)
                  case atStart => exact ⟨0, Nat.zero_le _, rfl, by rw [show insK f 0 = [] from rfl, List.append_nil]; exact HT.out, by rw [show insK f 0 = [] from rfl, List.append_nil], HI.out, HB.out⟩
                  case round =>
                    obtain ⟨k, hk, rfl, hn, rfl, hin, hb⟩ := hrel
                    have HT2 := Lib.hid hn
                    have HI2 := Lib.hid hin
                    have HB2 := Lib.hid hb
                    have c0 := Lib.cell_of_heap hin 0
                    have c1 := Lib.cell_of_heap hin 1
                    simp only [List.getElem?_toArray, List.getElem?_cons_zero, List.getElem?_cons_succ] at c0 c1
                    have d3 := HG3.out _ hb
                    clear hn hin hb
                    by_cases hlk : k < nl
                    · have hkm : k < f.l.length := by have := HNL.out; omega
                      obtain ⟨b2, off2, hA2, hbl2, e2⟩ := RowOf.at_ HBK.out hkm
                      subst hA2
                      obtain ⟨-, ⟨A3, z3, g1, hins⟩, -⟩ := id e2
                      have HG1 := Lib.hid (fun (U : World) (hU : Below w.heap.size w U) => (cellNext hbl2 hU _).trans g1)
                      have HINS := Lib.hid hins
                      have HSK := Lib.hid (insK_succ f k hkm)
                      have HPR2 := Lib.hid (fun (n : Nat) => HPR.out k n hkm)
                      have HBO := Lib.hid (HFO.out.2.2 _ (List.getElem_mem hkm))
                      obtain ⟨bi, hbi⟩ : ∃ x, f.l[k].i = x := ⟨_, rfl⟩
                      have hB9 := HBO.out.1
                      rw [hbi] at HG1 HINS HSK hB9
                      simp only [hbi] at HPR2
                      obtain ⟨ni, hni⟩ : ∃ n, bi.length = n := ⟨_, rfl⟩
                      have HNI := Lib.hid (show bi.length ≤ ni ∧ ni ≤ bi.length by omega)
                      rw [hni] at HG1 HINS hB9
                      have q0 : (0 : Int) ≤ (k : Int) := Int.natCast_nonneg _
                      have q1 : (k : Int) < (nl : Int) := by omega
                      have i9 : (ni : Int) ≤ 9223372036854775807 := by omega
                      have HLK := Lib.hid hlk
                      clear HBO hbi hkm e2 hins g1 hni hlk hB9 hbl2
                      go_wp2_with fail
                      clear c0 c1 d3
                      go_loopw [11, 14] (fun ov nv wi => ∃ n : Nat, n ≤ ni ∧ nv = .int .i64 n ∧ (insT m i ++ (insK f k ++ bi.take n)).any (noneI m) = false ∧ ov = .bool ((insT m i ++ (insK f k ++ bi.take n)).any (oddI m)) ∧ wi.heap[w.heap.size]? = some (.cells #[.slice (some ⟨b1, off, none⟩) nf cf, .slice G ng cg] 25 (0, 0)) ∧ Below w.heap.size w wi) (fun _ nv _ => ni - (intOf nv).toNat)
                      case atStart => exact ⟨0, Nat.zero_le _, rfl, by rw [List.take_zero, List.append_nil]; exact HT2.out, by rw [List.take_zero, List.append_nil], HI2.out, HB2.out⟩
                      case round =>
                        obtain ⟨n, hn', rfl, hn, rfl, hin, hb⟩ := hrel
                        have HT3 := Lib.hid hn
                        have HI3 := Lib.hid hin
                        have HB3 := Lib.hid hb
                        have c0 := Lib.cell_of_heap hin 0
                        have c1 := Lib.cell_of_heap hin 1
                        simp only [List.getElem?_toArray, List.getElem?_cons_zero, List.getElem?_cons_succ] at c0 c1
                        have d3 := HG3.out _ hb
                        have d1 := HG1.out _ hb
                        clear hn hin hb
                        by_cases hln : n < ni
                        · have hnm : n < bi.length := by have := HNI.out; omega
                          obtain ⟨b3, off3, hA3, hbl3, e3⟩ := RowOf.at_ HINS.out hnm
                          subst hA3
                          obtain ⟨p0, p1, p2, p3, p4, A5, z5, p5, -⟩ := InAt.next _ _ _ _ _ hbl3 HB3.out e3
                          have HSN := Lib.hid (show insT m i ++ (insK f k ++ bi.take (n + 1)) = (insT m i ++ (insK f k ++ bi.take n)) ++ [bi[n]] by rw [List.take_succ_eq_append_getElem hnm, List.append_assoc, List.append_assoc])
                          have HP3 := Lib.hid (HPR2.out (n + 1))
                          rw [HSN.out] at HP3
                          obtain ⟨L, hL⟩ : ∃ L, insT m i ++ (insK f k ++ bi.take n) = L := ⟨_, rfl⟩
                          rw [hL] at HSN HP3 HT3
                          rw [hL]
                          obtain ⟨x, hx⟩ : ∃ x, bi[n] = x := ⟨_, rfl⟩
                          rw [hx] at HSN HP3 p0 p1 p2 p3 p4 p5
                          obtain ⟨y0, y1, y2, y3, y4, yl⟩ := x
                          simp only at p0 p1 p2 p3 p4 p5
                          obtain ⟨y5, hy5⟩ : ∃ n, yl.length = n := ⟨_, rfl⟩
                          rw [hy5] at p5
                          have HY5 := Lib.hid (show yl.length ≤ y5 ∧ y5 ≤ yl.length by omega)
                          have HNN := Lib.hid (show noneI m ⟨y0, y1, y2, y3, y4, yl⟩ = true → V = 8 from fun h => by rw [HE3.out]; exact found_none HP3.out (by rw [none_snoc, h, HT3.out]; rfl))
                          have HNX := Lib.hid (show noneI m ⟨y0, y1, y2, y3, y4, yl⟩ = false → (insT m i ++ (insK f k ++ bi.take (n + 1))).any (noneI m) = false from fun h => by rw [HSN.out, none_snoc, h, HT3.out]; rfl)
                          obtain ⟨od, hod⟩ : ∃ x, L.any (oddI m) = x := ⟨_, rfl⟩
                          have HOX := Lib.hid (show (insT m i ++ (insK f k ++ bi.take (n + 1))).any (oddI m) = (od || oddI m ⟨y0, y1, y2, y3, y4, yl⟩) by rw [HSN.out, List.any_append, hod]; simp)
                          rw [hod]
                          have r0 : (0 : Int) ≤ (n : Int) := Int.natCast_nonneg _
                          have r1 : (n : Int) < (ni : Int) := by omega
                          have HLN := Lib.hid hln
                          have hbx := balloc (Below.refl _ wr) (.cells #[.int .i64 y0, .int .i64 y1, .int .i64 y2, .int .u64 y3, .string y4, .slice A5 y5 z5] 62)
                          have HIX := Lib.hid (heap_alloc_new wr (.cells #[.int .i64 y0, .int .i64 y1, .int .i64 y2, .int .u64 y3, .string y4, .slice A5 y5 z5] 62))
                          have HI4 := Lib.hid ((hbx.block _ (Array.getElem?_eq_some_iff.1 HI3.out).1).trans HI3.out)
                          have HB4 := Lib.hid (bthen HB3.out hbx)
                          clear hL hx hy5 hod hbx e3 hnm hln hn' hbl3 HSN HP3 HT3
                          go_upto_region 36 with fail
                          clear c0 c1 d1 d3 p0 p1 p2 p3 p4 p5
                          generalize wr.alloc (.cells #[.int .i64 y0, .int .i64 y1, .int .i64 y2, .int .u64 y3, .string y4, .slice A5 y5 z5] 62) = W1 at *
                          generalize wr.heap.size = BX at *
                          have c0 := Lib.cell_of_heap HI4.out 0
                          have c1 := Lib.cell_of_heap HI4.out 1
                          simp only [List.getElem?_toArray, List.getElem?_cons_zero, List.getElem?_cons_succ] at c0 c1
                          have s0 := Lib.cell_of_heap HIX.out 0
                          have s1 := Lib.cell_of_heap HIX.out 1
                          have s2 := Lib.cell_of_heap HIX.out 2
                          have s3 := Lib.cell_of_heap HIX.out 3
                          have s4 := Lib.cell_of_heap HIX.out 4
                          have s5 := Lib.cell_of_heap HIX.out 5
                          simp only [List.getElem?_toArray, List.getElem?_cons_zero, List.getElem?_cons_succ] at s0 s1 s2 s3 s4 s5
                          by_cases o14 : y0 = 14
                          · subst o14
                            have HFI := Lib.hid (HFF.out y4 W1 HB4.out)
                            have HNI4 := Lib.hid (noneI_call (m := m) (i := ⟨14, y1, y2, y3, y4, yl⟩) rfl)
                            simp only at HNI4
                            obtain ⟨fx, hfx⟩ : ∃ x, fIdx (m.f.map (·.s)) y4 = x := ⟨_, rfl⟩
                            have HFX := Lib.hid hfx
                            rw [hfx] at HFI HNI4
                            clear hfx
                            go_wp2_with fail
                            refine HFI.out.mono ?_
                            rintro r w3 ⟨rfl, hb3⟩
                            have HB6 := Lib.hid (bthen HB4.out hb3)
                            have HI6 := Lib.hid ((hb3.block _ (Array.getElem?_eq_some_iff.1 HI4.out).1).trans HI4.out)
                            have HX6 := Lib.hid ((hb3.block _ (Array.getElem?_eq_some_iff.1 HIX.out).1).trans HIX.out)
                            clear hb3 c0 c1 s0 s1 s2 s3 s4 s5 HFI
                            cases fx with
                            | none =>
                              have HZ := Lib.hid (HNN.out (by rw [HNI4.out]; rfl))
                              rw [show idxE none = -1 from rfl]
                              go_wp2_with fail
                              go_ret
                              exact ⟨by rw [HZ.out]; rfl, HB6.out⟩
                            | some q =>
                              obtain ⟨hq, -⟩ := fIdx_lt HFX.out
                              have HOD := Lib.hid (oddI_call (m := m) (i := ⟨14, y1, y2, y3, y4, yl⟩) rfl HFX.out hq)
                              simp only at HOD
                              have HNZ := Lib.hid (HNX.out (by rw [HNI4.out]; rfl))
                              obtain ⟨b9, off9, hA9, hbl9, e9⟩ := RowOf.at_ HS.out.1 hq
                              obtain ⟨rfl, rfl⟩ : b1 = b9 ∧ off = off9 := by simpa using hA9
                              obtain ⟨-, -, p2, -⟩ := FnAt.next _ _ _ _ _ hbl9 HB6.out e9
                              obtain ⟨P, hP⟩ : ∃ P, m.f[q].p = P := ⟨_, rfl⟩
                              rw [hP] at p2 HOD
                              rw [show (yl.length : Int) = (y5 : Int) by have := HY5.out; omega] at HOD
                              have u0 : (0 : Int) ≤ (q : Int) := Int.natCast_nonneg _
                              have u1 : (q : Int) < (nf : Int) := by have := HNF.out; omega
                              rw [show idxE (some q) = (q : Int) from rfl]
                              have z0 : decide ((q : Int) < 0) = false := decide_eq_false (by omega)
                              have c0 := Lib.cell_of_heap HI6.out 0
                              have c1 := Lib.cell_of_heap HI6.out 1
                              simp only [List.getElem?_toArray, List.getElem?_cons_zero, List.getElem?_cons_succ] at c0 c1
                              have s0 := Lib.cell_of_heap HX6.out 0
                              have s1 := Lib.cell_of_heap HX6.out 1
                              have s2 := Lib.cell_of_heap HX6.out 2
                              have s3 := Lib.cell_of_heap HX6.out 3
                              have s4 := Lib.cell_of_heap HX6.out 4
                              have s5 := Lib.cell_of_heap HX6.out 5
                              simp only [List.getElem?_toArray, List.getElem?_cons_zero, List.getElem?_cons_succ] at s0 s1 s2 s3 s4 s5
                              clear hA9 hP hq e9 hbl9
                              cases od with
                              | true =>
                                have HOZ := Lib.hid (show Value.bool true = .bool ((insT m i ++ (insK f k ++ bi.take (n + 1))).any (oddI m)) by rw [HOX.out]; rfl)
                                go_upto_region 40 with fail
                                go_quiet (fail)
                                go_wp2_with fail
                                go_roundw
                                case rel => exact ⟨n + 1, HLN.out, by go_num, HNZ.out, HOZ.out, HI6.out, below_drewN HB6.out _⟩
                                case measure => have := HLN.out; simp [intOf]; omega
                              | false =>
                                cases hpq : (P == (y5 : Int)) with
                                | true =>
                                  obtain rfl : P = (y5 : Int) := by simpa using hpq
                                  have HOZ := Lib.hid (show Value.bool false = .bool ((insT m i ++ (insK f k ++ bi.take (n + 1))).any (oddI m)) by rw [HOX.out, HOD.out]; simp)
                                  go_upto_region 40 with fail
                                  go_quiet (fail)
                                  go_wp2_with fail
                                  go_roundw
                                  case rel => exact ⟨n + 1, HLN.out, by go_num, HNZ.out, HOZ.out, HI6.out, below_drewN HB6.out _⟩
                                  case measure => have := HLN.out; simp [intOf]; omega
                                | false =>
                                  have HOZ := Lib.hid (show Value.bool (P != (y5 : Int)) = .bool ((insT m i ++ (insK f k ++ bi.take (n + 1))).any (oddI m)) by rw [HOX.out, HOD.out]; rfl)
                                  go_upto_region 40 with fail
                                  go_quiet (fail)
                                  go_wp2_with fail
                                  go_roundw
                                  case rel => exact ⟨n + 1, HLN.out, by go_num, HNZ.out, HOZ.out, HI6.out, below_drewN HB6.out _⟩
                                  case measure => have := HLN.out; simp [intOf]; omega
                          have v14 : (y0 == 14) = false := by simpa using o14
                          have HOZ := Lib.hid (show Value.bool od = .bool ((insT m i ++ (insK f k ++ bi.take (n + 1))).any (oddI m)) by rw [HOX.out, oddI_no (i := ⟨y0, y1, y2, y3, y4, yl⟩) o14]; simp)
                          by_cases o12 : y0 = 12
                          · subst o12
                            have HFI := Lib.hid (HFG.out y4 W1 HB4.out)
                            have HNI4 := Lib.hid (noneI_var (m := m) (i := ⟨12, y1, y2, y3, y4, yl⟩) (.inl rfl))
                            simp only at HNI4
                            obtain ⟨fx, hfx⟩ : ∃ x, fIdx (m.g.map (·.s)) y4 = x := ⟨_, rfl⟩
                            rw [hfx] at HFI HNI4
                            clear hfx o14 v14
                            go_wp2_with fail
                            refine HFI.out.mono ?_
                            rintro r w3 ⟨rfl, hb3⟩
                            have HB6 := Lib.hid (bthen HB4.out hb3)
                            have HI6 := Lib.hid ((hb3.block _ (Array.getElem?_eq_some_iff.1 HI4.out).1).trans HI4.out)
                            clear hb3 c0 c1 s0 s1 s2 s3 s4 s5 HFI
                            cases fx with
                            | none =>
                              have HZ := Lib.hid (HNN.out (by rw [HNI4.out]; rfl))
                              rw [show idxE none = -1 from rfl]
                              go_wp2_with fail
                              go_ret
                              exact ⟨by rw [HZ.out]; rfl, HB6.out⟩
                            | some q =>
                              have HNZ := Lib.hid (HNX.out (by rw [HNI4.out]; rfl))
                              have z0 : decide ((q : Int) < 0) = false := decide_eq_false (by omega)
                              rw [show idxE (some q) = (q : Int) from rfl]
                              go_wp2_with fail
                              go_roundw
                              case rel => exact ⟨n + 1, HLN.out, by go_num, HNZ.out, HOZ.out, HI6.out, HB6.out⟩
                              case measure => have := HLN.out; simp [intOf]; omega
                          have v12 : (y0 == 12) = false := by simpa using o12
                          by_cases o13 : y0 = 13
                          · subst o13
                            have HFI := Lib.hid (HFG.out y4 W1 HB4.out)
                            have HNI4 := Lib.hid (noneI_var (m := m) (i := ⟨13, y1, y2, y3, y4, yl⟩) (.inr rfl))
                            simp only at HNI4
                            obtain ⟨fx, hfx⟩ : ∃ x, fIdx (m.g.map (·.s)) y4 = x := ⟨_, rfl⟩
                            rw [hfx] at HFI HNI4
                            clear hfx o14 v14
                            go_wp2_with fail
                            refine HFI.out.mono ?_
                            rintro r w3 ⟨rfl, hb3⟩
                            have HB6 := Lib.hid (bthen HB4.out hb3)
                            have HI6 := Lib.hid ((hb3.block _ (Array.getElem?_eq_some_iff.1 HI4.out).1).trans HI4.out)
                            clear hb3 c0 c1 s0 s1 s2 s3 s4 s5 HFI
                            cases fx with
                            | none =>
                              have HZ := Lib.hid (HNN.out (by rw [HNI4.out]; rfl))
                              rw [show idxE none = -1 from rfl]
                              go_wp2_with fail
                              go_ret
                              exact ⟨by rw [HZ.out]; rfl, HB6.out⟩
                            | some q =>
                              have HNZ := Lib.hid (HNX.out (by rw [HNI4.out]; rfl))
                              have z0 : decide ((q : Int) < 0) = false := decide_eq_false (by omega)
                              rw [show idxE (some q) = (q : Int) from rfl]
                              go_wp2_with fail
                              go_roundw
                              case rel => exact ⟨n + 1, HLN.out, by go_num, HNZ.out, HOZ.out, HI6.out, HB6.out⟩
                              case measure => have := HLN.out; simp [intOf]; omega
                          have v13 : (y0 == 13) = false := by simpa using o13
                          have HNZ := Lib.hid (HNX.out (noneI_no (i := ⟨y0, y1, y2, y3, y4, yl⟩) o14 o12 o13))
                          clear o14 o12 o13
                          go_wp2_with fail
                          go_roundw
                          case rel => exact ⟨n + 1, HLN.out, by go_num, HNZ.out, HOZ.out, HI4.out, HB4.out⟩
                          case measure => have := HLN.out; simp [intOf]; omega
                        · have hd : decide ((n : Int) < (ni : Int)) = false := by simp; omega
                          have HX1 := Lib.hid (show insT m i ++ (insK f k ++ bi.take n) = insT m i ++ insK f (k + 1) by rw [HSK.out, List.take_of_length_le (by have := HNI.out; omega)])
                          rw [HX1.out] at HT3
                          rw [HX1.out]
                          go_wp2_with fail
                          go_roundw
                          case rel => exact ⟨k + 1, HLK.out, by go_num, HT3.out, rfl, HI3.out, HB3.out⟩
                          case measure => have := HLK.out; simp [intOf]; omega
                    · have hd : decide ((k : Int) < (nl : Int)) = false := by simp; omega
                      have HX1 := Lib.hid (show insT m i ++ insK f k = insT m (i + 1) by rw [HSU.out, insK_all _ _ (by have := HNL.out; omega)])
                      rw [HX1.out] at HT2
                      rw [HX1.out]
                      go_wp2_with fail
                      go_roundw
                      case rel => exact ⟨i + 1, HLT.out, by go_num, HT2.out, rfl, HI2.out, HB2.out⟩
                      case measure => have := HLT.out; simp [intOf]; omega
                · have hd : decide ((i : Int) < (nf : Int)) = false := by simp; omega
                  have HX1 := Lib.hid (insT_all m i (by have := HNF.out; omega))
                  rw [HX1.out] at HT
                  rw [HX1.out]
                  have HZ1 := Lib.hid (show V = if (insM m).any (oddI m) = true then 1 else 0 by rw [HE3.out, found_some HT.out]; rfl)
                  obtain ⟨od, hod⟩ : ∃ z, (insM m).any (oddI m) = z := ⟨_, rfl⟩
                  rw [hod] at HZ1 ⊢
                  clear hod
                  cases od with
                  | true =>
                    go_wp2_with fail
                    go_ret
                    exact ⟨by rw [HZ1.out]; rfl, HB.out⟩
                  | false =>
                    go_wp2_with fail
                    go_ret
                    exact ⟨by rw [HZ1.out]; rfl, HB.out⟩
end Go.Proofs.Ytoglmdadpchhoaa
