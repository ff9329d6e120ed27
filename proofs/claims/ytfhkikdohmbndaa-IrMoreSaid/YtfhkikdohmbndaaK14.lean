/- IrCounts: a right function has at most sixteen blocks, each of at most 38 values; what an instruction uses are at most six. -/
import Derived.Test.YtfhkikdohmbndaaK12
import Derived.Test.YtfhkikdohmbndaaK13
namespace Go.Proofs.Ytfhkikdohmbndaa
open Go.RowKit

theorem refs_ins (f : Fn) : (refsL f).length ≤ (insF f).length := by
  obtain ⟨s, b, p, l⟩ := f
  unfold refsL insF
  simp only
  induction l with
  | nil => simp
  | cons c l ih =>
    rw [List.map_cons, List.map_cons, List.flatten_cons, List.flatten_cons, List.length_append, List.length_append]
    have : (insNames c.i).length ≤ c.i.length := by
      unfold insNames
      rw [List.length_map]
      exact List.length_filter_le _ _
    omega
theorem ins_512 {f : Fn} (h : funcB f = true) : (insF f).length ≤ 512 := by
  obtain ⟨h16, hb, -⟩ := func_parts h
  have key : ∀ l : List Bk, (∀ b ∈ l, b.i.length ≤ 32) → ((l.map (·.i)).flatten).length ≤ 32 * l.length := by
    intro l
    induction l with
    | nil => simp
    | cons c l ih =>
      intro hl
      rw [List.map_cons, List.flatten_cons, List.length_append, List.length_cons]
      have h1 := hl c (by simp)
      have h2 := ih (fun b hb => hl b (by simp [hb]))
      omega
  have := key f.l (fun b hb' => (block_parts (hb b hb')).2.2.1)
  unfold insF
  omega
set_option maxRecDepth 100000 in
set_option maxHeartbeats 8000000 in
theorem counts_all (f : Fn) (C : Option Addr) (ca : Nat) (w : World) (hok : FnOk f) (hS : Blocks w (.slice C f.l.length ca) f.l) :
    Calls Try.prog 14 #[.agg #[.string f.s, .int .i64 f.b, .int .i64 f.p, .slice C f.l.length ca]] w fun e w' => e = .returned (.bool true) ∧ Below w.heap.size w w' := by
  have HF := Lib.hid (fun (W : World) (hb : Below w.heap.size w W) => func_any f C ca W hok (hS.next hb))
  have HRF := Lib.hid (fun (hc : (insF f).length ≤ 512) (W : World) (hb : Below w.heap.size w W) => refs_any f C f.l.length ca W rfl hok (by omega) (hS.next hb))
  have HS := Lib.hid hS
  obtain ⟨s, b, p, l⟩ := f
  simp only at HF HS HRF ⊢
  obtain ⟨nl, hnl⟩ : ∃ n, l.length = n := ⟨_, rfl⟩
  have HL := Lib.hid (show l.length ≤ nl ∧ nl ≤ l.length by omega)
  rw [hnl] at HF HS HRF ⊢
  obtain ⟨fb, hfb⟩ : ∃ x, funcB ⟨s, b, p, l⟩ = x := ⟨_, rfl⟩
  have HFI := Lib.hid (show fb = true → (insF ⟨s, b, p, l⟩).length ≤ 512 from fun h => ins_512 (hfb.trans h))
  have HFB := Lib.hid (show fb = true → l.length ≤ 16 ∧ (∀ b ∈ l, blockB l b = true) ∧ (∀ (h : 0 < l.length), l[0].p = p) from fun h => func_parts (hfb.trans h))
  rw [hfb] at HF
  clear hS hok hnl hfb
  have HIN := Lib.hid (heap_alloc_new w (.cells #[.string s, .int .i64 b, .int .i64 p, .slice C nl ca] 72))
  have HBW := Lib.hid (balloc (Below.refl _ w) (.cells #[.string s, .int .i64 b, .int .i64 p, .slice C nl ca] 72))
  go_enter Try.func14, Try.ntmps14
  go_wp2_with fail
  generalize w.alloc (.cells #[.string s, .int .i64 b, .int .i64 p, .slice C nl ca] 72) = W0 at *
  refine (ishown_any _).mono ?_
  rintro r w1 ⟨rfl, hb⟩
  have hin := (hb.block _ (Array.getElem?_eq_some_iff.1 HIN.out).1).trans HIN.out
  have c0 := Lib.cell_of_heap hin 0
  have c1 := Lib.cell_of_heap hin 1
  have c2 := Lib.cell_of_heap hin 2
  have c3 := Lib.cell_of_heap hin 3
  simp only [List.getElem?_toArray, List.getElem?_cons_zero, List.getElem?_cons_succ] at c0 c1 c2 c3
  have HB1 := Lib.hid (bthen HBW.out hb)
  have HIN1 := Lib.hid hin
  clear hb hin
  go_wp2_with fail
  refine (HF.out _ HB1.out).mono ?_
  rintro r w2 ⟨rfl, hb⟩
  have HB2 := Lib.hid (bthen HB1.out hb)
  have HIN2 := Lib.hid ((hb.block _ (Array.getElem?_eq_some_iff.1 HIN1.out).1).trans HIN1.out)
  clear hb c0 c1 c2 c3
  cases fb with
  | false =>
    go_wp2_with fail
    go_ret
    exact ⟨rfl, HB2.out⟩
  | true =>
    have HP := Lib.hid (HFB.out rfl)
    go_wp2_with fail
    have n16 : (nl : Int) ≤ 16 := by have := HP.out.1; have := HL.out; omega
    go_loopw [4] (fun iv wr => ∃ i : Nat, i ≤ nl ∧ iv = .int .i64 i ∧ wr.heap[w.heap.size]? = some (.cells #[.string s, .int .i64 b, .int .i64 p, .slice C nl ca] 72 (0, 0)) ∧ Below w.heap.size w wr) (fun iv _ => nl - (intOf iv).toNat)
    case atStart => exact ⟨0, Nat.zero_le _, rfl, HIN2.out, HB2.out⟩
    case round =>
      obtain ⟨i, hi, rfl, hin, hb⟩ := hrel
      have HI := Lib.hid hin
      have HB := Lib.hid hb
      have c3 := Lib.cell_of_heap hin 3
      simp only [List.getElem?_toArray, List.getElem?_cons_zero, List.getElem?_cons_succ] at c3
      clear hin hb
      by_cases hlt : i < nl
      · have hm : i < l.length := by have := HL.out; omega
        have hbp := block_parts (HP.out.2.1 l[i] (List.getElem_mem hm))
        obtain ⟨b1, off, hA, hbl, e0⟩ := RowOf.at_ HS.out hm
        subst hA
        have HE0 := Lib.hid (And.intro hbl e0)
        obtain ⟨g0, ⟨A1, z1, g1, -⟩, g2, g3, g4, ⟨A5, z5, g5, -⟩, g6, A7, z7, g7, -⟩ := BkAt.next _ _ _ _ _ hbl HB.out e0
        obtain ⟨-, ⟨A1', z1', g1', hins⟩, -⟩ := e0
        have g1'' := (cellNext hbl HB.out _).trans g1'
        have HG1 := Lib.hid (fun (U : World) (hU : Below w.heap.size w U) => (cellNext hbl hU _).trans g1')
        rw [g1''] at g1
        obtain ⟨rfl, -, rfl⟩ := Value.slice.inj (Option.some.inj g1)
        clear g1
        have HINS := Lib.hid hins
        have HIS := Lib.hid (instsB_at _ _ hbp.2.2.2.2)
        obtain ⟨⟨bp, bi, ⟨ek, ea, et, el, ee, em⟩⟩, hbk⟩ : ∃ t, l[i] = t := ⟨_, rfl⟩
        rw [hbk] at g0 g1'' g2 g3 g4 g5 g6 g7 HIS HINS HG1 hbp
        simp only at g0 g1'' g2 g3 g4 g5 g6 g7 HIS HINS HG1 hbp
        obtain ⟨ll, hll⟩ : ∃ x, el.length = x := ⟨_, rfl⟩
        obtain ⟨lm, hlm⟩ : ∃ x, em.length = x := ⟨_, rfl⟩
        obtain ⟨ni, hni⟩ : ∃ x, bi.length = x := ⟨_, rfl⟩
        rw [hll] at g5
        rw [hlm] at g7
        rw [hni] at g1'' HINS HG1 hbp
        have HNI := Lib.hid (show bi.length ≤ ni ∧ ni ≤ bi.length by omega)
        have hk0 : (0 : Int) ≤ (i : Int) := Int.natCast_nonneg _
        have hk1 : (i : Int) < (nl : Int) := by omega
        have p0 : 0 ≤ bp := hbp.1
        have p6 : bp ≤ 6 := hbp.2.1
        have n32 : (ni : Int) ≤ 32 := by have := hbp.2.2.1; omega
        have HLT := Lib.hid hlt
        have ew : wrap64 (bp + (ni : Int)) = bp + (ni : Int) := by unfold wrap64; omega
        have HVL := Lib.hid (fun (W : World) => values_any bp ek ea et ee A1' ni z1' (.slice A5 ll z5) (.slice A7 lm z7) W)
        rw [ew] at HVL
        have t38 : decide ((38 : Int) < bp + (ni : Int)) = false := decide_eq_false (by omega)
        clear hbp hbk hll hlm hni hins g1' hlt hm HE0
        go_wp2_with fail
        refine (HVL.out _).mono ?_
        rintro r w3 ⟨rfl, hb3⟩
        have HI1 := Lib.hid ((hb3.block _ (Array.getElem?_eq_some_iff.1 HI.out).1).trans HI.out)
        have HB1 := Lib.hid (bthen HB.out hb3)
        clear g0 g1'' g2 g3 g4 g5 g6 g7 c3 hb3
        go_wp2_with fail
        go_loopw [5] (fun iv wi => ∃ j : Nat, j ≤ ni ∧ iv = .int .i64 j ∧ wi.heap[w.heap.size]? = some (.cells #[.string s, .int .i64 b, .int .i64 p, .slice (some ⟨b1, off, none⟩) nl ca] 72 (0, 0)) ∧ Below w.heap.size w wi) (fun iv _ => ni - (intOf iv).toNat)
        case atStart => exact ⟨0, Nat.zero_le _, rfl, HI1.out, HB1.out⟩
        case round =>
          obtain ⟨j, hj, rfl, hfx, hb⟩ := hrel
          have HFX2 := Lib.hid hfx
          have HBB2 := Lib.hid hb
          have d3 := Lib.cell_of_heap hfx 3
          simp only [List.getElem?_toArray, List.getElem?_cons_zero, List.getElem?_cons_succ] at d3
          have dg := HG1.out _ hb
          clear hfx hb
          by_cases hlj : j < ni
          · have hjm : j < bi.length := by have := HNI.out; omega
            obtain ⟨b2, off2, hA2, hb2, e2⟩ := RowOf.at_ HINS.out hjm
            subst hA2
            obtain ⟨k0, k1, k2, k3, k4, A6, z6, k5, hi6⟩ := InAt.next _ _ _ _ _ hb2 HBB2.out e2
            obtain ⟨h6, -⟩ := inst_parts (HIS.out j hjm)
            have HU := Lib.hid (uses_any bi[j] _ wr hi6 (by omega))
            obtain ⟨U, hU⟩ : ∃ U, usesI bi[j] = U := ⟨_, rfl⟩
            unfold inV at HU
            rw [hU] at HU
            have HUL := Lib.hid (show U.length ≤ 6 from hU ▸ uses_len _ h6)
            obtain ⟨x0, h0⟩ : ∃ x, bi[j].o = x := ⟨_, rfl⟩
            obtain ⟨x1, h1⟩ : ∃ x, bi[j].a = x := ⟨_, rfl⟩
            obtain ⟨x2, h2⟩ : ∃ x, bi[j].b = x := ⟨_, rfl⟩
            obtain ⟨x3, h3⟩ : ∃ x, bi[j].k = x := ⟨_, rfl⟩
            obtain ⟨x4, h4⟩ : ∃ x, bi[j].s = x := ⟨_, rfl⟩
            obtain ⟨x5, h5⟩ : ∃ x, bi[j].l.length = x := ⟨_, rfl⟩
            rw [h0, h1, h2, h3, h4, h5] at HU
            rw [h0] at k0
            rw [h1] at k1
            rw [h2] at k2
            rw [h3] at k3
            rw [h4] at k4
            rw [h5] at k5
            have q0 : (0 : Int) ≤ (j : Int) := Int.natCast_nonneg _
            have q1 : (j : Int) < (ni : Int) := by omega
            have HLJ := Lib.hid hlj
            clear h0 h1 h2 h3 h4 h5 hjm hlj hi6 hU h6 e2
            go_wp2_with fail
            refine HU.out.mono ?_
            rintro r w3 ⟨v', rfl, ho, hb3⟩
            obtain ⟨A8, z8, hv8⟩ := ho.ints.slice
            obtain ⟨nu, hnu⟩ : ∃ x, U.length = x := ⟨_, rfl⟩
            rw [hnu] at hv8
            subst hv8
            have t6 : decide (6 < nu) = false := decide_eq_false (by have := HUL.out; omega)
            have t6' : decide ((6 : Int) < (nu : Int)) = false := decide_eq_false (by have := HUL.out; omega)
            have HFX3 := Lib.hid ((hb3.block _ (Array.getElem?_eq_some_iff.1 HFX2.out).1).trans HFX2.out)
            have HBB3 := Lib.hid (bthen HBB2.out hb3)
            clear ho hb3 hnu d3 dg k0 k1 k2 k3 k4 k5
            go_wp2_with fail
            go_roundw
            case rel => exact ⟨j + 1, HLJ.out, by go_num, HFX3.out, HBB3.out⟩
            case measure => have := HLJ.out; simp [intOf]; omega
          · have hd : decide ((j : Int) < (ni : Int)) = false := by simp; omega
            go_wp2_with fail
            go_roundw
            case rel => exact ⟨i + 1, HLT.out, by go_num, HFX2.out, HBB2.out⟩
            case measure => have := HLT.out; simp [intOf]; omega
      · have hd : decide ((i : Int) < (nl : Int)) = false := by simp; omega
        have t16 : decide (nl ≤ 16) = true := decide_eq_true (by omega)
        have t16' : decide ((nl : Int) ≤ 16) = true := decide_eq_true (by omega)
        have c0 := Lib.cell_of_heap HI.out 0
        have c1 := Lib.cell_of_heap HI.out 1
        have c2 := Lib.cell_of_heap HI.out 2
        simp only [List.getElem?_toArray, List.getElem?_cons_zero, List.getElem?_cons_succ] at c0 c1 c2
        have HR := Lib.hid (HRF.out (HFI.out trivial) _ HB.out)
        have HRL := Lib.hid (Nat.le_trans (refs_ins ⟨s, b, p, l⟩) (HFI.out trivial))
        go_wp2_with fail
        refine HR.out.mono ?_
        rintro r w3 ⟨v', rfl, hs, hb3⟩
        obtain ⟨A8, z8, hv8⟩ := RowOf.slice hs
        obtain ⟨nu, hnu⟩ : ∃ x, (refsL ⟨s, b, p, l⟩).length = x := ⟨_, rfl⟩
        rw [hnu] at hv8 HRL
        subst hv8
        have t5 : decide (nu ≤ 512) = true := decide_eq_true HRL.out
        have t5' : decide ((nu : Int) ≤ 512) = true := decide_eq_true (by have := HRL.out; omega)
        have HB3 := Lib.hid (bthen HB.out hb3)
        clear hs hb3 c0 c1 c2 c3
        go_wp2_with fail
        go_ret
        exact ⟨rfl, HB3.out⟩
end Go.Proofs.Ytfhkikdohmbndaa
