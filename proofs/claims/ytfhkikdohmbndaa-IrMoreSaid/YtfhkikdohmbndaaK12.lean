/- IrAhead: in a right function each value that is used is given ahead, in its own block. -/
import Derived.Test.YtfhkikdohmbndaaK11
namespace Go.Proofs.Ytfhkikdohmbndaa
open Go.RowKit

theorem instsB_at : ∀ (l : List In) (p : Int), instsB p l = true → ∀ (j : Nat) (h : j < l.length), instB (p + j) l[j] = true
  | [], _, _, j, h => by simp at h
  | i :: l, p, hb, 0, _ => by
    rw [instsB, Bool.and_eq_true] at hb
    simpa using hb.1
  | i :: l, p, hb, j + 1, h => by
    rw [instsB, Bool.and_eq_true] at hb
    have := instsB_at l (p + 1) hb.2 j (by simpa using h)
    rw [List.getElem_cons_succ, show p + ((j + 1 : Nat) : Int) = p + 1 + j by omega]
    exact this
theorem inst_parts {n : Int} {i : In} (h : instB n i = true) : i.l.length ≤ 6 ∧ amongB n (usesI i) = true := by
  rw [inst_chain] at h
  simp only [Bool.and_eq_true, decide_eq_true_eq] at h
  exact ⟨h.1.1.1.2, h.1.1.2⟩
theorem among_at {n : Int} {l : List Int} (h : amongB n l = true) (j : Nat) (hj : j < l.length) : 0 ≤ l[j] ∧ l[j] < n := by
  unfold amongB at h
  have := List.all_eq_true.1 h l[j] (List.getElem_mem hj)
  simpa using this
def EightC (W : World) (B : Nat) (c0 c1 c2 c3 c4 c5 c6 c7 : Value) : Prop := W.cell? ⟨B, 0, none⟩ = some c0 ∧ W.cell? ⟨B, 1, none⟩ = some c1 ∧ W.cell? ⟨B, 2, none⟩ = some c2 ∧ W.cell? ⟨B, 3, none⟩ = some c3 ∧ W.cell? ⟨B, 4, none⟩ = some c4 ∧ W.cell? ⟨B, 5, none⟩ = some c5 ∧ W.cell? ⟨B, 6, none⟩ = some c6 ∧ W.cell? ⟨B, 7, none⟩ = some c7
theorem eight_next {w W W' : World} {B : Nat} {c0 c1 c2 c3 c4 c5 c6 c7 : Value} (hb : Below W.heap.size W W') (h : W.cell? ⟨B, 0, none⟩ = some c0 ∧ W.cell? ⟨B, 1, none⟩ = some c1 ∧ W.cell? ⟨B, 2, none⟩ = some c2 ∧ W.cell? ⟨B, 3, none⟩ = some c3 ∧ W.cell? ⟨B, 4, none⟩ = some c4 ∧ W.cell? ⟨B, 5, none⟩ = some c5 ∧ W.cell? ⟨B, 6, none⟩ = some c6 ∧ W.cell? ⟨B, 7, none⟩ = some c7 ∧ Below w.heap.size w W) :
    W'.cell? ⟨B, 0, none⟩ = some c0 ∧ W'.cell? ⟨B, 1, none⟩ = some c1 ∧ W'.cell? ⟨B, 2, none⟩ = some c2 ∧ W'.cell? ⟨B, 3, none⟩ = some c3 ∧ W'.cell? ⟨B, 4, none⟩ = some c4 ∧ W'.cell? ⟨B, 5, none⟩ = some c5 ∧ W'.cell? ⟨B, 6, none⟩ = some c6 ∧ W'.cell? ⟨B, 7, none⟩ = some c7 ∧ Below w.heap.size w W' := by
  obtain ⟨h0, h1, h2, h3, h4, h5, h6, h7, h8⟩ := h
  have hB := World.block_lt_of_cell? W _ h0
  have e : ∀ o, W'.cell? ⟨B, o, none⟩ = W.cell? ⟨B, o, none⟩ := fun o => cellNext hB hb o
  exact ⟨(e 0).trans h0, (e 1).trans h1, (e 2).trans h2, (e 3).trans h3, (e 4).trans h4, (e 5).trans h5, (e 6).trans h6, (e 7).trans h7, bthen h8 hb⟩
theorem eight_below {w W : World} {B : Nat} {c0 c1 c2 c3 c4 c5 c6 c7 : Value} (h : W.cell? ⟨B, 0, none⟩ = some c0 ∧ W.cell? ⟨B, 1, none⟩ = some c1 ∧ W.cell? ⟨B, 2, none⟩ = some c2 ∧ W.cell? ⟨B, 3, none⟩ = some c3 ∧ W.cell? ⟨B, 4, none⟩ = some c4 ∧ W.cell? ⟨B, 5, none⟩ = some c5 ∧ W.cell? ⟨B, 6, none⟩ = some c6 ∧ W.cell? ⟨B, 7, none⟩ = some c7 ∧ Below w.heap.size w W) : Below w.heap.size w W := h.2.2.2.2.2.2.2.2
set_option maxRecDepth 100000 in
set_option maxHeartbeats 8000000 in
theorem ahead_all (f : Fn) (C : Option Addr) (ca : Nat) (w : World) (hok : FnOk f) (hS : Blocks w (.slice C f.l.length ca) f.l) :
    Calls Try.prog 10 #[.agg #[.string f.s, .int .i64 f.b, .int .i64 f.p, .slice C f.l.length ca]] w fun e w' => e = .returned (.bool true) ∧ Below w.heap.size w w' := by
  have HF := Lib.hid (fun (W : World) (hb : Below w.heap.size w W) => func_any f C ca W hok (hS.next hb))
  have HS := Lib.hid hS
  obtain ⟨s, b, p, l⟩ := f
  simp only at HF HS ⊢
  obtain ⟨nl, hnl⟩ : ∃ n, l.length = n := ⟨_, rfl⟩
  have HL := Lib.hid (show l.length ≤ nl ∧ nl ≤ l.length by omega)
  rw [hnl] at HF HS ⊢
  obtain ⟨fb, hfb⟩ : ∃ x, funcB ⟨s, b, p, l⟩ = x := ⟨_, rfl⟩
  have HFB := Lib.hid (show fb = true → l.length ≤ 16 ∧ (∀ b ∈ l, blockB l b = true) ∧ (∀ (h : 0 < l.length), l[0].p = p) from fun h => func_parts (hfb.trans h))
  rw [hfb] at HF
  clear hS hok hnl hfb
  have HIN := Lib.hid (heap_alloc_new w (.cells #[.string s, .int .i64 b, .int .i64 p, .slice C nl ca] 72))
  have HBW := Lib.hid (balloc (Below.refl _ w) (.cells #[.string s, .int .i64 b, .int .i64 p, .slice C nl ca] 72))
  go_enter Try.func10, Try.ntmps10
  go_wp2_with fail
  generalize w.alloc (.cells #[.string s, .int .i64 b, .int .i64 p, .slice C nl ca] 72) = W0 at *
  refine (ishown_any _).mono ?_
  rintro r w1 ⟨rfl, hb⟩
  have hin := (hb.block _ (Array.getElem?_eq_some_iff.1 HIN.out).1).trans HIN.out
  have c0 := Lib.cell_of_heap hin 0
  have c1 := Lib.cell_of_heap hin 1
  have c2 := Lib.cell_of_heap hin 2
  have c3 := Lib.cell_of_heap hin 3
  simp only [List.getElem?_toArray, List.getElem?_cons_zero, List.getElem?_cons_succ] at c0 c1 c2 c3
  have HB1 := Lib.hid (bthen HBW.out hb)
  have HIN1 := Lib.hid hin
  clear hb hin
  go_wp2_with fail
  refine (HF.out _ HB1.out).mono ?_
  rintro r w2 ⟨rfl, hb⟩
  have HB2 := Lib.hid (bthen HB1.out hb)
  have HIN2 := Lib.hid ((hb.block _ (Array.getElem?_eq_some_iff.1 HIN1.out).1).trans HIN1.out)
  clear hb c0 c1 c2 c3
  cases fb with
  | false =>
    go_wp2_with fail
    go_ret
    exact ⟨rfl, HB2.out⟩
  | true =>
    have HP := Lib.hid (HFB.out rfl)
    go_wp2_with fail
    have n16 : (nl : Int) ≤ 16 := by have := HP.out.1; have := HL.out; omega
    go_loopw [4] (fun iv wr => ∃ i : Nat, i ≤ nl ∧ iv = .int .i64 i ∧ wr.heap[w.heap.size]? = some (.cells #[.string s, .int .i64 b, .int .i64 p, .slice C nl ca] 72 (0, 0)) ∧ Below w.heap.size w wr) (fun iv _ => nl - (intOf iv).toNat)
    case atStart => exact ⟨0, Nat.zero_le _, rfl, HIN2.out, HB2.out⟩
    case round =>
      obtain ⟨i, hi, rfl, hin, hb⟩ := hrel
      have HI := Lib.hid hin
      have HB := Lib.hid hb
      have c3 := Lib.cell_of_heap hin 3
      simp only [List.getElem?_toArray, List.getElem?_cons_zero, List.getElem?_cons_succ] at c3
      clear hin hb
      by_cases hlt : i < nl
      · have hm : i < l.length := by have := HL.out; omega
        have hbp := block_parts (HP.out.2.1 l[i] (List.getElem_mem hm))
        obtain ⟨b1, off, hA, hbl, e0⟩ := RowOf.at_ HS.out hm
        subst hA
        obtain ⟨g0, ⟨A1, z1, g1, -⟩, g2, g3, g4, ⟨A5, z5, g5, -⟩, g6, A7, z7, g7, -⟩ := BkAt.next _ _ _ _ _ hbl HB.out e0
        obtain ⟨-, ⟨A1', z1', g1', hins⟩, -⟩ := e0
        have g1'' := (cellNext hbl HB.out _).trans g1'
        rw [g1''] at g1
        obtain ⟨rfl, -, rfl⟩ := Value.slice.inj (Option.some.inj g1)
        clear g1
        have HINS := Lib.hid hins
        have HEN := Lib.hid (end_cases hbp.2.2.2.1)
        have HIS := Lib.hid (instsB_at _ _ hbp.2.2.2.2)
        obtain ⟨⟨bp, bi, ⟨ek, ea, et, el, ee, em⟩⟩, hbk⟩ : ∃ t, l[i] = t := ⟨_, rfl⟩
        rw [hbk] at g0 g1'' g2 g3 g4 g5 g6 g7 HEN HIS HINS hbp
        simp only at g0 g1'' g2 g3 g4 g5 g6 g7 HEN HIS HINS hbp
        obtain ⟨ll, hll⟩ : ∃ x, el.length = x := ⟨_, rfl⟩
        obtain ⟨lm, hlm⟩ : ∃ x, em.length = x := ⟨_, rfl⟩
        obtain ⟨ni, hni⟩ : ∃ x, bi.length = x := ⟨_, rfl⟩
        rw [hll] at g5
        rw [hlm] at g7
        rw [hni] at g1'' HEN HINS hbp
        have HNI := Lib.hid (show bi.length ≤ ni ∧ ni ≤ bi.length by omega)
        have hk0 : (0 : Int) ≤ (i : Int) := Int.natCast_nonneg _
        have hk1 : (i : Int) < (nl : Int) := by omega
        have p0 : 0 ≤ bp := hbp.1
        have p6 : bp ≤ 6 := hbp.2.1
        have n32 : (ni : Int) ≤ 32 := by have := hbp.2.2.1; omega
        have HLT := Lib.hid hlt
        have hbx := balloc (Below.refl _ wr) (.cells #[.int .i64 bp, .slice A1' ni z1', .int .i64 ek, .int .i64 ea, .int .i64 et, .slice A5 ll z5, .int .i64 ee, .slice A7 lm z7] 64)
        have HIX := Lib.hid (heap_alloc_new wr (.cells #[.int .i64 bp, .slice A1' ni z1', .int .i64 ek, .int .i64 ea, .int .i64 et, .slice A5 ll z5, .int .i64 ee, .slice A7 lm z7] 64))
        have HI1 := Lib.hid ((hbx.block _ (Array.getElem?_eq_some_iff.1 HI.out).1).trans HI.out)
        have HB1 := Lib.hid (bthen HB.out hbx)
        clear hbp hbk hll hlm hni hbx hins g1' hlt hm
        go_wp2_with fail
        clear g0 g1'' g2 g3 g4 g5 g6 g7 c3
        generalize wr.alloc (.cells #[.int .i64 bp, .slice A1' ni z1', .int .i64 ek, .int .i64 ea, .int .i64 et, .slice A5 ll z5, .int .i64 ee, .slice A7 lm z7] 64) = W1 at *
        generalize wr.heap.size = BX at *
        go_loopw [6] (fun iv wi => ∃ j : Nat, j ≤ ni ∧ iv = .int .i64 j ∧ wi.heap[BX]? = some (.cells #[.int .i64 bp, .slice A1' ni z1', .int .i64 ek, .int .i64 ea, .int .i64 et, .slice A5 ll z5, .int .i64 ee, .slice A7 lm z7] 64 (0, 0)) ∧ wi.heap[w.heap.size]? = some (.cells #[.string s, .int .i64 b, .int .i64 p, .slice (some ⟨b1, off, none⟩) nl ca] 72 (0, 0)) ∧ Below w.heap.size w wi) (fun iv _ => ni - (intOf iv).toNat)
        case atStart => exact ⟨0, Nat.zero_le _, rfl, HIX.out, HI1.out, HB1.out⟩
        case round =>
          obtain ⟨j, hj, rfl, hbx, hfx, hb⟩ := hrel
          have HBX2 := Lib.hid hbx
          have HFX2 := Lib.hid hfx
          have HBB2 := Lib.hid hb
          have d0 := Lib.cell_of_heap hbx 0
          have d1 := Lib.cell_of_heap hbx 1
          have d2 := Lib.cell_of_heap hbx 2
          have d3 := Lib.cell_of_heap hbx 3
          have d4 := Lib.cell_of_heap hbx 4
          have d5 := Lib.cell_of_heap hbx 5
          have d6 := Lib.cell_of_heap hbx 6
          have d7 := Lib.cell_of_heap hbx 7
          simp only [List.getElem?_toArray, List.getElem?_cons_zero, List.getElem?_cons_succ] at d0 d1 d2 d3 d4 d5 d6 d7
          clear hbx hfx hb
          by_cases hlj : j < ni
          · have hjm : j < bi.length := by have := HNI.out; omega
            obtain ⟨b2, off2, hA2, hb2, e2⟩ := RowOf.at_ HINS.out hjm
            subst hA2
            obtain ⟨k0, k1, k2, k3, k4, A6, z6, k5, hi6⟩ := InAt.next _ _ _ _ _ hb2 HBB2.out e2
            obtain ⟨h6, ham⟩ := inst_parts (HIS.out j hjm)
            have HU := Lib.hid (uses_any bi[j] _ wr hi6 (by omega))
            have HAM := Lib.hid (among_at ham)
            obtain ⟨U, hU⟩ : ∃ U, usesI bi[j] = U := ⟨_, rfl⟩
            unfold inV at HU
            rw [hU] at HU HAM
            have HUL := Lib.hid (show U.length ≤ 6 from hU ▸ uses_len _ h6)
            obtain ⟨x0, h0⟩ : ∃ x, bi[j].o = x := ⟨_, rfl⟩
            obtain ⟨x1, h1⟩ : ∃ x, bi[j].a = x := ⟨_, rfl⟩
            obtain ⟨x2, h2⟩ : ∃ x, bi[j].b = x := ⟨_, rfl⟩
            obtain ⟨x3, h3⟩ : ∃ x, bi[j].k = x := ⟨_, rfl⟩
            obtain ⟨x4, h4⟩ : ∃ x, bi[j].s = x := ⟨_, rfl⟩
            obtain ⟨x5, h5⟩ : ∃ x, bi[j].l.length = x := ⟨_, rfl⟩
            rw [h0, h1, h2, h3, h4, h5] at HU
            rw [h0] at k0
            rw [h1] at k1
            rw [h2] at k2
            rw [h3] at k3
            rw [h4] at k4
            rw [h5] at k5
            have q0 : (0 : Int) ≤ (j : Int) := Int.natCast_nonneg _
            have q1 : (j : Int) < (ni : Int) := by omega
            have HLJ := Lib.hid hlj
            clear h0 h1 h2 h3 h4 h5 hjm hlj hi6 ham hU h6 e2
            go_wp2_with fail
            refine HU.out.mono ?_
            rintro r w3 ⟨v', rfl, ho, hb3⟩
            have HI3 := Lib.hid ho.ints
            obtain ⟨A8, z8, hv8⟩ := HI3.out.slice
            obtain ⟨nu, hnu⟩ : ∃ x, U.length = x := ⟨_, rfl⟩
            rw [hnu] at hv8
            subst hv8
            have HNU := Lib.hid (show U.length ≤ nu ∧ nu ≤ U.length by omega)
            have n6 : (nu : Int) ≤ 6 := by have := HUL.out; omega
            have HBX3 := Lib.hid ((hb3.block _ (Array.getElem?_eq_some_iff.1 HBX2.out).1).trans HBX2.out)
            have HFX3 := Lib.hid ((hb3.block _ (Array.getElem?_eq_some_iff.1 HFX2.out).1).trans HFX2.out)
            have HBB3 := Lib.hid (bthen HBB2.out hb3)
            clear ho hb3 hnu d0 d1 d2 d3 d4 d5 d6 d7 k0 k1 k2 k3 k4 k5
            go_wp2_with fail
            go_loopw [8] (fun iv wz => ∃ n : Nat, n ≤ nu ∧ iv = .int .i64 n ∧ Below w3.heap.size w3 wz) (fun iv _ => nu - (intOf iv).toNat)
            case atStart => exact ⟨0, Nat.zero_le _, rfl, Below.refl _ _⟩
            case round =>
              obtain ⟨n, hn, rfl, hbz⟩ := hrel
              have HBZ := Lib.hid hbz
              by_cases hln : n < nu
              · have hnm : n < U.length := by have := HNU.out; omega
                obtain ⟨b8, off8, hA8, e8⟩ := Ints.at_ (HI3.out.next hbz) hnm
                subst hA8
                obtain ⟨u0, u1⟩ := HAM.out n hnm
                obtain ⟨x, hx⟩ : ∃ x, U[n] = x := ⟨_, rfl⟩
                rw [hx] at e8 u0 u1
                have d0 := Lib.cell_of_heap ((hbz.block _ (Array.getElem?_eq_some_iff.1 HBX3.out).1).trans HBX3.out) 0
                simp only [List.getElem?_toArray, List.getElem?_cons_zero] at d0
                have t0 : decide (x < 0) = false := decide_eq_false (by omega)
                have ew : wrap64 (bp + (j : Int)) = bp + (j : Int) := by unfold wrap64; omega
                have t1 : decide (bp + (j : Int) ≤ x) = false := decide_eq_false (by omega)
                have q2 : (0 : Int) ≤ (n : Int) := Int.natCast_nonneg _
                have q3 : (n : Int) < (nu : Int) := by omega
                have HLN := Lib.hid hln
                clear hx hnm hln hbz
                go_upto_region 1 with fail
                go_quiet (fail)
                go_wp2_with fail
                go_roundw
                case rel => exact ⟨n + 1, HLN.out, by go_num, below_drewN HBZ.out _⟩
                case measure => have := HLN.out; simp [intOf]; omega
              · have hd : decide ((n : Int) < (nu : Int)) = false := by simp; omega
                have HBX4 := Lib.hid ((hbz.block _ (Array.getElem?_eq_some_iff.1 HBX3.out).1).trans HBX3.out)
                have HFX4 := Lib.hid ((hbz.block _ (Array.getElem?_eq_some_iff.1 HFX3.out).1).trans HFX3.out)
                have HBB4 := Lib.hid (bthen HBB3.out hbz)
                clear hbz
                go_wp2_with fail
                go_roundw
                case rel => exact ⟨j + 1, HLJ.out, by go_num, HBX4.out, HFX4.out, HBB4.out⟩
                case measure => have := HLJ.out; simp [intOf]; omega
          · have hd : decide ((j : Int) < (ni : Int)) = false := by simp; omega
            have HEN2 := Lib.hid HEN.out
            clear HEN
            go_upto_region 1 with fail
            have ew : wrap64 (bp + (ni : Int)) = bp + (ni : Int) := by unfold wrap64; omega
            have HVL := Lib.hid (fun (W : World) => values_any bp ek ea et ee A1' ni z1' (.slice A5 ll z5) (.slice A7 lm z7) W)
            rw [ew] at HVL
            rcases HEN2.out with ⟨rfl, -⟩ | ⟨rfl, ham, -⟩ | ⟨rfl, ham⟩
            · go_quiet (fail)
              go_wp2_with fail
              go_roundw
              case rel => exact ⟨i + 1, HLT.out, by go_num, HFX2.out, below_drewN HBB2.out _⟩
              case measure => have := HLT.out; simp [intOf]; omega
            · have hea := among_at ham 0 (by simp)
              simp only [List.getElem_cons_zero] at hea
              have t2 : decide (ea < 0) = false := decide_eq_false (by omega)
              have t3 : decide (bp + (ni : Int) ≤ ea) = false := decide_eq_false (by omega)
              clear ham hea
              have hd : wr.drew.cell? ⟨BX, 0, none⟩ = some (.int .i64 bp) ∧ wr.drew.cell? ⟨BX, 1, none⟩ = some (.slice A1' ni z1') ∧ wr.drew.cell? ⟨BX, 2, none⟩ = some (.int .i64 2) ∧ wr.drew.cell? ⟨BX, 3, none⟩ = some (.int .i64 ea) ∧ wr.drew.cell? ⟨BX, 4, none⟩ = some (.int .i64 et) ∧ wr.drew.cell? ⟨BX, 5, none⟩ = some (.slice A5 ll z5) ∧ wr.drew.cell? ⟨BX, 6, none⟩ = some (.int .i64 ee) ∧ wr.drew.cell? ⟨BX, 7, none⟩ = some (.slice A7 lm z7) ∧ Below wr.heap.size wr wr.drew := ⟨d0, d1, d2, d3, d4, d5, d6, d7, (Below.refl _ _).drew⟩
              go_region_held3 (fun W' => W'.cell? ⟨BX, 0, none⟩ = some (.int .i64 bp) ∧ W'.cell? ⟨BX, 1, none⟩ = some (.slice A1' ni z1') ∧ W'.cell? ⟨BX, 2, none⟩ = some (.int .i64 2) ∧ W'.cell? ⟨BX, 3, none⟩ = some (.int .i64 ea) ∧ W'.cell? ⟨BX, 4, none⟩ = some (.int .i64 et) ∧ W'.cell? ⟨BX, 5, none⟩ = some (.slice A5 ll z5) ∧ W'.cell? ⟨BX, 6, none⟩ = some (.int .i64 ee) ∧ W'.cell? ⟨BX, 7, none⟩ = some (.slice A7 lm z7) ∧ Below wr.heap.size wr W') (first | assumption | exact hd | exact eight_next (by assumption) (by assumption))
                (first
                  | (go_at_call 38; refine Calls.mono (HVL.out _) ?_; rintro r w3 ⟨rfl, hb3⟩))
              all_goals
                have hfin := eight_below (w := wr) (by assumption)
                have HFX5 := Lib.hid ((hfin.block _ (Array.getElem?_eq_some_iff.1 HFX2.out).1).trans HFX2.out)
                have HBB5 := Lib.hid (bthen HBB2.out hfin)
                go_wp2_with fail
                go_roundw
                case rel => exact ⟨i + 1, HLT.out, by go_num, HFX5.out, HBB5.out⟩
                case measure => have := HLT.out; simp [intOf]; omega
            · have hea := among_at ham 0 (by simp)
              simp only [List.getElem_cons_zero] at hea
              have t2 : decide (ea < 0) = false := decide_eq_false (by omega)
              have t3 : decide (bp + (ni : Int) ≤ ea) = false := decide_eq_false (by omega)
              clear ham hea
              have hd : wr.drew.cell? ⟨BX, 0, none⟩ = some (.int .i64 bp) ∧ wr.drew.cell? ⟨BX, 1, none⟩ = some (.slice A1' ni z1') ∧ wr.drew.cell? ⟨BX, 2, none⟩ = some (.int .i64 3) ∧ wr.drew.cell? ⟨BX, 3, none⟩ = some (.int .i64 ea) ∧ wr.drew.cell? ⟨BX, 4, none⟩ = some (.int .i64 et) ∧ wr.drew.cell? ⟨BX, 5, none⟩ = some (.slice A5 ll z5) ∧ wr.drew.cell? ⟨BX, 6, none⟩ = some (.int .i64 ee) ∧ wr.drew.cell? ⟨BX, 7, none⟩ = some (.slice A7 lm z7) ∧ Below wr.heap.size wr wr.drew := ⟨d0, d1, d2, d3, d4, d5, d6, d7, (Below.refl _ _).drew⟩
              go_region_held3 (fun W' => W'.cell? ⟨BX, 0, none⟩ = some (.int .i64 bp) ∧ W'.cell? ⟨BX, 1, none⟩ = some (.slice A1' ni z1') ∧ W'.cell? ⟨BX, 2, none⟩ = some (.int .i64 3) ∧ W'.cell? ⟨BX, 3, none⟩ = some (.int .i64 ea) ∧ W'.cell? ⟨BX, 4, none⟩ = some (.int .i64 et) ∧ W'.cell? ⟨BX, 5, none⟩ = some (.slice A5 ll z5) ∧ W'.cell? ⟨BX, 6, none⟩ = some (.int .i64 ee) ∧ W'.cell? ⟨BX, 7, none⟩ = some (.slice A7 lm z7) ∧ Below wr.heap.size wr W') (first | assumption | exact hd | exact eight_next (by assumption) (by assumption))
                (first
                  | (go_at_call 38; refine Calls.mono (HVL.out _) ?_; rintro r w3 ⟨rfl, hb3⟩))
              all_goals
                have hfin := eight_below (w := wr) (by assumption)
                have HFX5 := Lib.hid ((hfin.block _ (Array.getElem?_eq_some_iff.1 HFX2.out).1).trans HFX2.out)
                have HBB5 := Lib.hid (bthen HBB2.out hfin)
                go_wp2_with fail
                go_roundw
                case rel => exact ⟨i + 1, HLT.out, by go_num, HFX5.out, HBB5.out⟩
                case measure => have := HLT.out; simp [intOf]; omega
      · have hd : decide ((i : Int) < (nl : Int)) = false := by simp; omega
        go_wp2_with fail
        go_ret
        exact ⟨rfl, HB.out⟩
end Go.Proofs.Ytfhkikdohmbndaa
