/- The reference of package pick: does a module define a name that some want, and none defines? -/
import Derived.Test.YtcfniagmnkngfaaRB
namespace Go.Proofs.Ytcfniagmnkngfaa
open Go.RowKit

theorem op_next {w W W' : World} {B o B2 o2 : Nat} {c0 c1 c2 : Value} (hb : Below W.heap.size W W') (h : W.cell? ⟨B, o, none⟩ = some c0 ∧ W.cell? ⟨B2, o2, none⟩ = some c1 ∧ W.cell? ⟨B2, o2 + 1, none⟩ = some c2 ∧ Below w.heap.size w W) :
    W'.cell? ⟨B, o, none⟩ = some c0 ∧ W'.cell? ⟨B2, o2, none⟩ = some c1 ∧ W'.cell? ⟨B2, o2 + 1, none⟩ = some c2 ∧ Below w.heap.size w W' := by
  obtain ⟨h0, h1, h2, h5⟩ := h
  have hB := World.block_lt_of_cell? W _ h0
  have hB2 := World.block_lt_of_cell? W _ h1
  exact ⟨(cellNext hB hb _).trans h0, (cellNext hB2 hb _).trans h1, (cellNext hB2 hb _).trans h2, bthen h5 hb⟩
theorem op_below {w W : World} {B o B2 o2 : Nat} {c0 c1 c2 : Value} (h : W.cell? ⟨B, o, none⟩ = some c0 ∧ W.cell? ⟨B2, o2, none⟩ = some c1 ∧ W.cell? ⟨B2, o2 + 1, none⟩ = some c2 ∧ Below w.heap.size w W) : Below w.heap.size w W := h.2.2.2
theorem refHas_below (xs : List ByteArray) (s : ByteArray) (A : Option Addr) (n c : Nat) (w : World) (hn : xs.length = n) (h9 : n ≤ 9223372036854775807) (hS : Strs w (.slice A n c) xs) :
    Calls Try.prog 36 #[.slice A n c, .string s] w fun e w' => e = .returned (.bool (inB xs s)) ∧ Below w.heap.size w w' :=
  (refHas_any xs s A n c w hn h9 hS).mono (fun _ _ h => ⟨h.1, h.2 ▸ Below.refl _ _⟩)
set_option maxRecDepth 100000 in
set_option maxHeartbeats 8000000 in
theorem refOpen_any (l : List Md) (m : Md) (A F G : Option Addr) (n c nf cf ng cg : Nat) (w : World) (hn : l.length = n) (h9 : n ≤ 9223372036854775807) (hok : ∀ m ∈ l, MdS m) (hm16 : MdS m) (hnf : m.f.length = nf) (hng : m.g.length = ng) (hS : Mods w (.slice A n c) l) (hM : MdAt w (.slice F nf cf) (.slice G ng cg) m) :
    Calls Try.prog 35 #[.slice A n c, .agg #[.slice F nf cf, .slice G ng cg]] w fun e w' => e = .returned (.bool (openB l m)) ∧ Below w.heap.size w w' := by
  have HN := Lib.hid (show l.length ≤ n ∧ n ≤ l.length by omega)
  have HS := Lib.hid hS
  have HOK := Lib.hid hok
  have n1 : (n : Int) ≤ 9223372036854775807 := by omega
  have hm16' : (nf + ng) * 16 ≤ 140737488355000 := by unfold MdS at hm16; rw [hnf, hng] at hm16; exact hm16
  have HD := Lib.hid (fun (W : World) (hb : Below w.heap.size w W) => refDefines_any m F G nf cf ng cg W hnf hng hm16' (hM.next hb))
  have HF := Lib.hid (fun (s : ByteArray) (W : World) (hb : Below w.heap.size w W) => refDefined_any l s A n c W hn h9 hok (hS.next hb))
  have HDL := Lib.hid (show (selM defP m).length ≤ 9223372036854775807 from by have := selM_len defP m; omega)
  obtain ⟨V, hV⟩ : ∃ V, openB l m = V := ⟨_, rfl⟩
  have HE := Lib.hid (show ((selM defP m).any fun s => !defB l s && wantB l s) = V from hV)
  rw [hV]
  generalize selM defP m = ds at HD HDL HE
  clear hS hn h9 hok hm16 hm16' hnf hng hM hV
  go_enter Try.func35, Try.ntmps35
  go_upto_region 1 with fail
  have HIN := Lib.hid (heap_alloc_new w (.cells #[.slice F nf cf, .slice G ng cg] 25))
  have HBW := Lib.hid (balloc (Below.refl _ w) (.cells #[.slice F nf cf, .slice G ng cg] 25))
  generalize w.alloc (.cells #[.slice F nf cf, .slice G ng cg] 25) = W0 at *
  have c0 := Lib.cell_of_heap HIN.out 0
  have c1 := Lib.cell_of_heap HIN.out 1
  simp only [List.getElem?_toArray, List.getElem?_cons_zero, List.getElem?_cons_succ] at c0 c1
  have HD1 := Lib.hid (HD.out _ HBW.out)
  clear HD
  go_wp2_with fail
  refine HD1.out.mono ?_
  rintro r w1 ⟨v1, rfl, hst, hb1⟩
  obtain ⟨A1, z1, rfl⟩ := RowOf.slice hst
  have HB1 := Lib.hid (bthen HBW.out hb1)
  clear c0 c1 hb1 HD1 HIN HBW
  obtain ⟨nd, hnd⟩ : ∃ q, ds.length = q := ⟨_, rfl⟩
  rw [hnd] at hst HDL ⊢
  have HST := Lib.hid hst
  have HDN := Lib.hid (show ds.length ≤ nd ∧ nd ≤ ds.length by omega)
  have d1 : (nd : Int) ≤ 9223372036854775807 := by have := HDL.out; omega
  clear hst hnd
  go_wp2_with fail
  go_loopw [6] (fun iv wr => ∃ i : Nat, i ≤ nd ∧ iv = .int .i64 i ∧ ((ds.take i).any fun s => !defB l s && wantB l s) = false ∧ Below w1.heap.size w1 wr) (fun iv _ => nd - (intOf iv).toNat)
  case atStart => exact ⟨0, Nat.zero_le _, rfl, rfl, Below.refl _ _⟩
  case round =>
    obtain ⟨i, hi, rfl, hs, hb⟩ := hrel
    have HT := Lib.hid hs
    have HB := Lib.hid hb
    clear hs
    by_cases hlt : i < nd
    · have hm : i < ds.length := by have := HDN.out; omega
      obtain ⟨b1, off, hA, hbl, e0⟩ := RowOf.at_ (HST.out.next hb) hm
      subst hA
      simp only [Nat.mul_one] at e0
      have HY := Lib.hid (show (!defB l ds[i] && wantB l ds[i]) = true → V = true from fun h => by rw [← HE.out]; exact List.any_eq_true.2 ⟨_, List.getElem_mem hm, h⟩)
      have HNX := Lib.hid (show (!defB l ds[i] && wantB l ds[i]) = false → ((ds.take (i + 1)).any fun s => !defB l s && wantB l s) = false from fun h => by
        rw [List.take_succ_eq_append_getElem hm, List.any_append, HT.out]
        simp only [List.any_cons, List.any_nil, Bool.or_false, Bool.false_or]
        exact h)
      obtain ⟨s, hx⟩ : ∃ x, ds[i] = x := ⟨_, rfl⟩
      rw [hx] at e0 HY HNX
      have HC0 := Lib.hid (fun (U : World) (hU : Below wr.heap.size wr U) => (cellNext hbl hU _).trans e0)
      have HFD := Lib.hid (HF.out s wr (bthen HB1.out hb))
      have hk0 : (0 : Int) ≤ (i : Int) := Int.natCast_nonneg _
      have hk1 : (i : Int) < (nd : Int) := by omega
      have HLT := Lib.hid hlt
      clear hx hm hlt hbl hb
      go_wp2_with fail
      refine HFD.out.mono ?_
      rintro r w2 ⟨rfl, hb2⟩
      have HB2 := Lib.hid (bthen HB.out hb2)
      have HC1 := Lib.hid (fun (U : World) (hU : Below w2.heap.size w2 U) => HC0.out U (bthen hb2 hU))
      clear e0 hb2 HFD HC0
      cases hq : defB l s with
      | true =>
        have HV := Lib.hid (HNX.out (by rw [hq]; rfl))
        clear hq
        go_wp2_with fail
        go_roundw
        case rel => exact ⟨i + 1, HLT.out, by go_num, HV.out, HB2.out⟩
        case measure => have := HLT.out; simp [intOf]; omega
      | false =>
        rw [hq] at HY HNX
        clear hq
        have HY2 := Lib.hid (show wantB l s = true → V = true from fun h => HY.out (by rw [h]; rfl))
        have HN2 := Lib.hid (show wantB l s = false → ((ds.take (i + 1)).any fun s => !defB l s && wantB l s) = false from fun h => HNX.out (by rw [h]; rfl))
        clear HY HNX
        go_wp2_with fail
        go_loopw [8] (fun kv wi => ∃ k : Nat, k ≤ n ∧ kv = .int .i64 k ∧ wantB (l.take k) s = false ∧ Below w2.heap.size w2 wi) (fun kv _ => n - (intOf kv).toNat)
        case atStart => exact ⟨0, Nat.zero_le _, rfl, rfl, Below.refl _ _⟩
        case round =>
          obtain ⟨k, hk, rfl, hs, hb⟩ := hrel
          have HT2 := Lib.hid hs
          have HB3 := Lib.hid hb
          have HB4 := Lib.hid (bthen HB2.out hb)
          clear hs
          by_cases hlk : k < n
          · have hkm : k < l.length := by have := HN.out; omega
            obtain ⟨b2, off2, hA2, hbl2, F2, cf2, G2, cg2, p0, p1, hmd⟩ := RowOf.at_ (HS.out.next (bthen HB1.out HB4.out)) hkm
            subst hA2
            have hs16 : (l[k].f.length + l[k].g.length) * 16 ≤ 140737488355000 := by have h := HOK.out _ (List.getElem_mem hkm); unfold MdS at h; exact h
            have HYK := Lib.hid (show inB (selM wantP l[k]) s = true → V = true from fun h => HY2.out (List.any_eq_true.2 ⟨_, List.getElem_mem hkm, h⟩))
            have HNK := Lib.hid (show inB (selM wantP l[k]) s = false → wantB (l.take (k + 1)) s = false from fun h => by
              have := HT2.out
              unfold wantB at this ⊢
              rw [List.take_succ_eq_append_getElem hkm, List.any_append, this]
              simp [h])
            have e0 := HC1.out _ hb
            have HC := Lib.hid (fun (U : World) (hU : Below wr.heap.size wr U) => refWants_any l[k] F2 G2 l[k].f.length cf2 l[k].g.length cg2 U rfl rfl hs16 (hmd.next hU))
            have HXL := Lib.hid (show (selM wantP l[k]).length ≤ 9223372036854775807 from by
              have h1 := selM_len wantP l[k]
              omega)
            generalize selM wantP l[k] = X at *
            obtain ⟨nf2, hnf2⟩ : ∃ q, l[k].f.length = q := ⟨_, rfl⟩
            obtain ⟨ng2, hng2⟩ : ∃ q, l[k].g.length = q := ⟨_, rfl⟩
            rw [hnf2, hng2] at HC
            rw [hnf2] at p0
            rw [hng2] at p1
            have q0 : (0 : Int) ≤ (k : Int) := Int.natCast_nonneg _
            have q1 : (k : Int) < (n : Int) := by omega
            have HLK := Lib.hid hlk
            clear hnf2 hng2 hmd hkm hlk hb hbl2 hs16
            go_upto_region 10 with fail
            have hd : wr.drew.cell? ⟨b1, off + i, none⟩ = some (.string s) ∧ wr.drew.cell? ⟨b2, off2 + k * 2, none⟩ = some (.slice F2 nf2 cf2) ∧ wr.drew.cell? ⟨b2, off2 + k * 2 + 1, none⟩ = some (.slice G2 ng2 cg2) ∧ Below wr.heap.size wr wr.drew := ⟨e0, p0, p1, (Below.refl _ _).drew⟩
            go_region_held3 (fun W' => W'.cell? ⟨b1, off + i, none⟩ = some (.string s) ∧ W'.cell? ⟨b2, off2 + k * 2, none⟩ = some (.slice F2 nf2 cf2) ∧ W'.cell? ⟨b2, off2 + k * 2 + 1, none⟩ = some (.slice G2 ng2 cg2) ∧ Below wr.heap.size wr W') (first | assumption | exact hd | exact op_next (by assumption) (by assumption))
              (first
                | (go_at_call 31; refine Calls.mono (HC.out _ (op_below (by assumption))) ?_; rintro r wa ⟨va, rfl, hoa, hba⟩; have HIa := Lib.hid hoa; obtain ⟨Aa, za, hva⟩ := RowOf.slice HIa.out; subst hva; clear hoa)
                | (go_at_call 36; refine Calls.mono (refHas_below X s Aa X.length za _ rfl HXL.out (by first | exact HIa.out | exact Strs.next HIa.out (Below.refl _ _).drew)) ?_; rintro r wc ⟨rfl, hbc⟩))
            all_goals
              have hfin := op_below (w := wr) (by assumption)
              have HB5 := Lib.hid (bthen HB3.out hfin)
              have HB6 := Lib.hid (bthen HB4.out hfin)
              clear hfin hd hbc hba HC HIa
              cases hq : inB X s with
              | true =>
                have HV := Lib.hid (HYK.out hq)
                have HB7 := Lib.hid (bthen HB1.out HB6.out)
                clear hq
                go_wp2_with fail
                go_ret
                exact ⟨by rw [HV.out]; rfl, HB7.out⟩
              | false =>
                have HV := Lib.hid (HNK.out hq)
                clear hq
                go_wp2_with fail
                go_roundw
                case rel => exact ⟨k + 1, HLK.out, by go_num, HV.out, HB5.out⟩
                case measure => have := HLK.out; simp [intOf]; omega
          · have hd : decide ((k : Int) < (n : Int)) = false := by simp; omega
            have HV := Lib.hid (HN2.out (by
              have h := HT2.out
              rwa [List.take_of_length_le (by have := HN.out; omega)] at h))
            go_wp2_with fail
            go_roundw
            case rel => exact ⟨i + 1, HLT.out, by go_num, HV.out, HB4.out⟩
            case measure => have := HLT.out; simp [intOf]; omega
    · have hd : decide ((i : Int) < (nd : Int)) = false := by simp; omega
      have HV := Lib.hid (show V = false by
        have h := HT.out
        rw [List.take_of_length_le (by have := HDN.out; omega)] at h
        rw [← HE.out, h])
      have HB7 := Lib.hid (bthen HB1.out HB.out)
      go_wp2_with fail
      go_ret
      exact ⟨by rw [HV.out]; rfl, HB7.out⟩
end Go.Proofs.Ytcfniagmnkngfaa
