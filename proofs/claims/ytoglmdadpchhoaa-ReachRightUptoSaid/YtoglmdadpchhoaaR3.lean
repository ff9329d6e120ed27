/- Package reach: rows of names: names, Roots, among, once. -/
import Derived.Test.YtoglmdadpchhoaaR2
namespace Go.Proofs.Ytoglmdadpchhoaa
open Go.RowKit Go.Shelf

theorem glob_name {w W : World} {b off : Nat} {x : Gl} (hb : b < w.heap.size) (h : Below w.heap.size w W) (hx : GlAt w b off x) : W.cell? ⟨b, off, none⟩ = some (.string x.s) ∧ W.cell? ⟨b, off + 1, none⟩ = some (.int .i64 x.b) ∧ W.cell? ⟨b, off + 2, none⟩ = some (.bool x.h) ∧ W.cell? ⟨b, off + 3, none⟩ = some (.int .u64 x.i) := GlAt.next _ _ _ _ _ hb h hx
set_option maxRecDepth 100000 in
set_option maxHeartbeats 4000000 in
theorem names_any' (m : Md) (F G : Option Addr) (nf cf ng cg : Nat) (w : World) (hnf : m.f.length = nf) (hng : m.g.length = ng) (hn : nf + ng ≤ 1048576) (hS : MdAt w (.slice F nf cf) (.slice G ng cg) m) :
    Calls Try.prog 61 #[.agg #[.slice F nf cf, .slice G ng cg]] w (MadeN (namesM m) w) := by
  have HS := Lib.hid hS.2
  have HFU := Lib.hid (fun (U : World) (hU : Below w.heap.size w U) => functions_any m F G nf cf ng cg U hnf (by omega) ⟨hS.1.next hU, hS.2.next hU⟩)
  have HNG := Lib.hid (show m.g.length ≤ ng ∧ ng ≤ m.g.length by omega)
  have HFL := Lib.hid (show (m.f.map (·.s)).length = nf by rw [List.length_map]; exact hnf)
  have HN9 := Lib.hid hn
  have n1 : (ng : Int) ≤ 1048576 := by omega
  have hcb := heap_alloc_new w (.cells #[.slice F nf cf, .slice G ng cg] 25)
  have HB0 := Lib.hid (balloc (Below.refl _ w) (.cells #[.slice F nf cf, .slice G ng cg] 25))
  have HBS := Lib.hid (show (w.alloc (.cells #[.slice F nf cf, .slice G ng cg] 25)).heap.size = w.heap.size + 1 by simp)
  obtain ⟨W0, hW0⟩ : ∃ U, w.alloc (.cells #[.slice F nf cf, .slice G ng cg] 25) = U := ⟨_, rfl⟩
  rw [hW0] at hcb HB0 HBS
  have HCB := Lib.hid hcb
  have c0 : W0.cell? ⟨w.heap.size, 0, none⟩ = some (.slice F nf cf) := Lib.cell_of_heap HCB.out 0
  have c1 : W0.cell? ⟨w.heap.size, 1, none⟩ = some (.slice G ng cg) := Lib.cell_of_heap HCB.out 1
  clear hS hnf hng hn hcb
  go_enter Try.func61, Try.ntmps61
  go_wp2_with fail
  refine (HFU.out W0 HB0.out).mono ?_
  rintro r w1 ⟨A1, z1, rfl, hb1, ho1⟩
  rw [HFL.out] at ho1 ⊢
  have HO1 := Lib.hid ho1
  have HB1 := Lib.hid hb1
  have c1 : w1.cell? ⟨w.heap.size, 1, none⟩ = some (.slice G ng cg) := (cellNext (by have := HBS.out; omega) hb1 _).trans c1
  clear ho1 hb1 c0 hW0
  go_wp2_with fail
  clear c1
  go_loopw [3, 11] (fun vv iv wr => ∃ i : Nat, i ≤ ng ∧ iv = .int .i64 i ∧ OwnsN wr W0.heap.size vv (m.f.map (·.s) ++ (m.g.take i).map (·.s)) ∧ Below W0.heap.size W0 wr) (fun _ iv _ => ng - (intOf iv).toNat)
  case atStart => exact ⟨0, Nat.zero_le _, rfl, by simpa using HO1.out, HB1.out⟩
  case round =>
    obtain ⟨i, hi, rfl, ho, hb⟩ := hrel
    have HO := Lib.hid ho
    have HB := Lib.hid hb
    obtain ⟨A0, z0, hv0⟩ := ho.form
    obtain ⟨L, hL⟩ : ∃ L, m.f.map (·.s) ++ (m.g.take i).map (·.s) = L := ⟨_, rfl⟩
    have HLQ := Lib.hid (show L.length = nf + i by rw [← hL, List.length_append, HFL.out, List.length_map, List.length_take]; have := HNG.out; omega)
    rw [hL] at HO hv0
    rw [HLQ.out] at hv0
    subst hv0
    have HLE := Lib.hid hL
    clear ho hb hL
    by_cases hlt : i < ng
    · have hm : i < m.g.length := by have := HNG.out; omega
      obtain ⟨b1, off, hA, hbl, e0⟩ := RowOf.at_ HS.out hm
      subst hA
      obtain ⟨c0, c1, c2, c3⟩ := GlAt.next _ _ _ _ _ hbl (bthen HB0.out HB.out) e0
      have HTK := Lib.hid (show m.f.map (·.s) ++ (m.g.take (i + 1)).map (·.s) = L ++ [m.g[i].s] by rw [take_map (fun f : Gl => f.s) hm, ← HLE.out, List.append_assoc])
      obtain ⟨⟨xs, xb, xh, xi⟩, hx⟩ : ∃ x, m.g[i] = x := ⟨_, rfl⟩
      rw [hx] at c0 c1 c2 c3 HTK
      dsimp only at c0 c1 c2 c3 HTK
      have q0 : (0 : Int) ≤ (i : Int) := Int.natCast_nonneg _
      have q1 : (i : Int) < (ng : Int) := by omega
      have HLT := Lib.hid hlt
      have HO2 := Lib.hid (HO.out.call (balloc (Below.refl _ wr) (.cells #[.string xs, .int .i64 xb, .bool xh, .int .u64 xi] 54)))
      have H16 := Lib.hid (show (nf + i + 1) * 16 ≤ 140737488355328 by have := HN9.out; omega)
      have HBW := Lib.hid (show W0.heap.size ≤ (wr.alloc (.cells #[.string xs, .int .i64 xb, .bool xh, .int .u64 xi] 54)).heap.size by have := HB.out.size; simp; omega)
      have HBA := Lib.hid ((balloc (Below.refl _ wr) (.cells #[.string xs, .int .i64 xb, .bool xh, .int .u64 xi] 54)).mono HB.out.size)
      clear e0 hbl hx hm hlt
      go_wp2_with (at_builtin; go_loud (refine app_name rfl _ _ rfl _ (wr.alloc (.cells #[.string xs, .int .i64 xb, .bool xh, .int .u64 xi] 54)) xs rfl W0.heap.size A0 (nf + i) z0 L HLQ.out rfl (wr.heap.size + 1) (by simp) rfl HO2.out H16.out HBW.out ?_; intro A' z' w4 ho4 hb4))
      have HO4 := Lib.hid ho4
      have HB4 := Lib.hid (HB.out.trans (HBA.out.trans hb4))
      clear ho4 hb4
      go_wp2_with fail
      go_roundw
      case rel => exact ⟨i + 1, HLT.out, by go_num, by rw [HTK.out]; exact HO4.out, HB4.out⟩
      case measure => have := HLT.out; simp [intOf]; omega
    · have hd : decide ((i : Int) < (ng : Int)) = false := by simp; omega
      have HF := Lib.hid (show namesM m = L ∧ L.length = nf + i by
        refine ⟨?_, HLQ.out⟩
        unfold namesM
        rw [← HLE.out, List.take_of_length_le (by have := HNG.out; omega)])
      go_wp2_with fail
      go_ret
      rw [HF.out.1]
      refine ⟨A0, z0, by rw [HF.out.2]; rfl, HB0.out.trans (HB.out.mono (by have := HBS.out; omega)), ?_⟩
      rw [HF.out.2]
      exact HO.out.thin (by have := HBS.out; omega)
set_option maxRecDepth 100000 in
set_option maxHeartbeats 4000000 in
theorem among_names (L : List ByteArray) (A : Option Addr) (n c : Nat) (w : World) (hn : L.length = n) (h9 : n ≤ 9223372036854775807) (hk : ∀ s ∈ L, s.size < 9223372036854775808) (hS : Strs w (.slice A n c) L) :
    Calls Try.prog 38 #[.slice A n c] w fun e w' => ∃ b, e = .returned (.map (some b)) ∧ Below w.heap.size w w' ∧ w.heap.size ≤ b ∧ b < w'.heap.size ∧ SetAt w' b n L := by
  have HS := Lib.hid hS
  have HN := Lib.hid (show L.length ≤ n ∧ n ≤ L.length by omega)
  have HKY := Lib.hid hk
  have n1 : (n : Int) ≤ 9223372036854775807 := by omega
  have hmm := @run_makeMap Try.prog
  clear hS hn hk h9
  go_enter Try.func38, Try.ntmps38
  go_wp2_with fail
  clear hmm
  have HOM := Lib.hid (World.ownsMap_made (H := Unit) w Try.prog 9 unitElem)
  have HBW := Lib.hid (balloc (Below.refl _ w) (.map #[] 0))
  generalize w.alloc (.map #[] 0) = W0 at *
  go_loopw [9] (fun iv wr => ∃ i : Nat, i ≤ n ∧ iv = .int .i64 i ∧ SetAt wr w.heap.size i (L.take i) ∧ Below w.heap.size w wr) (fun iv _ => n - (intOf iv).toNat)
  case atStart => exact ⟨0, Nat.zero_le _, rfl, HOM.out, HBW.out⟩
  case round =>
    obtain ⟨i, hi, rfl, hm, hb⟩ := hrel
    have HM := Lib.hid (show wr.ownsMap Try.prog 9 unitElem w.heap.size i (setD (L.take i)) from hm)
    have HB := Lib.hid hb
    clear hm HOM HBW
    by_cases hlt : i < n
    · have hml : i < L.length := by have := HN.out; omega
      obtain ⟨b1, off, hA, hbl, e0⟩ := RowOf.at_ (HS.out.next hb) hml
      subst hA
      simp only [Nat.mul_one] at e0
      have HK1 := Lib.hid (skey_of (HKY.out _ (List.getElem_mem hml)))
      have HTK := Lib.hid (show setD (L.take (i + 1)) = (setD (L.take i)).put (slit L[i]) (.agg []) by rw [List.take_succ_eq_append_getElem hml, setD_snoc])
      obtain ⟨x, hx⟩ : ∃ x, L[i] = x := ⟨_, rfl⟩
      rw [hx] at e0 HK1 HTK
      have q0 : (0 : Int) ≤ (i : Int) := Int.natCast_nonneg _
      have q1 : (i : Int) < (n : Int) := by omega
      have HLT := Lib.hid hlt
      have HML := Lib.hid (show i < maxLen by unfold maxLen; omega)
      clear hx hml hlt hbl hb
      go_wp2_with (at_mapUpdate; refine wpList_mapUpdate_own _ rfl _ _ _ 83 rfl 9 87 skeyed Try.underlying83 _ w.heap.size i _ rfl HM.out HML.out _ _ _ rfl rfl HK1.out _ [] unitElem_mk ?_; intro w3 hm3 hg3)
      have HM3 := Lib.hid (show SetAt w3 w.heap.size (i + 1) (L.take (i + 1)) by unfold SetAt; rw [HTK.out]; exact hm3)
      have HB3 := Lib.hid (below_turned HB.out hg3 (Nat.le_refl _) HB.out.size)
      clear hm3 hg3
      go_roundw
      case rel => exact ⟨i + 1, HLT.out, by go_num, HM3.out, HB3.out⟩
      case measure => have := HLT.out; simp [intOf]; omega
    · have hd : decide ((i : Int) < (n : Int)) = false := by simp; omega
      have HF := Lib.hid (show SetAt wr w.heap.size n L by
        have h := HM.out
        have hin : i = n := by omega
        rw [List.take_of_length_le (by have := HN.out; omega), hin] at h
        exact h)
      go_wp2_with fail
      go_ret
      exact ⟨_, rfl, HB.out, Nat.le_refl _, HF.out.lt, HF.out⟩
set_option maxRecDepth 100000 in
set_option maxHeartbeats 8000000 in
theorem once_any (L : List ByteArray) (A : Option Addr) (n c : Nat) (w : World) (hn : L.length = n) (h9 : n ≤ 1048576) (hk : ∀ s ∈ L, s.size < 9223372036854775808) (hS : Strs w (.slice A n c) L) :
    Calls Try.prog 60 #[.slice A n c] w (MadeN (onceE L) w) := by
  have HS := Lib.hid hS
  have HN := Lib.hid (show L.length ≤ n ∧ n ≤ L.length by omega)
  have HKY := Lib.hid hk
  have HN9 := Lib.hid h9
  have n1 : (n : Int) ≤ 1048576 := by omega
  have hmm := @run_makeMap Try.prog
  clear hS hn hk h9
  go_enter Try.func60, Try.ntmps60
  go_wp2_with fail
  clear hmm
  have HOM := Lib.hid (World.ownsMap_made (H := Unit) w Try.prog 9 unitElem)
  have HBW := Lib.hid (balloc (Below.refl _ w) (.map #[] 0))
  have HWZ := Lib.hid (show (w.alloc (.map #[] 0)).heap.size = w.heap.size + 1 by simp)
  generalize w.alloc (.map #[] 0) = W0 at *
  go_loopw [3, 12] (fun vv iv wr => ∃ i : Nat, i ≤ n ∧ iv = .int .i64 i ∧ OwnsN wr (w.heap.size + 1) vv (onceE (L.take i)) ∧ SetAt wr w.heap.size i (onceE (L.take i)) ∧ Below w.heap.size w wr ∧ w.heap.size + 1 ≤ wr.heap.size) (fun _ iv _ => n - (intOf iv).toNat)
  case atStart => exact ⟨0, Nat.zero_le _, rfl, OwnsN.nil _ _, HOM.out, HBW.out, by rw [HWZ.out]; exact Nat.le_refl _⟩
  case round =>
    obtain ⟨i, hi, rfl, ho, hm, hb, hz⟩ := hrel
    have HM := Lib.hid hm
    have HO := Lib.hid ho
    have HB := Lib.hid hb
    have HZ := Lib.hid hz
    obtain ⟨A0, z0, hv0⟩ := ho.form
    have HLE := Lib.hid (show (onceE (L.take i)).length ≤ i from Nat.le_trans (onceE_length _) (by rw [List.length_take]; omega))
    obtain ⟨P, hP⟩ : ∃ P, onceE (L.take i) = P := ⟨_, rfl⟩
    obtain ⟨nL, hnL⟩ : ∃ q, P.length = q := ⟨_, rfl⟩
    have HLQ := Lib.hid hnL
    rw [hP] at HO HM HLE hv0
    rw [hnL] at HLE hv0
    subst hv0
    have HPE := Lib.hid hP
    clear hm ho hz HOM HBW HWZ hnL hP
    by_cases hlt : i < n
    · have hml : i < L.length := by have := HN.out; omega
      obtain ⟨b1, off, hA, hbl, e0⟩ := RowOf.at_ (HS.out.next hb) hml
      subst hA
      simp only [Nat.mul_one] at e0
      have HK1 := Lib.hid (skey_of (HKY.out _ (List.getElem_mem hml)))
      have hhas := set_has P L[i]
      have HTK := Lib.hid (onceE_take hml)
      rw [HPE.out] at HTK
      obtain ⟨x, hx⟩ : ∃ x, L[i] = x := ⟨_, rfl⟩
      rw [hx] at e0 HK1 HTK hhas
      have q0 : (0 : Int) ≤ (i : Int) := Int.natCast_nonneg _
      have q1 : (i : Int) < (n : Int) := by omega
      have HLT := Lib.hid hlt
      have HML := Lib.hid (show i < maxLen by unfold maxLen; omega)
      clear hx hml hlt hbl hb
      by_cases hin : x ∈ P
      · rw [decide_eq_true hin] at hhas
        have HTK2 := Lib.hid (show onceE (L.take (i + 1)) = P by rw [HTK.out, if_pos hin])
        clear hin
        go_wp2_with (at_lookup; refine wpList_lookup_own_unit _ rfl _ _ 82 rfl 9 87 skeyed Try.underlying82 (Try.zeroValue87 _) w.heap.size i _ rfl HM.out _ _ rfl HK1.out ?_)
        go_roundw
        case rel => exact ⟨i + 1, HLT.out, by go_num, by rw [HTK2.out]; exact HO.out.call (balloc (Below.refl _ wr) _), by rw [HTK2.out]; exact World.ownsMap.mono (World.ownsMap.alloc HM.out _) (Nat.le_succ _), balloc HB.out _, by have := HZ.out; simp; omega⟩
        case measure => have := HLT.out; simp [intOf]; omega
      · rw [decide_eq_false hin] at hhas
        have HTK2 := Lib.hid (show onceE (L.take (i + 1)) = P ++ [x] by rw [HTK.out, if_neg hin])
        have HM1 := Lib.hid (show (wr.alloc (.cells #[] 87)).ownsMap Try.prog 9 unitElem w.heap.size i (setD P) from World.ownsMap.alloc HM.out _)
        have HB1 := Lib.hid (balloc HB.out (.cells #[] 87))
        have HO1 := Lib.hid (HO.out.call (balloc (Below.refl _ wr) (.cells #[] 87)))
        have HZ1 := Lib.hid (show w.heap.size + 1 ≤ (wr.alloc (.cells #[] 87)).heap.size by have := HZ.out; simp; omega)
        have H16 := Lib.hid (show (nL + 1) * 16 ≤ 140737488355328 by have := HN9.out; have := HLE.out; omega)
        have HO3F := Lib.hid (fun (w3 : World) (hg3 : (wr.alloc (.cells #[] 87)).grownBy w3 (some w.heap.size)) => (show OwnsN w3 (w.heap.size + 1) (.slice A0 nL z0) P from ownsN_kept HO1.out hg3 (by
          by_cases h : (Value.slice A0 nL z0).ownBlock = none
          · exact .inl h
          · refine .inr fun e => ?_
            have h2 := (HO1.out.block _ e).1
            omega)))
        clear hin
        go_wp2_with (first
          | (at_lookup; refine wpList_lookup_own_unit _ rfl _ _ 82 rfl 9 87 skeyed Try.underlying82 (Try.zeroValue87 _) w.heap.size i _ rfl HM.out _ _ rfl HK1.out ?_)
          | (at_mapUpdate; refine wpList_mapUpdate_own _ rfl _ _ _ 82 rfl 9 87 skeyed Try.underlying82 _ w.heap.size i _ rfl HM1.out HML.out _ _ _ rfl rfl HK1.out _ [] unitElem_mk ?_; intro w3 hm3 hg3; have HM3 := Lib.hid (show SetAt w3 w.heap.size (i + 1) (P ++ [x]) by unfold SetAt; rw [setD_snoc]; exact hm3); have HB3 := Lib.hid (below_turned HB1.out hg3 (Nat.le_refl _) HB1.out.size); have HO3 := Lib.hid (HO3F.out w3 hg3); have HZ3 := Lib.hid (Nat.le_trans HZ1.out hg3.size); clear hm3 hg3)
          | (at_builtin; go_loud (refine app_name rfl _ _ rfl _ w3 x rfl (w.heap.size + 1) A0 nL z0 P HLQ.out rfl w3.heap.size rfl rfl HO3.out H16.out HZ3.out ?_; intro A' z' w4 ho4 hb4)))
        have HO4 := Lib.hid (show OwnsN w4 (w.heap.size + 1) (.slice A' (nL + 1) z') (onceE (L.take (i + 1))) by rw [HTK2.out]; exact ho4)
        have HM4 := Lib.hid (show SetAt w4 w.heap.size (i + 1) (onceE (L.take (i + 1))) by rw [HTK2.out]; exact HM3.out.same (hb4.block _ (Nat.lt_succ_self _)))
        have HB4 := Lib.hid (show Below w.heap.size w w4 from HB3.out.trans (hb4.mono (Nat.le_succ _)))
        have HZ4 := Lib.hid (Nat.le_trans HZ3.out hb4.size)
        clear ho4 hb4
        go_wp2_with fail
        go_roundw
        case rel => exact ⟨i + 1, HLT.out, by go_num, HO4.out, HM4.out, HB4.out, HZ4.out⟩
        case measure => have := HLT.out; simp [intOf]; omega
    · have hd : decide ((i : Int) < (n : Int)) = false := by simp; omega
      have HF := Lib.hid (show onceE L = P ∧ P.length = nL by rw [← HPE.out, List.take_of_length_le (by have := HN.out; omega)]; exact ⟨rfl, by rw [← HLQ.out, ← HPE.out, List.take_of_length_le (by have := HN.out; omega)]⟩)
      go_wp2_with fail
      go_ret
      rw [HF.out.1]
      refine ⟨A0, z0, by rw [HF.out.2]; rfl, HB.out, ?_⟩
      rw [HF.out.2]
      exact HO.out.thin (Nat.le_succ _)
end Go.Proofs.Ytoglmdadpchhoaa
