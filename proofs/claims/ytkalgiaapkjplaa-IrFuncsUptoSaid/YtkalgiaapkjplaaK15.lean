/- The reference's FindFunc and FindGlob; what follows from a module's being right: pure. -/
import Derived.Test.YtkalgiaapkjplaaK14
import Derived.Test.YtkalgiaapkjplaaQ
import Derived.Test.YtkalgiaapkjplaaK10
namespace Go.Proofs.Ytkalgiaapkjplaa
open Go.RowKit

def fIdx (l : List ByteArray) (s : ByteArray) : Option Nat := l.findIdx? (fun x => x == s)
def idxE : Option Nat → Int
  | some i => i
  | none => -1
theorem fIdx_some {l : List ByteArray} {s : ByteArray} {i : Nat} (hi : i < l.length) (h : (l[i] == s) = true) (hb : ∀ j (hj : j < i), (l[j]'(by omega) == s) = false) : fIdx l s = some i :=
  List.findIdx?_eq_some_iff_getElem.2 ⟨hi, h, fun j hj => by simp [hb j hj]⟩
theorem fIdx_none {l : List ByteArray} {s : ByteArray} (h : ∀ j (hj : j < l.length), (l[j] == s) = false) : fIdx l s = none :=
  List.findIdx?_eq_none_iff.2 fun x hx => by
    obtain ⟨j, hj, rfl⟩ := List.getElem_of_mem hx
    exact h j hj
theorem fIdx_mem {l : List ByteArray} {s : ByteArray} (h : s ∈ l) : ∃ i, fIdx l s = some i := by
  cases e : fIdx l s with
  | some i => exact ⟨i, rfl⟩
  | none =>
    have := List.findIdx?_eq_none_iff.1 e s h
    rw [jba_refl] at this
    cases this
set_option maxRecDepth 100000 in
set_option maxHeartbeats 2000000 in
theorem findFunc_any (m : Md) (F G : Option Addr) (nf cf ng cg : Nat) (s : ByteArray) (w : World) (hok : MdOk m) (hnf : m.f.length = nf) (hS : MdAt w (.slice F nf cf) (.slice G ng cg) m) :
    Calls Try.prog 57 #[.agg #[.slice F nf cf, .slice G ng cg], .string s] w fun e w' => e = .returned (.int .i64 (idxE (fIdx (m.f.map (·.s)) s))) ∧ Below w.heap.size w w' := by
  have HS := Lib.hid hS
  have HNF := Lib.hid (show m.f.length ≤ nf ∧ nf ≤ m.f.length by omega)
  have f9 : (nf : Int) ≤ 9223372036854775807 := by have := hok.2.2.1; omega
  clear hS hok hnf
  go_enter Try.func57, Try.ntmps57
  go_wp2_with fail
  have HIN := Lib.hid (heap_alloc_new w (.cells #[.slice F nf cf, .slice G ng cg] 33))
  have HBW := Lib.hid (balloc (Below.refl _ w) (.cells #[.slice F nf cf, .slice G ng cg] 33))
  generalize w.alloc (.cells #[.slice F nf cf, .slice G ng cg] 33) = W0 at *
  have c0 := Lib.cell_of_heap HIN.out 0
  simp only [List.getElem?_toArray, List.getElem?_cons_zero] at c0
  go_loopw [5] (fun iv wr => ∃ i : Nat, i ≤ nf ∧ iv = .int .i64 i ∧ (∀ j (hj : j < m.f.length), j < i → (m.f[j].s == s) = false) ∧ W0 = wr) (fun iv _ => nf - (intOf iv).toNat)
  case atStart => exact ⟨0, Nat.zero_le _, rfl, fun j _ h => by omega, rfl⟩
  case round =>
    obtain ⟨i, hi, rfl, hs, rfl⟩ := hrel
    have HT := Lib.hid hs
    clear hs
    by_cases hlt : i < nf
    · have hm : i < m.f.length := by have := HNF.out; omega
      obtain ⟨b, off, hA, hbl, e0⟩ := RowOf.at_ HS.out.1 hm
      subst hA
      obtain ⟨c4, -⟩ := FnAt.next _ _ _ _ _ hbl HBW.out e0
      have HMI := Lib.hid (show (m.f[i].s == s) = true → fIdx (m.f.map (·.s)) s = some i from fun h => fIdx_some (by simpa using hm) (by simpa using h) (fun j hj => by simpa using HT.out j (by omega) hj))
      have HNX := Lib.hid (show (m.f[i].s == s) = false → ∀ j (hj : j < m.f.length), j < i + 1 → (m.f[j].s == s) = false from fun h j hj hji => by
        by_cases e : j = i
        · subst e; exact h
        · exact HT.out j hj (by omega))
      obtain ⟨x, hx⟩ : ∃ x, m.f[i].s = x := ⟨_, rfl⟩
      rw [hx] at c4 HMI HNX
      have hk0 : (0 : Int) ≤ (i : Int) := Int.natCast_nonneg _
      have hk1 : (i : Int) < (nf : Int) := by omega
      have HLT := Lib.hid hlt
      clear hx hm hlt e0
      cases hq : x == s with
      | true =>
        have h1 : (x.toList == s.toList) = true := by rw [← beq_toListBytes]; exact hq
        have HV := Lib.hid (HMI.out hq)
        clear hq
        go_wp2_with fail
        go_ret
        exact ⟨by rw [HV.out]; rfl, HBW.out⟩
      | false =>
        have h1 : (x.toList == s.toList) = false := by rw [← beq_toListBytes]; exact hq
        have HV := Lib.hid (HNX.out hq)
        clear hq
        go_wp2_with fail
        go_roundw
        case rel => exact ⟨i + 1, HLT.out, by go_num, HV.out, trivial⟩
        case measure => have := HLT.out; simp [intOf]; omega
    · have hd : decide ((i : Int) < (nf : Int)) = false := by simp; omega
      have HV := Lib.hid (show fIdx (m.f.map (·.s)) s = none from fIdx_none fun j hj => by
        have hj' : j < m.f.length := by simpa using hj
        simpa using HT.out j hj' (by have := HNF.out; omega))
      go_wp2_with fail
      go_ret
      exact ⟨by rw [HV.out]; rfl, HBW.out⟩
set_option maxRecDepth 100000 in
set_option maxHeartbeats 2000000 in
theorem findGlob_any (m : Md) (F G : Option Addr) (nf cf ng cg : Nat) (s : ByteArray) (w : World) (hok : MdOk m) (hng : m.g.length = ng) (hS : MdAt w (.slice F nf cf) (.slice G ng cg) m) :
    Calls Try.prog 58 #[.agg #[.slice F nf cf, .slice G ng cg], .string s] w fun e w' => e = .returned (.int .i64 (idxE (fIdx (m.g.map (·.s)) s))) ∧ Below w.heap.size w w' := by
  have HS := Lib.hid hS
  have HNF := Lib.hid (show m.g.length ≤ ng ∧ ng ≤ m.g.length by omega)
  have f9 : (ng : Int) ≤ 9223372036854775807 := by have := hok.2.2.2; omega
  clear hS hok hng
  go_enter Try.func58, Try.ntmps58
  go_wp2_with fail
  have HIN := Lib.hid (heap_alloc_new w (.cells #[.slice F nf cf, .slice G ng cg] 33))
  have HBW := Lib.hid (balloc (Below.refl _ w) (.cells #[.slice F nf cf, .slice G ng cg] 33))
  generalize w.alloc (.cells #[.slice F nf cf, .slice G ng cg] 33) = W0 at *
  have c0 := Lib.cell_of_heap HIN.out 1
  simp only [List.getElem?_toArray, List.getElem?_cons_zero, List.getElem?_cons_succ] at c0
  go_loopw [5] (fun iv wr => ∃ i : Nat, i ≤ ng ∧ iv = .int .i64 i ∧ (∀ j (hj : j < m.g.length), j < i → (m.g[j].s == s) = false) ∧ W0 = wr) (fun iv _ => ng - (intOf iv).toNat)
  case atStart => exact ⟨0, Nat.zero_le _, rfl, fun j _ h => by omega, rfl⟩
  case round =>
    obtain ⟨i, hi, rfl, hs, rfl⟩ := hrel
    have HT := Lib.hid hs
    clear hs
    by_cases hlt : i < ng
    · have hm : i < m.g.length := by have := HNF.out; omega
      obtain ⟨b, off, hA, hbl, e0⟩ := RowOf.at_ HS.out.2 hm
      subst hA
      obtain ⟨c4, -⟩ := GlAt.next _ _ _ _ _ hbl HBW.out e0
      have HMI := Lib.hid (show (m.g[i].s == s) = true → fIdx (m.g.map (·.s)) s = some i from fun h => fIdx_some (by simpa using hm) (by simpa using h) (fun j hj => by simpa using HT.out j (by omega) hj))
      have HNX := Lib.hid (show (m.g[i].s == s) = false → ∀ j (hj : j < m.g.length), j < i + 1 → (m.g[j].s == s) = false from fun h j hj hji => by
        by_cases e : j = i
        · subst e; exact h
        · exact HT.out j hj (by omega))
      obtain ⟨x, hx⟩ : ∃ x, m.g[i].s = x := ⟨_, rfl⟩
      rw [hx] at c4 HMI HNX
      have hk0 : (0 : Int) ≤ (i : Int) := Int.natCast_nonneg _
      have hk1 : (i : Int) < (ng : Int) := by omega
      have HLT := Lib.hid hlt
      clear hx hm hlt e0
      cases hq : x == s with
      | true =>
        have h1 : (x.toList == s.toList) = true := by rw [← beq_toListBytes]; exact hq
        have HV := Lib.hid (HMI.out hq)
        clear hq
        go_wp2_with fail
        go_ret
        exact ⟨by rw [HV.out]; rfl, HBW.out⟩
      | false =>
        have h1 : (x.toList == s.toList) = false := by rw [← beq_toListBytes]; exact hq
        have HV := Lib.hid (HNX.out hq)
        clear hq
        go_wp2_with fail
        go_roundw
        case rel => exact ⟨i + 1, HLT.out, by go_num, HV.out, trivial⟩
        case measure => have := HLT.out; simp [intOf]; omega
    · have hd : decide ((i : Int) < (ng : Int)) = false := by simp; omega
      have HV := Lib.hid (show fIdx (m.g.map (·.s)) s = none from fIdx_none fun j hj => by
        have hj' : j < m.g.length := by simpa using hj
        simpa using HT.out j hj' (by have := HNF.out; omega))
      go_wp2_with fail
      go_ret
      exact ⟨by rw [HV.out]; rfl, HBW.out⟩
theorem check_parts {m : Md} (h : checkE m = 0) : m.f.length ≤ 16 ∧ m.g.length ≤ 16 ∧ aloneB m = true ∧ (namesM m).Nodup ∧ (insM m).any (noneI m) = false ∧ (insM m).any (oddI m) = false := by
  unfold checkE at h
  by_cases h1 : 16 < m.f.length ∨ 16 < m.g.length
  · rw [if_pos h1] at h; cases h
  rw [if_neg h1] at h
  cases h2 : aloneB m with
  | false => rw [if_pos h2] at h; cases h
  | true =>
    rw [if_neg (by simp [h2])] at h
    by_cases h3 : (namesM m).Nodup
    · rw [if_neg (fun n => n h3)] at h
      unfold foundE at h
      cases h4 : (insM m).any (noneI m) with
      | true => rw [if_pos h4] at h; cases h
      | false =>
        rw [if_neg (by simp [h4])] at h
        cases h5 : (insM m).any (oddI m) with
        | true => rw [if_pos h5] at h; cases h
        | false => exact ⟨by omega, by omega, rfl, h3, rfl, rfl⟩
    · rw [if_pos h3] at h; cases h
theorem check_of {m : Md} (h1 : m.f.length ≤ 16) (h2 : m.g.length ≤ 16) (h3 : aloneB m = true) (h4 : (namesM m).Nodup) (h5 : (insM m).any (noneI m) = false) (h6 : (insM m).any (oddI m) = false) : checkE m = 0 := by
  unfold checkE foundE
  rw [if_neg (by omega), if_neg (by simp [h3]), if_neg (fun n => n h4), if_neg (by simp [h5]), if_neg (by simp [h6])]
theorem refs_mem {f : Fn} {s : ByteArray} (h : s ∈ refsL f) : ∃ i ∈ insF f, hasB i.o = true ∧ i.s = s := by
  unfold refsL at h
  obtain ⟨l, hl, hs⟩ := List.mem_flatten.1 h
  obtain ⟨b, hb, rfl⟩ := List.mem_map.1 hl
  unfold insNames at hs
  obtain ⟨i, hi, rfl⟩ := List.mem_map.1 hs
  obtain ⟨hi, hh⟩ := List.mem_filter.1 hi
  exact ⟨i, List.mem_flatten.2 ⟨_, List.mem_map_of_mem hb, hi⟩, hh, rfl⟩
theorem insF_mem {m : Md} {f : Fn} {i : In} (hf : f ∈ m.f) (h : i ∈ insF f) : i ∈ insM m := List.mem_flatten.2 ⟨_, List.mem_map_of_mem hf, h⟩
theorem ref_there {m : Md} (h : (insM m).any (noneI m) = false) {f : Fn} (hf : f ∈ m.f) {s : ByteArray} (hs : s ∈ refsL f) : s ∈ m.f.map (·.s) ∨ s ∈ m.g.map (·.s) := by
  obtain ⟨i, hi, hh, rfl⟩ := refs_mem hs
  have hn := List.any_eq_false.1 h i (insF_mem hf hi)
  unfold noneI at hn
  cases ha : m.f.any (fun f => f.s == i.s) with
  | true =>
    obtain ⟨g, hg, e⟩ := List.any_eq_true.1 ha
    exact .inl (List.mem_map.2 ⟨g, hg, (jba_beq _ _).1 e⟩)
  | false =>
    cases hb : m.g.any (fun g => g.s == i.s) with
    | true =>
      obtain ⟨g, hg, e⟩ := List.any_eq_true.1 hb
      exact .inr (List.mem_map.2 ⟨g, hg, (jba_beq _ _).1 e⟩)
    | false =>
      rw [ha, hb] at hn
      unfold hasB at hh
      exfalso
      apply hn
      cases h12 : i.o == 12 <;> cases h13 : i.o == 13 <;> cases h14 : i.o == 14 <;> simp [h12, h13, h14] at hh ⊢
theorem func_idx {m : Md} (h : (namesM m).Nodup) {i : Nat} (hi : i < m.f.length) : fIdx (m.f.map (·.s)) m.f[i].s = some i := by
  refine fIdx_some (by simpa using hi) (by simp [jba_refl]) (fun j hj => ?_)
  unfold namesM at h
  have h1 := (List.nodup_append.1 h).1
  rw [List.getElem_map]
  cases e : (m.f[j].s == m.f[i].s) with
  | false => rfl
  | true =>
    have e := (jba_beq _ _).1 e
    have := (List.pairwise_iff_getElem.1 h1) j i (by simp; omega) (by simpa using hi) hj
    simp only [List.getElem_map] at this
    exact absurd e this
theorem glob_none {m : Md} (h : (namesM m).Nodup) {i : Nat} (hi : i < m.f.length) : fIdx (m.g.map (·.s)) m.f[i].s = none := by
  refine fIdx_none (fun j hj => ?_)
  unfold namesM at h
  rw [List.getElem_map]
  have hj' : j < m.g.length := by simpa using hj
  cases e : (m.g[j].s == m.f[i].s) with
  | false => rfl
  | true =>
    have e := (jba_beq _ _).1 e
    exact absurd e.symm ((List.nodup_append.1 h).2.2 _ (List.mem_map_of_mem (List.getElem_mem hi)) _ (List.mem_map_of_mem (List.getElem_mem hj')))
end Go.Proofs.Ytkalgiaapkjplaa
