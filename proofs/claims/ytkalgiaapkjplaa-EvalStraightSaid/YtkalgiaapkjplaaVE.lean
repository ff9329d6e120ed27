/- Package eval: has a module a main? Package eval: is all here that a right module names? Package eval: is a module whole? -/
import Derived.Test.YtkalgiaapkjplaaV17
import Derived.Maps.OwnSet
namespace Go.Proofs.Ytkalgiaapkjplaa
open Go.RowKit

def mainN : ByteArray := ⟨#[109, 97, 105, 110]⟩
theorem mainN_list : mainN.toList = [109, 97, 105, 110] := by decide +kernel
def mainE (m : Md) : Bool := match fnOf m mainN with | some f => decide (0 < f.l.length) && f.p == 0 | none => false
theorem fnOf_at {m : Md} {n : ByteArray} {i : Nat} (hi : i < m.f.length) (h : (m.f[i].s == n) = true) (hb : ∀ j (hj : j < m.f.length), j < i → (m.f[j].s == n) = false) : fnOf m n = some m.f[i] := by
  unfold fnOf
  rw [List.find?_eq_some_iff_getElem]
  exact ⟨h, i, hi, rfl, fun j hj => by simp [hb j (by omega) hj]⟩
theorem fnOf_no {m : Md} {n : ByteArray} (h : ∀ j (hj : j < m.f.length), (m.f[j].s == n) = false) : fnOf m n = none := by
  unfold fnOf
  rw [List.find?_eq_none]
  intro x hx
  obtain ⟨j, hj, rfl⟩ := List.getElem_of_mem hx
  simp [h j hj]
set_option maxRecDepth 100000 in
set_option maxHeartbeats 2000000 in
theorem hasMain_any (m : Md) (F G : Option Addr) (nf cf ng cg : Nat) (w : World) (hok : MdOk m) (hnf : m.f.length = nf) (hS : MdAt w (.slice F nf cf) (.slice G ng cg) m) :
    Calls Try.prog 66 #[.agg #[.slice F nf cf, .slice G ng cg]] w fun e w' => e = .returned (.bool (mainE m)) ∧ Below w.heap.size w w' := by
  have HS := Lib.hid hS
  have HNF := Lib.hid (show m.f.length ≤ nf ∧ nf ≤ m.f.length by omega)
  have f9 : (nf : Int) ≤ 9223372036854775807 := by have := hok.2.2.1; omega
  clear hS hok hnf
  go_enter Try.func66, Try.ntmps66
  go_wp2_with fail
  have HBW := Lib.hid (balloc (Below.refl _ w) (.cells #[.slice F nf cf, .slice G ng cg] 33))
  generalize w.alloc (.cells #[.slice F nf cf, .slice G ng cg] 33) = W0 at *
  go_loopw [8] (fun iv wr => ∃ i : Nat, i ≤ nf ∧ iv = .int .i64 i ∧ (∀ j (hj : j < m.f.length), j < i → (m.f[j].s == mainN) = false) ∧ Below w.heap.size w wr) (fun iv _ => nf - (intOf iv).toNat)
  case atStart => exact ⟨0, Nat.zero_le _, rfl, fun j _ h => by omega, HBW.out⟩
  case round =>
    obtain ⟨i, hi, rfl, hs, hb⟩ := hrel
    have HT := Lib.hid hs
    have HB := Lib.hid hb
    clear hs hb
    by_cases hlt : i < nf
    · have hm : i < m.f.length := by have := HNF.out; omega
      obtain ⟨b, off, hA, hbl, e0⟩ := RowOf.at_ HS.out.1 hm
      subst hA
      obtain ⟨c0, c1, c2, A, cc, c3, -⟩ := FnAt.next _ _ _ _ _ hbl HB.out e0
      have HMI := Lib.hid (show (m.f[i].s == mainN) = true → mainE m = (decide (0 < m.f[i].l.length) && m.f[i].p == 0) from fun h => by
        unfold mainE
        rw [fnOf_at hm h (fun j hj hji => HT.out j hj hji)])
      have HNX := Lib.hid (show (m.f[i].s == mainN) = false → ∀ j (hj : j < m.f.length), j < i + 1 → (m.f[j].s == mainN) = false from fun h j hj hji => by
        by_cases e : j = i
        · subst e; exact h
        · exact HT.out j hj (by omega))
      obtain ⟨x0, h0⟩ : ∃ x, m.f[i].s = x := ⟨_, rfl⟩
      obtain ⟨x1, h1⟩ : ∃ x, m.f[i].b = x := ⟨_, rfl⟩
      obtain ⟨x2, h2⟩ : ∃ x, m.f[i].p = x := ⟨_, rfl⟩
      obtain ⟨x3, h3⟩ : ∃ x, m.f[i].l.length = x := ⟨_, rfl⟩
      rw [h0] at c0 HMI HNX
      rw [h1] at c1
      rw [h2] at c2 HMI
      rw [h3] at c3 HMI
      have hk0 : (0 : Int) ≤ (i : Int) := Int.natCast_nonneg _
      have hk1 : (i : Int) < (nf : Int) := by omega
      have HLT := Lib.hid hlt
      have HB1 := Lib.hid (bthen HB.out (balloc (Below.refl _ wr) (.cells #[.string x0, .int .i64 x1, .int .i64 x2, .slice A x3 cc] 24)))
      clear h0 h1 h2 h3 hm hlt e0
      cases hq : x0 == mainN with
      | true =>
        have g1 : (x0.toList == mainN.toList) = true := by rw [← beq_toListBytes]; exact hq
        rw [mainN_list] at g1
        have HV := Lib.hid (HMI.out hq)
        clear hq
        by_cases h3 : 0 < x3
        · have d3 : decide (0 < x3) = true := by simpa using h3
          have HE := Lib.hid (show mainE m = (x2 == 0) by rw [HV.out, d3]; rfl)
          clear h3 HV
          go_wp2_with fail
          go_ret
          exact ⟨by rw [HE.out]; rfl, HB1.out⟩
        · have d3 : decide (0 < x3) = false := by simpa using h3
          have HE := Lib.hid (show mainE m = false by rw [HV.out, d3]; rfl)
          clear h3 HV
          go_wp2_with fail
          go_ret
          exact ⟨by rw [HE.out]; rfl, HB1.out⟩
      | false =>
        have g1 : (x0.toList == mainN.toList) = false := by rw [← beq_toListBytes]; exact hq
        rw [mainN_list] at g1
        have HV := Lib.hid (HNX.out hq)
        clear hq
        go_wp2_with fail
        go_roundw
        case rel => exact ⟨i + 1, HLT.out, by go_num, HV.out, HB1.out⟩
        case measure => have := HLT.out; simp [intOf]; omega
    · have hd : decide (i < nf) = false := by simp; omega
      have HV := Lib.hid (show mainE m = false by
        unfold mainE
        rw [fnOf_no (fun j hj => HT.out j hj (by have := HNF.out; omega))])
      go_wp2_with fail
      go_ret
      exact ⟨by rw [HV.out]; rfl, HB.out⟩
end Go.Proofs.Ytkalgiaapkjplaa

namespace Go.Proofs.Ytkalgiaapkjplaa
open Go.RowKit

/-- what is here -/
def hereF (f : Fn) : List ByteArray := if 0 < f.l.length then [f.s] else []
def hereG (g : Gl) : List ByteArray := if g.h = true then [g.s] else []
def hereN (m : Md) : List ByteArray := m.f.flatMap hereF ++ m.g.flatMap hereG
noncomputable def setD (l : List ByteArray) : DataW Unit := l.foldl (fun d s => d.put (slit s) (.agg [])) (.map [])
theorem setD_snoc (l : List ByteArray) (s : ByteArray) : setD (l ++ [s]) = (setD l).put (slit s) (.agg []) := by simp [setD]
theorem setD_rev : ∀ (r : List ByteArray), Maps.IsMap (setD r.reverse) ∧ ∀ s, Maps.has (setD r.reverse) (slit s) = true ↔ s ∈ r
  | [] => ⟨Maps.isMap_empty, fun s => by simp [setD, Maps.has_eq]⟩
  | x :: r => by
    obtain ⟨h1, h2⟩ := setD_rev r
    rw [List.reverse_cons, setD_snoc]
    refine ⟨h1.put _ _, fun s => ?_⟩
    by_cases hs : s = x
    · subst hs
      rw [Maps.has_put_same h1 (slit_key _)]
      simp
    · rw [Maps.has_put_other (fun e => hs (slit_inj e)), h2]
      simp [hs]
theorem setD_has (l : List ByteArray) (s : ByteArray) : Maps.has (setD l) (slit s) = true ↔ s ∈ l := by
  have h := (setD_rev l.reverse).2 s
  rw [List.reverse_reverse] at h
  rw [h]
  simp
def allE (m : Md) : Bool := m.f.all fun f => (refsL f).all fun n => (hereN m).any (fun x => x == n)
theorem here_has {m : Md} (n : ByteArray) : Maps.has (setD (hereN m)) (slit n) = (hereN m).any (fun x => x == n) := by
  rw [Bool.eq_iff_iff, setD_has, List.any_eq_true]
  constructor
  · intro h
    exact ⟨n, h, jba_refl n⟩
  · rintro ⟨x, hx, e⟩
    rw [← (jba_beq x n).1 e]
    exact hx
theorem flat_succ {α β : Type} (h : α → List β) (l : List α) (i : Nat) (hi : i < l.length) : (l.take (i + 1)).flatMap h = (l.take i).flatMap h ++ h l[i] := by
  rw [List.take_succ_eq_append_getElem hi, List.flatMap_append]
  simp
set_option maxRecDepth 100000 in
set_option maxHeartbeats 4000000 in
theorem allHere_any (m : Md) (F G : Option Addr) (nf cf ng cg : Nat) (w : World) (hok : MdOk m) (hck : checkE m = 0) (hnf : m.f.length = nf) (hng : m.g.length = ng) (hS : MdAt w (.slice F nf cf) (.slice G ng cg) m) :
    Calls Try.prog 67 #[.agg #[.slice F nf cf, .slice G ng cg]] w fun e w' => e = .returned (.bool (allE m)) ∧ Below w.heap.size w w' := by
  have hcp := check_parts hck
  have HS := Lib.hid hS
  have HOK := Lib.hid hok
  have HCP := Lib.hid hcp
  have HNF := Lib.hid (show m.f.length ≤ nf ∧ nf ≤ m.f.length by omega)
  have HNG := Lib.hid (show m.g.length ≤ ng ∧ ng ≤ m.g.length by omega)
  have f9 : (nf : Int) ≤ 16 := by have := hcp.1; omega
  have g9 : (ng : Int) ≤ 16 := by have := hcp.2.1; omega
  clear hS hok hnf hng hcp hck
  have hmm := @run_makeMap Try.prog
  go_enter Try.func67, Try.ntmps67
  go_wp2_with fail
  clear hmm
  have HIN := Lib.hid (((balloc (Below.refl _ _) (.map #[] 0)).block w.heap.size (by simp)).trans (heap_alloc_new w (.cells #[.slice F nf cf, .slice G ng cg] 33)))
  have HOM := Lib.hid (World.ownsMap_made (H := Unit) (w.alloc (.cells #[.slice F nf cf, .slice G ng cg] 33)) Try.prog 9 unitElem)
  have HBW := Lib.hid (balloc (balloc (Below.refl _ w) (.cells #[.slice F nf cf, .slice G ng cg] 33)) (.map #[] 0))
  rw [World.size_alloc] at HOM
  generalize (w.alloc (.cells #[.slice F nf cf, .slice G ng cg] 33)).alloc (.map #[] 0) = W0 at *
  go_loopw [18] (fun iv wr => ∃ i : Nat, i ≤ nf ∧ iv = .int .i64 i ∧ wr.ownsMap Try.prog 9 unitElem (w.heap.size + 1) i (setD ((m.f.take i).flatMap hereF)) ∧ wr.heap[w.heap.size]? = some (.cells #[.slice F nf cf, .slice G ng cg] 33 (0, 0)) ∧ Below w.heap.size w wr) (fun iv _ => nf - (intOf iv).toNat)
  case atStart => exact ⟨0, Nat.zero_le _, rfl, HOM.out, HIN.out, HBW.out⟩
  case round =>
    obtain ⟨i, hi, rfl, hm, hin, hb⟩ := hrel
    have HM := Lib.hid hm
    have HI := Lib.hid hin
    have HB := Lib.hid hb
    clear hm hin hb HIN HBW HOM
    by_cases hlt : i < nf
    · have hmf : i < m.f.length := by have := HNF.out; omega
      obtain ⟨b, off, hA, hbl, e0⟩ := RowOf.at_ HS.out.1 hmf
      subst hA
      obtain ⟨c0, c1, c2, A, cc, c3, -⟩ := FnAt.next _ _ _ _ _ hbl HB.out e0
      have HKY := Lib.hid (skey_of (HOK.out.1 _ (List.getElem_mem hmf)).1)
      obtain ⟨x0, h0⟩ : ∃ x, m.f[i].s = x := ⟨_, rfl⟩
      obtain ⟨x1, h1⟩ : ∃ x, m.f[i].b = x := ⟨_, rfl⟩
      obtain ⟨x2, h2⟩ : ∃ x, m.f[i].p = x := ⟨_, rfl⟩
      obtain ⟨x3, h3⟩ : ∃ x, m.f[i].l.length = x := ⟨_, rfl⟩
      have HNX := Lib.hid (show (m.f.take (i + 1)).flatMap hereF = (m.f.take i).flatMap hereF ++ (if 0 < x3 then [x0] else []) by rw [flat_succ hereF m.f i hmf]; unfold hereF; rw [h0, h3])
      rw [h0] at c0 HKY
      rw [h1] at c1
      rw [h2] at c2
      rw [h3] at c3
      have hk0 : (0 : Int) ≤ (i : Int) := Int.natCast_nonneg _
      have hk1 : (i : Int) < (nf : Int) := by omega
      have HLT := Lib.hid hlt
      have HML := Lib.hid (show i < maxLen by unfold maxLen; omega)
      have HM1 := Lib.hid (HM.out.alloc (.cells #[.string x0, .int .i64 x1, .int .i64 x2, .slice A x3 cc] 24))
      have HB1 := Lib.hid (bthen HB.out (balloc (Below.refl _ wr) (.cells #[.string x0, .int .i64 x1, .int .i64 x2, .slice A x3 cc] 24)))
      have HI1 := Lib.hid (((balloc (Below.refl _ wr) (.cells #[.string x0, .int .i64 x1, .int .i64 x2, .slice A x3 cc] 24)).block _ (Array.getElem?_eq_some_iff.1 HI.out).1).trans HI.out)
      clear h0 h1 h2 h3 hmf hlt e0
      by_cases h3 : 0 < x3
      · have d3 : decide (0 < x3) = true := by simpa using h3
        rw [if_pos h3] at HNX
        clear h3
        go_wp2_with (at_mapUpdate; refine wpList_mapUpdate_own _ rfl _ _ _ 141 rfl 9 142 skeyed Try.underlying141 _ (w.heap.size + 1) i _ rfl HM1.out HML.out _ _ _ rfl rfl HKY.out _ [] unitElem_mk ?_; intro w3 hm3 hg3)
        have HM3 := Lib.hid (show w3.ownsMap Try.prog 9 unitElem (w.heap.size + 1) (i + 1) (setD ((m.f.take (i + 1)).flatMap hereF)) by rw [HNX.out, setD_snoc]; exact hm3)
        have HI3 := Lib.hid ((hg3.block _ (Array.getElem?_eq_some_iff.1 HI1.out).1 (by simp)).trans HI1.out)
        have HB3 := Lib.hid (below_turned HB1.out hg3 (Nat.le_succ _) HB1.out.size)
        clear hm3 hg3 c0 c1 c2 c3
        go_wp2_with fail
        go_roundw
        case rel => exact ⟨i + 1, HLT.out, by go_num, HM3.out, HI3.out, HB3.out⟩
        case measure => have := HLT.out; simp [intOf]; omega
      · have d3 : decide (0 < x3) = false := by simpa using h3
        rw [if_neg h3] at HNX
        clear h3
        have HM3 := Lib.hid (show (wr.alloc (.cells #[.string x0, .int .i64 x1, .int .i64 x2, .slice A x3 cc] 24)).ownsMap Try.prog 9 unitElem (w.heap.size + 1) (i + 1) (setD ((m.f.take (i + 1)).flatMap hereF)) by rw [HNX.out, List.append_nil]; exact HM1.out.mono (Nat.le_succ _))
        go_wp2_with fail
        go_roundw
        case rel => exact ⟨i + 1, HLT.out, by go_num, HM3.out, HI1.out, HB1.out⟩
        case measure => have := HLT.out; simp [intOf]; omega
    · have hd : decide (i < nf) = false := by simp; omega
      have HF := Lib.hid (show wr.ownsMap Try.prog 9 unitElem (w.heap.size + 1) (nf + 0) (setD (m.f.flatMap hereF ++ (m.g.take 0).flatMap hereG)) by
        have h := HM.out
        rw [List.take_of_length_le (by have := HNF.out; omega)] at h
        simp only [List.take_zero, List.flatMap_nil, List.append_nil]
        exact h.mono (by omega))
      have c1 := Lib.cell_of_heap HI.out 1
      simp only [List.getElem?_toArray, List.getElem?_cons_zero, List.getElem?_cons_succ] at c1
      go_wp2_with fail
      clear c1
      go_loopw [34] (fun iv wr => ∃ j : Nat, j ≤ ng ∧ iv = .int .i64 j ∧ wr.ownsMap Try.prog 9 unitElem (w.heap.size + 1) (nf + j) (setD (m.f.flatMap hereF ++ (m.g.take j).flatMap hereG)) ∧ wr.heap[w.heap.size]? = some (.cells #[.slice F nf cf, .slice G ng cg] 33 (0, 0)) ∧ Below w.heap.size w wr) (fun iv _ => ng - (intOf iv).toNat)
      case atStart => exact ⟨0, Nat.zero_le _, rfl, HF.out, HI.out, HB.out⟩
      case round =>
        obtain ⟨j, hj, rfl, hm, hin, hb⟩ := hrel
        have HM2 := Lib.hid hm
        have HI2 := Lib.hid hin
        have HB2 := Lib.hid hb
        clear hm hin hb
        by_cases hlt2 : j < ng
        · have hmg : j < m.g.length := by have := HNG.out; omega
          obtain ⟨b, off, hA, hbl, e0⟩ := RowOf.at_ HS.out.2 hmg
          subst hA
          obtain ⟨c0, c1, c2, c3⟩ := GlAt.next _ _ _ _ _ hbl HB2.out e0
          have HKY := Lib.hid (skey_of (HOK.out.2.1 _ (List.getElem_mem hmg)))
          obtain ⟨x0, h0⟩ : ∃ x, m.g[j].s = x := ⟨_, rfl⟩
          obtain ⟨x1, h1⟩ : ∃ x, m.g[j].b = x := ⟨_, rfl⟩
          obtain ⟨x2, h2⟩ : ∃ x, m.g[j].h = x := ⟨_, rfl⟩
          obtain ⟨x3, h3⟩ : ∃ x, m.g[j].i = x := ⟨_, rfl⟩
          have HNX := Lib.hid (show (m.g.take (j + 1)).flatMap hereG = (m.g.take j).flatMap hereG ++ (if x2 = true then [x0] else []) by rw [flat_succ hereG m.g j hmg]; unfold hereG; rw [h0, h2])
          rw [h0] at c0 HKY
          rw [h1] at c1
          rw [h2] at c2
          rw [h3] at c3
          have hk0 : (0 : Int) ≤ (j : Int) := Int.natCast_nonneg _
          have hk1 : (j : Int) < (ng : Int) := by omega
          have HLT := Lib.hid hlt2
          have HML := Lib.hid (show nf + j < maxLen by unfold maxLen; omega)
          have HM1 := Lib.hid (HM2.out.alloc (.cells #[.string x0, .int .i64 x1, .bool x2, .int .u64 x3] 92))
          have HB1 := Lib.hid (bthen HB2.out (balloc (Below.refl _ wr) (.cells #[.string x0, .int .i64 x1, .bool x2, .int .u64 x3] 92)))
          have HI1 := Lib.hid (((balloc (Below.refl _ wr) (.cells #[.string x0, .int .i64 x1, .bool x2, .int .u64 x3] 92)).block _ (Array.getElem?_eq_some_iff.1 HI2.out).1).trans HI2.out)
          clear h0 h1 h2 h3 hmg hlt2 e0
          cases x2 with
          | true =>
            rw [if_pos rfl] at HNX
            go_wp2_with (at_mapUpdate; refine wpList_mapUpdate_own _ rfl _ _ _ 141 rfl 9 142 skeyed Try.underlying141 _ (w.heap.size + 1) (nf + j) _ rfl HM1.out HML.out _ _ _ rfl rfl HKY.out _ [] unitElem_mk ?_; intro w3 hm3 hg3)
            have HM3 := Lib.hid (show w3.ownsMap Try.prog 9 unitElem (w.heap.size + 1) (nf + (j + 1)) (setD (m.f.flatMap hereF ++ (m.g.take (j + 1)).flatMap hereG)) by rw [HNX.out, ← List.append_assoc, setD_snoc]; exact hm3)
            have HI3 := Lib.hid ((hg3.block _ (Array.getElem?_eq_some_iff.1 HI1.out).1 (by simp)).trans HI1.out)
            have HB3 := Lib.hid (below_turned HB1.out hg3 (Nat.le_succ _) HB1.out.size)
            clear hm3 hg3 c0 c1 c2 c3
            go_wp2_with fail
            go_roundw
            case rel => exact ⟨j + 1, HLT.out, by go_num, HM3.out, HI3.out, HB3.out⟩
            case measure => have := HLT.out; simp [intOf]; omega
          | false =>
            rw [if_neg (by decide)] at HNX
            have HM3 := Lib.hid (show (wr.alloc (.cells #[.string x0, .int .i64 x1, .bool false, .int .u64 x3] 92)).ownsMap Try.prog 9 unitElem (w.heap.size + 1) (nf + (j + 1)) (setD (m.f.flatMap hereF ++ (m.g.take (j + 1)).flatMap hereG)) by rw [HNX.out, List.append_nil]; exact HM1.out.mono (by omega))
            go_wp2_with fail
            go_roundw
            case rel => exact ⟨j + 1, HLT.out, by go_num, HM3.out, HI1.out, HB1.out⟩
            case measure => have := HLT.out; simp [intOf]; omega
        · have hd : decide (j < ng) = false := by simp; omega
          have HG := Lib.hid (show wr.ownsMap Try.prog 9 unitElem (w.heap.size + 1) (nf + j) (setD (hereN m)) by
            have h := HM2.out
            rwa [List.take_of_length_le (by have := HNG.out; omega)] at h)
          have c0 := Lib.cell_of_heap HI2.out 0
          simp only [List.getElem?_toArray, List.getElem?_cons_zero] at c0
          go_wp2_with fail
          clear c0
          have HF3 := Lib.hid (show ∀ f ∈ m.f, funcB f = true from by
            have h := HCP.out.2.2.1
            unfold aloneB at h
            rw [Bool.and_eq_true] at h
            exact List.all_eq_true.1 h.1)
          have HG0 := Lib.hid (HG.out.mono (show nf + j ≤ nf + ng by omega))
          go_loopw [48] (fun iv wr => ∃ i : Nat, i ≤ nf ∧ iv = .int .i64 i ∧ (∀ q (hq : q < m.f.length), q < i → (refsL m.f[q]).all (fun n => (hereN m).any (fun x => x == n)) = true) ∧ wr.ownsMap Try.prog 9 unitElem (w.heap.size + 1) (nf + ng) (setD (hereN m)) ∧ Below w.heap.size w wr) (fun iv _ => nf - (intOf iv).toNat)
          case atStart => exact ⟨0, Nat.zero_le _, rfl, fun q _ h => by omega, HG0.out, HB2.out⟩
          case round =>
            obtain ⟨i3, hi3, rfl, hq3, hm3, hb3⟩ := hrel
            have HQ3 := Lib.hid hq3
            have HM3 := Lib.hid hm3
            have HB3 := Lib.hid hb3
            clear hq3 hm3 hb3
            by_cases hlt3 : i3 < nf
            · have hmf : i3 < m.f.length := by have := HNF.out; omega
              obtain ⟨b, off, hA, hbl, e0⟩ := RowOf.at_ HS.out.1 hmf
              subst hA
              obtain ⟨a0, a1, a2, A, cc, a3, hbk⟩ := e0
              have c0 := (cellNext hbl HB3.out _).trans a0
              have c1 := (cellNext hbl HB3.out _).trans a1
              have c2 := (cellNext hbl HB3.out _).trans a2
              have c3 := (cellNext hbl HB3.out _).trans a3
              clear a0 a1 a2 a3
              have HQN := Lib.hid (show (refsL m.f[i3]).all (fun n => (hereN m).any (fun x => x == n)) = true → ∀ q (hq : q < m.f.length), q < i3 + 1 → (refsL m.f[q]).all (fun n => (hereN m).any (fun x => x == n)) = true from fun h q hq hqi => by
                by_cases e : q = i3
                · subst e; exact h
                · exact HQ3.out q hq (by omega))
              have HAF := Lib.hid (show (refsL m.f[i3]).all (fun n => (hereN m).any (fun x => x == n)) = false → allE m = false from fun h => by
                unfold allE
                rw [List.all_eq_false]
                exact ⟨_, List.getElem_mem hmf, by simpa using h⟩)
              have HFK := Lib.hid (show FnOk m.f[i3] ∧ funcB m.f[i3] = true from ⟨HOK.out.1 _ (List.getElem_mem hmf), HF3.out _ (List.getElem_mem hmf)⟩)
              obtain ⟨f, hf⟩ : ∃ f, m.f[i3] = f := ⟨_, rfl⟩
              rw [hf] at c0 c1 c2 c3 hbk HQN HAF HFK
              obtain ⟨x3, h3⟩ : ∃ x, f.l.length = x := ⟨_, rfl⟩
              rw [h3] at c3 hbk
              have HRF := Lib.hid (fun (u : World) (hb : Below w.heap.size w u) => refs_any f A x3 cc u h3 HFK.out.1 (by have := ins_512 HFK.out.2; omega) (hbk.next hb))
              have HKY := Lib.hid (show ∀ s ∈ refsL f, keyOf Try.prog 9 (.string s) = some (slit s) from fun s hs => by
                obtain ⟨it, hi, -, rfl⟩ := refs_mem hs
                obtain ⟨l, hl, hil⟩ := List.mem_flatten.1 hi
                obtain ⟨bk, hbm, rfl⟩ := List.mem_map.1 hl
                exact skey_of ((HFK.out.1.2.2 bk hbm).2.2.2 _ hil).1)
              obtain ⟨x0, h0⟩ : ∃ x, f.s = x := ⟨_, rfl⟩
              obtain ⟨x1, h1⟩ : ∃ x, f.b = x := ⟨_, rfl⟩
              obtain ⟨x2, h2⟩ : ∃ x, f.p = x := ⟨_, rfl⟩
              rw [h0] at c0 HRF
              rw [h1] at c1 HRF
              rw [h2] at c2 HRF
              have HN5 := Lib.hid (show (refsL f).length ≤ 512 from Nat.le_trans (refs_ins f) (ins_512 HFK.out.2))
              obtain ⟨names, hnames⟩ : ∃ x, refsL f = x := ⟨_, rfl⟩
              rw [hnames] at HRF HKY HQN HAF HN5
              have hk0 : (0 : Int) ≤ (i3 : Int) := Int.natCast_nonneg _
              have hk1 : (i3 : Int) < (nf : Int) := by omega
              have HLT := Lib.hid hlt3
              have hba := balloc (Below.refl _ wr) (.cells #[.string x0, .int .i64 x1, .int .i64 x2, .slice A x3 cc] 24)
              have HB4 := Lib.hid (bthen HB3.out hba)
              have HM4 := Lib.hid (HM3.out.alloc (.cells #[.string x0, .int .i64 x1, .int .i64 x2, .slice A x3 cc] 24))
              clear hf h0 h1 h2 h3 hnames hmf hlt3 hbk hbl hba
              go_wp2_with fail
              refine (HRF.out _ HB4.out).mono ?_
              intro e w5 hnn
              obtain ⟨v5, he, hst, hb5⟩ := hnn
              obtain ⟨A5, c5, hv5⟩ := RowOf.slice hst
              subst hv5
              rw [he]
              have HST := Lib.hid hst
              have HB5 := Lib.hid (bthen HB4.out hb5)
              have HM5 := Lib.hid (map_same HM4.out (fun hk => hb5.block _ hk))
              obtain ⟨nn, hnn⟩ : ∃ x, names.length = x := ⟨_, rfl⟩
              rw [hnn] at HST
              rw [hnn]
              have HNN := Lib.hid (show names.length ≤ nn ∧ nn ≤ names.length by omega)
              have n512 : (nn : Int) ≤ 512 := by have := HN5.out; omega
              clear he hst hb5 hnn c0 c1 c2 c3 HRF
              go_wp2_with fail
              go_loopw [55] (fun iv wx => ∃ q : Nat, q ≤ nn ∧ iv = .int .i64 q ∧ (∀ r (hr : r < names.length), r < q → (hereN m).any (fun x => x == names[r]) = true) ∧ wx.ownsMap Try.prog 9 unitElem (w.heap.size + 1) (nf + ng) (setD (hereN m)) ∧ Below w5.heap.size w5 wx) (fun iv _ => nn - (intOf iv).toNat)
              case atStart => exact ⟨0, Nat.zero_le _, rfl, fun q _ h => by omega, HM5.out, Below.refl _ _⟩
              case round =>
                obtain ⟨q, hq, rfl, hq6, hm6, hb6⟩ := hrel
                have HQ6 := Lib.hid hq6
                have HM6 := Lib.hid hm6
                have HB6 := Lib.hid hb6
                clear hq6 hm6 hb6
                by_cases hlt6 : q < nn
                · have hqn : q < names.length := by have := HNN.out; omega
                  obtain ⟨b6, o6, hA6, hbl6, m0⟩ := RowOf.at_ HST.out hqn
                  subst hA6
                  have n0 := (cellNext hbl6 HB6.out _).trans m0
                  clear m0
                  have HKX := Lib.hid (HKY.out _ (List.getElem_mem hqn))
                  have HQX := Lib.hid (show (hereN m).any (fun x => x == names[q]) = true → ∀ r (hr : r < names.length), r < q + 1 → (hereN m).any (fun x => x == names[r]) = true from fun h r hr hri => by
                    by_cases e : r = q
                    · subst e; exact h
                    · exact HQ6.out r hr (by omega))
                  have HQF := Lib.hid (show (hereN m).any (fun x => x == names[q]) = false → names.all (fun n => (hereN m).any (fun x => x == n)) = false from fun h => by
                    rw [List.all_eq_false]
                    exact ⟨_, List.getElem_mem hqn, by simpa using h⟩)
                  have hhas := here_has (m := m) names[q]
                  obtain ⟨x, hx⟩ : ∃ x, names[q] = x := ⟨_, rfl⟩
                  rw [hx] at n0 HKX HQX HQF hhas
                  simp only [Nat.mul_one] at n0
                  have q0 : (0 : Int) ≤ (q : Int) := Int.natCast_nonneg _
                  have q1 : (q : Int) < (nn : Int) := by omega
                  have HLT6 := Lib.hid hlt6
                  clear hx hqn hlt6 hbl6
                  cases hany : (hereN m).any (fun y => y == x) with
                  | true =>
                    rw [hany] at hhas
                    have HQX' := Lib.hid (HQX.out hany)
                    clear hany HQX HQF
                    go_wp2_with (at_lookup; refine wpList_lookup_own_unit _ rfl _ _ 141 rfl 9 142 skeyed Try.underlying141 (Try.zeroValue142 _) (w.heap.size + 1) (nf + ng) _ rfl HM6.out _ _ rfl HKX.out ?_)
                    go_roundw
                    case rel => exact ⟨q + 1, HLT6.out, by go_num, HQX'.out, HM6.out.alloc _, balloc HB6.out _⟩
                    case measure => have := HLT6.out; simp [intOf]; omega
                  | false =>
                    rw [hany] at hhas
                    have HV := Lib.hid (HAF.out (HQF.out hany))
                    clear hany HQX HQF
                    go_wp2_with (at_lookup; refine wpList_lookup_own_unit _ rfl _ _ 141 rfl 9 142 skeyed Try.underlying141 (Try.zeroValue142 _) (w.heap.size + 1) (nf + ng) _ rfl HM6.out _ _ rfl HKX.out ?_)
                    go_ret
                    exact ⟨by rw [HV.out]; rfl, bthen (bthen HB5.out HB6.out) (balloc (Below.refl _ _) _)⟩
                · have hd : decide (q < nn) = false := by simp; omega
                  have HV := Lib.hid (HQN.out (by
                    rw [List.all_eq_true]
                    intro n hn
                    obtain ⟨r, hr, rfl⟩ := List.getElem_of_mem hn
                    exact HQ6.out r hr (by have := HNN.out; omega)))
                  have HB7 := Lib.hid (bthen HB5.out HB6.out)
                  clear hlt6
                  go_wp2_with fail
                  go_roundw
                  case rel => exact ⟨i3 + 1, HLT.out, by go_num, HV.out, HM6.out, HB7.out⟩
                  case measure => have := HLT.out; simp [intOf]; omega
            · have hd : decide (i3 < nf) = false := by simp; omega
              have HV := Lib.hid (show allE m = true by
                unfold allE
                rw [List.all_eq_true]
                intro f hf
                obtain ⟨q, hq, rfl⟩ := List.getElem_of_mem hf
                exact HQ3.out q hq (by have := HNF.out; omega))
              clear hlt3
              go_wp2_with fail
              go_ret
              exact ⟨by rw [HV.out]; rfl, HB3.out⟩
end Go.Proofs.Ytkalgiaapkjplaa

namespace Go.Proofs.Ytkalgiaapkjplaa
open Go.RowKit

def wholeE (m : Md) : Int := if checkE m = 0 then (if mainE m = true then (if allE m = true then 0 else 8) else 11) else checkE m
set_option maxRecDepth 100000 in
set_option maxHeartbeats 4000000 in
theorem whole_any (m : Md) (F G : Option Addr) (nf cf ng cg : Nat) (w : World) (hok : MdOk m) (hnf : m.f.length = nf) (hng : m.g.length = ng) (hS : MdAt w (.slice F nf cf) (.slice G ng cg) m) :
    Calls Try.prog 30 #[.agg #[.slice F nf cf, .slice G ng cg]] w fun e w' => e = .returned (.int .i64 (wholeE m)) ∧ Below w.heap.size w w' := by
  have hba := balloc (Below.refl _ w) (.cells #[.slice F nf cf, .slice G ng cg] 33)
  have hin := heap_alloc_new w (.cells #[.slice F nf cf, .slice G ng cg] 33)
  have HCK := Lib.hid (fun (u : World) (hb : Below w.heap.size w u) => check_any m F G nf cf ng cg u hok hnf hng ⟨hS.1.next hb, hS.2.next hb⟩)
  have HHM := Lib.hid (fun (u : World) (hb : Below w.heap.size w u) => hasMain_any m F G nf cf ng cg u hok hnf ⟨hS.1.next hb, hS.2.next hb⟩)
  have HAL := Lib.hid (fun (hc : checkE m = 0) (u : World) (hb : Below w.heap.size w u) => allHere_any m F G nf cf ng cg u hok hc hnf hng ⟨hS.1.next hb, hS.2.next hb⟩)
  have HBX := Lib.hid (fun (u : World) (hb : Below (w.alloc (.cells #[.slice F nf cf, .slice G ng cg] 33)).heap.size (w.alloc (.cells #[.slice F nf cf, .slice G ng cg] 33)) u) => show u.cell? ⟨w.heap.size, 0, none⟩ = some (.slice F nf cf) ∧ u.cell? ⟨w.heap.size, 1, none⟩ = some (.slice G ng cg) ∧ Below w.heap.size w u from by
    have e := (hb.block w.heap.size (by simp)).trans hin
    exact ⟨Lib.cell_of_heap e 0, Lib.cell_of_heap e 1, bthen hba hb⟩)
  clear hok hnf hng hS hin hba
  obtain ⟨ck, hck⟩ : ∃ x, checkE m = x := ⟨_, rfl⟩
  have HWE := Lib.hid (show wholeE m = if ck = 0 then (if mainE m = true then (if allE m = true then 0 else 8) else 11) else ck by unfold wholeE; rw [hck])
  rw [hck] at HCK HAL
  clear hck
  go_enter Try.func30, Try.ntmps30
  go_wp2_with fail
  refine (HCK.out _ (balloc (Below.refl _ w) _)).mono ?_
  rintro e w1 ⟨rfl, hb1⟩
  obtain ⟨d0, d1, hw1⟩ := HBX.out w1 hb1
  have HB1 := Lib.hid hb1
  have HW1 := Lib.hid hw1
  clear hb1 hw1
  by_cases hc : ck = 0
  case neg =>
    have hd : (ck != 0) = true := by simpa using hc
    have HV := Lib.hid (show wholeE m = ck by rw [HWE.out, if_neg hc])
    clear hc
    go_wp2_with fail
    go_ret
    exact ⟨by rw [HV.out]; rfl, HW1.out⟩
  subst hc
  go_wp2_with fail
  refine (HHM.out _ HW1.out).mono ?_
  rintro e w2 ⟨rfl, hb2⟩
  obtain ⟨e0, e1, hw2⟩ := HBX.out w2 (bthen HB1.out hb2)
  have HW2 := Lib.hid hw2
  have HB2 := Lib.hid (bthen HB1.out hb2)
  clear hb2 hw2 d0 d1
  cases hm : mainE m with
  | false =>
    have HV := Lib.hid (show wholeE m = 11 by rw [HWE.out, hm]; rfl)
    clear hm
    go_wp2_with fail
    go_ret
    exact ⟨by rw [HV.out]; rfl, HW2.out⟩
  | true =>
    rw [hm] at HWE
    clear hm
    go_wp2_with fail
    refine (HAL.out (by trivial) _ HW2.out).mono ?_
    rintro e w3 ⟨rfl, hb3⟩
    have HW3 := Lib.hid (bthen HW2.out hb3)
    clear hb3
    cases ha : allE m with
    | false =>
      have HV := Lib.hid (show wholeE m = 8 by rw [HWE.out, ha]; rfl)
      clear ha
      go_wp2_with fail
      go_ret
      exact ⟨by rw [HV.out]; rfl, HW3.out⟩
    | true =>
      have HV := Lib.hid (show wholeE m = 0 by rw [HWE.out, ha]; rfl)
      clear ha
      go_wp2_with fail
      go_ret
      exact ⟨by rw [HV.out]; rfl, HW3.out⟩
end Go.Proofs.Ytkalgiaapkjplaa
