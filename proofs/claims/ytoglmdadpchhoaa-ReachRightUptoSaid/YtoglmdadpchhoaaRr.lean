/- The reference's Whole. -/
import Derived.Test.YtoglmdadpchhoaaRp
import Derived.Test.YtoglmdadpchhoaaRq
namespace Go.Proofs.Ytoglmdadpchhoaa
open Go.RowKit Go.Shelf

theorem idx_find {α : Type} (nm : α → ByteArray) (l : List α) (s : ByteArray) :
    (l.find? (fun f => nm f == s) = none ∧ idxE (fIdx (l.map nm) s) = -1) ∨ ∃ (j : Nat) (hj : j < l.length), l.find? (fun f => nm f == s) = some l[j] ∧ idxE (fIdx (l.map nm) s) = (j : Int) := by
  cases e : fIdx (l.map nm) s with
  | none =>
    left
    refine ⟨?_, rfl⟩
    rw [List.find?_eq_none]
    intro f hf
    have h := List.findIdx?_eq_none_iff.1 e (nm f) (List.mem_map_of_mem hf)
    simpa using h
  | some j =>
    right
    obtain ⟨h1, h2, h3⟩ := List.findIdx?_eq_some_iff_getElem.1 e
    have h1' : j < l.length := by simpa using h1
    refine ⟨j, h1', ?_, rfl⟩
    rw [List.find?_eq_some_iff_getElem]
    refine ⟨by simpa using h2, j, h1', rfl, fun t ht => ?_⟩
    have := h3 t ht
    simpa using this
theorem wholeR_parts (m : Md) : (checkE m ≠ 0 → wholeR m = checkE m) ∧ (checkE m = 0 → mainR m = false → wholeR m = 11) ∧ (checkE m = 0 → mainR m = true → (∃ f ∈ m.f, ∃ n ∈ refsL f, nameOk m n = false) → wholeR m = 8) ∧ (checkE m = 0 → mainR m = true → (∀ f ∈ m.f, ∀ n ∈ refsL f, nameOk m n = true) → wholeR m = 0) := by
  unfold wholeR
  refine ⟨fun h => if_neg h, fun h h2 => by rw [if_pos h, h2]; rfl, fun h h2 h3 => ?_, fun h h2 h3 => ?_⟩
  · rw [if_pos h, if_pos h2, if_neg]
    intro ha
    obtain ⟨f, hf, n, hn, e⟩ := h3
    have := List.all_eq_true.1 (List.all_eq_true.1 ha f hf) n hn
    rw [e] at this
    cases this
  · rw [if_pos h, if_pos h2, if_pos]
    rw [List.all_eq_true]
    intro f hf
    rw [List.all_eq_true]
    exact fun n hn => h3 f hf n hn
theorem ch_drew {w W : World} {B B2 o2 : Nat} {c0 c1 c2 : Value} (h : W.cell? ⟨B, 0, none⟩ = some c0 ∧ W.cell? ⟨B, 1, none⟩ = some c1 ∧ W.cell? ⟨B2, o2, none⟩ = some c2 ∧ Below w.heap.size w W) :
    W.drew.cell? ⟨B, 0, none⟩ = some c0 ∧ W.drew.cell? ⟨B, 1, none⟩ = some c1 ∧ W.drew.cell? ⟨B2, o2, none⟩ = some c2 ∧ Below w.heap.size w W.drew := ⟨h.1, h.2.1, h.2.2.1, h.2.2.2.drew⟩
theorem ch_id {w W : World} {B B2 o2 : Nat} {c0 c1 c2 : Value} (h : W.cell? ⟨B, 0, none⟩ = some c0 ∧ W.cell? ⟨B, 1, none⟩ = some c1 ∧ W.cell? ⟨B2, o2, none⟩ = some c2 ∧ Below w.heap.size w W) :
    W.cell? ⟨B, 0, none⟩ = some c0 ∧ W.cell? ⟨B, 1, none⟩ = some c1 ∧ W.cell? ⟨B2, o2, none⟩ = some c2 ∧ Below w.heap.size w W := h
set_option maxRecDepth 100000 in
set_option maxHeartbeats 16000000 in
theorem refWhole_any (m : Md) (F G : Option Addr) (nf cf ng cg : Nat) (w : World) (hok : MdOk m) (hw : MdW m) (hk : MdK 1048576 m) (hnf : m.f.length = nf) (hng : m.g.length = ng) (hS : MdAt w (.slice F nf cf) (.slice G ng cg) m) :
    Calls Try.prog 16 #[.agg #[.slice F nf cf, .slice G ng cg]] w fun e w' => e = .returned (.int .i64 (wholeR m)) ∧ Below w.heap.size w w' := by
  have h20 : nf + ng ≤ 1048576 := by have := hk.1; omega
  have HCK := Lib.hid (fun (U : World) (hU : Below w.heap.size w U) => refCheck_any m F G nf cf ng cg U hok hw hnf hng (hS.next hU))
  have HFF := Lib.hid (fun (U : World) (hU : Below w.heap.size w U) (s : ByteArray) => findFunc_any m F G nf cf ng cg s U hok hnf (hS.next hU))
  have HFG := Lib.hid (fun (U : World) (hU : Below w.heap.size w U) (s : ByteArray) => findGlob_any m F G nf cf ng cg s U hok hng (hS.next hU))
  have HDK := Lib.hid (show ∀ f ∈ m.f, FnOk f ∧ (insF f).length ≤ 1048576 from fun f hf => ⟨hok.1 f hf, (hk.2.2 f hf).2.1⟩)
  have HP := Lib.hid (wholeR_parts m)
  have HNT := Lib.hid (show checkE m = 0 → ∀ f ∈ m.f, ∀ n ∈ refsL f, n ∈ namesM m from fun h f hf n hn => ref_there (check_parts h).2.2.2.2.1 hf hn)
  have HBL := Lib.hid (show ∀ f ∈ m.f, f.l.length ≤ 1048576 from fun f hf => (hk.2.2 f hf).1)
  have HNF := Lib.hid (show m.f.length ≤ nf ∧ nf ≤ m.f.length by omega)
  have HNG := Lib.hid (show m.g.length ≤ ng ∧ ng ≤ m.g.length by omega)
  have HSS := Lib.hid hS
  obtain ⟨V, hV⟩ : ∃ V, wholeR m = V := ⟨_, rfl⟩
  rw [hV] at HP ⊢
  have n1 : (nf : Int) ≤ 1048576 := by omega
  have n2 : (ng : Int) ≤ 1048576 := by omega
  have hcb := heap_alloc_new w (.cells #[.slice F nf cf, .slice G ng cg] 25)
  have hb0 := balloc (Below.refl _ w) (.cells #[.slice F nf cf, .slice G ng cg] 25)
  obtain ⟨W0, hW0⟩ : ∃ U, w.alloc (.cells #[.slice F nf cf, .slice G ng cg] 25) = U := ⟨_, rfl⟩
  rw [hW0] at hcb hb0
  have HCB := Lib.hid (show Whole W0 w.heap.size 25 #[.slice F nf cf, .slice G ng cg] from hcb)
  have HB0 := Lib.hid hb0
  have c0 : W0.cell? ⟨w.heap.size, 0, none⟩ = some (.slice F nf cf) := HCB.out.cell 0
  have c1 : W0.cell? ⟨w.heap.size, 1, none⟩ = some (.slice G ng cg) := HCB.out.cell 1
  clear hok hw hk hS hnf hng h20 hV hcb hb0
  go_enter Try.func16, Try.ntmps16
  go_wp2_with fail
  refine (HCK.out W0 HB0.out).mono ?_
  rintro r w1 ⟨rfl, hb1⟩
  have HC1 := Lib.hid (HCB.out.next hb1)
  have HB1 := Lib.hid (bthen HB0.out hb1)
  have d0 : w1.cell? ⟨w.heap.size, 0, none⟩ = some (.slice F nf cf) := HC1.out.cell 0
  have d1 : w1.cell? ⟨w.heap.size, 1, none⟩ = some (.slice G ng cg) := HC1.out.cell 1
  clear hb1 c0 c1
  obtain ⟨X, hX⟩ : ∃ X, checkE m = X := ⟨_, rfl⟩
  rw [hX] at HP HNT ⊢
  clear hX
  by_cases hc : X = 0
  rotate_left
  · have HV := Lib.hid (HP.out.1 hc)
    go_wp2_with fail
    go_ret
    exact ⟨by rw [HV.out]; rfl, HB1.out⟩
  have HP2 := Lib.hid (HP.out.2.1 hc)
  have HP3 := Lib.hid (HP.out.2.2.1 hc)
  have HP4 := Lib.hid (HP.out.2.2.2 hc)
  have HNN := Lib.hid (HNT.out hc)
  subst hc
  clear HP HNT HCK
  go_wp2_with fail
  clear hW0
  refine (HFF.out w1 HB1.out mainN).mono ?_
  rintro r w2 ⟨rfl, hb2⟩
  have HC2 := Lib.hid (HC1.out.next hb2)
  have HB2 := Lib.hid (bthen HB1.out hb2)
  have e0 : w2.cell? ⟨w.heap.size, 0, none⟩ = some (.slice F nf cf) := HC2.out.cell 0
  have e1 : w2.cell? ⟨w.heap.size, 1, none⟩ = some (.slice G ng cg) := HC2.out.cell 1
  clear hb2 d0 d1 HCB HB0 HC1 HB1
  rcases idx_find (fun f : Fn => f.s) m.f mainN with ⟨hf, hj⟩ | ⟨j, hj, hf, hi⟩
  · rw [hj]
    have HV := Lib.hid (HP2.out (by unfold mainR fnOf; rw [hf]))
    clear hf hj
    go_wp2_with fail
    go_ret
    exact ⟨by rw [HV.out]; rfl, HB2.out⟩
  rw [hi]
  have hmr : mainR m = (decide (0 < m.f[j].l.length) && m.f[j].p == 0) := by unfold mainR fnOf; rw [hf]
  have hbl9 := HBL.out _ (List.getElem_mem hj)
  obtain ⟨b1, off, hA1, hbl, -, -, s2, C, ca, s3, -⟩ := RowOf.at_ (HSS.out.next HB2.out).1 hj
  obtain ⟨nl, hnl⟩ : ∃ q, m.f[j].l.length = q := ⟨_, rfl⟩
  obtain ⟨pp, hpp⟩ : ∃ q, m.f[j].p = q := ⟨_, rfl⟩
  rw [hnl, hpp] at hmr
  rw [hnl] at s3 hbl9
  rw [hpp] at s2
  have HMR := Lib.hid hmr
  have q0 : (0 : Int) ≤ (j : Int) := Int.natCast_nonneg _
  have q1 : (j : Int) < (nf : Int) := by have := HNF.out; omega
  have q2 : (nl : Int) ≤ 1048576 := by omega
  have HF := Lib.hid (show F = some ⟨b1, off, none⟩ from hA1)
  subst hA1
  clear hf hi hmr hj hbl hnl hpp hbl9
  by_cases hl0 : nl = 0
  · have HV := Lib.hid (HP2.out (by rw [HMR.out, hl0]; rfl))
    subst hl0
    go_wp2_with fail
    go_ret
    exact ⟨by rw [HV.out]; rfl, HB2.out⟩
  have e8 : ((nl : Int) == 0) = false := by simp; omega
  have e7 : decide ((j : Int) < 0) = false := by simp
  by_cases hp0 : pp = 0
  rotate_left
  · have HV := Lib.hid (HP2.out (by rw [HMR.out]; simp [hp0]))
    have e9 : (pp != 0) = true := by simpa using hp0
    go_wp2_with fail
    go_ret
    exact ⟨by rw [HV.out]; rfl, HB2.out⟩
  have HM := Lib.hid (show mainR m = true by rw [HMR.out]; simp [hp0]; omega)
  subst hp0
  clear HMR HP2
  go_wp2_with fail
  go_loopw [5] (fun iv wi => ∃ i : Nat, i ≤ nf ∧ iv = .int .i64 i ∧ (∀ t (ht : t < m.f.length), t < i → ∀ n ∈ refsL m.f[t], nameOk m n = true) ∧ Below w2.heap.size w2 wi) (fun iv _ => nf - (intOf iv).toNat)
  case atStart => exact ⟨0, Nat.zero_le _, rfl, fun t _ h => by omega, Below.refl _ _⟩
  case round =>
    obtain ⟨i, hi, rfl, ht, hb⟩ := hrel
    have HT := Lib.hid ht
    have HBI := Lib.hid hb
    have HCI := Lib.hid (HC2.out.next hb)
    have f0 : wr.cell? ⟨w.heap.size, 0, none⟩ = some (.slice (some ⟨b1, off, none⟩) nf cf) := HCI.out.cell 0
    have f1 : wr.cell? ⟨w.heap.size, 1, none⟩ = some (.slice G ng cg) := HCI.out.cell 1
    clear ht hb
    by_cases hlt : i < nf
    · have hm : i < m.f.length := by have := HNF.out; omega
      obtain ⟨b2, off2, hA2, hbl2, s0, s1, s2', C2, ca2, s3', hblk⟩ := RowOf.at_ (HSS.out.next (bthen HB2.out HBI.out)).1 hm
      obtain ⟨rfl, rfl⟩ : b1 = b2 ∧ off = off2 := by simpa using hA2
      have hdk := HDK.out _ (List.getElem_mem hm)
      have hnn := HNN.out _ (List.getElem_mem hm)
      have hmem := List.getElem_mem hm
      have HTS := Lib.hid (show (∀ n ∈ refsL m.f[i], nameOk m n = true) → ∀ t (ht : t < m.f.length), t < i + 1 → ∀ n ∈ refsL m.f[t], nameOk m n = true from fun h t ht hti => by
        by_cases e : t = i
        · subst e; exact h
        · exact HT.out t ht (by omega))
      obtain ⟨f, hf⟩ : ∃ f, m.f[i] = f := ⟨_, rfl⟩
      rw [hf] at s0 s1 s2' s3' hblk hdk hnn hmem HTS
      obtain ⟨nl2, hnl2⟩ : ∃ q, f.l.length = q := ⟨_, rfl⟩
      rw [hnl2] at s3' hblk
      have HRF := Lib.hid (refRefs_any f C2 nl2 ca2 wr hnl2 hdk.1 (by omega) hblk)
      have hll : (refsL f).length ≤ 1048576 := Nat.le_trans (refs_len f) hdk.2
      have HBAD := Lib.hid (show (∃ n ∈ refsL f, nameOk m n = false) → V = 8 from fun ⟨n, hn, e⟩ => HP3.out HM.out ⟨f, hmem, n, hn, e⟩)
      obtain ⟨L, hL⟩ : ∃ L, refsL f = L := ⟨_, rfl⟩
      rw [hL] at HRF HTS hnn hll HBAD
      have HNL := Lib.hid hnn
      obtain ⟨nL, hnL⟩ : ∃ q, L.length = q := ⟨_, rfl⟩
      have HLL := Lib.hid (show L.length ≤ nL ∧ nL ≤ L.length ∧ nL ≤ 1048576 by omega)
      have HLT := Lib.hid hlt
      have r0 : (0 : Int) ≤ (i : Int) := Int.natCast_nonneg _
      have r1 : (i : Int) < (nf : Int) := by omega
      have n3 : (nL : Int) ≤ 1048576 := by omega
      clear hdk hnn hmem hf hnl2 hblk hll hL hm hlt hi hbl2 hA2 HT
      go_wp2_with fail
      refine HRF.out.mono ?_
      rintro r w4 ⟨v4, rfl, hs4, hb4⟩
      obtain ⟨A4, c4, hv4⟩ := RowOf.slice hs4
      subst hv4
      rw [hnL] at hs4
      rw [hnL]
      have HS4 := Lib.hid hs4
      have HB4 := Lib.hid (bthen HBI.out hb4)
      clear hs4 hb4 f0 f1 s0 s1 s2' s3' hnL HRF
      go_wp2_with fail
      go_loopw [7] (fun kv wi => ∃ k : Nat, k ≤ nL ∧ kv = .int .i64 k ∧ (∀ t (ht : t < L.length), t < k → nameOk m L[t] = true) ∧ Strs wi (.slice A4 nL c4) L ∧ Below w2.heap.size w2 wi) (fun kv _ => nL - (intOf kv).toNat)
      case atStart => exact ⟨0, Nat.zero_le _, rfl, fun t _ h => by omega, HS4.out, HB4.out⟩
      case round =>
        obtain ⟨k, hk, rfl, ht, hs, hb⟩ := hrel
        have HT := Lib.hid ht
        have HSK := Lib.hid hs
        have HBK := Lib.hid hb
        have HCK := Lib.hid (HC2.out.next hb)
        have f0 : wr.cell? ⟨w.heap.size, 0, none⟩ = some (.slice (some ⟨b1, off, none⟩) nf cf) := HCK.out.cell 0
        have f1 : wr.cell? ⟨w.heap.size, 1, none⟩ = some (.slice G ng cg) := HCK.out.cell 1
        clear ht hs hb
        by_cases hlk : k < nL
        · have hm : k < L.length := by have := HLL.out; omega
          obtain ⟨b3, off3, hA3, hbl3, p0⟩ := RowOf.at_ HSK.out hm
          subst hA3
          have hmem := List.getElem_mem hm
          have HTK := Lib.hid (show nameOk m L[k] = true → ∀ t (ht : t < L.length), t < k + 1 → nameOk m L[t] = true from fun h t ht hti => by
            by_cases e : t = k
            · subst e; exact h
            · exact HT.out t ht (by omega))
          obtain ⟨x, hx⟩ : ∃ x, L[k] = x := ⟨_, rfl⟩
          rw [hx] at p0 hmem HTK
          have p0' : wr.cell? ⟨b3, off3 + k, none⟩ = some (.string x) := by simpa using p0
          have HBX := Lib.hid (show nameOk m x = false → V = 8 from fun h => HBAD.out ⟨x, hmem, h⟩)
          have hxn := HNL.out x hmem
          have hFx := fun (U : World) (hU : Below wr.heap.size wr U) => HFF.out U (bthen (bthen HB2.out HBK.out) hU) x
          have hGx := fun (U : World) (hU : Below wr.heap.size wr U) => HFG.out U (bthen (bthen HB2.out HBK.out) hU) x
          have hcase : ∃ (EF EG : Int), idxE (fIdx (m.f.map (·.s)) x) = EF ∧ idxE (fIdx (m.g.map (·.s)) x) = EG ∧
              ((∃ (jf : Nat) (hjf : jf < m.f.length), EF = (jf : Int) ∧ nameOk m x = decide (0 < m.f[jf].l.length)) ∨ (EF = -1 ∧ ∃ (jg : Nat) (hjg : jg < m.g.length), EG = (jg : Int) ∧ nameOk m x = m.g[jg].h)) := by
            refine ⟨_, _, rfl, rfl, ?_⟩
            rcases idx_find (fun f : Fn => f.s) m.f x with ⟨h1, h2⟩ | ⟨jf, hjf, h1, h2⟩
            · right
              refine ⟨h2, ?_⟩
              rcases idx_find (fun g : Gl => g.s) m.g x with ⟨h3, -⟩ | ⟨jg, hjg, h3, h4⟩
              · exfalso
                rcases List.mem_append.1 hxn with h | h
                · obtain ⟨f', hf', e⟩ := List.mem_map.1 h
                  have := List.find?_eq_none.1 h1 f' hf'
                  rw [e, jba_refl] at this
                  exact this rfl
                · obtain ⟨f', hf', e⟩ := List.mem_map.1 h
                  have := List.find?_eq_none.1 h3 f' hf'
                  rw [e, jba_refl] at this
                  exact this rfl
              · exact ⟨jg, hjg, h4, by unfold nameOk fnOf; rw [h1, h3]⟩
            · exact .inl ⟨jf, hjf, h2, by unfold nameOk fnOf; rw [h1]⟩
          obtain ⟨EF, EG, hEF, hEG, hcase⟩ := hcase
          rw [hEF] at hFx
          rw [hEG] at hGx
          have HFX := Lib.hid hFx
          have HGX := Lib.hid hGx
          have HLK := Lib.hid hlk
          have t0 : (0 : Int) ≤ (k : Int) := Int.natCast_nonneg _
          have t1 : (k : Int) < (nL : Int) := by omega
          have hd : wr.drew.cell? ⟨w.heap.size, 0, none⟩ = some (.slice (some ⟨b1, off, none⟩) nf cf) ∧ wr.drew.cell? ⟨w.heap.size, 1, none⟩ = some (.slice G ng cg) ∧ wr.drew.cell? ⟨b3, off3 + k, none⟩ = some (.string x) ∧ Below wr.heap.size wr wr.drew := ⟨f0, f1, p0', (Below.refl _ _).drew⟩
          clear p0 hmem hx hm hlk hbl3 hk hxn hFx hGx hEF hEG HT
          rcases hcase with ⟨jf, hjf, rfl, hok⟩ | ⟨rfl, jg, hjg, rfl, hok⟩
          · obtain ⟨b5, off5, hA5, hbl5, -, -, -, C5, ca5, s5, -⟩ := RowOf.at_ (HSS.out.next (bthen HB2.out HBK.out)).1 hjf
            obtain ⟨rfl, rfl⟩ : b1 = b5 ∧ off = off5 := by simpa using hA5
            obtain ⟨n5, hn5⟩ : ∃ q, m.f[jf].l.length = q := ⟨_, rfl⟩
            have hn59 := HBL.out _ (List.getElem_mem hjf)
            rw [hn5] at s5 hok hn59
            have HCELL := Lib.hid (fun (U : World) (hU : Below wr.heap.size wr U) => (cellNext hbl5 hU (off + jf * 4 + 3)).trans s5)
            have a0 : (0 : Int) ≤ (jf : Int) := Int.natCast_nonneg _
            have a1 : (jf : Int) < (nf : Int) := by have := HNF.out; omega
            have a3 : decide ((jf : Int) < 0) = false := by simp
            have a4 : (n5 : Int) ≤ 1048576 := by omega
            by_cases h5 : n5 = 0
            · have HV := Lib.hid (HBX.out (by rw [hok, h5]; rfl))
              subst h5
              clear hok hn59 hn5 hA5 hbl5 s5 hjf
              go_upto_region 14 with fail
              go_region_held3 (fun U => U.cell? ⟨w.heap.size, 0, none⟩ = some (.slice (some ⟨b1, off, none⟩) nf cf) ∧ U.cell? ⟨w.heap.size, 1, none⟩ = some (.slice G ng cg) ∧ U.cell? ⟨b3, off3 + k, none⟩ = some (.string x) ∧ Below wr.heap.size wr U) (first | assumption | exact hd | exact ch_next (by assumption) (by assumption))
                (first | (go_at_call 23; refine Calls.mono (HFX.out _ (ch_below (by assumption))) ?_; rintro r wa ⟨rfl, hba⟩))
              all_goals
                have hd2 := ch_drew (w := wr) (by assumption)
                go_upto_region 15 with fail
                go_region_held3 (fun U => U.cell? ⟨w.heap.size, 0, none⟩ = some (.slice (some ⟨b1, off, none⟩) nf cf) ∧ U.cell? ⟨w.heap.size, 1, none⟩ = some (.slice G ng cg) ∧ U.cell? ⟨b3, off3 + k, none⟩ = some (.string x) ∧ Below wr.heap.size wr U) (first | assumption | exact hd2 | exact ch_next (by assumption) (by assumption))
                  (first | (go_at_call 25; refine Calls.mono (HGX.out _ (ch_below (by assumption))) ?_; rintro r wb ⟨rfl, hbb⟩))
                all_goals
                  obtain ⟨u0, u1, u2, hu⟩ := ch_id (w := wr) (by assumption)
                  have HU := Lib.hid hu
                  have v3 := HCELL.out _ hu
                  clear hd hd2 hba hbb f0 f1 p0' hu
                  go_wp2_with fail
                  go_ret
                  exact ⟨by rw [HV.out]; rfl, bthen HB2.out (bthen HBK.out HU.out)⟩
            · have HN := Lib.hid (HTK.out (by rw [hok]; simp; omega))
              have a2 : ((n5 : Int) == 0) = false := by simp; omega
              clear hok hn59 hn5 hA5 hbl5 s5 hjf
              go_upto_region 14 with fail
              go_region_held3 (fun U => U.cell? ⟨w.heap.size, 0, none⟩ = some (.slice (some ⟨b1, off, none⟩) nf cf) ∧ U.cell? ⟨w.heap.size, 1, none⟩ = some (.slice G ng cg) ∧ U.cell? ⟨b3, off3 + k, none⟩ = some (.string x) ∧ Below wr.heap.size wr U) (first | assumption | exact hd | exact ch_next (by assumption) (by assumption))
                (first | (go_at_call 23; refine Calls.mono (HFX.out _ (ch_below (by assumption))) ?_; rintro r wa ⟨rfl, hba⟩))
              all_goals
                have hd2 := ch_drew (w := wr) (by assumption)
                go_upto_region 15 with fail
                go_region_held3 (fun U => U.cell? ⟨w.heap.size, 0, none⟩ = some (.slice (some ⟨b1, off, none⟩) nf cf) ∧ U.cell? ⟨w.heap.size, 1, none⟩ = some (.slice G ng cg) ∧ U.cell? ⟨b3, off3 + k, none⟩ = some (.string x) ∧ Below wr.heap.size wr U) (first | assumption | exact hd2 | exact ch_next (by assumption) (by assumption))
                  (first | (go_at_call 25; refine Calls.mono (HGX.out _ (ch_below (by assumption))) ?_; rintro r wb ⟨rfl, hbb⟩))
                all_goals
                  obtain ⟨u0, u1, u2, hu⟩ := ch_id (w := wr) (by assumption)
                  have HU := Lib.hid hu
                  have v3 := HCELL.out _ hu
                  clear hd hd2 hba hbb f0 f1 p0' hu
                  go_wp2_with fail
                  go_roundw
                  case rel => exact ⟨k + 1, HLK.out, by go_num, HN.out, HSK.out.next HU.out, bthen HBK.out HU.out⟩
                  case measure => have := HLK.out; simp [intOf]; omega
          · obtain ⟨b5, off5, hA5, hbl5, -, -, s5, -⟩ := RowOf.at_ (HSS.out.next (bthen HB2.out HBK.out)).2 hjg
            subst hA5
            obtain ⟨h5, hh5⟩ : ∃ q, m.g[jg].h = q := ⟨_, rfl⟩
            rw [hh5] at s5 hok
            have HCELL := Lib.hid (fun (U : World) (hU : Below wr.heap.size wr U) => (cellNext hbl5 hU (off5 + jg * 4 + 2)).trans s5)
            have a0 : (0 : Int) ≤ (jg : Int) := Int.natCast_nonneg _
            have a1 : (jg : Int) < (ng : Int) := by have := HNG.out; omega
            cases h5 with
            | false =>
              have HV := Lib.hid (HBX.out hok)
              clear hok hh5 hbl5 s5 hjg
              go_upto_region 14 with fail
              go_region_held3 (fun U => U.cell? ⟨w.heap.size, 0, none⟩ = some (.slice (some ⟨b1, off, none⟩) nf cf) ∧ U.cell? ⟨w.heap.size, 1, none⟩ = some (.slice (some ⟨b5, off5, none⟩) ng cg) ∧ U.cell? ⟨b3, off3 + k, none⟩ = some (.string x) ∧ Below wr.heap.size wr U) (first | assumption | exact hd | exact ch_next (by assumption) (by assumption))
                (first | (go_at_call 23; refine Calls.mono (HFX.out _ (ch_below (by assumption))) ?_; rintro r wa ⟨rfl, hba⟩))
              all_goals
                have hd2 := ch_drew (w := wr) (by assumption)
                go_upto_region 15 with fail
                go_region_held3 (fun U => U.cell? ⟨w.heap.size, 0, none⟩ = some (.slice (some ⟨b1, off, none⟩) nf cf) ∧ U.cell? ⟨w.heap.size, 1, none⟩ = some (.slice (some ⟨b5, off5, none⟩) ng cg) ∧ U.cell? ⟨b3, off3 + k, none⟩ = some (.string x) ∧ Below wr.heap.size wr U) (first | assumption | exact hd2 | exact ch_next (by assumption) (by assumption))
                  (first | (go_at_call 25; refine Calls.mono (HGX.out _ (ch_below (by assumption))) ?_; rintro r wb ⟨rfl, hbb⟩))
                all_goals
                  obtain ⟨u0, u1, u2, hu⟩ := ch_id (w := wr) (by assumption)
                  have HU := Lib.hid hu
                  have v3 := HCELL.out _ hu
                  clear hd hd2 hba hbb f0 f1 p0' hu
                  go_wp2_with fail
                  go_ret
                  exact ⟨by rw [HV.out]; rfl, bthen HB2.out (bthen HBK.out HU.out)⟩
            | true =>
              have HN := Lib.hid (HTK.out hok)
              clear hok hh5 hbl5 s5 hjg
              go_upto_region 14 with fail
              go_region_held3 (fun U => U.cell? ⟨w.heap.size, 0, none⟩ = some (.slice (some ⟨b1, off, none⟩) nf cf) ∧ U.cell? ⟨w.heap.size, 1, none⟩ = some (.slice (some ⟨b5, off5, none⟩) ng cg) ∧ U.cell? ⟨b3, off3 + k, none⟩ = some (.string x) ∧ Below wr.heap.size wr U) (first | assumption | exact hd | exact ch_next (by assumption) (by assumption))
                (first | (go_at_call 23; refine Calls.mono (HFX.out _ (ch_below (by assumption))) ?_; rintro r wa ⟨rfl, hba⟩))
              all_goals
                have hd2 := ch_drew (w := wr) (by assumption)
                go_upto_region 15 with fail
                go_region_held3 (fun U => U.cell? ⟨w.heap.size, 0, none⟩ = some (.slice (some ⟨b1, off, none⟩) nf cf) ∧ U.cell? ⟨w.heap.size, 1, none⟩ = some (.slice (some ⟨b5, off5, none⟩) ng cg) ∧ U.cell? ⟨b3, off3 + k, none⟩ = some (.string x) ∧ Below wr.heap.size wr U) (first | assumption | exact hd2 | exact ch_next (by assumption) (by assumption))
                  (first | (go_at_call 25; refine Calls.mono (HGX.out _ (ch_below (by assumption))) ?_; rintro r wb ⟨rfl, hbb⟩))
                all_goals
                  obtain ⟨u0, u1, u2, hu⟩ := ch_id (w := wr) (by assumption)
                  have HU := Lib.hid hu
                  have v3 := HCELL.out _ hu
                  clear hd hd2 hba hbb f0 f1 p0' hu
                  go_wp2_with fail
                  go_roundw
                  case rel => exact ⟨k + 1, HLK.out, by go_num, HN.out, HSK.out.next HU.out, bthen HBK.out HU.out⟩
                  case measure => have := HLK.out; simp [intOf]; omega
        · have hd : decide ((k : Int) < (nL : Int)) = false := by simp; omega
          have HAL := Lib.hid (HTS.out (fun n hn => by
            obtain ⟨t, ht, rfl⟩ := List.getElem_of_mem hn
            exact HT.out t ht (by have := HLL.out; omega)))
          go_wp2_with fail
          go_roundw
          case rel => exact ⟨i + 1, HLT.out, by go_num, HAL.out, HBK.out⟩
          case measure => have := HLT.out; simp [intOf]; omega
    · have hd : decide ((i : Int) < (nf : Int)) = false := by simp; omega
      have HV := Lib.hid (HP4.out HM.out (fun f hf n hn => by
        obtain ⟨t, ht, rfl⟩ := List.getElem_of_mem hf
        exact HT.out t ht (by have := HNF.out; omega) n hn))
      go_wp2_with fail
      go_ret
      exact ⟨by rw [HV.out]; rfl, bthen HB2.out HBI.out⟩
end Go.Proofs.Ytoglmdadpchhoaa
