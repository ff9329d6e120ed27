/- RvPages: memory's pages stay where they are, with what they grant; those that may not be written are as they were. -/
import Derived.Test.YthaieajakdcodaaDoorZSG
import Derived.Test.YthaieajakdcodaaDoorZNG
import Derived.Test.YthaieajakdcodaaDoorZJ
import Derived.Test.YthaieajakdcodaaDoorZH
import Derived.LoopTactic
namespace Go.Proofs.YthaieajakdcodaaDoor
open Go.RowKit

theorem bits_two : ∀ p : Nat, p < 8 → (p : Int) / 2 % 2 = 0 → okBits (p : Int) 2 = false := by
  intro p hp h
  have : p = 0 ∨ p = 1 ∨ p = 2 ∨ p = 3 ∨ p = 4 ∨ p = 5 ∨ p = 6 ∨ p = 7 := by omega
  unfold okBits
  rcases this with rfl | rfl | rfl | rfl | rfl | rfl | rfl | rfl <;> first | (exfalso; omega) | decide +kernel
theorem okp_of {m : List M.Pg} {a N : Int} (h : numErr m a N 2 = 0) {i : Nat} (hi : i < m.length) (hw : Wf m) : 0 ≤ m[i].p ∧ m[i].p ≤ 7 := by
  obtain ⟨n1, n8, hr, hg⟩ := numErr_zero h
  have hR := Right.of hr hw.a0 hw.a1
  have hok := hR.ok m[i] (List.getElem_mem hi)
  simp only [M.okPg, Bool.and_eq_true, decide_eq_true_eq] at hok
  have hperm := hok.2.1
  unfold M.okPerm at hperm
  exact of_decide_eq_true hperm
/-- a page that may not be written holds nothing of what was laid -/
theorem laid_kept {m : List M.Pg} {a N : Int} {l : List UInt8} (h : numErr m a N 2 = 0) (hl : l.length = N.toNat) (a0 : 0 ≤ a) {i : Nat} (hi : i < m.length) (hp : m[i].p / 2 % 2 = 0) (hp0 : 0 ≤ m[i].p) (hw : Wf m) : over m[i] a l = m[i] := by
  obtain ⟨n1, n8, hr, hg⟩ := numErr_zero h
  have hR := Right.of hr hw.a0 hw.a1
  have hok := hR.ok m[i] (List.getElem_mem hi)
  simp only [M.okPg, Bool.and_eq_true, decide_eq_true_eq] at hok
  obtain ⟨h256, hperm, hsz⟩ := hok
  refine over_out hsz fun j hj hin => ?_
  obtain ⟨K, rfl⟩ := Int.eq_ofNat_of_zero_le (show 0 ≤ N by omega)
  obtain ⟨t, ht⟩ := Int.eq_ofNat_of_zero_le (show 0 ≤ m[i].a + j - a by omega)
  have h1 := (all_places a0 (show 1 ≤ K by omega)).1 hg t (by rw [hl] at hin; omega)
  unfold placeB at h1
  simp only [Bool.and_eq_true, decide_eq_true_eq] at h1
  have h2 := h1.2
  rw [show a + (t : Int) - (a + (t : Int)) % 256 = m[i].a by omega] at h2
  unfold grantB at h2
  obtain ⟨g1, g2⟩ := low_at hR hi
  rw [g1, g2, List.getElem?_eq_getElem hi] at h2
  have h3 : okBits m[i].p 2 = true := by simpa using h2
  obtain ⟨p, hpp⟩ := Int.eq_ofNat_of_zero_le hp0
  have hp7 : m[i].p ≤ 7 := by
    exact (okp_of h hi hw).2
  rw [hpp] at h3 hp hp7
  rw [bits_two p (by omega) hp] at h3
  cases h3
theorem pages_facts {k : Mc} {m : List M.Pg} (hB : MB k m) : (stepR k m).2.length = m.length ∧ ∀ i (h : i < m.length) (h' : i < (stepR k m).2.length), (stepR k m).2[i].a = m[i].a ∧ (stepR k m).2[i].p = m[i].p ∧ ((stepR k m).2[i].d = m[i].d ∨ (m[i].p = 2 ∨ m[i].p = 3 ∨ m[i].p = 6 ∨ m[i].p = 7)) := by
  have G : (stepR k m).2 = m ∨ ∃ a N v, 0 ≤ a ∧ numErr m a N 2 = 0 ∧ (stepR k m).2 = laid m a (M.lowest v N.toNat) := by
    rcases stepR_cases k m with ⟨_, h⟩ | ⟨_, h | h⟩
    · rw [h]; exact .inl rfl
    · rw [h]; exact .inl rfl
    · rcases h.m with h | ⟨a, N, v, a0, h1, h2⟩
      · exact .inl h
      · exact .inr ⟨a, N, v, a0, h1, h2⟩
  rcases G with h | ⟨a, N, v, a0, h1, h2⟩
  · obtain ⟨r, hr⟩ : ∃ r, (stepR k m).2 = r := ⟨_, rfl⟩
    rw [hr] at h
    subst h
    refine ⟨by rw [hr], fun i h h' => ?_⟩
    simp only [hr]
    exact ⟨trivial, trivial, .inl trivial⟩
  · obtain ⟨r, hr⟩ : ∃ r, (stepR k m).2 = r := ⟨_, rfl⟩
    rw [hr] at h2
    subst h2
    refine ⟨by rw [hr, laid_length], fun i h h' => ?_⟩
    simp only [hr]
    have e : (laid m a (M.lowest v N.toNat))[i]'(by rw [laid_length]; exact h) = over m[i] a (M.lowest v N.toNat) := by unfold laid; rw [List.getElem_map]
    rw [e]
    refine ⟨rfl, rfl, ?_⟩
    by_cases hp : m[i].p / 2 % 2 = 0
    · left
      rw [laid_kept h1 (M.lowest_length _ _) a0 h hp (okp_of h1 h hB.wf).1 hB.wf]
    · right
      obtain ⟨g1, g2⟩ := okp_of h1 h hB.wf
      omega

set_option maxRecDepth 100000 in
set_option maxHeartbeats 16000000 in
theorem pages_no (k : Mc) (m : List M.Pg) (w : World) (hP : Pages w (.slice k.ma k.ml k.mc) m) (hB : MB k m) (ho : k.out.size ≤ 140737488351232) (T : E.Tabs w) (hf : fewB k = false) :
    Calls Tryd.prog 8 #[.agg (mcells k)] w (RetIs (.bool true) w) := by
  have HSH := Lib.hid (fun (W : World) (hb : Below w.heap.size w W) => shown_any W (T.next hb))
  have HT := Lib.hid T
  have HP := Lib.hid hP
  have HL := Lib.hid (law_start k w)
  have HFW := Lib.hid (fun W => few_any k W)
  rw [hf] at HFW
  have HBB := Lib.hid hB
  clear T hP hB ho
  go_enter Tryd.func8, Tryd.ntmps8
  go_wp2_with fail
  obtain ⟨W, hW⟩ : ∃ W, W = (w.alloc (.cells (mcells k) 34)) := ⟨_, rfl⟩
  obtain ⟨hM, hB⟩ := HL.out
  rw [← hW] at hM hB ⊢
  clear hW HL
  refine (HSH.out _ hB).mono ?_
  rintro e w1 ⟨rfl, hb1⟩
  have HM := Lib.hid (hM.next hb1)
  have HB := Lib.hid (bthen hB hb1)
  clear hM hB hb1
  go_wp2_with (refine load_mach rfl _ rfl _ rfl _ HM.out ?_)
  refine (HFW.out _).mono ?_
  rintro e w2 ⟨rfl, hb2⟩
  have HM := Lib.hid (HM.out.next hb2)
  have HB := Lib.hid (bthen HB.out hb2)
  clear hb2
  go_wp2_with fail
  go_ret
  exact ⟨rfl, HB.out⟩
set_option maxRecDepth 100000 in
set_option maxHeartbeats 16000000 in
theorem pages_walk (k : Mc) (m : List M.Pg) (w : World) (hP : Pages w (.slice k.ma k.ml k.mc) m) (hB : MB k m) (ho : k.out.size ≤ 140737488351232) (T : E.Tabs w) (hf : fewB k = true) :
    Calls Tryd.prog 8 #[.agg (mcells k)] w (RetIs (.bool true) w) := by
  have HSH := Lib.hid (fun (W : World) (hb : Below w.heap.size w W) => shown_any W (T.next hb))
  have HT := Lib.hid T
  have HP := Lib.hid hP
  have HL := Lib.hid (law_start k w)
  have HFW := Lib.hid (fun W => few_any k W)
  have HF := Lib.hid (fit_of hB ho hf)
  have HLN := Lib.hid (few_len hB hf)
  rw [hf] at HFW
  have HBB := Lib.hid hB
  clear T hP hB ho
  go_enter Tryd.func8, Tryd.ntmps8
  go_wp2_with fail
  obtain ⟨W, hW⟩ : ∃ W, W = (w.alloc (.cells (mcells k) 34)) := ⟨_, rfl⟩
  obtain ⟨hM, hB⟩ := HL.out
  rw [← hW] at hM hB ⊢
  clear hW HL
  refine (HSH.out _ hB).mono ?_
  rintro e w1 ⟨rfl, hb1⟩
  have HM := Lib.hid (hM.next hb1)
  have HB := Lib.hid (bthen hB hb1)
  clear hM hB hb1
  go_wp2_with (refine load_mach rfl _ rfl _ rfl _ HM.out ?_)
  refine (HFW.out _).mono ?_
  rintro e w2 ⟨rfl, hb2⟩
  have HM := Lib.hid (HM.out.next hb2)
  have HB := Lib.hid (bthen HB.out hb2)
  clear hb2
  go_wp2_with (refine load_mach rfl _ rfl _ rfl _ HM.out ?_)
  refine (Step_any k m _ (HP.out.next HB.out) HF.out (HT.out.next HB.out)).mono ?_
  rintro e w3 ⟨A, l, c, rfl, hp3, hb3⟩
  obtain ⟨K, hK⟩ : ∃ K, (stepR k m).1 = K := ⟨_, rfl⟩
  obtain ⟨m2, hm2⟩ : ∃ m2, (stepR k m).2 = m2 := ⟨_, rfl⟩
  rw [hm2] at hp3
  rw [hK]
  have HK := Lib.hid hK
  have HM2 := Lib.hid hm2
  obtain ⟨k2, hk2⟩ : ∃ k2, { K with ma := A, ml := l, mc := c } = k2 := ⟨_, rfl⟩
  rw [hk2]
  have HK2 := Lib.hid hk2
  have hp3' : Pages w3 (.slice k2.ma k2.ml k2.mc) m2 := by rw [← hk2]; exact hp3
  have z3 : w.heap.size < w3.heap.size := (HM.out.next hb3).lt
  have HU := Lib.hid (Mach.new w3 zeroMc)
  have HN := Lib.hid (HU.out.row k2)
  have HM := Lib.hid (((HM.out.next hb3).alloc (.cells (mcells zeroMc) 34)).rowOther (B' := w3.heap.size) (mcells k2) (by omega))
  have HB := Lib.hid (below_row (balloc (bthen HB.out hb3) (.cells (mcells zeroMc) 34)) (B := w3.heap.size) (mcells k2) (by omega))
  have HQ := Lib.hid (pages_keepM (hp3'.next (balloc (Below.refl _ _) (.cells (mcells zeroMc) 34))) HU.out (grownBy_row _ _ (mcells k2)))
  obtain ⟨V, hV⟩ : ∃ V, (w3.alloc (.cells (mcells zeroMc) 34)).setRow w3.heap.size (mcells k2) = V := ⟨_, rfl⟩
  rw [hV] at HM HN HB HQ
  have HV := Lib.hid hV
  obtain ⟨nv, hnv⟩ : ∃ n, w3.heap.size = n := ⟨_, rfl⟩
  rw [hnv] at z3 HN
  have HNV := Lib.hid hnv
  have hbk : w.heap.size ≠ nv := by omega
  clear hp3 hp3' hb3 hK hm2 hk2 hV hnv
  have hpf := pages_facts HBB.out
  rw [HM2.out] at hpf
  have HPF := Lib.hid hpf
  have HLE := Lib.hid (show k2.ml = k.ml by
    obtain ⟨A', c', e⟩ := HQ.out.slice
    rw [(Value.slice.inj e).2.1, HBB.out.ml]
    exact hpf.1)
  obtain ⟨-, -, m33, -, -, -, -, -, mf⟩ := HM.out.cells
  obtain ⟨-, -, n33, -, -, -, -, -, nf⟩ := HN.out.cells
  rw [HLE.out] at n33
  have hp := HP.out.next HB.out
  have HPV := Lib.hid hp
  clear hpf hp
  go_wp2_with (first
    | (refine alloc_mach rfl rfl ?_)
    | (refine store_mach rfl _ _ rfl _ _ rfl rfl _ HU.out ?_; rw [HV.out, HNV.out]))
  clear m33 n33 mf nf
  go_loopw [6] (fun i wr => ∃ j : Nat, j ≤ k.ml ∧ i = .int .i64 j ∧ Below V.heap.size V wr) (fun i _ => k.ml - (intOf i).toNat)
  case atStart => exact ⟨0, by omega, rfl, Below.refl _ _⟩
  case round =>
    obtain ⟨j, hj, rfl, hb⟩ := hrel
    have HBV := Lib.hid hb
    have hmr := HM.out.next hb
    have hnr := HN.out.next hb
    obtain ⟨-, -, m33, -, -, -, -, -, mf⟩ := hmr.cells
    obtain ⟨-, -, n33, -, -, -, -, -, nf⟩ := hnr.cells
    rw [HLE.out] at n33
    by_cases hlt : j < k.ml
    · have hl1 : m.length = k.ml := HBB.out.ml.symm
      have hl2 : m2.length = k.ml := by rw [HPF.out.1, hl1]
      rcases HPV.out.next hb with ⟨e, -⟩ | ⟨-, b, off, cap, hv, hpi⟩
      · rw [e] at hl1; exact absurd hl1 (by simp; omega)
      rcases HQ.out.next hb with ⟨e, -⟩ | ⟨-, b2, off2, cap2, hv2, hpi2⟩
      · rw [e] at hl2; exact absurd hl2 (by simp; omega)
      obtain ⟨p0, p1, p2⟩ := hpi.2 j (by omega)
      obtain ⟨q0, q1, q2⟩ := hpi2.2 j (by omega)
      obtain ⟨f0, f1, f2⟩ := HPF.out.2 j (by omega) (by omega)
      rw [f0] at q0
      rw [f1] at q1
      have hma : k.ma = some ⟨b, off, none⟩ := (Value.slice.inj hv).1
      have hma2 : k2.ma = some ⟨b2, off2, none⟩ := (Value.slice.inj hv2).1
      rw [hma] at m33
      rw [hma2] at n33
      have i0 : (0 : Int) ≤ (j : Int) := by omega
      have i1 : (j : Int) < (k.ml : Int) := by omega
      have HJL := Lib.hid hlt
      have hj70 : (j : Int) < 70 := by have := HLN.out; omega
      obtain ⟨nl, hnl⟩ : ∃ n, k.ml = n := ⟨_, rfl⟩
      obtain ⟨pg, hpg⟩ : ∃ q, m[j]'(by omega) = q := ⟨_, rfl⟩
      obtain ⟨pg2, hpg2⟩ : ∃ q, m2[j]'(by omega) = q := ⟨_, rfl⟩
      rw [hpg] at p0 p1 p2 f2 q0 q1
      rw [hpg2] at q2 f2
      rw [hnl] at m33 n33 i1 hlt
      obtain ⟨pa, pp, pd⟩ := pg
      obtain ⟨pa2, pp2, pd2⟩ := pg2
      simp only at p0 p1 p2 q0 q1 q2 f2
      clear hb hmr hnr hl1 hl2 hv hv2 hpi hpi2 f0 f1 hma hma2 hpg hpg2
      have HJM := Lib.hid hlt
      have HNL := Lib.hid hnl
      obtain ⟨D, hD⟩ : ∃ D, IntKind.i64.wrap (pp.tdiv 2) = D := ⟨_, rfl⟩
      obtain ⟨R, hR⟩ : ∃ R, D.tmod 2 = R := ⟨_, rfl⟩
      by_cases hC : R = 0
      · rcases f2 with rfl | f2
        · have hCC : (R == 0) = true := by simpa using hC
          clear hC hlt
          by_cases hD0 : 0 ≤ pp
          · go_wp2_with fail
            go_quiet (fail)
            have HBD := Lib.hid (HBV.out.trans ((below_drewN wr nq).mono HBV.out.size))
            clear p0 p1 p2 q0 q1 q2
            generalize wr.drewN nq = wd at *
            go_wp2_with fail
            go_roundw
            case rel => exact ⟨j + 1, by have := HJL.out; omega, by go_num, HBD.out⟩
            case measure => have := HJL.out; first | (simp [intOf]; omega) | (go_num; omega)
          · have hD1 : decide (0 ≤ pp) = false := by simp; omega
            clear hD0
            go_wp2_with fail
            go_quiet (fail)
            have HBD := Lib.hid (HBV.out.trans ((below_drewN wr nq).mono HBV.out.size))
            clear p0 p1 p2 q0 q1 q2
            generalize wr.drewN nq = wd at *
            go_wp2_with fail
            go_roundw
            case rel => exact ⟨j + 1, by have := HJL.out; omega, by go_num, HBD.out⟩
            case measure => have := HJL.out; first | (simp [intOf]; omega) | (go_num; omega)
        · exfalso
          rw [← hD] at hR
          rw [← hR] at hC
          rcases f2 with rfl | rfl | rfl | rfl <;> exact absurd hC (by decide)
      · clear f2 hlt
        have hCC : (R == 0) = false := by simpa using hC
        clear hC
        go_wp2_with fail
        go_quiet (fail)
        have HBD := Lib.hid (HBV.out.trans ((below_drewN wr nq).mono HBV.out.size))
        clear p0 p1 p2 q0 q1 q2
        generalize wr.drewN nq = wd at *
        go_wp2_with fail
        go_roundw
        case rel => exact ⟨j + 1, by have := HJL.out; omega, by go_num, HBD.out⟩
        case measure => have := HJL.out; first | (simp [intOf]; omega) | (go_num; omega)
    · obtain rfl : j = k.ml := by omega
      clear hb hmr hnr hj hlt
      go_wp2_with fail
      go_ret
      exact ⟨rfl, bthen HB.out HBV.out⟩
theorem pages_all (k : Mc) (m : List M.Pg) (w : World) (hP : Pages w (.slice k.ma k.ml k.mc) m) (hB : MB k m) (ho : k.out.size ≤ 140737488351232) (T : E.Tabs w) :
    Calls Tryd.prog 8 #[.agg (mcells k)] w (RetIs (.bool true) w) := by
  cases hf : fewB k with
  | false => exact pages_no k m w hP hB ho T hf
  | true => exact pages_walk k m w hP hB ho T hf
end Go.Proofs.YthaieajakdcodaaDoor
