/- RvTraps: where a step traps, nothing but that, and the count of steps, changes. -/
import Derived.Test.YthaieajakdcodaaDoorZSG
import Derived.Test.YthaieajakdcodaaDoorZNG
namespace Go.Proofs.YthaieajakdcodaaDoor
open Go.RowKit

set_option maxRecDepth 100000 in
set_option maxHeartbeats 2000000 in
theorem traps_no (k : Mc) (m : List M.Pg) (w : World) (hP : Pages w (.slice k.ma k.ml k.mc) m) (hB : MB k m) (ho : k.out.size ≤ 140737488351232) (T : E.Tabs w) (hf : fewB k = false) :
    Calls Tryd.prog 9 #[.agg (mcells k)] w (RetIs (.bool true) w) := by
  have HSH := Lib.hid (fun (W : World) (hb : Below w.heap.size w W) => shown_any W (T.next hb))
  have HT := Lib.hid T
  have HP := Lib.hid hP
  have HL := Lib.hid (law_start k w)
  have HFW := Lib.hid (fun W => few_any k W)
  rw [hf] at HFW
  clear T hP hB ho
  go_enter Tryd.func9, Tryd.ntmps9
  go_wp2_with fail
  obtain ⟨W, hW⟩ : ∃ W, W = (w.alloc (.cells (mcells k) 34)) := ⟨_, rfl⟩
  obtain ⟨hM, hB⟩ := HL.out
  rw [← hW] at hM hB ⊢
  clear hW HL
  refine (HSH.out _ hB).mono ?_
  rintro e w1 ⟨rfl, hb1⟩
  have HM := Lib.hid (hM.next hb1)
  have HB := Lib.hid (bthen hB hb1)
  clear hM hB hb1
  go_wp2_with (refine load_mach rfl _ rfl _ rfl _ HM.out ?_)
  refine (HFW.out _).mono ?_
  rintro e w2 ⟨rfl, hb2⟩
  have HM := Lib.hid (HM.out.next hb2)
  have HB := Lib.hid (bthen HB.out hb2)
  clear hb2
  go_wp2_with fail
  go_ret
  exact ⟨rfl, HB.out⟩
set_option maxRecDepth 100000 in
set_option maxHeartbeats 2000000 in
theorem traps_a_walk (k : Mc) (m : List M.Pg) (w : World) (hP : Pages w (.slice k.ma k.ml k.mc) m) (hB : MB k m) (ho : k.out.size ≤ 140737488351232) (T : E.Tabs w) (hf : fewB k = true) (hc : k.st ≠ 0) :
    Calls Tryd.prog 9 #[.agg (mcells k)] w (RetIs (.bool true) w) := by
  have HSH := Lib.hid (fun (W : World) (hb : Below w.heap.size w W) => shown_any W (T.next hb))
  have HT := Lib.hid T
  have HP := Lib.hid hP
  have HL := Lib.hid (law_start k w)
  have HFW := Lib.hid (fun W => few_any k W)
  have HF := Lib.hid (fit_of hB ho hf)
  have HLN := Lib.hid (few_len hB hf)
  rw [hf] at HFW
  have HC := Lib.hid hc
  clear T hP hB ho hc
  go_enter Tryd.func9, Tryd.ntmps9
  go_wp2_with fail
  obtain ⟨W, hW⟩ : ∃ W, W = (w.alloc (.cells (mcells k) 34)) := ⟨_, rfl⟩
  obtain ⟨hM, hB⟩ := HL.out
  rw [← hW] at hM hB ⊢
  clear hW HL
  refine (HSH.out _ hB).mono ?_
  rintro e w1 ⟨rfl, hb1⟩
  have HM := Lib.hid (hM.next hb1)
  have HB := Lib.hid (bthen hB hb1)
  clear hM hB hb1
  go_wp2_with (refine load_mach rfl _ rfl _ rfl _ HM.out ?_)
  refine (HFW.out _).mono ?_
  rintro e w2 ⟨rfl, hb2⟩
  have HM := Lib.hid (HM.out.next hb2)
  have HB := Lib.hid (bthen HB.out hb2)
  clear hb2
  go_wp2_with (refine load_mach rfl _ rfl _ rfl _ HM.out ?_)
  refine (Step_any k m _ (HP.out.next HB.out) HF.out (HT.out.next HB.out)).mono ?_
  rintro e w3 ⟨A, l, c, rfl, hp3, hb3⟩
  obtain ⟨K, hK⟩ : ∃ K, (stepR k m).1 = K := ⟨_, rfl⟩
  obtain ⟨m2, hm2⟩ : ∃ m2, (stepR k m).2 = m2 := ⟨_, rfl⟩
  rw [hm2] at hp3
  rw [hK]
  have HK := Lib.hid hK
  have HM2 := Lib.hid hm2
  obtain ⟨k2, hk2⟩ : ∃ k2, { K with ma := A, ml := l, mc := c } = k2 := ⟨_, rfl⟩
  rw [hk2]
  have HK2 := Lib.hid hk2
  have hp3' : Pages w3 (.slice k2.ma k2.ml k2.mc) m2 := by rw [← hk2]; exact hp3
  have z3 : w.heap.size < w3.heap.size := (HM.out.next hb3).lt
  have HU := Lib.hid (Mach.new w3 zeroMc)
  have HN := Lib.hid (HU.out.row k2)
  have HM := Lib.hid (((HM.out.next hb3).alloc (.cells (mcells zeroMc) 34)).rowOther (B' := w3.heap.size) (mcells k2) (by omega))
  have HB := Lib.hid (below_row (balloc (bthen HB.out hb3) (.cells (mcells zeroMc) 34)) (B := w3.heap.size) (mcells k2) (by omega))
  have HQ := Lib.hid (pages_keepM (hp3'.next (balloc (Below.refl _ _) (.cells (mcells zeroMc) 34))) HU.out (grownBy_row _ _ (mcells k2)))
  obtain ⟨V, hV⟩ : ∃ V, (w3.alloc (.cells (mcells zeroMc) 34)).setRow w3.heap.size (mcells k2) = V := ⟨_, rfl⟩
  rw [hV] at HM HN HB HQ
  have HV := Lib.hid hV
  obtain ⟨nv, hnv⟩ : ∃ n, w3.heap.size = n := ⟨_, rfl⟩
  rw [hnv] at z3 HN
  have HNV := Lib.hid hnv
  have hbk : w.heap.size ≠ nv := by omega
  clear hp3 hp3' hb3 hK hm2 hk2 hV hnv
  obtain ⟨mx, m32, m33, m34, m35, m36, m37, m38, mf⟩ := HM.out.cells
  obtain ⟨nx, n32, n33, n34, n35, n36, n37, n38, nf⟩ := HN.out.cells
  have hst2 : k2.st = K.st := by rw [← HK2.out]
  have hn2 : k2.n = K.n := by rw [← HK2.out]
  rw [hst2] at n36
  rw [hn2] at n38
  have hk := HC.out
  clear mx nx m32 m33 m34 m35 m37 n32 n33 n34 n35 n37 hst2 hn2
  have t0 : (k.st != 0) = true := by simpa using hk
  clear hk
  go_wp2_with (first
    | (refine alloc_mach rfl rfl ?_)
    | (refine store_mach rfl _ _ rfl _ _ rfl rfl _ HU.out ?_; rw [HV.out, HNV.out]))
  go_ret
  exact ⟨rfl, HB.out⟩
set_option maxRecDepth 100000 in
set_option maxHeartbeats 2000000 in
theorem traps_b_walk (k : Mc) (m : List M.Pg) (w : World) (hP : Pages w (.slice k.ma k.ml k.mc) m) (hB : MB k m) (ho : k.out.size ≤ 140737488351232) (T : E.Tabs w) (hf : fewB k = true) (hc : k.st = 0 ∧ (stepR k m).1.st ≠ 2) :
    Calls Tryd.prog 9 #[.agg (mcells k)] w (RetIs (.bool true) w) := by
  have HSH := Lib.hid (fun (W : World) (hb : Below w.heap.size w W) => shown_any W (T.next hb))
  have HT := Lib.hid T
  have HP := Lib.hid hP
  have HL := Lib.hid (law_start k w)
  have HFW := Lib.hid (fun W => few_any k W)
  have HF := Lib.hid (fit_of hB ho hf)
  have HLN := Lib.hid (few_len hB hf)
  rw [hf] at HFW
  have HC := Lib.hid hc
  clear T hP hB ho hc
  go_enter Tryd.func9, Tryd.ntmps9
  go_wp2_with fail
  obtain ⟨W, hW⟩ : ∃ W, W = (w.alloc (.cells (mcells k) 34)) := ⟨_, rfl⟩
  obtain ⟨hM, hB⟩ := HL.out
  rw [← hW] at hM hB ⊢
  clear hW HL
  refine (HSH.out _ hB).mono ?_
  rintro e w1 ⟨rfl, hb1⟩
  have HM := Lib.hid (hM.next hb1)
  have HB := Lib.hid (bthen hB hb1)
  clear hM hB hb1
  go_wp2_with (refine load_mach rfl _ rfl _ rfl _ HM.out ?_)
  refine (HFW.out _).mono ?_
  rintro e w2 ⟨rfl, hb2⟩
  have HM := Lib.hid (HM.out.next hb2)
  have HB := Lib.hid (bthen HB.out hb2)
  clear hb2
  go_wp2_with (refine load_mach rfl _ rfl _ rfl _ HM.out ?_)
  refine (Step_any k m _ (HP.out.next HB.out) HF.out (HT.out.next HB.out)).mono ?_
  rintro e w3 ⟨A, l, c, rfl, hp3, hb3⟩
  obtain ⟨K, hK⟩ : ∃ K, (stepR k m).1 = K := ⟨_, rfl⟩
  obtain ⟨m2, hm2⟩ : ∃ m2, (stepR k m).2 = m2 := ⟨_, rfl⟩
  rw [hm2] at hp3
  rw [hK]
  have HK := Lib.hid hK
  have HM2 := Lib.hid hm2
  obtain ⟨k2, hk2⟩ : ∃ k2, { K with ma := A, ml := l, mc := c } = k2 := ⟨_, rfl⟩
  rw [hk2]
  have HK2 := Lib.hid hk2
  have hp3' : Pages w3 (.slice k2.ma k2.ml k2.mc) m2 := by rw [← hk2]; exact hp3
  have z3 : w.heap.size < w3.heap.size := (HM.out.next hb3).lt
  have HU := Lib.hid (Mach.new w3 zeroMc)
  have HN := Lib.hid (HU.out.row k2)
  have HM := Lib.hid (((HM.out.next hb3).alloc (.cells (mcells zeroMc) 34)).rowOther (B' := w3.heap.size) (mcells k2) (by omega))
  have HB := Lib.hid (below_row (balloc (bthen HB.out hb3) (.cells (mcells zeroMc) 34)) (B := w3.heap.size) (mcells k2) (by omega))
  have HQ := Lib.hid (pages_keepM (hp3'.next (balloc (Below.refl _ _) (.cells (mcells zeroMc) 34))) HU.out (grownBy_row _ _ (mcells k2)))
  obtain ⟨V, hV⟩ : ∃ V, (w3.alloc (.cells (mcells zeroMc) 34)).setRow w3.heap.size (mcells k2) = V := ⟨_, rfl⟩
  rw [hV] at HM HN HB HQ
  have HV := Lib.hid hV
  obtain ⟨nv, hnv⟩ : ∃ n, w3.heap.size = n := ⟨_, rfl⟩
  rw [hnv] at z3 HN
  have HNV := Lib.hid hnv
  have hbk : w.heap.size ≠ nv := by omega
  clear hp3 hp3' hb3 hK hm2 hk2 hV hnv
  obtain ⟨mx, m32, m33, m34, m35, m36, m37, m38, mf⟩ := HM.out.cells
  obtain ⟨nx, n32, n33, n34, n35, n36, n37, n38, nf⟩ := HN.out.cells
  have hst2 : k2.st = K.st := by rw [← HK2.out]
  have hn2 : k2.n = K.n := by rw [← HK2.out]
  rw [hst2] at n36
  rw [hn2] at n38
  have hk := HC.out
  clear mx nx m32 m33 m34 m35 m37 n32 n33 n34 n35 n37 hst2 hn2
  rw [HK.out] at hk
  have t1 : (K.st != 2) = true := by simpa using hk.2
  rw [hk.1] at m36
  clear hk
  go_wp2_with (first
    | (refine alloc_mach rfl rfl ?_)
    | (refine store_mach rfl _ _ rfl _ _ rfl rfl _ HU.out ?_; rw [HV.out, HNV.out]))
  go_ret
  exact ⟨rfl, HB.out⟩
set_option maxRecDepth 100000 in
set_option maxHeartbeats 2000000 in
theorem traps_c_walk (k : Mc) (m : List M.Pg) (w : World) (hP : Pages w (.slice k.ma k.ml k.mc) m) (hB : MB k m) (ho : k.out.size ≤ 140737488351232) (T : E.Tabs w) (hf : fewB k = true) (hc : k.st = 0 ∧ stepR k m = (trapM k, m)) :
    Calls Tryd.prog 9 #[.agg (mcells k)] w (RetIs (.bool true) w) := by
  have HSH := Lib.hid (fun (W : World) (hb : Below w.heap.size w W) => shown_any W (T.next hb))
  have HT := Lib.hid T
  have HP := Lib.hid hP
  have HL := Lib.hid (law_start k w)
  have HFW := Lib.hid (fun W => few_any k W)
  have HF := Lib.hid (fit_of hB ho hf)
  have HLN := Lib.hid (few_len hB hf)
  rw [hf] at HFW
  have HC := Lib.hid hc
  clear T hP hB ho hc
  go_enter Tryd.func9, Tryd.ntmps9
  go_wp2_with fail
  obtain ⟨W, hW⟩ : ∃ W, W = (w.alloc (.cells (mcells k) 34)) := ⟨_, rfl⟩
  obtain ⟨hM, hB⟩ := HL.out
  rw [← hW] at hM hB ⊢
  clear hW HL
  refine (HSH.out _ hB).mono ?_
  rintro e w1 ⟨rfl, hb1⟩
  have HM := Lib.hid (hM.next hb1)
  have HB := Lib.hid (bthen hB hb1)
  clear hM hB hb1
  go_wp2_with (refine load_mach rfl _ rfl _ rfl _ HM.out ?_)
  refine (HFW.out _).mono ?_
  rintro e w2 ⟨rfl, hb2⟩
  have HM := Lib.hid (HM.out.next hb2)
  have HB := Lib.hid (bthen HB.out hb2)
  clear hb2
  go_wp2_with (refine load_mach rfl _ rfl _ rfl _ HM.out ?_)
  refine (Step_any k m _ (HP.out.next HB.out) HF.out (HT.out.next HB.out)).mono ?_
  rintro e w3 ⟨A, l, c, rfl, hp3, hb3⟩
  obtain ⟨K, hK⟩ : ∃ K, (stepR k m).1 = K := ⟨_, rfl⟩
  obtain ⟨m2, hm2⟩ : ∃ m2, (stepR k m).2 = m2 := ⟨_, rfl⟩
  rw [hm2] at hp3
  rw [hK]
  have HK := Lib.hid hK
  have HM2 := Lib.hid hm2
  obtain ⟨k2, hk2⟩ : ∃ k2, { K with ma := A, ml := l, mc := c } = k2 := ⟨_, rfl⟩
  rw [hk2]
  have HK2 := Lib.hid hk2
  have hp3' : Pages w3 (.slice k2.ma k2.ml k2.mc) m2 := by rw [← hk2]; exact hp3
  have z3 : w.heap.size < w3.heap.size := (HM.out.next hb3).lt
  have HU := Lib.hid (Mach.new w3 zeroMc)
  have HN := Lib.hid (HU.out.row k2)
  have HM := Lib.hid (((HM.out.next hb3).alloc (.cells (mcells zeroMc) 34)).rowOther (B' := w3.heap.size) (mcells k2) (by omega))
  have HB := Lib.hid (below_row (balloc (bthen HB.out hb3) (.cells (mcells zeroMc) 34)) (B := w3.heap.size) (mcells k2) (by omega))
  have HQ := Lib.hid (pages_keepM (hp3'.next (balloc (Below.refl _ _) (.cells (mcells zeroMc) 34))) HU.out (grownBy_row _ _ (mcells k2)))
  obtain ⟨V, hV⟩ : ∃ V, (w3.alloc (.cells (mcells zeroMc) 34)).setRow w3.heap.size (mcells k2) = V := ⟨_, rfl⟩
  rw [hV] at HM HN HB HQ
  have HV := Lib.hid hV
  obtain ⟨nv, hnv⟩ : ∃ n, w3.heap.size = n := ⟨_, rfl⟩
  rw [hnv] at z3 HN
  have HNV := Lib.hid hnv
  have hbk : w.heap.size ≠ nv := by omega
  clear hp3 hp3' hb3 hK hm2 hk2 hV hnv
  obtain ⟨mx, m32, m33, m34, m35, m36, m37, m38, mf⟩ := HM.out.cells
  obtain ⟨nx, n32, n33, n34, n35, n36, n37, n38, nf⟩ := HN.out.cells
  have hst2 : k2.st = K.st := by rw [← HK2.out]
  have hn2 : k2.n = K.n := by rw [← HK2.out]
  rw [hst2] at n36
  rw [hn2] at n38
  have hk := HC.out
  clear mx nx m32 m33 m34 m35 m37 n32 n33 n34 n35 n37 hst2 hn2
  have e1 : K = trapM k := by rw [← HK.out, hk.2]
  have e2 : m2 = m := by rw [← HM2.out, hk.2]
  have e3 : K.st = 2 := by rw [e1]; rfl
  rw [hk.1] at m36
  rw [e3] at n36
  have hN1 := Whole.put HN.out 36 (.int .i64 0)
  rw [mcells_set36] at hN1
  have hN2 := Whole.put hN1 38 (.int .u64 k.n)
  rw [mcells_set38] at hN2
  have HN2 := Lib.hid (show Mach ((V.setCell ⟨nv, 36, none⟩ (.int .i64 0)).setCell ⟨nv, 38, none⟩ (.int .u64 k.n)) nv { k2 with st := 0, n := k.n } from hN2)
  have HQ2 := Lib.hid (pages_keepM (pages_keepM HQ.out HN.out (grownBy_put V nv 36 (.int .i64 0))) hN1 (grownBy_put _ nv 38 (.int .u64 k.n)))
  have HM3 := Lib.hid ((HM.out.other ⟨nv, 36, none⟩ (.int .i64 0) (by simpa using hbk)).other ⟨nv, 38, none⟩ (.int .u64 k.n) (by simpa using hbk))
  have HB3 := Lib.hid ((HB.out.setCell (p := ⟨nv, 36, none⟩) (by simp; omega) (.int .i64 0)).setCell (p := ⟨nv, 38, none⟩) (by simp; omega) (.int .u64 k.n))
  have HSM := Lib.hid (show sameMc { k2 with st := 0, n := k.n } k m2 m = true from by
    rw [← HK2.out, e1, e2]
    exact sameMc_true rfl (fun _ _ => rfl) rfl rfl rfl hk.1.symm rfl rfl)
  have HLM := Lib.hid (show m2.length ≤ 1000000 by rw [e2]; have := HLN.out; omega)
  clear hk e1 e2 e3 hN1 hN2
  go_wp2_with (first
    | (refine alloc_mach rfl rfl ?_)
    | (refine store_mach rfl _ _ rfl _ _ rfl rfl _ HU.out ?_; rw [HV.out, HNV.out])
    | (refine load_machG _ rfl _ rfl _ HN2.out (by rfl) ?_)
    | (refine load_machG _ rfl _ rfl _ HM3.out (by rfl) ?_))
  have hs := rsameM_any { k2 with st := 0, n := k.n } k m2 m _ HQ2.out (HP.out.next HB3.out) HLM.out
  rw [HSM.out] at hs
  refine hs.mono ?_
  rintro e w5 ⟨rfl, hb5⟩
  have HB5 := Lib.hid (bthen HB3.out hb5)
  clear hs hb5
  go_wp2_with fail
  go_ret
  exact ⟨rfl, HB5.out⟩
theorem traps_all (k : Mc) (m : List M.Pg) (w : World) (hP : Pages w (.slice k.ma k.ml k.mc) m) (hB : MB k m) (ho : k.out.size ≤ 140737488351232) (T : E.Tabs w) :
    Calls Tryd.prog 9 #[.agg (mcells k)] w (RetIs (.bool true) w) := by
  cases hf : fewB k with
  | false => exact traps_no k m w hP hB ho T hf
  | true =>
    rcases stepR_cases k m with ⟨h0, _⟩ | ⟨h0, h1 | h1⟩
    · exact traps_a_walk k m w hP hB ho T hf h0
    · exact traps_c_walk k m w hP hB ho T hf ⟨h0, h1⟩
    · exact traps_b_walk k m w hP hB ho T hf ⟨h0, by rcases h1.st with h | h <;> omega⟩
end Go.Proofs.YthaieajakdcodaaDoor
