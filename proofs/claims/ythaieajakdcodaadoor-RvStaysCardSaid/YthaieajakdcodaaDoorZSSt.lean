/- RvStays: who ended does no more; what was written stays written, what is to be read is taken off from its beginning. -/
import Derived.Test.YthaieajakdcodaaDoorZSG
import Derived.Test.YthaieajakdcodaaDoorZNG
namespace Go.Proofs.YthaieajakdcodaaDoor
open Go.RowKit

theorem size_append1 (a : ByteArray) (b : UInt8) : (a ++ ⟨#[b]⟩).size = a.size + 1 := by
  rw [ByteArray.size_append]
  rfl
theorem extract_self (a : ByteArray) : a.extract 0 a.size = a := ByteArray.extract_zero_size
theorem extract_append1 (a : ByteArray) (b : UInt8) : (a ++ ⟨#[b]⟩).extract 0 a.size = a := ByteArray.extract_append_eq_left rfl
/-- what a step does to the texts -/
structure TextS (k K : Mc) : Prop where
  o : K.out.extract 0 k.out.size = k.out
  o1 : k.out.size ≤ K.out.size
  o2 : K.out.size ≤ k.out.size + 1
  i : k.inp.extract (k.inp.size - K.inp.size) k.inp.size = K.inp
  i1 : K.inp.size ≤ k.inp.size
  i2 : k.inp.size ≤ K.inp.size + 1
  n : K.n = IntKind.u64.wrap (k.n + 1)
theorem text_of {k : Mc} {m : List M.Pg} (h0 : k.st = 0) : TextS k (stepR k m).1 := by
  have G : ((stepR k m).1.out = k.out ∨ ∃ b, (stepR k m).1.out = k.out ++ ⟨#[b]⟩) ∧ ((stepR k m).1.inp = k.inp ∨ (0 < k.inp.size ∧ (stepR k m).1.inp = k.inp.extract 1 k.inp.size)) ∧ (stepR k m).1.n = IntKind.u64.wrap (k.n + 1) := by
    rcases stepR_cases k m with ⟨h, _⟩ | ⟨_, h | h⟩
    · exact absurd h0 h
    · rw [h]; exact ⟨.inl rfl, .inl rfl, rfl⟩
    · exact ⟨h.out, h.inp, h.n⟩
  obtain ⟨K, hK⟩ : ∃ K, (stepR k m).1 = K := ⟨_, rfl⟩
  rw [hK] at G ⊢
  obtain ⟨go, gi, gn⟩ := G
  have ho : K.out.extract 0 k.out.size = k.out ∧ k.out.size ≤ K.out.size ∧ K.out.size ≤ k.out.size + 1 := by
    rcases go with e | ⟨b, e⟩
    · rw [e]; exact ⟨extract_self _, by omega, by omega⟩
    · rw [e, size_append1]; exact ⟨extract_append1 _ _, by omega, by omega⟩
  have hi : k.inp.extract (k.inp.size - K.inp.size) k.inp.size = K.inp ∧ K.inp.size ≤ k.inp.size ∧ k.inp.size ≤ K.inp.size + 1 := by
    rcases gi with e | ⟨h, e⟩
    · rw [e, Nat.sub_self]; exact ⟨extract_self _, by omega, by omega⟩
    · have hs : (k.inp.extract 1 k.inp.size).size = k.inp.size - 1 := by simp
      rw [e, hs, show k.inp.size - (k.inp.size - 1) = 1 by omega]
      exact ⟨rfl, by omega, by omega⟩
  exact ⟨ho.1, ho.2.1, ho.2.2, hi.1, hi.2.1, hi.2.2, gn⟩

set_option maxRecDepth 100000 in
set_option maxHeartbeats 2000000 in
theorem stays_no (k : Mc) (m : List M.Pg) (w : World) (hP : Pages w (.slice k.ma k.ml k.mc) m) (hB : MB k m) (ho : k.out.size ≤ 140737488351232) (T : E.Tabs w) (hf : fewB k = false) :
    Calls Tryd.prog 6 #[.agg (mcells k)] w (RetIs (.bool true) w) := by
  have HSH := Lib.hid (fun (W : World) (hb : Below w.heap.size w W) => shown_any W (T.next hb))
  have HT := Lib.hid T
  have HP := Lib.hid hP
  have HL := Lib.hid (law_start k w)
  have HFW := Lib.hid (fun W => few_any k W)
  rw [hf] at HFW
  clear T hP hB ho
  go_enter Tryd.func6, Tryd.ntmps6
  go_wp2_with fail
  obtain ⟨W, hW⟩ : ∃ W, W = (w.alloc (.cells (mcells k) 34)) := ⟨_, rfl⟩
  obtain ⟨hM, hB⟩ := HL.out
  rw [← hW] at hM hB ⊢
  clear hW HL
  refine (HSH.out _ hB).mono ?_
  rintro e w1 ⟨rfl, hb1⟩
  have HM := Lib.hid (hM.next hb1)
  have HB := Lib.hid (bthen hB hb1)
  clear hM hB hb1
  go_wp2_with (refine load_mach rfl _ rfl _ rfl _ HM.out ?_)
  refine (HFW.out _).mono ?_
  rintro e w2 ⟨rfl, hb2⟩
  have HM := Lib.hid (HM.out.next hb2)
  have HB := Lib.hid (bthen HB.out hb2)
  clear hb2
  go_wp2_with fail
  go_ret
  exact ⟨rfl, HB.out⟩
set_option maxRecDepth 100000 in
set_option maxHeartbeats 2000000 in
theorem stays_a_walk (k : Mc) (m : List M.Pg) (w : World) (hP : Pages w (.slice k.ma k.ml k.mc) m) (hB : MB k m) (ho : k.out.size ≤ 140737488351232) (T : E.Tabs w) (hf : fewB k = true) (hc : k.st ≠ 0) :
    Calls Tryd.prog 6 #[.agg (mcells k)] w (RetIs (.bool true) w) := by
  have HSH := Lib.hid (fun (W : World) (hb : Below w.heap.size w W) => shown_any W (T.next hb))
  have HT := Lib.hid T
  have HP := Lib.hid hP
  have HL := Lib.hid (law_start k w)
  have HFW := Lib.hid (fun W => few_any k W)
  have HF := Lib.hid (fit_of hB ho hf)
  have HLN := Lib.hid (few_len hB hf)
  rw [hf] at HFW
  have HC := Lib.hid hc
  clear T hP hB ho hc
  go_enter Tryd.func6, Tryd.ntmps6
  go_wp2_with fail
  obtain ⟨W, hW⟩ : ∃ W, W = (w.alloc (.cells (mcells k) 34)) := ⟨_, rfl⟩
  obtain ⟨hM, hB⟩ := HL.out
  rw [← hW] at hM hB ⊢
  clear hW HL
  refine (HSH.out _ hB).mono ?_
  rintro e w1 ⟨rfl, hb1⟩
  have HM := Lib.hid (hM.next hb1)
  have HB := Lib.hid (bthen hB hb1)
  clear hM hB hb1
  go_wp2_with (refine load_mach rfl _ rfl _ rfl _ HM.out ?_)
  refine (HFW.out _).mono ?_
  rintro e w2 ⟨rfl, hb2⟩
  have HM := Lib.hid (HM.out.next hb2)
  have HB := Lib.hid (bthen HB.out hb2)
  clear hb2
  go_wp2_with (refine load_mach rfl _ rfl _ rfl _ HM.out ?_)
  refine (Step_any k m _ (HP.out.next HB.out) HF.out (HT.out.next HB.out)).mono ?_
  rintro e w3 ⟨A, l, c, rfl, hp3, hb3⟩
  obtain ⟨K, hK⟩ : ∃ K, (stepR k m).1 = K := ⟨_, rfl⟩
  obtain ⟨m2, hm2⟩ : ∃ m2, (stepR k m).2 = m2 := ⟨_, rfl⟩
  rw [hm2] at hp3
  rw [hK]
  have HK := Lib.hid hK
  have HM2 := Lib.hid hm2
  obtain ⟨k2, hk2⟩ : ∃ k2, { K with ma := A, ml := l, mc := c } = k2 := ⟨_, rfl⟩
  rw [hk2]
  have HK2 := Lib.hid hk2
  have hp3' : Pages w3 (.slice k2.ma k2.ml k2.mc) m2 := by rw [← hk2]; exact hp3
  have z3 : w.heap.size < w3.heap.size := (HM.out.next hb3).lt
  have HU := Lib.hid (Mach.new w3 zeroMc)
  have HN := Lib.hid (HU.out.row k2)
  have HM := Lib.hid (((HM.out.next hb3).alloc (.cells (mcells zeroMc) 34)).rowOther (B' := w3.heap.size) (mcells k2) (by omega))
  have HB := Lib.hid (below_row (balloc (bthen HB.out hb3) (.cells (mcells zeroMc) 34)) (B := w3.heap.size) (mcells k2) (by omega))
  have HQ := Lib.hid (pages_keepM (hp3'.next (balloc (Below.refl _ _) (.cells (mcells zeroMc) 34))) HU.out (grownBy_row _ _ (mcells k2)))
  obtain ⟨V, hV⟩ : ∃ V, (w3.alloc (.cells (mcells zeroMc) 34)).setRow w3.heap.size (mcells k2) = V := ⟨_, rfl⟩
  rw [hV] at HM HN HB HQ
  have HV := Lib.hid hV
  obtain ⟨nv, hnv⟩ : ∃ n, w3.heap.size = n := ⟨_, rfl⟩
  rw [hnv] at z3 HN
  have HNV := Lib.hid hnv
  have hbk : w.heap.size ≠ nv := by omega
  clear hp3 hp3' hb3 hK hm2 hk2 hV hnv
  obtain ⟨-, -, -, -, -, m36, -, -, mf⟩ := HM.out.cells
  have hk := HC.out
  have e0 := stepR_cases k m
  have t0 : (k.st != 0) = true := by simpa using hk
  have e1 : stepR k m = (k, m) := by
    rcases e0 with h | h
    · exact h.2
    · exact absurd h.1 hk
  have e2 : K = k := by rw [← HK.out, e1]
  have e3 : m2 = m := by rw [← HM2.out, e1]
  have HSM := Lib.hid (show sameMc k2 k m2 m = true from by
    rw [← HK2.out, e2, e3]
    exact sameMc_true rfl (fun _ _ => rfl) rfl rfl rfl rfl rfl rfl)
  have HLM := Lib.hid (show m2.length ≤ 1000000 by rw [e3]; have := HLN.out; omega)
  clear hk e0 e1 e2 e3 mf
  go_wp2_with (first
    | (refine alloc_mach rfl rfl ?_)
    | (refine store_mach rfl _ _ rfl _ _ rfl rfl _ HU.out ?_; rw [HV.out, HNV.out])
    | (refine load_machG _ rfl _ rfl _ HN.out (by rfl) ?_)
    | (refine load_machG _ rfl _ rfl _ HM.out (by rfl) ?_))
  have hs := rsameM_any k2 k m2 m _ HQ.out (HP.out.next HB.out) HLM.out
  rw [HSM.out] at hs
  refine hs.mono ?_
  rintro e w5 ⟨rfl, hb5⟩
  have HB5 := Lib.hid (bthen HB.out hb5)
  clear hs hb5
  go_wp2_with fail
  go_ret
  exact ⟨rfl, HB5.out⟩
set_option maxRecDepth 100000 in
set_option maxHeartbeats 2000000 in
theorem stays_b_walk (k : Mc) (m : List M.Pg) (w : World) (hP : Pages w (.slice k.ma k.ml k.mc) m) (hB : MB k m) (ho : k.out.size ≤ 140737488351232) (T : E.Tabs w) (hf : fewB k = true) (hc : k.st = 0) (hin : k.inp.size ≤ 9223372036854775807) :
    Calls Tryd.prog 6 #[.agg (mcells k)] w (RetIs (.bool true) w) := by
  have HSH := Lib.hid (fun (W : World) (hb : Below w.heap.size w W) => shown_any W (T.next hb))
  have HT := Lib.hid T
  have HP := Lib.hid hP
  have HL := Lib.hid (law_start k w)
  have HFW := Lib.hid (fun W => few_any k W)
  have HF := Lib.hid (fit_of hB ho hf)
  have HLN := Lib.hid (few_len hB hf)
  rw [hf] at HFW
  have HC := Lib.hid hc
  have HOL := Lib.hid ho
  have HIL := Lib.hid hin
  clear T hP hB ho hc hin
  go_enter Tryd.func6, Tryd.ntmps6
  go_wp2_with fail
  obtain ⟨W, hW⟩ : ∃ W, W = (w.alloc (.cells (mcells k) 34)) := ⟨_, rfl⟩
  obtain ⟨hM, hB⟩ := HL.out
  rw [← hW] at hM hB ⊢
  clear hW HL
  refine (HSH.out _ hB).mono ?_
  rintro e w1 ⟨rfl, hb1⟩
  have HM := Lib.hid (hM.next hb1)
  have HB := Lib.hid (bthen hB hb1)
  clear hM hB hb1
  go_wp2_with (refine load_mach rfl _ rfl _ rfl _ HM.out ?_)
  refine (HFW.out _).mono ?_
  rintro e w2 ⟨rfl, hb2⟩
  have HM := Lib.hid (HM.out.next hb2)
  have HB := Lib.hid (bthen HB.out hb2)
  clear hb2
  go_wp2_with (refine load_mach rfl _ rfl _ rfl _ HM.out ?_)
  refine (Step_any k m _ (HP.out.next HB.out) HF.out (HT.out.next HB.out)).mono ?_
  rintro e w3 ⟨A, l, c, rfl, hp3, hb3⟩
  obtain ⟨K, hK⟩ : ∃ K, (stepR k m).1 = K := ⟨_, rfl⟩
  obtain ⟨m2, hm2⟩ : ∃ m2, (stepR k m).2 = m2 := ⟨_, rfl⟩
  rw [hm2] at hp3
  rw [hK]
  have HK := Lib.hid hK
  have HM2 := Lib.hid hm2
  obtain ⟨k2, hk2⟩ : ∃ k2, { K with ma := A, ml := l, mc := c } = k2 := ⟨_, rfl⟩
  rw [hk2]
  have HK2 := Lib.hid hk2
  have hp3' : Pages w3 (.slice k2.ma k2.ml k2.mc) m2 := by rw [← hk2]; exact hp3
  have z3 : w.heap.size < w3.heap.size := (HM.out.next hb3).lt
  have HU := Lib.hid (Mach.new w3 zeroMc)
  have HN := Lib.hid (HU.out.row k2)
  have HM := Lib.hid (((HM.out.next hb3).alloc (.cells (mcells zeroMc) 34)).rowOther (B' := w3.heap.size) (mcells k2) (by omega))
  have HB := Lib.hid (below_row (balloc (bthen HB.out hb3) (.cells (mcells zeroMc) 34)) (B := w3.heap.size) (mcells k2) (by omega))
  have HQ := Lib.hid (pages_keepM (hp3'.next (balloc (Below.refl _ _) (.cells (mcells zeroMc) 34))) HU.out (grownBy_row _ _ (mcells k2)))
  obtain ⟨V, hV⟩ : ∃ V, (w3.alloc (.cells (mcells zeroMc) 34)).setRow w3.heap.size (mcells k2) = V := ⟨_, rfl⟩
  rw [hV] at HM HN HB HQ
  have HV := Lib.hid hV
  obtain ⟨nv, hnv⟩ : ∃ n, w3.heap.size = n := ⟨_, rfl⟩
  rw [hnv] at z3 HN
  have HNV := Lib.hid hnv
  have hbk : w.heap.size ≠ nv := by omega
  clear hp3 hp3' hb3 hK hm2 hk2 hV hnv
  obtain ⟨-, m32, m33, m34, m35, m36, m37, m38, mf⟩ := HM.out.cells
  obtain ⟨-, n32, n33, n34, n35, n36, n37, n38, nf⟩ := HN.out.cells
  have hi2 : k2.inp = K.inp := by rw [← HK2.out]
  have ho2 : k2.out = K.out := by rw [← HK2.out]
  have hn2 : k2.n = K.n := by rw [← HK2.out]
  rw [hi2] at n34
  rw [ho2] at n35
  rw [hn2] at n38
  have hk := HC.out
  have ht := text_of (m := m) hk
  rw [HK.out] at ht
  rw [ht.n] at n38
  rw [hk] at m36
  have HN38 := Lib.hid (show k2.n = IntKind.u64.wrap (k.n + 1) by rw [hn2, ht.n])
  obtain ⟨q1, q2, q3, q4, q5, q6, -⟩ := ht
  obtain ⟨O, hO⟩ : ∃ O, k.out = O := ⟨_, rfl⟩
  obtain ⟨I, hI⟩ : ∃ O, k.inp = O := ⟨_, rfl⟩
  obtain ⟨O2, hO2⟩ : ∃ O, K.out = O := ⟨_, rfl⟩
  obtain ⟨I2, hI2⟩ : ∃ O, K.inp = O := ⟨_, rfl⟩
  rw [hO] at m35 q1 q2 q3
  rw [hI] at m34 q4 q5 q6
  rw [hO2] at n35 q1 q2 q3
  rw [hI2] at n34 q4 q5 q6
  have HN34 := Lib.hid (show k2.inp = I2 by rw [hi2, hI2])
  have HM34 := Lib.hid hI
  have hol := HOL.out
  have hil := HIL.out
  rw [hO] at hol
  rw [hI] at hil
  have l1 : decide (O2.size < O.size) = false := by simp; omega
  have w1 : IntKind.i64.wrap ((O.size : Int) + 1) = (O.size : Int) + 1 := by rw [IntKind.wrap_i64]; omega
  have l3 : decide ((O.size : Int) + 1 < (O2.size : Int)) = false := by simp; omega
  have l4 : decide (I.size < I2.size) = false := by simp; omega
  have w2 : IntKind.i64.wrap ((I.size : Int) - 1) = (I.size : Int) - 1 := by rw [IntKind.wrap_i64]; omega
  have l5 : decide ((I2.size : Int) < (I.size : Int) - 1) = false := by simp; omega
  have w3 : IntKind.i64.wrap ((I.size : Int) - (I2.size : Int)) = (I.size : Int) - (I2.size : Int) := by rw [IntKind.wrap_i64]; omega
  have w4 : ((I.size : Int) - (I2.size : Int)).toNat = I.size - I2.size := by omega
  have b1 : (0 : Int) ≤ (I.size : Int) - (I2.size : Int) := by omega
  have b2 : (I.size : Int) - (I2.size : Int) ≤ (I.size : Int) := by omega
  clear hk m32 m33 m37 n32 n33 n36 n37 hi2 ho2 hn2 hO hI hO2 hI2 hol hil q3 q5 q6
  go_wp2_with (first
    | (refine alloc_mach rfl rfl ?_)
    | (refine store_mach rfl _ _ rfl _ _ rfl rfl _ HU.out ?_; rw [HV.out, HNV.out]))
  go_quiet (fail)
  have HBD := Lib.hid (bthen HB.out (below_drewN V nq))
  clear m34 m35 m36 n34 n35 m38 n38
  have hm := HM.out.next (below_drewN V nq)
  have hn := HN.out.next (below_drewN V nq)
  obtain ⟨-, -, -, m34, -, -, -, m38, mf⟩ := hm.cells
  obtain ⟨-, -, -, n34, -, -, -, n38, nf⟩ := hn.cells
  rw [HN34.out] at n34
  rw [HN38.out] at n38
  rw [HM34.out] at m34
  clear hm hn
  generalize V.drewN nq = wd at *
  go_wp2_with fail
  go_quiet (fail)
  go_wp2_with fail
  go_ret
  exact ⟨rfl, bthen HBD.out (below_drewN wd nq)⟩
theorem stays_all (k : Mc) (m : List M.Pg) (w : World) (hP : Pages w (.slice k.ma k.ml k.mc) m) (hB : MB k m) (ho : k.out.size ≤ 140737488351232) (T : E.Tabs w) (hin : k.inp.size ≤ 9223372036854775807) :
    Calls Tryd.prog 6 #[.agg (mcells k)] w (RetIs (.bool true) w) := by
  cases hf : fewB k with
  | false => exact stays_no k m w hP hB ho T hf
  | true =>
    by_cases h0 : k.st = 0
    · exact stays_b_walk k m w hP hB ho T hf h0 hin
    · exact stays_a_walk k m w hP hB ho T hf h0
end Go.Proofs.YthaieajakdcodaaDoor
