/- RvZero: the register 0 stays 0; a step changes one register at most. -/
import Derived.Test.YthaieajakdcodaaDoorZSG
import Derived.Test.YthaieajakdcodaaDoorZNG
import Derived.LoopTactic
namespace Go.Proofs.YthaieajakdcodaaDoor
open Go.RowKit

/-- how many of the first registers are not the same -/
def cntX (x y : Nat → Int) : Nat → Nat
  | 0 => 0
  | n + 1 => cntX x y n + (if x n = y n then 0 else 1)
theorem cntX_same {x y : Nat → Int} : ∀ n, (∀ i, i < n → x i = y i) → cntX x y n = 0
  | 0, _ => rfl
  | n + 1, h => by
    show cntX x y n + (if x n = y n then 0 else 1) = 0
    rw [cntX_same n (fun i hi => h i (by omega)), if_pos (h n (by omega))]
theorem cntX_one {x y : Nat → Int} (i : Nat) (h : ∀ j, j ≠ i → x j = y j) : ∀ n, cntX x y n ≤ 1
  | 0 => by show 0 ≤ 1; omega
  | n + 1 => by
    show cntX x y n + (if x n = y n then 0 else 1) ≤ 1
    by_cases hn : n = i
    · rw [cntX_same n (fun j hj => h j (by omega))]
      split <;> omega
    · rw [if_pos (h n hn)]
      exact cntX_one i h n
theorem cntX_le (x y : Nat → Int) : ∀ n, cntX x y n ≤ n
  | 0 => Nat.le_refl _
  | n + 1 => by
    show cntX x y n + (if x n = y n then 0 else 1) ≤ n + 1
    have := cntX_le x y n
    split <;> omega
theorem zero_facts (k : Mc) (m : List M.Pg) (hz : k.x 0 = 0) : (stepR k m).1.x 0 = 0 ∧ cntX (stepR k m).1.x k.x 32 ≤ 1 := by
  have G : (stepR k m).1.x = k.x ∨ ∃ i v, 0 < i ∧ i < 32 ∧ (stepR k m).1.x = upd k.x i v := by
    rcases stepR_cases k m with ⟨_, h⟩ | ⟨_, h | h⟩
    · rw [h]; exact .inl rfl
    · rw [h]; exact .inl rfl
    · exact h.x
  rcases G with h | ⟨i, v, h0, h1, h⟩
  · rw [h]
    exact ⟨hz, by rw [cntX_same 32 (fun _ _ => rfl)]; omega⟩
  · rw [h]
    refine ⟨?_, cntX_one i (fun j hj => ?_) 32⟩
    · unfold upd; rw [if_neg (by omega)]; exact hz
    · unfold upd; rw [if_neg hj]

set_option maxRecDepth 100000 in
set_option maxHeartbeats 2000000 in
theorem zero_no (k : Mc) (m : List M.Pg) (w : World) (hP : Pages w (.slice k.ma k.ml k.mc) m) (hB : MB k m) (ho : k.out.size ≤ 140737488351232) (T : E.Tabs w) (hf : fewB k = false) :
    Calls Tryd.prog 7 #[.agg (mcells k)] w (RetIs (.bool true) w) := by
  have HSH := Lib.hid (fun (W : World) (hb : Below w.heap.size w W) => shown_any W (T.next hb))
  have HT := Lib.hid T
  have HP := Lib.hid hP
  have HL := Lib.hid (law_start k w)
  have HFW := Lib.hid (fun W => few_any k W)
  rw [hf] at HFW
  clear T hP hB ho
  go_enter Tryd.func7, Tryd.ntmps7
  go_wp2_with fail
  obtain ⟨W, hW⟩ : ∃ W, W = (w.alloc (.cells (mcells k) 34)) := ⟨_, rfl⟩
  obtain ⟨hM, hB⟩ := HL.out
  rw [← hW] at hM hB ⊢
  clear hW HL
  refine (HSH.out _ hB).mono ?_
  rintro e w1 ⟨rfl, hb1⟩
  have HM := Lib.hid (hM.next hb1)
  have HB := Lib.hid (bthen hB hb1)
  clear hM hB hb1
  go_wp2_with (refine load_mach rfl _ rfl _ rfl _ HM.out ?_)
  refine (HFW.out _).mono ?_
  rintro e w2 ⟨rfl, hb2⟩
  have HM := Lib.hid (HM.out.next hb2)
  have HB := Lib.hid (bthen HB.out hb2)
  clear hb2
  go_wp2_with fail
  go_ret
  exact ⟨rfl, HB.out⟩
set_option maxRecDepth 100000 in
set_option maxHeartbeats 2000000 in
theorem zero_walk (k : Mc) (m : List M.Pg) (w : World) (hP : Pages w (.slice k.ma k.ml k.mc) m) (hB : MB k m) (ho : k.out.size ≤ 140737488351232) (T : E.Tabs w) (hf : fewB k = true) :
    Calls Tryd.prog 7 #[.agg (mcells k)] w (RetIs (.bool true) w) := by
  have HSH := Lib.hid (fun (W : World) (hb : Below w.heap.size w W) => shown_any W (T.next hb))
  have HT := Lib.hid T
  have HP := Lib.hid hP
  have HL := Lib.hid (law_start k w)
  have HFW := Lib.hid (fun W => few_any k W)
  have HF := Lib.hid (fit_of hB ho hf)
  have HLN := Lib.hid (few_len hB hf)
  rw [hf] at HFW
  clear T hP hB ho
  go_enter Tryd.func7, Tryd.ntmps7
  go_wp2_with fail
  obtain ⟨W, hW⟩ : ∃ W, W = (w.alloc (.cells (mcells k) 34)) := ⟨_, rfl⟩
  obtain ⟨hM, hB⟩ := HL.out
  rw [← hW] at hM hB ⊢
  clear hW HL
  refine (HSH.out _ hB).mono ?_
  rintro e w1 ⟨rfl, hb1⟩
  have HM := Lib.hid (hM.next hb1)
  have HB := Lib.hid (bthen hB hb1)
  clear hM hB hb1
  go_wp2_with (refine load_mach rfl _ rfl _ rfl _ HM.out ?_)
  refine (HFW.out _).mono ?_
  rintro e w2 ⟨rfl, hb2⟩
  have HM := Lib.hid (HM.out.next hb2)
  have HB := Lib.hid (bthen HB.out hb2)
  clear hb2
  go_wp2_with (refine load_mach rfl _ rfl _ rfl _ HM.out ?_)
  refine (Step_any k m _ (HP.out.next HB.out) HF.out (HT.out.next HB.out)).mono ?_
  rintro e w3 ⟨A, l, c, rfl, hp3, hb3⟩
  obtain ⟨K, hK⟩ : ∃ K, (stepR k m).1 = K := ⟨_, rfl⟩
  obtain ⟨m2, hm2⟩ : ∃ m2, (stepR k m).2 = m2 := ⟨_, rfl⟩
  rw [hm2] at hp3
  rw [hK]
  have HK := Lib.hid hK
  have HM2 := Lib.hid hm2
  obtain ⟨k2, hk2⟩ : ∃ k2, { K with ma := A, ml := l, mc := c } = k2 := ⟨_, rfl⟩
  rw [hk2]
  have HK2 := Lib.hid hk2
  have hp3' : Pages w3 (.slice k2.ma k2.ml k2.mc) m2 := by rw [← hk2]; exact hp3
  have z3 : w.heap.size < w3.heap.size := (HM.out.next hb3).lt
  have HU := Lib.hid (Mach.new w3 zeroMc)
  have HN := Lib.hid (HU.out.row k2)
  have HM := Lib.hid (((HM.out.next hb3).alloc (.cells (mcells zeroMc) 34)).rowOther (B' := w3.heap.size) (mcells k2) (by omega))
  have HB := Lib.hid (below_row (balloc (bthen HB.out hb3) (.cells (mcells zeroMc) 34)) (B := w3.heap.size) (mcells k2) (by omega))
  have HQ := Lib.hid (pages_keepM (hp3'.next (balloc (Below.refl _ _) (.cells (mcells zeroMc) 34))) HU.out (grownBy_row _ _ (mcells k2)))
  obtain ⟨V, hV⟩ : ∃ V, (w3.alloc (.cells (mcells zeroMc) 34)).setRow w3.heap.size (mcells k2) = V := ⟨_, rfl⟩
  rw [hV] at HM HN HB HQ
  have HV := Lib.hid hV
  obtain ⟨nv, hnv⟩ : ∃ n, w3.heap.size = n := ⟨_, rfl⟩
  rw [hnv] at z3 HN
  have HNV := Lib.hid hnv
  have hbk : w.heap.size ≠ nv := by omega
  clear hp3 hp3' hb3 hK hm2 hk2 hV hnv
  have hx2 : k2.x = K.x := by rw [← HK2.out]
  have hzf := zero_facts k m HF.out.z
  rw [HK.out] at hzf
  obtain ⟨X, hX⟩ : ∃ X, K.x = X := ⟨_, rfl⟩
  rw [hX] at hx2 hzf
  obtain ⟨Y, hY⟩ : ∃ Y, k.x = Y := ⟨_, rfl⟩
  rw [hY] at hzf
  have HK2X := Lib.hid hx2
  have HYX := Lib.hid hY
  have HZF := Lib.hid hzf
  clear hx2 hzf hX hY
  go_wp2_with (first
    | (refine alloc_mach rfl rfl ?_)
    | (refine store_mach rfl _ _ rfl _ _ rfl rfl _ HU.out ?_; rw [HV.out, HNV.out]))
  go_loopw [6, 7] (fun c i wr => ∃ j : Nat, j ≤ 32 ∧ i = .int .i64 j ∧ c = .int .i64 (cntX X Y j) ∧ Below V.heap.size V wr) (fun _ i _ => 32 - (intOf i).toNat)
  case atStart => exact ⟨0, by omega, rfl, rfl, Below.refl _ _⟩
  case round =>
    obtain ⟨j, hj, rfl, rfl, hb⟩ := hrel
    have HBV := Lib.hid hb
    have hmr := HM.out.next hb
    have hnr := HN.out.next hb
    obtain ⟨mx, -, -, -, -, -, -, -, mf⟩ := hmr.cells
    obtain ⟨nx, -, -, -, -, -, -, -, nf⟩ := hnr.cells
    rw [HK2X.out] at nx
    rw [HYX.out] at mx
    by_cases hlt : j < 32
    · have a1 := mx j hlt
      have a2 := nx j hlt
      have i0 : (0 : Int) ≤ (j : Int) := by omega
      have i1 : (j : Int) < 32 := by omega
      have HCL := Lib.hid (cntX_le X Y j)
      obtain ⟨xv, hxv⟩ : ∃ z, X j = z := ⟨_, rfl⟩
      obtain ⟨yv, hyv⟩ : ∃ z, Y j = z := ⟨_, rfl⟩
      rw [hxv] at a2
      rw [hyv] at a1
      have HCN := Lib.hid (show cntX X Y (j + 1) = cntX X Y j + (if xv = yv then 0 else 1) by rw [← hxv, ← hyv]; rfl)
      obtain ⟨cn, hcn⟩ : ∃ z, cntX X Y j = z := ⟨_, rfl⟩
      rw [hcn] at HCN HCL
      rw [hcn]
      have hc1 : cn ≤ j := HCL.out
      clear hxv hyv hb hmr hnr mx nx mf nf hcn
      by_cases he : xv = yv
      · have t : (xv != yv) = false := by simp [he]
        have HCN := Lib.hid (show cntX X Y (j + 1) = cn by rw [HCN.out, if_pos he]; omega)
        clear he hc1
        go_wp2_with fail
        go_quiet (fail)
        have HBD := Lib.hid (HBV.out.trans ((below_drewN wr nq).mono HBV.out.size))
        clear a1 a2
        generalize wr.drewN nq = wd at *
        go_wp2_with fail
        go_roundw
        case rel => exact ⟨j + 1, by omega, by go_num, by rw [HCN.out], HBD.out⟩
        case measure => simp [intOf]; omega
      · have t : (xv != yv) = true := by simpa using he
        have HCN := Lib.hid (show cntX X Y (j + 1) = cn + 1 by rw [HCN.out, if_neg he])
        clear he
        go_wp2_with fail
        go_quiet (fail)
        have HBD := Lib.hid (HBV.out.trans ((below_drewN wr nq).mono HBV.out.size))
        clear a1 a2
        generalize wr.drewN nq = wd at *
        go_wp2_with fail
        go_roundw
        case rel => exact ⟨j + 1, by omega, by go_num, by rw [HCN.out]; go_num, HBD.out⟩
        case measure => simp [intOf]; omega
    · obtain rfl : j = 32 := by omega
      have a2 := nx 0 (by omega)
      rw [HZF.out.1] at a2
      have hc1 := HZF.out.2
      obtain ⟨cn, hcn⟩ : ∃ z, cntX X Y 32 = z := ⟨_, rfl⟩
      rw [hcn] at hc1 ⊢
      have hc2 : (cn : Int) ≤ 1 := by omega
      clear mx nx hmr hnr mf nf hb hcn hc1
      go_wp2_with fail
      go_ret
      exact ⟨rfl, bthen HB.out HBV.out⟩
theorem zero_all (k : Mc) (m : List M.Pg) (w : World) (hP : Pages w (.slice k.ma k.ml k.mc) m) (hB : MB k m) (ho : k.out.size ≤ 140737488351232) (T : E.Tabs w) :
    Calls Tryd.prog 7 #[.agg (mcells k)] w (RetIs (.bool true) w) := by
  cases hf : fewB k with
  | false => exact zero_no k m w hP hB ho T hf
  | true => exact zero_walk k m w hP hB ho T hf
end Go.Proofs.YthaieajakdcodaaDoor
