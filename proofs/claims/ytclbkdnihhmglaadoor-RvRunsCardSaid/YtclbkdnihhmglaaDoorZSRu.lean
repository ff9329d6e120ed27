/- RvRuns: what some steps come to is as the reference says. -/
import Derived.Test.YtclbkdnihhmglaaDoorZSPt
import Derived.Test.YtclbkdnihhmglaaDoorZSL
namespace Go.Proofs.YtclbkdnihhmglaaDoor
open Go.RowKit

set_option maxRecDepth 100000 in
set_option maxHeartbeats 8000000 in
theorem runs_no (k : Mc) (m : List M.Pg) (n : Int) (w : World) (hP : Pages w (.slice k.ma k.ml k.mc) m) (hB : MB k m) (ho : k.out.size ≤ 140737488351232) (T : E.Tabs w) (hf : fewB k = false) :
    Calls Tryd.prog 3 #[.agg (mcells k), .int .i64 n] w (RetIs (.bool true) w) := by
  have HSH := Lib.hid (fun (W : World) (hb : Below w.heap.size w W) => shown_any W (T.next hb))
  have HT := Lib.hid T
  have HP := Lib.hid hP
  have HL := Lib.hid (law_start k w)
  have HFW := Lib.hid (fun W => few_any k W)
  have HBB := Lib.hid hB
  have HO := Lib.hid ho
  rw [hf] at HFW
  clear T hP hB ho
  go_enter Tryd.func3, Tryd.ntmps3
  go_wp2_with fail
  obtain ⟨W, hW⟩ : ∃ W, W = (w.alloc (.cells (mcells k) 26)) := ⟨_, rfl⟩
  obtain ⟨hM, hB⟩ := HL.out
  rw [← hW] at hM hB ⊢
  clear hW HL
  refine (HSH.out _ hB).mono ?_
  rintro e w1 ⟨rfl, hb1⟩
  have HM := Lib.hid (hM.next hb1)
  have HB := Lib.hid (bthen hB hb1)
  clear hM hB hb1
  go_wp2_with (refine load_mach rfl _ rfl _ rfl _ HM.out ?_)
  refine (HFW.out _).mono ?_
  rintro e w2 ⟨rfl, hb2⟩
  have HM := Lib.hid (HM.out.next hb2)
  have HB := Lib.hid (bthen HB.out hb2)
  clear hb2
  go_wp2_with fail
  go_ret
  exact ⟨rfl, HB.out⟩
set_option maxRecDepth 100000 in
set_option maxHeartbeats 8000000 in
theorem runs_far (k : Mc) (m : List M.Pg) (n : Int) (w : World) (hP : Pages w (.slice k.ma k.ml k.mc) m) (hB : MB k m) (ho : k.out.size ≤ 140737488351232) (T : E.Tabs w) (hf : fewB k = true) (h1 : 300 < n) :
    Calls Tryd.prog 3 #[.agg (mcells k), .int .i64 n] w (RetIs (.bool true) w) := by
  have HSH := Lib.hid (fun (W : World) (hb : Below w.heap.size w W) => shown_any W (T.next hb))
  have HT := Lib.hid T
  have HP := Lib.hid hP
  have HL := Lib.hid (law_start k w)
  have HFW := Lib.hid (fun W => few_any k W)
  have HBB := Lib.hid hB
  have HO := Lib.hid ho
  rw [hf] at HFW
  clear T hP hB ho
  go_enter Tryd.func3, Tryd.ntmps3
  go_wp2_with fail
  obtain ⟨W, hW⟩ : ∃ W, W = (w.alloc (.cells (mcells k) 26)) := ⟨_, rfl⟩
  obtain ⟨hM, hB⟩ := HL.out
  rw [← hW] at hM hB ⊢
  clear hW HL
  refine (HSH.out _ hB).mono ?_
  rintro e w1 ⟨rfl, hb1⟩
  have HM := Lib.hid (hM.next hb1)
  have HB := Lib.hid (bthen hB hb1)
  clear hM hB hb1
  go_wp2_with (refine load_mach rfl _ rfl _ rfl _ HM.out ?_)
  refine (HFW.out _).mono ?_
  rintro e w2 ⟨rfl, hb2⟩
  have HM := Lib.hid (HM.out.next hb2)
  have HB := Lib.hid (bthen HB.out hb2)
  clear hb2
  go_wp2_with fail
  go_ret
  exact ⟨rfl, HB.out⟩
set_option maxRecDepth 100000 in
set_option maxHeartbeats 8000000 in
theorem runs_walk (k : Mc) (m : List M.Pg) (n : Int) (w : World) (hP : Pages w (.slice k.ma k.ml k.mc) m) (hB : MB k m) (ho : k.out.size ≤ 140737488351232) (T : E.Tabs w) (hf : fewB k = true) (h1 : ¬ 300 < n) :
    Calls Tryd.prog 3 #[.agg (mcells k), .int .i64 n] w (RetIs (.bool true) w) := by
  have HSH := Lib.hid (fun (W : World) (hb : Below w.heap.size w W) => shown_any W (T.next hb))
  have HT := Lib.hid T
  have HP := Lib.hid hP
  have HL := Lib.hid (law_start k w)
  have HFW := Lib.hid (fun W => few_any k W)
  have HBB := Lib.hid hB
  have HO := Lib.hid ho
  rw [hf] at HFW
  clear T hP hB ho
  have HF := Lib.hid (fits_of HBB.out HO.out hf)
  have HLN := Lib.hid (show (runR n.toNat k m).2.length = m.length ∧ m.length ≤ 70 from ⟨(runR_mi HBB.out.mi _).2, few_len HBB.out hf⟩)
  go_enter Tryd.func3, Tryd.ntmps3
  go_wp2_with fail
  obtain ⟨W, hW⟩ : ∃ W, W = (w.alloc (.cells (mcells k) 26)) := ⟨_, rfl⟩
  obtain ⟨hM, hB⟩ := HL.out
  rw [← hW] at hM hB ⊢
  clear hW HL
  refine (HSH.out _ hB).mono ?_
  rintro e w1 ⟨rfl, hb1⟩
  have HM := Lib.hid (hM.next hb1)
  have HB := Lib.hid (bthen hB hb1)
  clear hM hB hb1
  go_wp2_with (refine load_mach rfl _ rfl _ rfl _ HM.out ?_)
  refine (HFW.out _).mono ?_
  rintro e w2 ⟨rfl, hb2⟩
  have HM := Lib.hid (HM.out.next hb2)
  have HB := Lib.hid (bthen HB.out hb2)
  clear hb2
  go_wp2_with fail
  refine wp_region_held_drew (S := fun W => Mach W w.heap.size k ∧ Below w.heap.size w W) (by kernel_rfl) (⟨HM.out.drew, HB.out.drew⟩) (fun hHeld => ?_)
  have HM := Lib.hid hHeld.1
  have HB := Lib.hid hHeld.2
  refine wpAnyH_take (i := 0) (v := ?_) rfl (by kernel_rfl) (by kernel_rfl) (by kernel_rfl) (fun _ _ _ h => h) (Or.inl ⟨by rfl, ?_⟩) (by assumption) ?_
  rotate_left
  · intro W hSw; (try dsimp only at hSw); refine exec_mach (.tmp 2) ?_ w.heap.size ?_ hSw.1 <;> rfl
  (try simp only [Act.put])
  refine wpAnyH_take (i := 1) (v := ?_) rfl (by kernel_rfl) (by kernel_rfl) (by kernel_rfl) (fun _ _ _ h => h) (Or.inl ⟨by rfl, ?_⟩) (by assumption) ?_
  rotate_left
  · intro W hSw; (try dsimp only at hSw); go_simp; try (with_reducible rfl)
  (try simp only [Act.put])
  refine wpAnyH_take (i := 3) (v := ?_) rfl (by kernel_rfl) (by kernel_rfl) (by kernel_rfl) (fun _ _ _ h => h) (Or.inl ⟨by rfl, ?_⟩) (by assumption) ?_
  rotate_left
  · intro W hSw; (try dsimp only at hSw); refine exec_mach (.tmp 2) ?_ w.heap.size ?_ hSw.1 <;> rfl
  (try simp only [Act.put])
  refine wpAnyH_take (i := 4) (v := ?_) rfl (by kernel_rfl) (by kernel_rfl) (by kernel_rfl) (fun _ _ _ h => h) (Or.inl ⟨by rfl, ?_⟩) (by assumption) ?_
  rotate_left
  · intro W hSw; (try dsimp only at hSw); go_simp; try (with_reducible rfl)
  (try simp only [Act.put])
  refine wpAnyH_ready (rs := [2]) (by kernel_rfl) (by simp) ?_
  refine AllReadyH.cons rfl (fun K hK => ?_) AllReadyH.nil
  go_simp
  refine (Run_any k m n _ (HP.out.next HB.out) HF.out (by omega) (HT.out.next HB.out)).mono ?_
  rintro e wn ⟨A1, l1, c1, rfl, hp, hb⟩
  have HM := Lib.hid (HM.out.next hb)
  have HB := Lib.hid (bthen HB.out hb)
  obtain ⟨k1, hk⟩ : ∃ q, ({ (runR n.toNat k m).1 with ma := A1, ml := l1, mc := c1 } : Mc) = q := ⟨_, rfl⟩
  rw [hk]
  have HK1 := Lib.hid hk
  obtain ⟨m1, hm⟩ : ∃ q, (runR n.toNat k m).2 = q := ⟨_, rfl⟩
  rw [hm] at hp
  have HM1 := Lib.hid hm
  have HP1 := Lib.hid (show Pages wn (.slice k1.ma k1.ml k1.mc) m1 by rw [← hk]; exact hp)
  clear hp hb hk hm
  refine hK.out _ _ ⟨HM.out, HB.out⟩ (fun hHeld => ?_)
  clear hK K
  (try simp only [Act.put])
  refine wpAnyH_ready (rs := [5]) (by kernel_rfl) (by simp) ?_
  refine AllReadyH.cons rfl (fun K hK => ?_) AllReadyH.nil
  go_simp
  refine (rrun_any k m n _ (HP.out.next HB.out) HBB.out.mi HF.out.z HF.out.o (by omega)).mono ?_
  rintro e wn ⟨A2, l2, c2, rfl, hp, hb⟩
  have HM := Lib.hid (HM.out.next hb)
  have HB := Lib.hid (bthen HB.out hb)
  have HP1 := Lib.hid (HP1.out.next hb)
  obtain ⟨k2, hk⟩ : ∃ q, ({ (runR n.toNat k m).1 with ma := A2, ml := l2, mc := c2 } : Mc) = q := ⟨_, rfl⟩
  rw [hk]
  have HK2 := Lib.hid hk
  obtain ⟨m2, hm⟩ : ∃ q, (runR n.toNat k m).2 = q := ⟨_, rfl⟩
  rw [hm] at hp
  have HM2 := Lib.hid hm
  have HP2 := Lib.hid (show Pages wn (.slice k2.ma k2.ml k2.mc) m2 by rw [← hk]; exact hp)
  clear hp hb hk hm
  refine hK.out _ _ ⟨HM.out, HB.out⟩ (fun hHeld => ?_)
  clear hK K
  (try simp only [Act.put])
  refine wpAnyH_ready (rs := [6]) (by kernel_rfl) (by simp) ?_
  refine AllReadyH.cons rfl (fun K hK => ?_) AllReadyH.nil
  go_simp
  have hsm : sameMc k1 k2 m1 m2 = true := by rw [← HK1.out, ← HK2.out, ← HM1.out, ← HM2.out]; exact same_with
  have hlm : m1.length ≤ 1000000 := by rw [← HM1.out, HLN.out.1]; have := HLN.out.2; omega
  have hs := rsameM_any k1 k2 m1 m2 _ HP1.out HP2.out hlm
  rw [hsm] at hs
  clear hsm hlm
  refine hs.mono ?_
  rintro e wn ⟨rfl, hb⟩
  have HM := Lib.hid (HM.out.next hb)
  have HB := Lib.hid (bthen HB.out hb)
  clear hb hs
  refine hK.out _ _ ⟨HM.out, HB.out⟩ (fun hHeld => ?_)
  clear hK K
  (try simp only [Act.put])
  refine wpAnyH_ready (rs := [7]) (by kernel_rfl) (by simp) ?_
  refine AllReadyH.cons rfl (fun K hK => ?_) AllReadyH.nil
  go_simp
  refine hK.out _ _ ⟨HM.out, HB.out⟩ (fun hHeld => ?_)
  clear hK K
  (try simp only [Act.put])
  refine wpAnyH_done (by kernel_rfl) ?_ _
  clear hHeld
  go_wp2_with fail
  go_ret
  exact ⟨rfl, HB.out⟩
theorem runs_all (k : Mc) (m : List M.Pg) (n : Int) (w : World) (hP : Pages w (.slice k.ma k.ml k.mc) m) (hB : MB k m) (ho : k.out.size ≤ 140737488351232) (T : E.Tabs w) :
    Calls Tryd.prog 3 #[.agg (mcells k), .int .i64 n] w (RetIs (.bool true) w) := by
  cases hf : fewB k with
  | false => exact runs_no k m n w hP hB ho T hf
  | true =>
    by_cases h1 : 300 < n
    · exact runs_far k m n w hP hB ho T hf h1
    · exact runs_walk k m n w hP hB ho T hf h1
end Go.Proofs.YtclbkdnihhmglaaDoor
