/- PickTakes: all that package pick answers is as the reference says: the walk. -/
import Derived.Test.YtcfniagmnkngfaaQU
import Derived.Test.YtcfniagmnkngfaaQS
import Derived.Test.YtcfniagmnkngfaaQM
import Derived.Test.YtcfniagmnkngfaaQ8
import Derived.Test.YtcfniagmnkngfaaT8
import Derived.Test.YtcfniagmnkngfaaQX
namespace Go.Proofs.Ytcfniagmnkngfaa
open Go.RowKit

set_option maxRecDepth 100000 in
set_option maxHeartbeats 8000000 in
theorem takes_all (m : Md) (l : List Fl) (F G A : Option Addr) (cf cg c : Nat) (w : World) (h16 : (m.f.length + m.g.length) * 16 ≤ 140737488355000) (hok : ∀ f ∈ l, FlW f) (h9 : l.length ≤ 9223372036854775807) (hM : MdAt w (.slice F m.f.length cf) (.slice G m.g.length cg) m) (hS : Files w (.slice A l.length c) l) :
    Calls Try.prog 4 #[.agg #[.slice F m.f.length cf, .slice G m.g.length cg], .slice A l.length c] w fun e w' => e = .returned (.bool true) ∧ Below w.heap.size w w' := by
  have HD0 := Lib.hid (fun (U : World) (hU : Below w.heap.size w U) => defines_any m F G m.f.length cf m.g.length cg U rfl rfl h16 (hM.next hU))
  have HW0 := Lib.hid (fun (U : World) (hU : Below w.heap.size w U) => wants_any m F G m.f.length cf m.g.length cg U rfl rfl h16 (hM.next hU))
  have HRD0 := Lib.hid (fun (U : World) (hU : Below w.heap.size w U) => refDefines_any m F G m.f.length cf m.g.length cg U rfl rfl h16 (hM.next hU))
  have HRW0 := Lib.hid (fun (U : World) (hU : Below w.heap.size w U) => refWants_any m F G m.f.length cf m.g.length cg U rfl rfl h16 (hM.next hU))
  have HT := Lib.hid (fun (U : World) (hU : Below w.heap.size w U) => pickTake_any l A l.length c U rfl h9 (fun f hf => (hok f hf).1) (hS.next hU))
  have HRT := Lib.hid (fun (U : World) (hU : Below w.heap.size w U) => refTake_any l A l.length c U rfl h9 (fun f hf => (hok f hf).1) (fun f hf => (hok f hf).2) (hS.next hU))
  have HCK := Lib.hid (fun (U : World) (hU : Below w.heap.size w U) => pickCheck_any l A l.length c U rfl h9 (fun f hf => (hok f hf).1) (hS.next hU))
  have HRC := Lib.hid (fun (U : World) (hU : Below w.heap.size w U) => refPickCheck_any l A l.length c U rfl h9 (fun f hf => (hok f hf).1) (fun f hf => (hok f hf).2) (hS.next hU))
  have HST := Lib.hid (fun (xs : List ByteArray) (A A' : Option Addr) (c c' : Nat) (U : World) (h9 : xs.length ≤ 9223372036854775807) (h1 : Strs U (.slice A xs.length c) xs) (h2 : Strs U (.slice A' xs.length c') xs) => (show Calls Try.prog 27 #[.slice A xs.length c, .slice A' xs.length c'] U fun e w' => e = .returned (.bool true) ∧ Below U.heap.size U w' from by
    have h := refStrings_any xs xs A A' xs.length xs.length c c' U rfl rfl h9 h1 h2
    rwa [decide_eq_true rfl] at h))
  have HLD := Lib.hid (show (selM defP m).length ≤ 9223372036854775807 by have := selM_len defP m; omega)
  have HLW := Lib.hid (show (selM wantP m).length ≤ 9223372036854775807 by have := selM_len wantP m; omega)
  obtain ⟨n, hn⟩ : ∃ n, l.length = n := ⟨_, rfl⟩
  obtain ⟨nf, hnf⟩ : ∃ z, m.f.length = z := ⟨_, rfl⟩
  obtain ⟨ng, hng⟩ : ∃ z, m.g.length = z := ⟨_, rfl⟩
  rw [hnf, hng] at HD0 HW0 HRD0 HRW0 ⊢
  rw [hn] at HT HRT HCK HRC ⊢
  generalize selM defP m = ds at HD0 HRD0 HLD
  generalize selM wantP m = ws at HW0 HRW0 HLW
  obtain ⟨V, hV⟩ : ∃ V, pickE l = V := ⟨_, rfl⟩
  rw [hV] at HCK HRC
  have HV := Lib.hid hV
  clear h16 hok h9 hM hS hn hnf hng hV
  have HX := Lib.hid (heap_alloc_new w (.cells #[.slice F nf cf, .slice G ng cg] 25))
  have HB0 := Lib.hid (balloc (Below.refl _ w) (.cells #[.slice F nf cf, .slice G ng cg] 25))
  go_enter Try.func4, Try.ntmps4
  go_upto_region 1 with fail
  generalize w.alloc (.cells #[.slice F nf cf, .slice G ng cg] 25) = W0 at *
  go_wp2_with fail
  refine (pshown_any W0).mono ?_
  rintro r w1 ⟨rfl, hb1⟩
  have HB1 := Lib.hid hb1
  have HT1 := Lib.hid (HT.out w1 (bthen HB0.out hb1))
  clear hb1 HT
  go_wp2_with fail
  refine HT1.out.mono ?_
  rintro r w2 ⟨hb2, hcase⟩
  have HB2 := Lib.hid (bthen HB1.out hb2)
  have HT2 := Lib.hid (HRT.out w2 (bthen HB0.out HB2.out))
  clear hb2 HT1 HRT
  obtain ⟨rr, A2, c2, rfl, hm2, hok2, h16r, hgr⟩ : ∃ rr A2 c2, r = .returned (.tuple #[.slice A2 rr.length c2, .int .i64 V]) ∧ Mods w2 (.slice A2 rr.length c2) rr ∧ (∀ m ∈ rr, MdOk m) ∧ rr.length ≤ 16 ∧ ((V ≠ 0 ∧ rr = []) ∨ (Good l ∧ Taken (flat l) rr)) := by
    rcases hcase with ⟨hne, rfl⟩ | ⟨hg, rr, A2, c2, htk, rfl, hmods, -⟩
    · rw [HV.out] at hne ⊢
      exact ⟨[], none, 0, rfl, .inl ⟨rfl, .inl rfl⟩, fun m hm => by simp at hm, by simp, .inl ⟨hne, rfl⟩⟩
    · have hz : V = 0 := by rw [← HV.out]; exact good_zero hg
      subst hz
      exact ⟨rr, A2, c2, rfl, hmods, taken_mdOk hg htk, (taken_ok hg htk).2, .inr ⟨hg, htk⟩⟩
  have HM2 := Lib.hid hm2
  have HGR := Lib.hid hgr
  have HOK2 := Lib.hid hok2
  have HLR := Lib.hid h16r
  obtain ⟨nr, hnr⟩ : ∃ z, rr.length = z := ⟨_, rfl⟩
  rw [hnr] at HM2 HLR ⊢
  have HNR := Lib.hid hnr
  clear hm2 hgr hok2 h16r hcase hnr
  go_wp2_with fail
  refine HT2.out.mono ?_
  rintro r w3 ⟨hb3, hcase⟩
  have HB3 := Lib.hid (bthen HB2.out hb3)
  obtain ⟨A3, c3, rfl, hm3⟩ : ∃ A3 c3, r = .returned (.tuple #[.slice A3 nr c3, .int .i64 V]) ∧ Mods w3 (.slice A3 nr c3) rr := by
    rcases hcase with ⟨hne, rfl⟩ | ⟨hg, r3, A3, c3, htk, rfl, hmods, -⟩
    · rw [HV.out] at hne ⊢
      rcases HGR.out with ⟨-, rfl⟩ | ⟨hg, -⟩
      · have : nr = 0 := by rw [← HNR.out]; rfl
        subst this
        exact ⟨none, 0, rfl, .inl ⟨rfl, .inl rfl⟩⟩
      · exact absurd (good_zero hg) (by rw [HV.out]; exact hne)
    · have hz : V = 0 := by rw [← HV.out]; exact good_zero hg
      subst hz
      rcases HGR.out with ⟨h0, -⟩ | ⟨-, htk2⟩
      · exact absurd rfl h0
      · obtain rfl : r3 = rr := taken_fun htk htk2
        rw [HNR.out] at hmods ⊢
        exact ⟨A3, c3, rfl, hmods⟩
  have HMD := Lib.hid (fun (U : World) (hU : Below w3.heap.size w3 U) => (show Calls Try.prog 26 #[.slice A2 nr c2, .slice A3 nr c3] U fun e w' => e = .returned (.bool true) ∧ Below U.heap.size U w' from by
    have h := refMods_any rr rr A2 A3 nr c2 nr c3 U HNR.out HNR.out (by have := HLR.out; omega) HOK2.out HOK2.out (HM2.out.next (bthen hb3 hU)) (hm3.next hU)
    rwa [listB_refl sameM_refl] at h))
  have HD := Lib.hid (fun (U : World) (hU : Below w3.heap.size w3 U) => HD0.out U (bthen HB0.out (bthen HB3.out hU)))
  have HW := Lib.hid (fun (U : World) (hU : Below w3.heap.size w3 U) => HW0.out U (bthen HB0.out (bthen HB3.out hU)))
  have HRD := Lib.hid (fun (U : World) (hU : Below w3.heap.size w3 U) => HRD0.out U (bthen HB0.out (bthen HB3.out hU)))
  have HRW := Lib.hid (fun (U : World) (hU : Below w3.heap.size w3 U) => HRW0.out U (bthen HB0.out (bthen HB3.out hU)))
  have HCX := Lib.hid (fun (U : World) (hU : Below w3.heap.size w3 U) => (show U.cell? ⟨w.heap.size, 0, none⟩ = some (.slice F nf cf) ∧ U.cell? ⟨w.heap.size, 1, none⟩ = some (.slice G ng cg) ∧ Below w3.heap.size w3 U from by
    have e := ((bthen HB3.out hU).block _ (Array.getElem?_eq_some_iff.1 HX.out).1).trans HX.out
    exact ⟨Lib.cell_of_heap e 0, Lib.cell_of_heap e 1, hU⟩))
  clear hb3 hm3 hcase HT2 HM2 HGR HOK2 HLR HD0 HW0 HRD0 HRW0
  go_upto_region 4 with fail
  refine wp_region_held_drew (S := (fun U => U.cell? ⟨w.heap.size, 0, none⟩ = some (.slice F nf cf) ∧ U.cell? ⟨w.heap.size, 1, none⟩ = some (.slice G ng cg) ∧ Below w3.heap.size w3 U)) (by kernel_rfl) (HCX.out _ (Below.refl _ _).drew) (fun hHeld => ?_)
  refine wpAnyH_take (i := 0) (v := ?_) rfl (by kernel_rfl) (by kernel_rfl) (by kernel_rfl) (fun _ _ _ h => h) (Or.inl ⟨by rfl, ?_⟩) hHeld ?_
  rotate_left
  · intro W' hSw; (try dsimp only at hSw); go_simp; try (with_reducible rfl)
  (try simp only [Act.put, List.getElem_toArray, List.getElem_cons_zero, List.getElem_cons_succ, List.setIfInBounds_toArray, List.set_cons_zero, List.set_cons_succ])
  refine wpAnyH_take (i := 1) (v := ?_) rfl (by kernel_rfl) (by kernel_rfl) (by kernel_rfl) (fun _ _ _ h => h) (Or.inl ⟨by rfl, ?_⟩) hHeld ?_
  rotate_left
  · intro W' hSw; (try dsimp only at hSw); go_simp; try (with_reducible rfl)
  (try simp only [Act.put, List.getElem_toArray, List.getElem_cons_zero, List.getElem_cons_succ, List.setIfInBounds_toArray, List.set_cons_zero, List.set_cons_succ])
  refine wpAnyH_ready (rs := [2]) (by kernel_rfl) (by simp) ?_
  refine AllReadyH.cons rfl (fun K hK => ?_) AllReadyH.nil
  go_simp
  refine Calls.mono (HMD.out _ hHeld.2.2) ?_
  rintro r u2 ⟨rfl, hb2⟩
  have HB2 := Lib.hid (bthen hHeld.2.2 hb2)
  clear hb2
  refine hK.out _ _ (HCX.out _ HB2.out) (fun hHeld => ?_)
  clear hK
  (try simp only [Act.put, List.getElem_toArray, List.getElem_cons_zero, List.getElem_cons_succ, List.setIfInBounds_toArray, List.set_cons_zero, List.set_cons_succ])
  refine wpAnyH_take (i := 3) (v := ?_) rfl (by kernel_rfl) (by kernel_rfl) (by kernel_rfl) (fun _ _ _ h => h) (Or.inl ⟨by rfl, ?_⟩) hHeld ?_
  rotate_left
  · intro W' hSw; (try dsimp only at hSw); go_simp; try (with_reducible rfl)
  (try simp only [Act.put, List.getElem_toArray, List.getElem_cons_zero, List.getElem_cons_succ, List.setIfInBounds_toArray, List.set_cons_zero, List.set_cons_succ])
  refine wpAnyH_take (i := 4) (v := ?_) rfl (by kernel_rfl) (by kernel_rfl) (by kernel_rfl) (fun _ _ _ h => h) (Or.inl ⟨by rfl, ?_⟩) hHeld ?_
  rotate_left
  · intro W' hSw; (try dsimp only at hSw); go_simp; try (with_reducible rfl)
  (try simp only [Act.put, List.getElem_toArray, List.getElem_cons_zero, List.getElem_cons_succ, List.setIfInBounds_toArray, List.set_cons_zero, List.set_cons_succ])
  refine wpAnyH_take (i := 6) (v := ?_) rfl (by kernel_rfl) (by kernel_rfl) (by kernel_rfl) (fun _ _ _ h => h) (Or.inl ⟨by rfl, ?_⟩) hHeld ?_
  rotate_left
  · intro W' hSw; (try dsimp only at hSw); go_simp; try (with_reducible rfl)
  (try simp only [Act.put, List.getElem_toArray, List.getElem_cons_zero, List.getElem_cons_succ, List.setIfInBounds_toArray, List.set_cons_zero, List.set_cons_succ])
  refine wpAnyH_ready (rs := [5]) (by kernel_rfl) (by simp) ?_
  refine AllReadyH.cons rfl (fun K hK => ?_) AllReadyH.nil
  go_simp
  refine Calls.mono (HD.out _ hHeld.2.2) ?_
  rintro r u5 ⟨v5, rfl, hs5, hb5⟩
  obtain ⟨A5, z5, hv5⟩ := RowOf.slice hs5
  subst hv5
  have HS5 := Lib.hid hs5
  have HB5 := Lib.hid (bthen hHeld.2.2 hb5)
  clear hb5 hs5
  refine hK.out _ _ (HCX.out _ HB5.out) (fun hHeld => ?_)
  clear hK
  (try simp only [Act.put, List.getElem_toArray, List.getElem_cons_zero, List.getElem_cons_succ, List.setIfInBounds_toArray, List.set_cons_zero, List.set_cons_succ])
  refine wpAnyH_ready (rs := [7]) (by kernel_rfl) (by simp) ?_
  refine AllReadyH.cons rfl (fun K hK => ?_) AllReadyH.nil
  go_simp
  refine Calls.mono (HRD.out _ hHeld.2.2) ?_
  rintro r u7 ⟨v7, rfl, hs7, hb7⟩
  obtain ⟨A7, z7, hv7⟩ := RowOf.slice hs7
  subst hv7
  have HS7 := Lib.hid hs7
  have HS57 := Lib.hid (HS5.out.next hb7)
  have HB7 := Lib.hid (bthen hHeld.2.2 hb7)
  clear hb7 hs7
  refine hK.out _ _ (HCX.out _ HB7.out) (fun hHeld => ?_)
  clear hK
  (try simp only [Act.put, List.getElem_toArray, List.getElem_cons_zero, List.getElem_cons_succ, List.setIfInBounds_toArray, List.set_cons_zero, List.set_cons_succ])
  refine wpAnyH_ready (rs := [8]) (by kernel_rfl) (by simp) ?_
  refine AllReadyH.cons rfl (fun K hK => ?_) AllReadyH.nil
  go_simp
  refine Calls.mono (HST.out _ _ _ _ _ _ HLD.out HS57.out HS7.out) ?_
  rintro r u8 ⟨rfl, hb8⟩
  have HB8 := Lib.hid (bthen hHeld.2.2 hb8)
  clear hb8
  refine hK.out _ _ (HCX.out _ HB8.out) (fun hHeld => ?_)
  clear hK
  (try simp only [Act.put, List.getElem_toArray, List.getElem_cons_zero, List.getElem_cons_succ, List.setIfInBounds_toArray, List.set_cons_zero, List.set_cons_succ])
  refine wpAnyH_take (i := 9) (v := ?_) rfl (by kernel_rfl) (by kernel_rfl) (by kernel_rfl) (fun _ _ _ h => h) (Or.inl ⟨by rfl, ?_⟩) hHeld ?_
  rotate_left
  · intro W' hSw; (try dsimp only at hSw); go_simp; try (with_reducible rfl)
  (try simp only [Act.put, List.getElem_toArray, List.getElem_cons_zero, List.getElem_cons_succ, List.setIfInBounds_toArray, List.set_cons_zero, List.set_cons_succ])
  refine wpAnyH_take (i := 10) (v := ?_) rfl (by kernel_rfl) (by kernel_rfl) (by kernel_rfl) (fun _ _ _ h => h) (Or.inl ⟨by rfl, ?_⟩) hHeld ?_
  rotate_left
  · intro W' hSw; (try dsimp only at hSw); go_simp; try (with_reducible rfl)
  (try simp only [Act.put, List.getElem_toArray, List.getElem_cons_zero, List.getElem_cons_succ, List.setIfInBounds_toArray, List.set_cons_zero, List.set_cons_succ])
  refine wpAnyH_take (i := 11) (v := ?_) rfl (by kernel_rfl) (by kernel_rfl) (by kernel_rfl) (fun _ _ _ h => h) (Or.inl ⟨by rfl, ?_⟩) hHeld ?_
  rotate_left
  · intro W' hSw; (try dsimp only at hSw); go_simp; try (with_reducible rfl)
  (try simp only [Act.put, List.getElem_toArray, List.getElem_cons_zero, List.getElem_cons_succ, List.setIfInBounds_toArray, List.set_cons_zero, List.set_cons_succ])
  refine wpAnyH_take (i := 13) (v := ?_) rfl (by kernel_rfl) (by kernel_rfl) (by kernel_rfl) (fun _ _ _ h => h) (Or.inl ⟨by rfl, ?_⟩) hHeld ?_
  rotate_left
  · intro W' hSw; (try dsimp only at hSw); go_simp; try (with_reducible rfl)
  (try simp only [Act.put, List.getElem_toArray, List.getElem_cons_zero, List.getElem_cons_succ, List.setIfInBounds_toArray, List.set_cons_zero, List.set_cons_succ])
  refine wpAnyH_ready (rs := [12]) (by kernel_rfl) (by simp) ?_
  refine AllReadyH.cons rfl (fun K hK => ?_) AllReadyH.nil
  go_simp
  refine Calls.mono (HW.out _ hHeld.2.2) ?_
  rintro r u12 ⟨v12, rfl, hs12, hb12⟩
  obtain ⟨A12, z12, hv12⟩ := RowOf.slice hs12
  subst hv12
  have HS12 := Lib.hid hs12
  have HB12 := Lib.hid (bthen hHeld.2.2 hb12)
  clear hb12 hs12
  refine hK.out _ _ (HCX.out _ HB12.out) (fun hHeld => ?_)
  clear hK
  (try simp only [Act.put, List.getElem_toArray, List.getElem_cons_zero, List.getElem_cons_succ, List.setIfInBounds_toArray, List.set_cons_zero, List.set_cons_succ])
  refine wpAnyH_ready (rs := [14]) (by kernel_rfl) (by simp) ?_
  refine AllReadyH.cons rfl (fun K hK => ?_) AllReadyH.nil
  go_simp
  refine Calls.mono (HRW.out _ hHeld.2.2) ?_
  rintro r u14 ⟨v14, rfl, hs14, hb14⟩
  obtain ⟨A14, z14, hv14⟩ := RowOf.slice hs14
  subst hv14
  have HS14 := Lib.hid hs14
  have HS1214 := Lib.hid (HS12.out.next hb14)
  have HB14 := Lib.hid (bthen hHeld.2.2 hb14)
  clear hb14 hs14
  refine hK.out _ _ (HCX.out _ HB14.out) (fun hHeld => ?_)
  clear hK
  (try simp only [Act.put, List.getElem_toArray, List.getElem_cons_zero, List.getElem_cons_succ, List.setIfInBounds_toArray, List.set_cons_zero, List.set_cons_succ])
  refine wpAnyH_ready (rs := [15]) (by kernel_rfl) (by simp) ?_
  refine AllReadyH.cons rfl (fun K hK => ?_) AllReadyH.nil
  go_simp
  refine Calls.mono (HST.out _ _ _ _ _ _ HLW.out HS1214.out HS14.out) ?_
  rintro r u15 ⟨rfl, hb15⟩
  have HB15 := Lib.hid (bthen hHeld.2.2 hb15)
  clear hb15
  refine hK.out _ _ (HCX.out _ HB15.out) (fun hHeld => ?_)
  clear hK
  (try simp only [Act.put, List.getElem_toArray, List.getElem_cons_zero, List.getElem_cons_succ, List.setIfInBounds_toArray, List.set_cons_zero, List.set_cons_succ])
  refine wpAnyH_take (i := 16) (v := ?_) rfl (by kernel_rfl) (by kernel_rfl) (by kernel_rfl) (fun _ _ _ h => h) (Or.inl ⟨by rfl, ?_⟩) hHeld ?_
  rotate_left
  · intro W' hSw; (try dsimp only at hSw); go_simp; try (with_reducible rfl)
  (try simp only [Act.put, List.getElem_toArray, List.getElem_cons_zero, List.getElem_cons_succ, List.setIfInBounds_toArray, List.set_cons_zero, List.set_cons_succ])
  refine wpAnyH_take (i := 17) (v := ?_) rfl (by kernel_rfl) (by kernel_rfl) (by kernel_rfl) (fun _ _ _ h => h) (Or.inl ⟨by rfl, ?_⟩) hHeld ?_
  rotate_left
  · intro W' hSw; (try dsimp only at hSw); go_simp; try (with_reducible rfl)
  (try simp only [Act.put, List.getElem_toArray, List.getElem_cons_zero, List.getElem_cons_succ, List.setIfInBounds_toArray, List.set_cons_zero, List.set_cons_succ])
  refine wpAnyH_done (by kernel_rfl) ?_ _
  have HBE := Lib.hid (bthen HB3.out HB15.out)
  clear hHeld
  go_wp2_with fail
  refine (HCK.out u15 (bthen HB0.out HBE.out)).mono ?_
  rintro r w7 ⟨rfl, hb7⟩
  have HBE2 := Lib.hid (bthen HBE.out hb7)
  clear hb7
  go_wp2_with fail
  refine (HRC.out w7 (bthen HB0.out HBE2.out)).mono ?_
  rintro r w8 ⟨rfl, hb8⟩
  have HBE3 := Lib.hid (bthen HB0.out (bthen HBE2.out hb8))
  clear hb8
  go_wp2_with fail
  go_ret
  exact ⟨by first | rfl | simp, HBE3.out⟩
end Go.Proofs.Ytcfniagmnkngfaa
