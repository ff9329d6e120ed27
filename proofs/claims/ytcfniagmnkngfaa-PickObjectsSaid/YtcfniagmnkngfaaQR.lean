/- PickWanted: each module behind the objects was open when it was taken: the walk. -/
import Derived.Test.YtcfniagmnkngfaaQQ
import Derived.Deep.RegionHeld3
namespace Go.Proofs.Ytcfniagmnkngfaa
open Go.RowKit

theorem mods_take {W : World} {A : Option Addr} {n c i : Nat} {l : List Md} (h : Mods W (.slice A n c) l) (hi : i ≤ n) : Mods W (.slice A i c) (l.take i) := by
  have hn : l.length = n := RowOf.len h
  by_cases h0 : 0 < i
  · rcases h with ⟨rfl, -⟩ | ⟨_, b, off, cap, e, h1, h2⟩
    · simp at hn; omega
    · have e2 := Value.slice.inj e
      obtain ⟨rfl, -, rfl⟩ := e2
      refine .inr ⟨by rw [List.length_take]; omega, b, off, c, by rw [List.length_take, show min i l.length = i by omega], h1, fun j hj => ?_⟩
      rw [List.length_take] at hj
      rw [List.getElem_take]
      exact h2 j (by omega)
  · have hi0 : i = 0 := by omega
    subst hi0
    rcases h with ⟨rfl, h | ⟨a, cap, h⟩⟩ | ⟨_, b, off, cap, e, h1, h2⟩
    · have e2 := Value.slice.inj h
      obtain ⟨rfl, rfl, rfl⟩ := e2
      exact .inl ⟨rfl, .inl rfl⟩
    · have e2 := Value.slice.inj h
      obtain ⟨rfl, rfl, rfl⟩ := e2
      exact .inl ⟨rfl, .inr ⟨_, _, rfl⟩⟩
    · have e2 := Value.slice.inj e
      obtain ⟨rfl, -, rfl⟩ := e2
      exact .inl ⟨rfl, .inr ⟨_, _, rfl⟩⟩
theorem objs_count {l : List Fl} (g : Good l) {i : Nat} (hi : i < l.length) : (objs (flat (l.take (i + 1)))).length = (objs (flat (l.take i))).length + (if l[i].a = true then 0 else 1) := by
  rw [objs_take hi, List.length_append]
  cases ha : l[i].a with
  | true => simp
  | false => simp [g.oneAt hi ha]
theorem taken_pre {l : List Fl} {r : List Md} (h : Taken (flat l) r) : objs (flat l) <+: r := by
  obtain ⟨s, h1, -, rfl⟩ := h
  exact steps_pre h1
theorem taken_open {l : List Fl} {r : List Md} (h : Taken (flat l) r) : ∀ i (hi : i < r.length), (objs (flat l)).length ≤ i → openB (r.take i) r[i] = true := by
  obtain ⟨s, h1, -, rfl⟩ := h
  exact steps_open h1
theorem taken_small {l : List Fl} {r : List Md} (g : Good l) (h : Taken (flat l) r) : ∀ m ∈ r, MdOk m ∧ MdSm m := by
  obtain ⟨s, h1, -, rfl⟩ := h
  exact (steps_ok g h1).1
set_option maxRecDepth 100000 in
set_option maxHeartbeats 8000000 in
theorem wanted_all (l : List Fl) (A : Option Addr) (c : Nat) (w : World) (hok : ∀ f ∈ l, FlW f) (h9 : l.length ≤ 9223372036854775807) (hS : Files w (.slice A l.length c) l) :
    Calls Try.prog 7 #[.slice A l.length c] w fun e w' => e = .returned (.bool true) ∧ Below w.heap.size w w' := by
  have HS := Lib.hid hS
  have HT := Lib.hid (fun (U : World) (hU : Below w.heap.size w U) => pickTake_any l A l.length c U rfl h9 (fun f hf => (hok f hf).1) (hS.next hU))
  obtain ⟨n, hn⟩ : ∃ n, l.length = n := ⟨_, rfl⟩
  rw [hn] at HT HS ⊢
  have HN := Lib.hid (show l.length ≤ n ∧ n ≤ l.length by omega)
  have n1 : (n : Int) ≤ 9223372036854775807 := by omega
  clear hok h9 hS hn
  go_enter Try.func7, Try.ntmps7
  go_wp2_with fail
  refine (pshown_any w).mono ?_
  rintro r w1 ⟨rfl, hb1⟩
  have HB1 := Lib.hid hb1
  have HT1 := Lib.hid (HT.out w1 hb1)
  clear hb1 HT
  go_wp2_with fail
  refine HT1.out.mono ?_
  rintro r w2 ⟨hb2, ⟨hne, rfl⟩ | ⟨hg, rr, A2, c2, htk, rfl, hmods, hcap⟩⟩
  · have HB2 := Lib.hid (bthen HB1.out hb2)
    obtain ⟨V, hV⟩ : ∃ V, pickE l = V := ⟨_, rfl⟩
    rw [hV] at hne ⊢
    have hz1 : (V != 0) = true := by simpa using hne
    clear hb2 HT1 hne hV
    go_wp2_with fail
    go_ret
    exact ⟨rfl, HB2.out⟩
  have HB2 := Lib.hid (bthen HB1.out hb2)
  have HG := Lib.hid hg
  have HTK := Lib.hid htk
  have HMO := Lib.hid hmods
  have HRR := Lib.hid (taken_ok hg htk)
  have HSM := Lib.hid (taken_small hg htk)
  have HLE := Lib.hid (taken_pre htk).length_le
  obtain ⟨nr, hnr⟩ : ∃ q, rr.length = q := ⟨_, rfl⟩
  rw [hnr] at HMO HRR HLE ⊢
  have HNR := Lib.hid hnr
  have HCAP := Lib.hid (show nr ≤ c2 by omega)
  have r16 : (nr : Int) ≤ 16 := by have := HRR.out.2; omega
  have n8 : (n : Int) ≤ 8 := by have := hg.n8; have := HN.out; omega
  clear hb2 HT1 hg htk hmods hnr hcap
  go_wp2_with fail
  go_loopw [6, 7] (fun ov iv wr => ∃ i : Nat, i ≤ n ∧ iv = .int .i64 i ∧ ov = .int .i64 ((objs (flat (l.take i))).length : Nat) ∧ w2 = wr) (fun _ iv _ => n - (intOf iv).toNat)
  case atStart => exact ⟨0, Nat.zero_le _, rfl, rfl, rfl⟩
  case round =>
    obtain ⟨i, hi, rfl, rfl, rfl⟩ := hrel
    have hk0 : (0 : Int) ≤ (i : Int) := Int.natCast_nonneg _
    by_cases hlt : i < n
    · have hm : i < l.length := by have := HN.out; omega
      obtain ⟨bf, off, hA, hbl, e0⟩ := RowOf.at_ (HS.out.next HB2.out) hm
      subst hA
      obtain ⟨g0, -⟩ := e0
      have HCN := Lib.hid (objs_count HG.out hm)
      have HO8 := Lib.hid (show (objs (flat (l.take i))).length ≤ 16 by have := objs_len (l := l) i; have := HG.out.m16; omega)
      obtain ⟨q, hq⟩ : ∃ q, (objs (flat (l.take i))).length = q := ⟨_, rfl⟩
      rw [hq] at HCN HO8 ⊢
      obtain ⟨x0, h0⟩ : ∃ z, l[i].a = z := ⟨_, rfl⟩
      rw [h0] at g0 HCN
      have q1 : (q : Int) ≤ 16 := by have := HO8.out; omega
      have q2 : (0 : Int) ≤ (q : Int) := Int.natCast_nonneg _
      have hk1 : (i : Int) < (n : Int) := by omega
      have HLT := Lib.hid hlt
      clear h0 hlt hbl hq
      cases x0 with
      | true =>
        have HX := Lib.hid (show (objs (flat (l.take (i + 1)))).length = q by rw [HCN.out]; rfl)
        go_wp2_with fail
        go_roundw
        case rel => exact ⟨i + 1, HLT.out, by go_num, by rw [HX.out], trivial⟩
        case measure => have := HLT.out; simp [intOf]; omega
      | false =>
        have HX := Lib.hid (show (objs (flat (l.take (i + 1)))).length = q + 1 by rw [HCN.out]; rfl)
        go_wp2_with fail
        go_roundw
        case rel => exact ⟨i + 1, HLT.out, by go_num, by rw [HX.out]; go_num, trivial⟩
        case measure => have := HLT.out; simp [intOf]; omega
    · have hd : decide ((i : Int) < (n : Int)) = false := by simp; omega
      rw [List.take_of_length_le (by have := HN.out; omega)]
      obtain ⟨q, hq⟩ : ∃ q, (objs (flat l)).length = q := ⟨_, rfl⟩
      rw [hq] at HLE ⊢
      have HQ := Lib.hid hq
      clear hq
      go_wp2_with fail
      clear hd
      go_loopw [8] (fun iv wr => ∃ j : Nat, q ≤ j ∧ j ≤ nr ∧ iv = .int .i64 j ∧ Below w2.heap.size w2 wr) (fun iv _ => nr - (intOf iv).toNat)
      case atStart => exact ⟨q, Nat.le_refl _, HLE.out, rfl, Below.refl _ _⟩
      case round =>
        obtain ⟨j, hj1, hj, rfl, hb⟩ := hrel
        have HBX := Lib.hid hb
        have HJ1 := Lib.hid hj1
        clear hb hj1
        have kk0 : (0 : Int) ≤ (j : Int) := Int.natCast_nonneg _
        by_cases hlj : j < nr
        · have hjr : j < rr.length := by have := HNR.out; omega
          obtain ⟨b2, of2, hA2, hbl2, F, cf, G, cg, q0, q1, hmd⟩ := RowOf.at_ (HMO.out.next HBX.out) hjr
          subst hA2
          have hsm := (HSM.out _ (List.getElem_mem hjr)).2
          have HOP := Lib.hid (fun (U : World) (hU : Below wr.heap.size wr U) => (show Calls Try.prog 35 #[.slice (some ⟨b2, of2, none⟩) j c2, .agg #[.slice F rr[j].f.length cf, .slice G rr[j].g.length cg]] U fun e w' => e = .returned (.bool true) ∧ Below U.heap.size U w' from by
            rw [← taken_open HTK.out j hjr (by have := HQ.out; have := HJ1.out; omega)]
            exact refOpen_any (rr.take j) rr[j] _ F G j c2 _ cf _ cg U (by rw [List.length_take]; omega) (by omega) (fun m hm => HRR.out.1 m (List.mem_of_mem_take hm)) (mdSm_names hsm) rfl rfl (mods_take (HMO.out.next (bthen HBX.out hU)) (by omega)) (hmd.next hU)))
          have HLJ := Lib.hid hlj
          obtain ⟨nf, hnf⟩ : ∃ q, rr[j].f.length = q := ⟨_, rfl⟩
          obtain ⟨ng, hng⟩ : ∃ q, rr[j].g.length = q := ⟨_, rfl⟩
          rw [hnf, hng] at HOP
          rw [hnf] at q0
          rw [hng] at q1
          have kk1 : (j : Int) < (nr : Int) := by omega
          have kk2 : (j : Int) ≤ (c2 : Int) := by have := HCAP.out; omega
          clear hnf hng hmd hsm hlj hjr
          have HCW := Lib.hid (fun (U : World) (hU : Below wr.heap.size wr U) => (show U.cell? ⟨b2, of2 + j * 2, none⟩ = some (.slice F nf cf) ∧ U.cell? ⟨b2, of2 + j * 2 + 1, none⟩ = some (.slice G ng cg) ∧ Below wr.heap.size wr U from ⟨(cellNext hbl2 hU _).trans q0, (cellNext hbl2 hU _).trans q1, hU⟩))
          clear hbl2
          go_upto_region 14 with fail
          refine wp_region_held_drew (S := (fun U => U.cell? ⟨b2, of2 + j * 2, none⟩ = some (.slice F nf cf) ∧ U.cell? ⟨b2, of2 + j * 2 + 1, none⟩ = some (.slice G ng cg) ∧ Below wr.heap.size wr U)) (by kernel_rfl) (HCW.out _ (Below.refl _ _).drew) (fun hHeld => ?_)
          refine wpAnyH_take (i := 0) (v := ?_) rfl (by kernel_rfl) (by kernel_rfl) (by kernel_rfl) (fun _ _ _ h => h) (Or.inl ⟨by rfl, ?_⟩) hHeld ?_
          rotate_left
          · intro W' hSw; (try dsimp only at hSw); go_simp; try (with_reducible rfl)
          (try simp only [Act.put, List.getElem_toArray, List.getElem_cons_zero, List.getElem_cons_succ, List.setIfInBounds_toArray, List.set_cons_zero, List.set_cons_succ])
          refine wpAnyH_take (i := 1) (v := ?_) rfl (by kernel_rfl) (by kernel_rfl) (by kernel_rfl) (fun _ _ _ h => h) (Or.inl ⟨by rfl, ?_⟩) hHeld ?_
          rotate_left
          · intro W' hSw; (try dsimp only at hSw); go_simp; try (with_reducible rfl)
          (try simp only [Act.put, List.getElem_toArray, List.getElem_cons_zero, List.getElem_cons_succ, List.setIfInBounds_toArray, List.set_cons_zero, List.set_cons_succ])
          refine wpAnyH_take (i := 2) (v := ?_) rfl (by kernel_rfl) (by kernel_rfl) (by kernel_rfl) (fun _ _ _ h => h) (Or.inl ⟨by rfl, ?_⟩) hHeld ?_
          rotate_left
          · intro W' hSw; (try dsimp only at hSw); go_simp; try (with_reducible rfl)
          (try simp only [Act.put, List.getElem_toArray, List.getElem_cons_zero, List.getElem_cons_succ, List.setIfInBounds_toArray, List.set_cons_zero, List.set_cons_succ])
          refine wpAnyH_take (i := 3) (v := ?_) rfl (by kernel_rfl) (by kernel_rfl) (by kernel_rfl) (fun _ _ _ h => h) (Or.inl ⟨by rfl, ?_⟩) hHeld ?_
          rotate_left
          · intro W' hSw; (try dsimp only at hSw); go_simp; try (with_reducible rfl)
          (try simp only [Act.put, List.getElem_toArray, List.getElem_cons_zero, List.getElem_cons_succ, List.setIfInBounds_toArray, List.set_cons_zero, List.set_cons_succ])
          refine wpAnyH_take (i := 4) (v := ?_) rfl (by kernel_rfl) (by kernel_rfl) (by kernel_rfl) (fun _ _ _ h => h) (Or.inl ⟨by rfl, ?_⟩) hHeld ?_
          rotate_left
          · intro W' hSw; (try dsimp only at hSw); go_simp; try (with_reducible rfl)
          (try simp only [Act.put, List.getElem_toArray, List.getElem_cons_zero, List.getElem_cons_succ, List.setIfInBounds_toArray, List.set_cons_zero, List.set_cons_succ])
          refine wpAnyH_take (i := 5) (v := ?_) rfl (by kernel_rfl) (by kernel_rfl) (by kernel_rfl) (fun _ _ _ h => h) (Or.inl ⟨by rfl, ?_⟩) hHeld ?_
          rotate_left
          · intro W' hSw; (try dsimp only at hSw); go_simp; try (with_reducible rfl)
          (try simp only [Act.put, List.getElem_toArray, List.getElem_cons_zero, List.getElem_cons_succ, List.setIfInBounds_toArray, List.set_cons_zero, List.set_cons_succ])
          refine wpAnyH_take (i := 6) (v := ?_) rfl (by kernel_rfl) (by kernel_rfl) (by kernel_rfl) (fun _ _ _ h => h) (Or.inl ⟨by rfl, ?_⟩) hHeld ?_
          rotate_left
          · intro W' hSw; (try dsimp only at hSw); go_simp; try (with_reducible rfl)
          (try simp only [Act.put, List.getElem_toArray, List.getElem_cons_zero, List.getElem_cons_succ, List.setIfInBounds_toArray, List.set_cons_zero, List.set_cons_succ])
          refine wpAnyH_ready (rs := [7]) (by kernel_rfl) (by simp) ?_
          refine AllReadyH.cons rfl (fun K hK => ?_) AllReadyH.nil
          go_simp
          refine Calls.mono (HOP.out _ hHeld.2.2) ?_
          rintro r w5 ⟨rfl, hb5⟩
          have HB5 := Lib.hid (bthen hHeld.2.2 hb5)
          refine hK.out _ _ (HCW.out _ HB5.out) (fun hHeld => ?_)
          clear hK
          (try simp only [Act.put, List.getElem_toArray, List.getElem_cons_zero, List.getElem_cons_succ, List.setIfInBounds_toArray, List.set_cons_zero, List.set_cons_succ])
          refine wpAnyH_take (i := 8) (v := ?_) rfl (by kernel_rfl) (by kernel_rfl) (by kernel_rfl) (fun _ _ _ h => h) (Or.inl ⟨by rfl, ?_⟩) hHeld ?_
          rotate_left
          · intro W' hSw; (try dsimp only at hSw); go_simp; try (with_reducible rfl)
          (try simp only [Act.put, List.getElem_toArray, List.getElem_cons_zero, List.getElem_cons_succ, List.setIfInBounds_toArray, List.set_cons_zero, List.set_cons_succ])
          refine wpAnyH_done (by kernel_rfl) ?_ _
          have HB6 := Lib.hid (bthen HBX.out HB5.out)
          clear hHeld hb5 q0 q1
          go_wp2_with fail
          go_roundw
          case rel => exact ⟨j + 1, by have := HJ1.out; omega, HLJ.out, by go_num, HB6.out⟩
          case measure => have := HLJ.out; simp [intOf]; omega
        · have hd : decide ((j : Int) < (nr : Int)) = false := by simp; omega
          have HBB := Lib.hid (bthen HB2.out HBX.out)
          have hge : decide ((q : Int) ≤ (nr : Int)) = true := by simp; have := HLE.out; omega
          go_wp2_with fail
          go_ret
          exact ⟨by simp; exact HLE.out, HBB.out⟩
end Go.Proofs.Ytcfniagmnkngfaa
