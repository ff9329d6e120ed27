/- PickAll: all objects are taken, in order, ahead of what archives give: the walk. -/
import Derived.Test.YtcfniagmnkngfaaQR
import Derived.Test.YtcfniagmnkngfaaTB
namespace Go.Proofs.Ytcfniagmnkngfaa
open Go.RowKit

theorem prefix_get {r q : List Md} (h : q <+: r) {j : Nat} (hj : j < q.length) : r[j]'(Nat.lt_of_lt_of_le hj h.length_le) = q[j] := by
  obtain ⟨t, rfl⟩ := h
  rw [List.getElem_append_left hj]
theorem objs_pre (l : List Fl) (i : Nat) : objs (flat (l.take i)) <+: objs (flat l) := by
  have e : flat l = flat (l.take i) ++ flat (l.drop i) := by
    unfold flat
    rw [← List.flatten_append, ← List.map_append, List.take_append_drop]
  rw [e]
  unfold objs
  rw [List.filter_append, List.map_append]
  exact List.prefix_append _ _
theorem objs_at {l : List Fl} (g : Good l) {i : Nat} (hi : i < l.length) (ha : l[i].a = false) : ∃ hj : (objs (flat (l.take i))).length < (objs (flat l)).length, (objs (flat l))[(objs (flat (l.take i))).length] = l[i].m[0]'(by rw [g.oneAt hi ha]; omega) := by
  have h1 := objs_take hi
  rw [ha] at h1
  simp only [Bool.false_eq_true, if_false] at h1
  have h2 := objs_pre l (i + 1)
  have hl := g.oneAt hi ha
  have hlt : (objs (flat (l.take i))).length < (objs (flat (l.take (i + 1)))).length := by rw [h1, List.length_append]; omega
  refine ⟨Nat.lt_of_lt_of_le hlt h2.length_le, ?_⟩
  rw [prefix_get h2 hlt]
  simp only [h1]
  rw [List.getElem_append_right (Nat.le_refl _)]
  simp
theorem taken_len {l : List Fl} {r : List Md} (h : Taken (flat l) r) : r.length ≤ sumM l := by
  obtain ⟨s, h1, -, rfl⟩ := h
  have := steps_left h1
  rw [flat_length] at this
  omega
theorem taken_mdOk {l : List Fl} {r : List Md} (g : Good l) (h : Taken (flat l) r) : ∀ m ∈ r, MdOk m := fun m hm => (taken_small g h m hm).1
set_option maxRecDepth 100000 in
set_option maxHeartbeats 8000000 in
theorem pickAll_all (l : List Fl) (A : Option Addr) (c : Nat) (w : World) (hok : ∀ f ∈ l, FlW f) (h9 : l.length ≤ 9223372036854775807) (hS : Files w (.slice A l.length c) l) :
    Calls Try.prog 5 #[.slice A l.length c] w fun e w' => e = .returned (.bool true) ∧ Below w.heap.size w w' := by
  have HS := Lib.hid hS
  have HT := Lib.hid (fun (U : World) (hU : Below w.heap.size w U) => pickTake_any l A l.length c U rfl h9 (fun f hf => (hok f hf).1) (hS.next hU))
  obtain ⟨n, hn⟩ : ∃ n, l.length = n := ⟨_, rfl⟩
  rw [hn] at HT HS ⊢
  have HN := Lib.hid (show l.length ≤ n ∧ n ≤ l.length by omega)
  have n1 : (n : Int) ≤ 9223372036854775807 := by omega
  clear hok h9 hS hn
  go_enter Try.func5, Try.ntmps5
  go_wp2_with fail
  refine (pshown_any w).mono ?_
  rintro r w1 ⟨rfl, hb1⟩
  have HB1 := Lib.hid hb1
  have HT1 := Lib.hid (HT.out w1 hb1)
  clear hb1 HT
  go_wp2_with fail
  refine HT1.out.mono ?_
  rintro r w2 ⟨hb2, ⟨hne, rfl⟩ | ⟨hg, rr, A2, c2, htk, rfl, hmods, -⟩⟩
  · have HB2 := Lib.hid (bthen HB1.out hb2)
    obtain ⟨V, hV⟩ : ∃ V, pickE l = V := ⟨_, rfl⟩
    rw [hV] at hne ⊢
    have hz1 : (V != 0) = true := by simpa using hne
    clear hb2 HT1 hne hV
    go_wp2_with fail
    go_ret
    exact ⟨rfl, HB2.out⟩
  have HB2 := Lib.hid (bthen HB1.out hb2)
  have HG := Lib.hid hg
  have HTK := Lib.hid htk
  have HMO := Lib.hid hmods
  have HRR := Lib.hid (taken_ok hg htk)
  have HOK := Lib.hid (taken_mdOk hg htk)
  have HLE := Lib.hid (taken_pre htk)
  have HLS := Lib.hid (taken_len htk)
  obtain ⟨nr, hnr⟩ : ∃ q, rr.length = q := ⟨_, rfl⟩
  rw [hnr] at HMO HRR HLS ⊢
  have HNR := Lib.hid hnr
  have r16 : (nr : Int) ≤ 16 := by have := HRR.out.2; omega
  have n8 : (n : Int) ≤ 8 := by have := hg.n8; have := HN.out; omega
  clear hb2 HT1 hg htk hmods hnr
  go_wp2_with fail
  go_loopw [6, 7, 8] (fun ov av iv wr => ∃ i : Nat, i ≤ n ∧ iv = .int .i64 i ∧ ov = .int .i64 ((objs (flat (l.take i))).length : Nat) ∧ av = .int .i64 ((offL l i : Nat)) ∧ Below w2.heap.size w2 wr) (fun _ _ iv _ => n - (intOf iv).toNat)
  case atStart => exact ⟨0, Nat.zero_le _, rfl, rfl, rfl, Below.refl _ _⟩
  case round =>
    obtain ⟨i, hi, rfl, rfl, rfl, hb⟩ := hrel
    have HBX := Lib.hid hb
    clear hb
    have hk0 : (0 : Int) ≤ (i : Int) := Int.natCast_nonneg _
    have HO8 := Lib.hid (show (objs (flat (l.take i))).length ≤ 16 ∧ offL l i ≤ 16 by
      have h1 := objs_len (l := l) i
      have h2 := HG.out.m16
      have h3 := offL_mono (l := l) (i := i) (k := max i l.length) (Nat.le_max_left _ _)
      rw [offL_all (i := max i l.length) (Nat.le_max_right _ _)] at h3
      omega)
    by_cases hlt : i < n
    · have hm : i < l.length := by have := HN.out; omega
      obtain ⟨bf, off, hA, hbl, e0⟩ := RowOf.at_ (HS.out.next (bthen HB2.out HBX.out)) hm
      subst hA
      obtain ⟨g0, A3, z3, g1, hmods⟩ := e0
      have HMD := Lib.hid hmods
      have HMI := Lib.hid (show i < l.length ∧ i < l.length from ⟨hm, hm⟩)
      have HCN := Lib.hid (objs_count HG.out hm)
      have HSU := Lib.hid (offL_succ hm)
      have HOA := Lib.hid (fun (ha : l[i].a = false) => objs_at HG.out hm ha)
      have HL1 := Lib.hid (fun (ha : l[i].a = false) => HG.out.oneAt hm ha)
      obtain ⟨q, hq⟩ : ∃ q, (objs (flat (l.take i))).length = q := ⟨_, rfl⟩
      rw [hq] at HCN HO8 ⊢
      simp only [hq] at HOA
      obtain ⟨x0, h0⟩ : ∃ z, l[i].a = z := ⟨_, rfl⟩
      obtain ⟨nm, h1⟩ : ∃ z, l[i].m.length = z := ⟨_, rfl⟩
      have HXA := Lib.hid (show (l[i]'(HMI.out.1)).a = x0 from h0)
      have HNM := Lib.hid (show (l[i]'(HMI.out.1)).m.length = nm from h1)
      rw [h0] at g0 HCN
      rw [h1] at g1 HSU
      have h16 := HG.out.len _ (List.getElem_mem hm)
      have m16 : (nm : Int) ≤ 16 := by omega
      obtain ⟨o, ho⟩ : ∃ o, offL l i = o := ⟨_, rfl⟩
      rw [ho] at HSU HO8 ⊢
      have q1 : (q : Int) ≤ 16 := by have := HO8.out; omega
      have q2 : (0 : Int) ≤ (q : Int) := Int.natCast_nonneg _
      have o1 : (o : Int) ≤ 16 := by have := HO8.out; omega
      have o2 : (0 : Int) ≤ (o : Int) := Int.natCast_nonneg _
      have m2 : (0 : Int) ≤ (nm : Int) := Int.natCast_nonneg _
      have hk1 : (i : Int) < (n : Int) := by omega
      have HLT := Lib.hid hlt
      clear h0 h1 hlt ho hmods h16
      cases x0 with
      | true =>
        have HX := Lib.hid (show (objs (flat (l.take (i + 1)))).length = q by rw [HCN.out]; rfl)
        clear HOA
        go_wp2_with fail
        go_roundw
        case rel => exact ⟨i + 1, HLT.out, by go_num, by rw [HX.out], by rw [HSU.out]; first | rfl | go_num | rw [Int.natCast_add], HBX.out⟩
        case measure => have := HLT.out; simp [intOf]; omega
      | false =>
        have HX := Lib.hid (show (objs (flat (l.take (i + 1)))).length = q + 1 by rw [HCN.out]; rfl)
        obtain ⟨hqj, heq⟩ := HOA.out HXA.out
        have hnm : nm = 1 := by rw [← HNM.out]; exact HL1.out HXA.out
        subst hnm
        have hqr : q < rr.length := Nat.lt_of_lt_of_le hqj HLE.out.length_le
        have hreq : rr[q] = l[i].m[0]'(by have := HNM.out; omega) := (prefix_get HLE.out hqj).trans heq
        obtain ⟨b2, of2, hA2, hbl2, F, cf, G, cg, p0, p1, hmd⟩ := RowOf.at_ (HMO.out.next HBX.out) hqr
        subst hA2
        obtain ⟨b3, of3, hA3, hbl3, F3, cf3, G3, cg3, s0, s1, hmd3⟩ := RowOf.at_ HMD.out (show 0 < l[i].m.length by have := HNM.out; omega)
        subst hA3
        have hox := HOK.out _ (List.getElem_mem hqr)
        rw [hreq] at p0 p1 hmd hox
        obtain ⟨m, hmm⟩ : ∃ m, l[i].m[0]'(by have := HNM.out; omega) = m := ⟨_, rfl⟩
        rw [hmm] at p0 p1 hmd s0 s1 hmd3 hox
        have HSM := Lib.hid (fun (U : World) (hU : Below wr.heap.size wr U) => refSame_any m m F G F3 G3 m.f.length cf m.g.length cg m.f.length cf3 m.g.length cg3 U hox hox rfl rfl rfl rfl (hmd.next hU) (hmd3.next hU))
        simp only [sameM_refl] at HSM
        obtain ⟨nf, hnf⟩ : ∃ z, m.f.length = z := ⟨_, rfl⟩
        obtain ⟨ng, hng⟩ : ∃ z, m.g.length = z := ⟨_, rfl⟩
        rw [hnf, hng] at HSM
        rw [hnf] at p0 s0
        rw [hng] at p1 s1
        simp only [Nat.zero_mul, Nat.add_zero] at s0 s1
        have q3 : (q : Int) < (nr : Int) := by have := HNR.out; omega
        have q4 : decide ((nr : Int) ≤ (q : Int)) = false := decide_eq_false (by omega)
        have q4' : decide (nr ≤ q) = false := decide_eq_false (by omega)
        have one1 : (0 : Int) < ((1 : Nat) : Int) := by decide
        have HCW := Lib.hid (fun (U : World) (hU : Below wr.heap.size wr U) => (show U.cell? ⟨b2, of2 + q * 2, none⟩ = some (.slice F nf cf) ∧ U.cell? ⟨b2, of2 + q * 2 + 1, none⟩ = some (.slice G ng cg) ∧ U.cell? ⟨bf, off + i * 2 + 1, none⟩ = some (.slice (some ⟨b3, of3, none⟩) 1 z3) ∧ U.cell? ⟨b3, of3, none⟩ = some (.slice F3 nf cf3) ∧ U.cell? ⟨b3, of3 + 1, none⟩ = some (.slice G3 ng cg3) ∧ Below wr.heap.size wr U from
          ⟨(cellNext hbl2 hU _).trans p0, (cellNext hbl2 hU _).trans p1, (cellNext hbl hU _).trans g1, (cellNext hbl3 hU _).trans s0, (cellNext hbl3 hU _).trans s1, hU⟩))
        clear hnf hng hmm hmd hmd3 hox hreq heq hqj hqr hbl2 hbl3 p0 p1 s0 s1 HOA
        go_upto_region 12 with fail
        refine wp_region_held_drew (S := (fun U => U.cell? ⟨b2, of2 + q * 2, none⟩ = some (.slice F nf cf) ∧ U.cell? ⟨b2, of2 + q * 2 + 1, none⟩ = some (.slice G ng cg) ∧ U.cell? ⟨bf, off + i * 2 + 1, none⟩ = some (.slice (some ⟨b3, of3, none⟩) 1 z3) ∧ U.cell? ⟨b3, of3, none⟩ = some (.slice F3 nf cf3) ∧ U.cell? ⟨b3, of3 + 1, none⟩ = some (.slice G3 ng cg3) ∧ Below wr.heap.size wr U)) (by kernel_rfl) (HCW.out _ (Below.refl _ _).drew) (fun hHeld => ?_)
        refine wpAnyH_take (i := 0) (v := ?_) rfl (by kernel_rfl) (by kernel_rfl) (by kernel_rfl) (fun _ _ _ h => h) (Or.inl ⟨by rfl, ?_⟩) hHeld ?_
        rotate_left
        · intro W' hSw; (try dsimp only at hSw); go_simp; try (with_reducible rfl)
        (try simp only [Act.put, List.getElem_toArray, List.getElem_cons_zero, List.getElem_cons_succ, List.setIfInBounds_toArray, List.set_cons_zero, List.set_cons_succ])
        refine wpAnyH_take (i := 1) (v := ?_) rfl (by kernel_rfl) (by kernel_rfl) (by kernel_rfl) (fun _ _ _ h => h) (Or.inl ⟨by rfl, ?_⟩) hHeld ?_
        rotate_left
        · intro W' hSw; (try dsimp only at hSw); go_simp; try (with_reducible rfl)
        (try simp only [Act.put, List.getElem_toArray, List.getElem_cons_zero, List.getElem_cons_succ, List.setIfInBounds_toArray, List.set_cons_zero, List.set_cons_succ])
        refine wpAnyH_take (i := 2) (v := ?_) rfl (by kernel_rfl) (by kernel_rfl) (by kernel_rfl) (fun _ _ _ h => h) (Or.inl ⟨by rfl, ?_⟩) hHeld ?_
        rotate_left
        · intro W' hSw; (try dsimp only at hSw); go_simp; try (with_reducible rfl)
        (try simp only [Act.put, List.getElem_toArray, List.getElem_cons_zero, List.getElem_cons_succ, List.setIfInBounds_toArray, List.set_cons_zero, List.set_cons_succ])
        refine wpAnyH_take (i := 3) (v := ?_) rfl (by kernel_rfl) (by kernel_rfl) (by kernel_rfl) (fun _ _ _ h => h) (Or.inl ⟨by rfl, ?_⟩) hHeld ?_
        rotate_left
        · intro W' hSw; (try dsimp only at hSw); go_simp; try (with_reducible rfl)
        (try simp only [Act.put, List.getElem_toArray, List.getElem_cons_zero, List.getElem_cons_succ, List.setIfInBounds_toArray, List.set_cons_zero, List.set_cons_succ])
        refine wpAnyH_take (i := 4) (v := ?_) rfl (by kernel_rfl) (by kernel_rfl) (by kernel_rfl) (fun _ _ _ h => h) (Or.inl ⟨by rfl, ?_⟩) hHeld ?_
        rotate_left
        · intro W' hSw; (try dsimp only at hSw); go_simp; try (with_reducible rfl)
        (try simp only [Act.put, List.getElem_toArray, List.getElem_cons_zero, List.getElem_cons_succ, List.setIfInBounds_toArray, List.set_cons_zero, List.set_cons_succ])
        refine wpAnyH_take (i := 5) (v := ?_) rfl (by kernel_rfl) (by kernel_rfl) (by kernel_rfl) (fun _ _ _ h => h) (Or.inl ⟨by rfl, ?_⟩) hHeld ?_
        rotate_left
        · intro W' hSw; (try dsimp only at hSw); go_simp; try (with_reducible rfl)
        (try simp only [Act.put, List.getElem_toArray, List.getElem_cons_zero, List.getElem_cons_succ, List.setIfInBounds_toArray, List.set_cons_zero, List.set_cons_succ])
        refine wpAnyH_take (i := 6) (v := ?_) rfl (by kernel_rfl) (by kernel_rfl) (by kernel_rfl) (fun _ _ _ h => h) (Or.inl ⟨by rfl, ?_⟩) hHeld ?_
        rotate_left
        · intro W' hSw; (try dsimp only at hSw); go_simp; try (with_reducible rfl)
        (try simp only [Act.put, List.getElem_toArray, List.getElem_cons_zero, List.getElem_cons_succ, List.setIfInBounds_toArray, List.set_cons_zero, List.set_cons_succ])
        refine wpAnyH_take (i := 7) (v := ?_) rfl (by kernel_rfl) (by kernel_rfl) (by kernel_rfl) (fun _ _ _ h => h) (Or.inl ⟨by rfl, ?_⟩) hHeld ?_
        rotate_left
        · intro W' hSw; (try dsimp only at hSw); go_simp; try (with_reducible rfl)
        (try simp only [Act.put, List.getElem_toArray, List.getElem_cons_zero, List.getElem_cons_succ, List.setIfInBounds_toArray, List.set_cons_zero, List.set_cons_succ])
        refine wpAnyH_take (i := 8) (v := ?_) rfl (by kernel_rfl) (by kernel_rfl) (by kernel_rfl) (fun _ _ _ h => h) (Or.inl ⟨by rfl, ?_⟩) hHeld ?_
        rotate_left
        · intro W' hSw; (try dsimp only at hSw); go_simp; try (with_reducible rfl)
        (try simp only [Act.put, List.getElem_toArray, List.getElem_cons_zero, List.getElem_cons_succ, List.setIfInBounds_toArray, List.set_cons_zero, List.set_cons_succ])
        refine wpAnyH_take (i := 9) (v := ?_) rfl (by kernel_rfl) (by kernel_rfl) (by kernel_rfl) (fun _ _ _ h => h) (Or.inl ⟨by rfl, ?_⟩) hHeld ?_
        rotate_left
        · intro W' hSw; (try dsimp only at hSw); go_simp; try (with_reducible rfl)
        (try simp only [Act.put, List.getElem_toArray, List.getElem_cons_zero, List.getElem_cons_succ, List.setIfInBounds_toArray, List.set_cons_zero, List.set_cons_succ])
        refine wpAnyH_take (i := 10) (v := ?_) rfl (by kernel_rfl) (by kernel_rfl) (by kernel_rfl) (fun _ _ _ h => h) (Or.inl ⟨by rfl, ?_⟩) hHeld ?_
        rotate_left
        · intro W' hSw; (try dsimp only at hSw); go_simp; try (with_reducible rfl)
        (try simp only [Act.put, List.getElem_toArray, List.getElem_cons_zero, List.getElem_cons_succ, List.setIfInBounds_toArray, List.set_cons_zero, List.set_cons_succ])
        refine wpAnyH_take (i := 11) (v := ?_) rfl (by kernel_rfl) (by kernel_rfl) (by kernel_rfl) (fun _ _ _ h => h) (Or.inl ⟨by rfl, ?_⟩) hHeld ?_
        rotate_left
        · intro W' hSw; (try dsimp only at hSw); go_simp; try (with_reducible rfl)
        (try simp only [Act.put, List.getElem_toArray, List.getElem_cons_zero, List.getElem_cons_succ, List.setIfInBounds_toArray, List.set_cons_zero, List.set_cons_succ])
        refine wpAnyH_take (i := 12) (v := ?_) rfl (by kernel_rfl) (by kernel_rfl) (by kernel_rfl) (fun _ _ _ h => h) (Or.inl ⟨by rfl, ?_⟩) hHeld ?_
        rotate_left
        · intro W' hSw; (try dsimp only at hSw); go_simp; try (with_reducible rfl)
        (try simp only [Act.put, List.getElem_toArray, List.getElem_cons_zero, List.getElem_cons_succ, List.setIfInBounds_toArray, List.set_cons_zero, List.set_cons_succ])
        refine wpAnyH_take (i := 13) (v := ?_) rfl (by kernel_rfl) (by kernel_rfl) (by kernel_rfl) (fun _ _ _ h => h) (Or.inl ⟨by rfl, ?_⟩) hHeld ?_
        rotate_left
        · intro W' hSw; (try dsimp only at hSw); go_simp; try (with_reducible rfl)
        (try simp only [Act.put, List.getElem_toArray, List.getElem_cons_zero, List.getElem_cons_succ, List.setIfInBounds_toArray, List.set_cons_zero, List.set_cons_succ])
        refine wpAnyH_take (i := 14) (v := ?_) rfl (by kernel_rfl) (by kernel_rfl) (by kernel_rfl) (fun _ _ _ h => h) (Or.inl ⟨by rfl, ?_⟩) hHeld ?_
        rotate_left
        · intro W' hSw; (try dsimp only at hSw); go_simp; try (with_reducible rfl)
        (try simp only [Act.put, List.getElem_toArray, List.getElem_cons_zero, List.getElem_cons_succ, List.setIfInBounds_toArray, List.set_cons_zero, List.set_cons_succ])
        refine wpAnyH_take (i := 15) (v := ?_) rfl (by kernel_rfl) (by kernel_rfl) (by kernel_rfl) (fun _ _ _ h => h) (Or.inl ⟨by rfl, ?_⟩) hHeld ?_
        rotate_left
        · intro W' hSw; (try dsimp only at hSw); go_simp; try (with_reducible rfl)
        (try simp only [Act.put, List.getElem_toArray, List.getElem_cons_zero, List.getElem_cons_succ, List.setIfInBounds_toArray, List.set_cons_zero, List.set_cons_succ])
        refine wpAnyH_ready (rs := [16]) (by kernel_rfl) (by simp) ?_
        refine AllReadyH.cons rfl (fun K hK => ?_) AllReadyH.nil
        go_simp
        refine Calls.mono (HSM.out _ hHeld.2.2.2.2.2) ?_
        rintro r w5 ⟨rfl, hb5⟩
        have HB5 := Lib.hid (bthen hHeld.2.2.2.2.2 hb5)
        refine hK.out _ _ (HCW.out _ HB5.out) (fun hHeld => ?_)
        clear hK
        (try simp only [Act.put, List.getElem_toArray, List.getElem_cons_zero, List.getElem_cons_succ, List.setIfInBounds_toArray, List.set_cons_zero, List.set_cons_succ])
        refine wpAnyH_take (i := 17) (v := ?_) rfl (by kernel_rfl) (by kernel_rfl) (by kernel_rfl) (fun _ _ _ h => h) (Or.inl ⟨by rfl, ?_⟩) hHeld ?_
        rotate_left
        · intro W' hSw; (try dsimp only at hSw); go_simp; try (with_reducible rfl)
        (try simp only [Act.put, List.getElem_toArray, List.getElem_cons_zero, List.getElem_cons_succ, List.setIfInBounds_toArray, List.set_cons_zero, List.set_cons_succ])
        refine wpAnyH_take (i := 18) (v := ?_) rfl (by kernel_rfl) (by kernel_rfl) (by kernel_rfl) (fun _ _ _ h => h) (Or.inl ⟨by rfl, ?_⟩) hHeld ?_
        rotate_left
        · intro W' hSw; (try dsimp only at hSw); go_simp; try (with_reducible rfl)
        (try simp only [Act.put, List.getElem_toArray, List.getElem_cons_zero, List.getElem_cons_succ, List.setIfInBounds_toArray, List.set_cons_zero, List.set_cons_succ])
        refine wpAnyH_done (by kernel_rfl) ?_ _
        have HB6 := Lib.hid (bthen HBX.out HB5.out)
        clear hHeld hb5
        go_wp2_with fail
        go_roundw
        case rel => exact ⟨i + 1, HLT.out, by go_num, by rw [HX.out]; go_num, by rw [HSU.out]; first | rfl | go_num | rw [Int.natCast_add], HB6.out⟩
        case measure => have := HLT.out; simp [intOf]; omega
    · have hd : decide ((i : Int) < (n : Int)) = false := by simp; omega
      have hin : i = n := by omega
      subst hin
      have HOF := Lib.hid (show offL l i = sumM l from offL_all (by have := HN.out; omega))
      rw [HOF.out] at HO8 ⊢
      obtain ⟨sm, hsm⟩ : ∃ z, sumM l = z := ⟨_, rfl⟩
      rw [hsm] at HLS HO8 ⊢
      have hle : decide ((nr : Int) ≤ (sm : Int)) = true := decide_eq_true (by have := HLS.out; omega)
      have hle' : decide (nr ≤ sm) = true := decide_eq_true HLS.out
      have HBB := Lib.hid (bthen HB2.out HBX.out)
      clear hsm HOF
      go_wp2_with fail
      go_ret
      exact ⟨by first | rfl | simp, HBB.out⟩
end Go.Proofs.Ytcfniagmnkngfaa
