/- The reference of package pick: are two rows of modules the same? -/
import Derived.Test.YtcfniagmnkngfaaQ5
import Derived.Test.YtcfniagmnkngfaaTB
namespace Go.Proofs.Ytcfniagmnkngfaa
open Go.RowKit

set_option maxRecDepth 100000 in
set_option maxHeartbeats 8000000 in
theorem refMods_any (xs ys : List Md) (A B : Option Addr) (n c n' c' : Nat) (w : World) (hn : xs.length = n) (hn' : ys.length = n') (h9 : n ≤ 9223372036854775807) (hok : ∀ m ∈ xs, MdOk m) (hok' : ∀ m ∈ ys, MdOk m) (hS : Mods w (.slice A n c) xs) (hS' : Mods w (.slice B n' c') ys) :
    Calls Try.prog 26 #[.slice A n c, .slice B n' c'] w fun e w' => e = .returned (.bool (listB sameM xs ys)) ∧ Below w.heap.size w w' := by
  have HN := Lib.hid (show xs.length ≤ n ∧ n ≤ xs.length by omega)
  have HN' := Lib.hid (show ys.length ≤ n' ∧ n' ≤ ys.length by omega)
  have HS := Lib.hid hS
  have HS' := Lib.hid hS'
  have HOK := Lib.hid hok
  have HOK' := Lib.hid hok'
  have n1 : (n : Int) ≤ 9223372036854775807 := by omega
  obtain ⟨V, hV⟩ : ∃ V, listB sameM xs ys = V := ⟨_, rfl⟩
  have HE := Lib.hid hV
  rw [hV]
  clear hS hS' hok hok' hn hn' h9 hV
  go_enter Try.func26, Try.ntmps26
  by_cases hl : n = n'
  case neg =>
    have nl : ((n : Int) == (n' : Int)) = false := by simp; omega
    have HV := Lib.hid (show V = false by rw [← HE.out, listB_len (by have := HN.out; have := HN'.out; omega)])
    go_wp2_with fail
    go_ret
    exact ⟨by rw [HV.out]; rfl, Below.refl _ _⟩
  subst hl
  go_wp2_with fail
  go_loopw [5] (fun iv wr => ∃ i : Nat, i ≤ n ∧ iv = .int .i64 i ∧ ((xs.take i).zip (ys.take i)).all (fun x => sameM x.1 x.2) = true ∧ Below w.heap.size w wr) (fun iv _ => n - (intOf iv).toNat)
  case atStart => exact ⟨0, Nat.zero_le _, rfl, by simp, Below.refl _ _⟩
  case round =>
    obtain ⟨i, hi, rfl, hs, hb⟩ := hrel
    have HT := Lib.hid hs
    have HBB := Lib.hid hb
    clear hs
    by_cases hlt : i < n
    · have hm : i < xs.length := by have := HN.out; omega
      have hk : i < ys.length := by have := HN'.out; omega
      obtain ⟨b1, off, hA, hbl, F, cf, G, cg, g0, g1, hmd⟩ := RowOf.at_ (HS.out.next hb) hm
      obtain ⟨b2, off2, hA2, hbl2, F2, cf2, G2, cg2, k0, k1, hmd2⟩ := RowOf.at_ (HS'.out.next hb) hk
      subst hA hA2
      have HNX := Lib.hid (zip_take hm hk HT.out)
      have HV0 := Lib.hid (fun h => HE.out.symm.trans (zip_no (p := sameM) hm hk h))
      have hox := HOK.out _ (List.getElem_mem hm)
      have hoy := HOK'.out _ (List.getElem_mem hk)
      obtain ⟨x, hx⟩ : ∃ x, xs[i] = x := ⟨_, rfl⟩
      obtain ⟨y, hy⟩ : ∃ y, ys[i] = y := ⟨_, rfl⟩
      rw [hx] at g0 g1 hmd HNX HV0 hox
      rw [hy] at k0 k1 hmd2 HNX HV0 hoy
      have HC := Lib.hid (fun (U : World) (hu : Below wr.heap.size wr U) => refSame_any x y F G F2 G2 x.f.length cf x.g.length cg y.f.length cf2 y.g.length cg2 U hox hoy rfl rfl rfl rfl (hmd.next hu) (hmd2.next hu))
      obtain ⟨nf, hnf⟩ : ∃ q, x.f.length = q := ⟨_, rfl⟩
      obtain ⟨ng, hng⟩ : ∃ q, x.g.length = q := ⟨_, rfl⟩
      obtain ⟨nf2, hnf2⟩ : ∃ q, y.f.length = q := ⟨_, rfl⟩
      obtain ⟨ng2, hng2⟩ : ∃ q, y.g.length = q := ⟨_, rfl⟩
      obtain ⟨X, hX⟩ : ∃ X, sameM x y = X := ⟨_, rfl⟩
      rw [hnf, hng, hnf2, hng2, hX] at HC
      rw [hX] at HNX HV0
      rw [hnf] at g0
      rw [hng] at g1
      rw [hnf2] at k0
      rw [hng2] at k1
      have hk0 : (0 : Int) ≤ (i : Int) := Int.natCast_nonneg _
      have hk1 : (i : Int) < (n : Int) := by omega
      have HLT := Lib.hid hlt
      have HW := Lib.hid (fun (U : World) (hU : Below wr.heap.size wr U) => (show U.cell? ⟨b1, off + i * 2, none⟩ = some (.slice F nf cf) ∧ U.cell? ⟨b1, off + i * 2 + 1, none⟩ = some (.slice G ng cg) ∧ U.cell? ⟨b2, off2 + i * 2, none⟩ = some (.slice F2 nf2 cf2) ∧ U.cell? ⟨b2, off2 + i * 2 + 1, none⟩ = some (.slice G2 ng2 cg2) ∧ Below wr.heap.size wr U from ⟨(cellNext hbl hU _).trans g0, (cellNext hbl hU _).trans g1, (cellNext hbl2 hU _).trans k0, (cellNext hbl2 hU _).trans k1, hU⟩))
      clear hx hy hm hk hlt hX hox hoy hmd hmd2 hnf hng hnf2 hng2 hb hbl hbl2 g0 g1 k0 k1
      go_upto_region 6 with fail
      go_cut [6] from 18 to 27 (fun v7 wx => v7 = .bool X ∧ Below wr.heap.size wr wx)
      case first =>
        have hd := HW.out _ (Below.refl _ wr).drew
        refine wp_region_held_drew (S := (fun U => U.cell? ⟨b1, off + i * 2, none⟩ = some (.slice F nf cf) ∧ U.cell? ⟨b1, off + i * 2 + 1, none⟩ = some (.slice G ng cg) ∧ U.cell? ⟨b2, off2 + i * 2, none⟩ = some (.slice F2 nf2 cf2) ∧ U.cell? ⟨b2, off2 + i * 2 + 1, none⟩ = some (.slice G2 ng2 cg2) ∧ Below wr.heap.size wr U)) (by kernel_rfl) hd (fun hHeld => ?_)
        refine wpAnyH_take (i := 0) (v := ?_) rfl (by kernel_rfl) (by kernel_rfl) (by kernel_rfl) (fun _ _ _ h => h) (Or.inl ⟨by rfl, ?_⟩) hHeld ?_
        rotate_left
        · intro W' hSw; (try dsimp only at hSw); go_simp; try (with_reducible rfl)
        (try simp only [Act.put, List.getElem_toArray, List.getElem_cons_zero, List.setIfInBounds_toArray, List.set_cons_zero, List.set_cons_succ])
        refine wpAnyH_take (i := 1) (v := ?_) rfl (by kernel_rfl) (by kernel_rfl) (by kernel_rfl) (fun _ _ _ h => h) (Or.inl ⟨by rfl, ?_⟩) hHeld ?_
        rotate_left
        · intro W' hSw; (try dsimp only at hSw); go_simp; try (with_reducible rfl)
        (try simp only [Act.put, List.getElem_toArray, List.getElem_cons_zero, List.getElem_cons_succ, List.setIfInBounds_toArray, List.set_cons_zero, List.set_cons_succ])
        refine wpAnyH_take (i := 2) (v := ?_) rfl (by kernel_rfl) (by kernel_rfl) (by kernel_rfl) (fun _ _ _ h => h) (Or.inl ⟨by rfl, ?_⟩) hHeld ?_
        rotate_left
        · intro W' hSw; (try dsimp only at hSw); go_simp; try (with_reducible rfl)
        (try simp only [Act.put, List.getElem_toArray, List.getElem_cons_zero, List.getElem_cons_succ, List.setIfInBounds_toArray, List.set_cons_zero, List.set_cons_succ])
        refine wpAnyH_take (i := 3) (v := ?_) rfl (by kernel_rfl) (by kernel_rfl) (by kernel_rfl) (fun _ _ _ h => h) (Or.inl ⟨by rfl, ?_⟩) hHeld ?_
        rotate_left
        · intro W' hSw; (try dsimp only at hSw); go_simp; try (with_reducible rfl)
        (try simp only [Act.put, List.getElem_toArray, List.getElem_cons_zero, List.getElem_cons_succ, List.setIfInBounds_toArray, List.set_cons_zero, List.set_cons_succ])
        refine wpAnyH_take (i := 4) (v := ?_) rfl (by kernel_rfl) (by kernel_rfl) (by kernel_rfl) (fun _ _ _ h => h) (Or.inl ⟨by rfl, ?_⟩) hHeld ?_
        rotate_left
        · intro W' hSw; (try dsimp only at hSw); go_simp; try (with_reducible rfl)
        (try simp only [Act.put, List.getElem_toArray, List.getElem_cons_zero, List.getElem_cons_succ, List.setIfInBounds_toArray, List.set_cons_zero, List.set_cons_succ])
        refine wpAnyH_take (i := 5) (v := ?_) rfl (by kernel_rfl) (by kernel_rfl) (by kernel_rfl) (fun _ _ _ h => h) (Or.inl ⟨by rfl, ?_⟩) hHeld ?_
        rotate_left
        · intro W' hSw; (try dsimp only at hSw); go_simp; try (with_reducible rfl)
        (try simp only [Act.put, List.getElem_toArray, List.getElem_cons_zero, List.getElem_cons_succ, List.setIfInBounds_toArray, List.set_cons_zero, List.set_cons_succ])
        refine wpAnyH_take (i := 6) (v := ?_) rfl (by kernel_rfl) (by kernel_rfl) (by kernel_rfl) (fun _ _ _ h => h) (Or.inl ⟨by rfl, ?_⟩) hHeld ?_
        rotate_left
        · intro W' hSw; (try dsimp only at hSw); go_simp; try (with_reducible rfl)
        (try simp only [Act.put, List.getElem_toArray, List.getElem_cons_zero, List.getElem_cons_succ, List.setIfInBounds_toArray, List.set_cons_zero, List.set_cons_succ])
        refine wpAnyH_take (i := 7) (v := ?_) rfl (by kernel_rfl) (by kernel_rfl) (by kernel_rfl) (fun _ _ _ h => h) (Or.inl ⟨by rfl, ?_⟩) hHeld ?_
        rotate_left
        · intro W' hSw; (try dsimp only at hSw); go_simp; try (with_reducible rfl)
        (try simp only [Act.put, List.getElem_toArray, List.getElem_cons_zero, List.getElem_cons_succ, List.setIfInBounds_toArray, List.set_cons_zero, List.set_cons_succ])
        refine wpAnyH_ready (rs := [8]) (by kernel_rfl) (by simp) ?_
        refine AllReadyH.cons rfl (fun K hK => ?_) AllReadyH.nil
        go_simp
        refine Calls.mono (HC.out _ hHeld.2.2.2.2) ?_
        rintro r u1 ⟨rfl, hb2'⟩
        refine hK.out _ _ (HW.out _ (bthen hHeld.2.2.2.2 hb2')) (fun hHeld2 => ?_)
        clear hK
        (try simp only [Act.put, List.getElem_toArray, List.getElem_cons_zero, List.getElem_cons_succ, List.setIfInBounds_toArray, List.set_cons_zero, List.set_cons_succ])
        refine wpAnyH_take (i := 9) (v := ?_) rfl (by kernel_rfl) (by kernel_rfl) (by kernel_rfl) (fun _ _ _ h => h) (Or.inl ⟨by rfl, ?_⟩) hHeld2 ?_
        rotate_left
        · intro W' hSw; (try dsimp only at hSw); go_simp; try (with_reducible rfl)
        (try simp only [Act.put, List.getElem_toArray, List.getElem_cons_zero, List.getElem_cons_succ, List.setIfInBounds_toArray, List.set_cons_zero, List.set_cons_succ])
        refine wpAnyH_done (by kernel_rfl) ?_ _
        go_wp2_with fail
        go_meet
        exact ⟨rfl, hHeld2.2.2.2.2⟩
      case rest =>
        obtain ⟨rfl, hb3⟩ := hcut
        have HB3 := Lib.hid (bthen HBB.out hb3)
        clear hb3
        cases X with
        | false =>
          have HV := Lib.hid (HV0.out rfl)
          go_wp2_with fail
          go_ret
          exact ⟨by rw [HV.out]; rfl, HB3.out⟩
        | true =>
          go_wp2_with fail
          go_roundw
          case rel => exact ⟨i + 1, HLT.out, by go_num, HNX.out, HB3.out⟩
          case measure => have := HLT.out; simp [intOf]; omega
    · have hd : decide ((i : Int) < (n : Int)) = false := by simp; omega
      have HV := Lib.hid (show V = true by
        have h := HT.out
        rw [← HE.out]
        exact zip_all (n := n) (by have := HN.out; omega) (by have := HN'.out; omega) (by rwa [show i = n by omega] at h))
      go_wp2_with fail
      go_ret
      exact ⟨by rw [HV.out]; rfl, HBB.out⟩
end Go.Proofs.Ytcfniagmnkngfaa
