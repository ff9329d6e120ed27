/- What the texts of package resolve stand on, of the packages ir and pick (part 4). -/
import Derived.Test.YtoglmdadpchhoaaHY2
namespace Go.Proofs.Ytoglmdadpchhoaa
open Go.RowKit
set_option maxRecDepth 100000 in
set_option maxHeartbeats 8000000 in
theorem refSame_any (m k : Md) (F G F' G' : Option Addr) (n cf ng cg n' cf' ng' cg' : Nat) (w : World) (hok : MdOk m) (hok' : MdOk k) (hnf : m.f.length = n) (hng : m.g.length = ng) (hnf' : k.f.length = n') (hng' : k.g.length = ng') (hS : MdAt w (.slice F n cf) (.slice G ng cg) m) (hS' : MdAt w (.slice F' n' cf') (.slice G' ng' cg') k) :
    Calls Try.prog 26 #[.agg #[.slice F n cf, .slice G ng cg], .agg #[.slice F' n' cf', .slice G' ng' cg']] w fun E w' => E = .returned (.bool (sameM m k)) ∧ Below w.heap.size w w' := by
  have HE0 := Lib.hid (show sameM m k = (listB sameF m.f k.f && listB sameG m.g k.g) from rfl)
  obtain ⟨xs, hxs⟩ : ∃ xs, m.f = xs := ⟨_, rfl⟩
  obtain ⟨ys, hys⟩ : ∃ ys, k.f = ys := ⟨_, rfl⟩
  obtain ⟨us, hus⟩ : ∃ us, m.g = us := ⟨_, rfl⟩
  obtain ⟨vs, hvs⟩ : ∃ vs, k.g = vs := ⟨_, rfl⟩
  have HN := Lib.hid (show xs.length ≤ n ∧ n ≤ xs.length by rw [← hxs]; omega)
  have HN' := Lib.hid (show ys.length ≤ n' ∧ n' ≤ ys.length by rw [← hys]; omega)
  have HNG := Lib.hid (show us.length ≤ ng ∧ ng ≤ us.length by rw [← hus]; omega)
  have HNG' := Lib.hid (show vs.length ≤ ng' ∧ ng' ≤ vs.length by rw [← hvs]; omega)
  have HS := Lib.hid (show Funcs w (.slice F n cf) xs from hxs ▸ hS.1)
  have HS' := Lib.hid (show Funcs w (.slice F' n' cf') ys from hys ▸ hS'.1)
  have HSG := Lib.hid (show Globs w (.slice G ng cg) us from hus ▸ hS.2)
  have HSG' := Lib.hid (show Globs w (.slice G' ng' cg') vs from hvs ▸ hS'.2)
  have HOK := Lib.hid (show ∀ x ∈ xs, FnOk x from hxs ▸ hok.1)
  have HOK' := Lib.hid (show ∀ x ∈ ys, FnOk x from hys ▸ hok'.1)
  have n1 : (n : Int) ≤ 9223372036854775807 := by have := hok.2.2.1; omega
  have g1 : (ng : Int) ≤ 9223372036854775807 := by have := hok.2.2.2; omega
  rw [hxs, hys, hus, hvs] at HE0
  clear hS hS' hok hok' hnf hng hnf' hng' hxs hys hus hvs
  obtain ⟨V, hV⟩ : ∃ V, sameM m k = V := ⟨_, rfl⟩
  have HE := Lib.hid (show V = (listB sameF xs ys && listB sameG us vs) from hV.symm.trans HE0.out)
  clear HE0
  rw [hV]
  clear hV
  go_enter Try.func26, Try.ntmps26
  go_upto_region 1 with fail
  have HX := Lib.hid (show ((w.alloc (.cells #[.slice F n cf, .slice G ng cg] 25)).alloc (.cells #[.slice F' n' cf', .slice G' ng' cg'] 25)).heap[w.heap.size]? = some (.cells #[.slice F n cf, .slice G ng cg] 25 (0, 0)) from ((balloc (Below.refl _ _) (.cells #[.slice F' n' cf', .slice G' ng' cg'] 25)).block w.heap.size (Array.getElem?_eq_some_iff.1 (heap_alloc_new w (.cells #[.slice F n cf, .slice G ng cg] 25))).1).trans (heap_alloc_new w (.cells #[.slice F n cf, .slice G ng cg] 25)))
  have HY := Lib.hid (show ((w.alloc (.cells #[.slice F n cf, .slice G ng cg] 25)).alloc (.cells #[.slice F' n' cf', .slice G' ng' cg'] 25)).heap[w.heap.size + 1]? = some (.cells #[.slice F' n' cf', .slice G' ng' cg'] 25 (0, 0)) from by
    have e := heap_alloc_new (w.alloc (.cells #[.slice F n cf, .slice G ng cg] 25)) (.cells #[.slice F' n' cf', .slice G' ng' cg'] 25)
    rwa [World.size_alloc] at e)
  have HB := Lib.hid (boxes2 w #[.slice F n cf, .slice G ng cg] #[.slice F' n' cf', .slice G' ng' cg'] 25)
  generalize (w.alloc (.cells #[.slice F n cf, .slice G ng cg] 25)).alloc (.cells #[.slice F' n' cf', .slice G' ng' cg'] 25) = W0 at *
  have c0 := Lib.cell_of_heap HX.out 0
  have c1 := Lib.cell_of_heap HX.out 1
  simp only [List.getElem?_toArray, List.getElem?_cons_zero, List.getElem?_cons_succ] at c0 c1
  have d0 := Lib.cell_of_heap HY.out 0
  have d1 := Lib.cell_of_heap HY.out 1
  simp only [List.getElem?_toArray, List.getElem?_cons_zero, List.getElem?_cons_succ] at d0 d1
  by_cases hl : n = n'
  case neg =>
    have nl : ((n : Int) == (n' : Int)) = false := by simp; omega
    have HV := Lib.hid (show V = false by rw [HE.out, listB_len (by have := HN.out; have := HN'.out; omega)]; simp)
    go_wp2_with fail
    go_ret
    exact ⟨by rw [HV.out]; rfl, HB.out⟩
  subst hl
  by_cases hlg : ng = ng'
  case neg =>
    have nlg : ((ng : Int) == (ng' : Int)) = false := by simp; omega
    have HV := Lib.hid (show V = false by rw [HE.out, listB_len (p := sameG) (by have := HNG.out; have := HNG'.out; omega)]; simp)
    go_wp2_with fail
    go_ret
    exact ⟨by rw [HV.out]; rfl, HB.out⟩
  subst hlg
  go_wp2_with fail
  clear c0 c1 d0 d1
  go_loopw [5] (fun iv wr => ∃ i : Nat, i ≤ n ∧ iv = .int .i64 i ∧ ((xs.take i).zip (ys.take i)).all (fun x => sameF x.1 x.2) = true ∧ wr.heap[w.heap.size]? = some (.cells #[.slice F n cf, .slice G ng cg] 25 (0, 0)) ∧ wr.heap[w.heap.size + 1]? = some (.cells #[.slice F' n cf', .slice G' ng cg'] 25 (0, 0)) ∧ Below w.heap.size w wr) (fun iv _ => n - (intOf iv).toNat)
  case atStart => exact ⟨0, Nat.zero_le _, rfl, by simp, HX.out, HY.out, HB.out⟩
  case round =>
    obtain ⟨i, hi, rfl, hs, hxx, hyy, hb⟩ := hrel
    have HT := Lib.hid hs
    have HXX := Lib.hid hxx
    have HYY := Lib.hid hyy
    have HBB := Lib.hid hb
    have c0 := Lib.cell_of_heap hxx 0
    simp only [List.getElem?_toArray, List.getElem?_cons_zero] at c0
    have d0 := Lib.cell_of_heap hyy 0
    simp only [List.getElem?_toArray, List.getElem?_cons_zero] at d0
    clear hs hxx hyy
    by_cases hlt : i < n
    · have hm : i < xs.length := by have := HN.out; omega
      have hk : i < ys.length := by have := HN'.out; omega
      obtain ⟨b1, off, hA, hbl, e0⟩ := RowOf.at_ (HS.out.next hb) hm
      obtain ⟨b2, off2, hA2, hbl2, e2⟩ := RowOf.at_ (HS'.out.next hb) hk
      subst hA hA2
      have HNX := Lib.hid (zip_take hm hk HT.out)
      have HNO := Lib.hid (fun h => zip_no (p := sameF) hm hk h)
      have hox := HOK.out _ (List.getElem_mem hm)
      have hoy := HOK'.out _ (List.getElem_mem hk)
      obtain ⟨x, hx⟩ : ∃ x, xs[i] = x := ⟨_, rfl⟩
      obtain ⟨y, hy⟩ : ∃ y, ys[i] = y := ⟨_, rfl⟩
      rw [hx] at e0 HNX HNO hox
      rw [hy] at e2 HNX HNO hoy
      obtain ⟨g0, gg1, g2, A3, z3, g3, hi3⟩ := e0
      obtain ⟨k0, k1, k2, B3, v3, k3, hj3⟩ := e2
      have HC := Lib.hid (fun (U : World) (hu : Below wr.heap.size wr U) => refSameFunc_any x.s y.s x.b x.p y.b y.p x.l y.l A3 B3 _ z3 _ v3 U rfl rfl hox.2.1 hoy.2.1 hox.2.2 hoy.2.2 (hi3.next hu) (hj3.next hu))
      rw [show sameF ⟨x.s, x.b, x.p, x.l⟩ ⟨y.s, y.b, y.p, y.l⟩ = sameF x y from rfl] at HC
      obtain ⟨x0, hx0⟩ : ∃ z, x.s = z := ⟨_, rfl⟩
      obtain ⟨x1, hx1⟩ : ∃ z, x.b = z := ⟨_, rfl⟩
      obtain ⟨x2, hx2⟩ : ∃ z, x.p = z := ⟨_, rfl⟩
      obtain ⟨x3, hx3⟩ : ∃ z, x.l.length = z := ⟨_, rfl⟩
      obtain ⟨y0, hy0⟩ : ∃ z, y.s = z := ⟨_, rfl⟩
      obtain ⟨y1, hy1⟩ : ∃ z, y.b = z := ⟨_, rfl⟩
      obtain ⟨y2, hy2⟩ : ∃ z, y.p = z := ⟨_, rfl⟩
      obtain ⟨y3, hy3⟩ : ∃ z, y.l.length = z := ⟨_, rfl⟩
      rw [hx0, hx1, hx2, hx3, hy0, hy1, hy2, hy3] at HC
      rw [hx0] at g0
      rw [hy0] at k0
      rw [hx1] at gg1
      rw [hy1] at k1
      rw [hx2] at g2
      rw [hy2] at k2
      rw [hx3] at g3
      rw [hy3] at k3
      clear hi3 hj3 hx0 hx1 hx2 hx3 hy0 hy1 hy2 hy3
      obtain ⟨X, hX⟩ : ∃ X, sameF x y = X := ⟨_, rfl⟩
      rw [hX] at HC HNX HNO
      have HV0 := Lib.hid (show X = false → V = false from fun h => by rw [HE.out, HNO.out h]; rfl)
      have hk0 : (0 : Int) ≤ (i : Int) := Int.natCast_nonneg _
      have hk1 : (i : Int) < (n : Int) := by omega
      have HLT := Lib.hid hlt
      have HW := Lib.hid (fun (U : World) (hU : Below wr.heap.size wr U) => (show U.cell? ⟨w.heap.size, 0, none⟩ = some (.slice (some ⟨b1, off, none⟩) n cf) ∧ U.cell? ⟨w.heap.size + 1, 0, none⟩ = some (.slice (some ⟨b2, off2, none⟩) n cf') ∧ U.cell? ⟨b1, off + i * 4, none⟩ = some (.string x0) ∧ U.cell? ⟨b1, off + i * 4 + 1, none⟩ = some (.int .i64 x1) ∧ U.cell? ⟨b1, off + i * 4 + 2, none⟩ = some (.int .i64 x2) ∧ U.cell? ⟨b1, off + i * 4 + 3, none⟩ = some (.slice A3 x3 z3) ∧ U.cell? ⟨b2, off2 + i * 4, none⟩ = some (.string y0) ∧ U.cell? ⟨b2, off2 + i * 4 + 1, none⟩ = some (.int .i64 y1) ∧ U.cell? ⟨b2, off2 + i * 4 + 2, none⟩ = some (.int .i64 y2) ∧ U.cell? ⟨b2, off2 + i * 4 + 3, none⟩ = some (.slice B3 y3 v3) ∧ Below wr.heap.size wr U from by
        have hxu := (hU.block _ (Array.getElem?_eq_some_iff.1 HXX.out).1).trans HXX.out
        have hyu := (hU.block _ (Array.getElem?_eq_some_iff.1 HYY.out).1).trans HYY.out
        exact ⟨Lib.cell_of_heap hxu 0, Lib.cell_of_heap hyu 0, (cellNext hbl hU _).trans g0, (cellNext hbl hU _).trans gg1, (cellNext hbl hU _).trans g2, (cellNext hbl hU _).trans g3, (cellNext hbl2 hU _).trans k0, (cellNext hbl2 hU _).trans k1, (cellNext hbl2 hU _).trans k2, (cellNext hbl2 hU _).trans k3, hU⟩))
      clear hx hy hm hk hlt hX hox hoy HNO hb hbl hbl2 g0 k0 gg1 k1 g2 k2 g3 k3
      go_upto_region 6 with fail
      clear c0 d0
      go_cut [6] from 31 to 42 (fun v7 wx => v7 = .bool X ∧ Below wr.heap.size wr wx)
      case first =>
        have hd := HW.out _ (Below.refl _ wr).drew
        refine wp_region_held_drew (S := (fun U => U.cell? ⟨w.heap.size, 0, none⟩ = some (.slice (some ⟨b1, off, none⟩) n cf) ∧ U.cell? ⟨w.heap.size + 1, 0, none⟩ = some (.slice (some ⟨b2, off2, none⟩) n cf') ∧ U.cell? ⟨b1, off + i * 4, none⟩ = some (.string x0) ∧ U.cell? ⟨b1, off + i * 4 + 1, none⟩ = some (.int .i64 x1) ∧ U.cell? ⟨b1, off + i * 4 + 2, none⟩ = some (.int .i64 x2) ∧ U.cell? ⟨b1, off + i * 4 + 3, none⟩ = some (.slice A3 x3 z3) ∧ U.cell? ⟨b2, off2 + i * 4, none⟩ = some (.string y0) ∧ U.cell? ⟨b2, off2 + i * 4 + 1, none⟩ = some (.int .i64 y1) ∧ U.cell? ⟨b2, off2 + i * 4 + 2, none⟩ = some (.int .i64 y2) ∧ U.cell? ⟨b2, off2 + i * 4 + 3, none⟩ = some (.slice B3 y3 v3) ∧ Below wr.heap.size wr U)) (by kernel_rfl) hd (fun hHeld => ?_)
        refine wpAnyH_take (i := 0) (v := ?_) rfl (by kernel_rfl) (by kernel_rfl) (by kernel_rfl) (fun _ _ _ h => h) (Or.inl ⟨by rfl, ?_⟩) hHeld ?_
        rotate_left
        · intro W' hSw; (try dsimp only at hSw); go_simp; try (with_reducible rfl)
        (try simp only [Act.put, List.getElem_toArray, List.getElem_cons_zero, List.setIfInBounds_toArray, List.set_cons_zero, List.set_cons_succ])
        refine wpAnyH_take (i := 1) (v := ?_) rfl (by kernel_rfl) (by kernel_rfl) (by kernel_rfl) (fun _ _ _ h => h) (Or.inl ⟨by rfl, ?_⟩) hHeld ?_
        rotate_left
        · intro W' hSw; (try dsimp only at hSw); go_simp; try (with_reducible rfl)
        (try simp only [Act.put, List.getElem_toArray, List.getElem_cons_zero, List.getElem_cons_succ, List.setIfInBounds_toArray, List.set_cons_zero, List.set_cons_succ])
        refine wpAnyH_take (i := 2) (v := ?_) rfl (by kernel_rfl) (by kernel_rfl) (by kernel_rfl) (fun _ _ _ h => h) (Or.inl ⟨by rfl, ?_⟩) hHeld ?_
        rotate_left
        · intro W' hSw; (try dsimp only at hSw); go_simp; try (with_reducible rfl)
        (try simp only [Act.put, List.getElem_toArray, List.getElem_cons_zero, List.getElem_cons_succ, List.setIfInBounds_toArray, List.set_cons_zero, List.set_cons_succ])
        refine wpAnyH_take (i := 3) (v := ?_) rfl (by kernel_rfl) (by kernel_rfl) (by kernel_rfl) (fun _ _ _ h => h) (Or.inl ⟨by rfl, ?_⟩) hHeld ?_
        rotate_left
        · intro W' hSw; (try dsimp only at hSw); go_simp; try (with_reducible rfl)
        (try simp only [Act.put, List.getElem_toArray, List.getElem_cons_zero, List.getElem_cons_succ, List.setIfInBounds_toArray, List.set_cons_zero, List.set_cons_succ])
        refine wpAnyH_take (i := 4) (v := ?_) rfl (by kernel_rfl) (by kernel_rfl) (by kernel_rfl) (fun _ _ _ h => h) (Or.inl ⟨by rfl, ?_⟩) hHeld ?_
        rotate_left
        · intro W' hSw; (try dsimp only at hSw); go_simp; try (with_reducible rfl)
        (try simp only [Act.put, List.getElem_toArray, List.getElem_cons_zero, List.getElem_cons_succ, List.setIfInBounds_toArray, List.set_cons_zero, List.set_cons_succ])
        refine wpAnyH_take (i := 5) (v := ?_) rfl (by kernel_rfl) (by kernel_rfl) (by kernel_rfl) (fun _ _ _ h => h) (Or.inl ⟨by rfl, ?_⟩) hHeld ?_
        rotate_left
        · intro W' hSw; (try dsimp only at hSw); go_simp; try (with_reducible rfl)
        (try simp only [Act.put, List.getElem_toArray, List.getElem_cons_zero, List.getElem_cons_succ, List.setIfInBounds_toArray, List.set_cons_zero, List.set_cons_succ])
        refine wpAnyH_take (i := 6) (v := ?_) rfl (by kernel_rfl) (by kernel_rfl) (by kernel_rfl) (fun _ _ _ h => h) (Or.inl ⟨by rfl, ?_⟩) hHeld ?_
        rotate_left
        · intro W' hSw; (try dsimp only at hSw); go_simp; try (with_reducible rfl)
        (try simp only [Act.put, List.getElem_toArray, List.getElem_cons_zero, List.getElem_cons_succ, List.setIfInBounds_toArray, List.set_cons_zero, List.set_cons_succ])
        refine wpAnyH_take (i := 7) (v := ?_) rfl (by kernel_rfl) (by kernel_rfl) (by kernel_rfl) (fun _ _ _ h => h) (Or.inl ⟨by rfl, ?_⟩) hHeld ?_
        rotate_left
        · intro W' hSw; (try dsimp only at hSw); go_simp; try (with_reducible rfl)
        (try simp only [Act.put, List.getElem_toArray, List.getElem_cons_zero, List.getElem_cons_succ, List.setIfInBounds_toArray, List.set_cons_zero, List.set_cons_succ])
        refine wpAnyH_take (i := 8) (v := ?_) rfl (by kernel_rfl) (by kernel_rfl) (by kernel_rfl) (fun _ _ _ h => h) (Or.inl ⟨by rfl, ?_⟩) hHeld ?_
        rotate_left
        · intro W' hSw; (try dsimp only at hSw); go_simp; try (with_reducible rfl)
        (try simp only [Act.put, List.getElem_toArray, List.getElem_cons_zero, List.getElem_cons_succ, List.setIfInBounds_toArray, List.set_cons_zero, List.set_cons_succ])
        refine wpAnyH_take (i := 9) (v := ?_) rfl (by kernel_rfl) (by kernel_rfl) (by kernel_rfl) (fun _ _ _ h => h) (Or.inl ⟨by rfl, ?_⟩) hHeld ?_
        rotate_left
        · intro W' hSw; (try dsimp only at hSw); go_simp; try (with_reducible rfl)
        (try simp only [Act.put, List.getElem_toArray, List.getElem_cons_zero, List.getElem_cons_succ, List.setIfInBounds_toArray, List.set_cons_zero, List.set_cons_succ])
        refine wpAnyH_ready (rs := [10]) (by kernel_rfl) (by simp) ?_
        refine AllReadyH.cons rfl (fun K hK => ?_) AllReadyH.nil
        go_simp
        refine Calls.mono (HC.out _ hHeld.2.2.2.2.2.2.2.2.2.2) ?_
        rintro r u1 ⟨rfl, hb2'⟩
        refine hK.out _ _ (HW.out _ (bthen hHeld.2.2.2.2.2.2.2.2.2.2 hb2')) (fun hHeld2 => ?_)
        clear hK
        (try simp only [Act.put, List.getElem_toArray, List.getElem_cons_zero, List.getElem_cons_succ, List.setIfInBounds_toArray, List.set_cons_zero, List.set_cons_succ])
        refine wpAnyH_take (i := 11) (v := ?_) rfl (by kernel_rfl) (by kernel_rfl) (by kernel_rfl) (fun _ _ _ h => h) (Or.inl ⟨by rfl, ?_⟩) hHeld2 ?_
        rotate_left
        · intro W' hSw; (try dsimp only at hSw); go_simp; try (with_reducible rfl)
        (try simp only [Act.put, List.getElem_toArray, List.getElem_cons_zero, List.getElem_cons_succ, List.setIfInBounds_toArray, List.set_cons_zero, List.set_cons_succ])
        refine wpAnyH_done (by kernel_rfl) ?_ _
        go_wp2_with fail
        go_meet
        exact ⟨rfl, hHeld2.2.2.2.2.2.2.2.2.2.2⟩
      case rest =>
        obtain ⟨rfl, hb3⟩ := hcut
        have HX3 := Lib.hid ((hb3.block _ (Array.getElem?_eq_some_iff.1 HXX.out).1).trans HXX.out)
        have HY3 := Lib.hid ((hb3.block _ (Array.getElem?_eq_some_iff.1 HYY.out).1).trans HYY.out)
        have HB3 := Lib.hid (bthen HBB.out hb3)
        clear hb3
        cases X with
        | false =>
          have HV := Lib.hid (HV0.out rfl)
          go_wp2_with fail
          go_ret
          exact ⟨by rw [HV.out]; rfl, HB3.out⟩
        | true =>
          go_wp2_with fail
          go_roundw
          case rel => exact ⟨i + 1, HLT.out, by go_num, HNX.out, HX3.out, HY3.out, HB3.out⟩
          case measure => have := HLT.out; simp [intOf]; omega
    · have hd : decide ((i : Int) < (n : Int)) = false := by simp; omega
      have HL := Lib.hid (show listB sameF xs ys = true by
        have h := HT.out
        exact zip_all (n := n) (by have := HN.out; omega) (by have := HN'.out; omega) (by rwa [show i = n by omega] at h))
      have HE2 := Lib.hid (show V = listB sameG us vs by rw [HE.out, HL.out]; rfl)
      go_wp2_with fail
      clear c0 d0 hd hlt hb
      go_loopw [7] (fun iv wr => ∃ i : Nat, i ≤ ng ∧ iv = .int .i64 i ∧ ((us.take i).zip (vs.take i)).all (fun x => sameG x.1 x.2) = true ∧ wr.heap[w.heap.size]? = some (.cells #[.slice F n cf, .slice G ng cg] 25 (0, 0)) ∧ wr.heap[w.heap.size + 1]? = some (.cells #[.slice F' n cf', .slice G' ng cg'] 25 (0, 0)) ∧ Below w.heap.size w wr) (fun iv _ => ng - (intOf iv).toNat)
      case atStart => exact ⟨0, Nat.zero_le _, rfl, by simp, HXX.out, HYY.out, HBB.out⟩
      case round =>
        obtain ⟨i, hi, rfl, hs, hxx, hyy, hb⟩ := hrel
        have HT := Lib.hid hs
        have HXX := Lib.hid hxx
        have HYY := Lib.hid hyy
        have HBB := Lib.hid hb
        have c0 := Lib.cell_of_heap hxx 0
        have c1 := Lib.cell_of_heap hxx 1
        simp only [List.getElem?_toArray, List.getElem?_cons_zero, List.getElem?_cons_succ] at c0 c1
        have d0 := Lib.cell_of_heap hyy 0
        have d1 := Lib.cell_of_heap hyy 1
        simp only [List.getElem?_toArray, List.getElem?_cons_zero, List.getElem?_cons_succ] at d0 d1
        clear hs hxx hyy
        by_cases hlt : i < ng
        · have hm : i < us.length := by have := HNG.out; omega
          have hk : i < vs.length := by have := HNG'.out; omega
          obtain ⟨b1, off, hA, hbl, e0⟩ := RowOf.at_ (HSG.out.next hb) hm
          obtain ⟨b2, off2, hA2, hbl2, e2⟩ := RowOf.at_ (HSG'.out.next hb) hk
          subst hA hA2
          have HNX := Lib.hid (zip_take hm hk HT.out)
          have HNO := Lib.hid (fun h => zip_no (p := sameG) hm hk h)
          obtain ⟨⟨x0, x1, x2, x3⟩, hx⟩ : ∃ x, us[i] = x := ⟨_, rfl⟩
          obtain ⟨⟨y0, y1, y2, y3⟩, hy⟩ : ∃ y, vs[i] = y := ⟨_, rfl⟩
          rw [hx] at e0 HNX HNO
          rw [hy] at e2 HNX HNO
          obtain ⟨g0, gg1, g2, g3⟩ := e0
          obtain ⟨k0, k1, k2, k3⟩ := e2
          simp only at g0 gg1 g2 g3 k0 k1 k2 k3
          obtain ⟨X, hX⟩ : ∃ X, sameG ⟨x0, x1, x2, x3⟩ ⟨y0, y1, y2, y3⟩ = X := ⟨_, rfl⟩
          have HQ := Lib.hid (hX.symm.trans (sameG_eq _ _ _ _ _ _ _ _))
          rw [hX] at HNX HNO
          have HV0 := Lib.hid (show X = false → V = false from fun h => by rw [HE2.out]; exact HNO.out h)
          have hk0 : (0 : Int) ≤ (i : Int) := Int.natCast_nonneg _
          have hk1 : (i : Int) < (ng : Int) := by omega
          have HLT := Lib.hid hlt
          clear hx hy hm hk hlt hb hX HNO hbl hbl2
          go_upto_region 12 with fail
          cases h0 : x0 == y0 with
          | false =>
            have m0 : (x0.toList == y0.toList) = false := by rw [← beq_toListBytes]; exact h0
            have HX := Lib.hid (show X = false by rw [HQ.out]; rw [h0]; rfl)
            have HV := Lib.hid (HV0.out HX.out)
            go_quiet (fail)
            go_wp2_with fail
            go_ret
            exact ⟨by rw [HV.out]; rfl, below_drewN HBB.out _⟩
          | true =>
            have m0 : (x0.toList == y0.toList) = true := by rw [← beq_toListBytes]; exact h0
            rw [h0] at HQ
            clear h0
            by_cases h1 : x1 = y1
            case neg =>
              have m1 : (x1 == y1) = false := by simpa using h1
              have HX := Lib.hid (show X = false by rw [HQ.out]; rw [m1]; rfl)
              have HV := Lib.hid (HV0.out HX.out)
              go_quiet (fail)
              go_wp2_with fail
              go_ret
              exact ⟨by rw [HV.out]; rfl, below_drewN HBB.out _⟩
            have m1 : (x1 == y1) = true := by simpa using h1
            rw [m1] at HQ
            clear h1
            cases m2 : x2 == y2 with
            | false =>
              have HX := Lib.hid (show X = false by rw [HQ.out]; rw [m2]; rfl)
              have HV := Lib.hid (HV0.out HX.out)
              go_quiet (fail)
              go_wp2_with fail
              go_ret
              exact ⟨by rw [HV.out]; rfl, below_drewN HBB.out _⟩
            | true =>
              rw [m2] at HQ
              by_cases h3 : x3 = y3
              case neg =>
                have m3 : (x3 == y3) = false := by simpa using h3
                have HX := Lib.hid (show X = false by rw [HQ.out]; rw [m3]; rfl)
                have HV := Lib.hid (HV0.out HX.out)
                go_quiet (fail)
                go_wp2_with fail
                go_ret
                exact ⟨by rw [HV.out]; rfl, below_drewN HBB.out _⟩
              have m3 : (x3 == y3) = true := by simpa using h3
              rw [m3] at HQ
              clear h3
              have HX := Lib.hid (show X = true by rw [HQ.out]; rfl)
              have HTR := Lib.hid (HNX.out.trans HX.out)
              go_quiet (fail)
              go_wp2_with fail
              go_roundw
              case rel => exact ⟨i + 1, HLT.out, by go_num, HTR.out, HXX.out, HYY.out, below_drewN HBB.out _⟩
              case measure => have := HLT.out; simp [intOf]; omega
        · have hd : decide ((i : Int) < (ng : Int)) = false := by simp; omega
          have HV := Lib.hid (show V = true by
            rw [HE2.out]
            have h := HT.out
            exact zip_all (n := ng) (by have := HNG.out; omega) (by have := HNG'.out; omega) (by rwa [show i = ng by omega] at h))
          go_wp2_with fail
          go_ret
          exact ⟨by rw [HV.out]; rfl, HBB.out⟩
theorem listB_refl {α : Type} {p : α → α → Bool} (h : ∀ x, p x x = true) (l : List α) : listB p l l = true := by
  unfold listB
  rw [beq_self_eq_true, Bool.true_and, List.all_eq_true]
  intro x hx
  obtain ⟨i, hi, rfl⟩ := List.getElem_of_mem hx
  rw [List.getElem_zip]
  exact h _
theorem sameI_refl (x : In) : sameI x x = true := by
  unfold sameI
  rw [jba_refl]
  simp
theorem sameB_refl (x : Bk) : sameB x x = true := by
  unfold sameB sameT
  rw [listB_refl sameI_refl]
  simp
theorem sameF_refl (x : Fn) : sameF x x = true := by
  unfold sameF
  rw [jba_refl, listB_refl sameB_refl]
  simp
theorem sameM_refl (m : Md) : sameM m m = true := by
  unfold sameM
  rw [listB_refl sameF_refl, listB_refl fun x => by unfold sameG; rw [jba_refl]; simp]
  rfl
end Go.Proofs.Ytoglmdadpchhoaa

