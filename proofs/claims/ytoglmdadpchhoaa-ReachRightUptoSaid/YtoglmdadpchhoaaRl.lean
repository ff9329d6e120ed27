/- ReachGrows: the walk. -/
import Derived.Test.YtoglmdadpchhoaaRh
namespace Go.Proofs.Ytoglmdadpchhoaa
open Go.RowKit Go.Shelf

theorem step_wp {P : Program} {w : World} {ops : Array Oper} {o : Oper} {a : Act} {K : Act → World → Prop} {Q : Exit → Act → World → Prop} {E : Prop} (hgd : o.guard = none) (h : Oper.wp P o a w K Q) : if Region.wanted o (yielded ops a.tmps) = true then Oper.wp P o a w K Q else E := by
  have hw : Region.wanted o (yielded ops a.tmps) = true := by simp [Region.wanted, hgd]
  rw [if_pos hw]
  exact h
/-- an empty row of names of the call's own -/
theorem strs_empty (w : World) : OwnsN (w.alloc (.cells #[] 9)) w.heap.size (.slice (some ⟨w.heap.size, 0, none⟩) 0 0) [] :=
  ⟨rfl, .inr ⟨w.heap.size, 0, #[], rfl, Nat.le_refl _, heap_alloc_new w _, Nat.le_refl _, by unfold maxLen; omega, rfl, rfl⟩⟩
theorem wp_append_str1 {w U : World} {o : Oper} {a : Act} {K : Act → World → Prop} {Q : Exit → Act → World → Prop} {s x : Operand} {v : Value} {L : List ByteArray} {y : ByteArray} {Hh : Nat}
    (ho : o.op = .call { callee := .builtin .append, args := #[s, x], argTypes := #[45, 45] }) (hs : a.eval s = v) (hx : a.eval x = .slice (some ⟨Hh, 0, none⟩) 1 1)
    (hO : OwnsN U w.heap.size v L) (hX : U.heap[Hh]? = some (.cells #[.string y] 9 (0, 0))) (hn : L.length ≤ 1048576) (hb : Below w.heap.size w U)
    (h : ∀ v' U', OwnsN U' w.heap.size v' (L ++ [y]) → Below w.heap.size w U' → K (a.put o.dst v') U') : o.wp Try.prog a U K Q := by
  have ho1 : U.ownsRow w.heap.size 9 1 v L.length (strRow L) := hO
  obtain ⟨i0, hi0, hz0, hz1, hz2⟩ := info_parts str_info
  refine wp_append_lies U s x 45 ho w.heap.size 9 i0 _ 1 16 Try.underlying45 hi0 hz0 hz1 hz2 rfl (by decide) v L.length (strRow L) hs ho1 ⟨Hh, 0, none⟩ 1 1 [.string y] hx rfl (World.news_of_block (cs := #[.string y]) hX) (by simp [Value.oneCell']) (by decide) (by unfold maxLen; omega) (by omega) hb.size U.heap.size rfl (fun g cap w' h2 h3 h4 h5 => ?_)
  exact h _ w' (by unfold OwnsN strRow; rw [List.length_append, List.map_append]; exact h2) (hb.grown h3 hb.size (fun q hq => (ho1.lt q hq).1))
theorem run_append_zero {P : Program} {w : World} (base : Nat) (t ty e : TypeId) (i : TypeInfo) (size : Nat) (ht : P.underlying t = some (.slice e)) (hi : P.info? e = some i)
    (v : Value) (n : Nat) (xs : List Value) (hown : w.ownsRow base e size v n xs) (ad : Addr) (c : Nat) :
    (Builtin.append_ #[t, t] ty #[v, .slice (some ad) 0 c]).run P w = .ok v w := by
  rcases hown.2 with ⟨rfl, rfl⟩ | ⟨g, cap, cur, rfl, _, _, hnc, _⟩
  · simp [Builtin.append_, run_underlying ht, sizeOf, typeInfo, hi, Builtin.lenOf, Builtin.firstCells, loadCells, loadCellsFrom]
  · simp [Builtin.append_, run_underlying ht, sizeOf, typeInfo, hi, Builtin.lenOf, Builtin.firstCells, hnc, storeCells, loadCells, loadCellsFrom]
/-- append of all names of a row that lies there, onto an empty row of the call's own -/
theorem wp_append_strs {w U : World} {o : Oper} {a : Act} {K : Act → World → Prop} {Q : Exit → Act → World → Prop} {s x : Operand} {A : Option Addr} {n c g0 : Nat} {L : List ByteArray}
    (ho : o.op = .call { callee := .builtin .append, args := #[s, x], argTypes := #[45, 45] }) (hs : a.eval s = .slice (some ⟨g0, 0, none⟩) 0 0) (hx : a.eval x = .slice A n c)
    (hO : OwnsN U w.heap.size (.slice (some ⟨g0, 0, none⟩) 0 0) []) (hM : Strs w (.slice A n c) L) (hn : L.length ≤ 1048576) (hb : Below w.heap.size w U)
    (h : ∀ v' U', OwnsN U' w.heap.size v' L → Below w.heap.size w U' → U.grownBy U' (some g0) → K (a.put o.dst v') U') : o.wp Try.prog a U K Q := by
  have ho1 : U.ownsRow w.heap.size 9 1 (.slice (some ⟨g0, 0, none⟩) 0 0) 0 [] := hO
  obtain ⟨i0, hi0, hz0, hz1, hz2⟩ := info_parts str_info
  have hrefl : U.grownBy U (some g0) := ⟨rfl, rfl, rfl, Nat.le_refl _, fun _ _ _ => rfl⟩
  rcases hM with ⟨rfl, e | ⟨ad, cap, e⟩⟩ | ⟨hl, b, off, cap, e, hbl, hcell⟩
  · obtain ⟨rfl, rfl, rfl⟩ := Value.slice.inj e
    have hrun := run_append_owned_none (P := Try.prog) (w := U) w.heap.size 45 o.type 9 i0 1 Try.underlying45 hi0 _ 0 [] ho1
    unfold Oper.wp
    simp [execOp, ho, resolve, invoke, builtin, hs, hx, hrun, Result.andThen]
    exact h _ U hO hb hrefl
  · obtain ⟨rfl, rfl, rfl⟩ := Value.slice.inj e
    have hrun := run_append_zero (P := Try.prog) (w := U) w.heap.size 45 o.type 9 i0 1 Try.underlying45 hi0 _ 0 [] ho1 ad c
    unfold Oper.wp
    simp [execOp, ho, resolve, invoke, builtin, hs, hx, hrun, Result.andThen]
    exact h _ U hO hb hrefl
  · obtain ⟨rfl, rfl, rfl⟩ := Value.slice.inj e
    refine wp_append_lies U s x 45 ho w.heap.size 9 i0 _ 1 16 Try.underlying45 hi0 hz0 hz1 hz2 rfl (by decide) (.slice (some ⟨g0, 0, none⟩) 0 0) 0 [] hs ho1 ⟨b, off, none⟩ L.length c (strRow L) hx (by simp [strRow]) (fun j u hu => by
      have hj : j < L.length := by
        have := (List.getElem?_eq_some_iff.1 hu).1
        simpa [strRow] using this
      have hu' : u = .string L[j] := by
        have : (strRow L)[j]? = some (.string L[j]) := by simp [strRow, hj]
        rw [this] at hu
        exact (Option.some.inj hu).symm
      subst hu'
      have hc := hcell j hj
      rw [Nat.mul_one] at hc
      rw [int_add]
      exact (cellNext hbl hb _).trans hc) (fun u hu => by
      simp only [strRow, List.mem_map] at hu
      obtain ⟨q, -, rfl⟩ := hu
      rfl) hl (by unfold maxLen; omega) (by omega) hb.size U.heap.size rfl (fun g cap2 w' h2 h3 h4 h5 => ?_)
    rw [Nat.zero_add, List.nil_append] at h2
    exact h _ w' (by unfold OwnsN; rw [Nat.zero_add]; exact h2) (hb.grown h3 hb.size (fun q hq => (ho1.lt q hq).1)) h3
set_option maxRecDepth 100000 in
set_option maxHeartbeats 16000000 in
theorem grows_all (m : Md) (roots : List ByteArray) (F G A : Option Addr) (cf cg cr : Nat) (more : ByteArray) (w : World) (hok : MdOk m) (hk : MdK 1048576 m) (hmr : more.size < 9223372036854775808) (hrk : ∀ s ∈ roots, s.size < 9223372036854775808) (hr9 : roots.length ≤ 1048575) (hS : MdAt w (.slice F m.f.length cf) (.slice G m.g.length cg) m) (hR : Strs w (.slice A roots.length cr) roots) :
    Calls Try.prog 9 #[.agg #[.slice F m.f.length cf, .slice G m.g.length cg], .slice A roots.length cr, .string more] w fun e w' => e = .returned (.bool true) ∧ Below w.heap.size w w' := by
  obtain ⟨nf, hnf⟩ : ∃ q, m.f.length = q := ⟨_, rfl⟩
  obtain ⟨ng, hng⟩ : ∃ q, m.g.length = q := ⟨_, rfl⟩
  obtain ⟨nr, hnr⟩ : ∃ q, roots.length = q := ⟨_, rfl⟩
  rw [hnf, hng] at hS ⊢
  rw [hnr] at hR hr9 ⊢
  have h20 : nf + ng ≤ 1048576 := by have := hk.1; omega
  have HFR := Lib.hid (fun (U : World) (hU : Below w.heap.size w U) (x : ByteArray) (hx : x.size < 9223372036854775808) => from_one m F G nf cf ng cg w U x hok hk hx hnf hng hS hU)
  have HFE := Lib.hid (fun (U : World) => few_any m F G nf cf ng cg U hnf hng h20)
  obtain ⟨L, hL⟩ : ∃ L, fromE m roots = L := ⟨_, rfl⟩
  obtain ⟨B, hB⟩ : ∃ B, fromE m (roots ++ [more]) = B := ⟨_, rfl⟩
  have hFL := fun (U : World) (hU : Below w.heap.size w U) => from_any m F G nf cf ng cg roots A nr cr U hok hk hok.2.1 hnf hng (hS.next hU) hnr (by omega) hrk (hR.next hU)
  have hFB := fun (U : World) (hU : Below w.heap.size w U) (A' : Option Addr) (n' c' : Nat) (hn' : (roots ++ [more]).length = n') (hR' : Strs U (.slice A' n' c') (roots ++ [more])) => from_any m F G nf cf ng cg (roots ++ [more]) A' n' c' U hok hk hok.2.1 hnf hng (hS.next hU) hn' (by rw [← hn', List.length_append, hnr]; simp; omega) (fun s hs => by rcases List.mem_append.1 hs with h | h; exact hrk s h; rw [List.mem_singleton.1 h]; exact hmr) hR'
  unfold MadeN at hFL hFB
  rw [hL] at hFL
  rw [hB] at hFB
  obtain ⟨nA, hnA⟩ : ∃ q, L.length = q := ⟨_, rfl⟩
  obtain ⟨nB, hnB⟩ : ∃ q, B.length = q := ⟨_, rfl⟩
  rw [hnA] at hFL
  rw [hnB] at hFB
  have HFL := Lib.hid hFL
  have HFB := Lib.hid hFB
  have HAK := Lib.hid (show ∀ x ∈ L, x.size < 9223372036854775808 by rw [← hL]; exact from_key hok _)
  have HSU := Lib.hid (show ∀ x ∈ L, x ∈ B by rw [← hL, ← hB]; exact from_grows m roots more)
  have HOW := Lib.hid (show ∀ x ∈ L, x ∈ fromE m [x] by rw [← hL]; exact from_own m _)
  have HL := Lib.hid (show ∀ l, (fromE m l).length ≤ 1048576 from fun l => by have := from_few m l; omega)
  have hA20 : nA ≤ 1048576 := by rw [← hnA, ← hL]; exact HL.out _
  have hB20 : nB ≤ nf + ng := by rw [← hnB, ← hB, ← hnf, ← hng]; exact from_few m _
  have HNA := Lib.hid (show L.length ≤ nA ∧ nA ≤ L.length by omega)
  have HNB := Lib.hid (show B.length ≤ nB ∧ nB ≤ B.length by omega)
  have HNR := Lib.hid (show roots.length ≤ nr ∧ nr ≤ roots.length by omega)
  have HN9 := Lib.hid (show nr ≤ 1048575 ∧ nB ≤ 1048576 by omega)
  have HRS := Lib.hid hR
  have hcb := heap_alloc_new w (.cells #[.slice F nf cf, .slice G ng cg] 25)
  have hb0 := balloc (Below.refl _ w) (.cells #[.slice F nf cf, .slice G ng cg] 25)
  obtain ⟨W0, hW0⟩ : ∃ U, w.alloc (.cells #[.slice F nf cf, .slice G ng cg] 25) = U := ⟨_, rfl⟩
  rw [hW0] at hcb hb0
  have HCB := Lib.hid (show Whole W0 w.heap.size 25 #[.slice F nf cf, .slice G ng cg] from hcb)
  have HB0 := Lib.hid hb0
  have n1 : (nA : Int) ≤ 1048576 := by omega
  have n2 : (nB : Int) ≤ (nf : Int) + (ng : Int) := by omega
  have n3 : (nf : Int) + (ng : Int) ≤ 1048576 := by omega
  have n4 : (nr : Int) ≤ 1048575 := by omega
  clear hok hk hmr hrk hr9 hS hnf hng hnr h20 hL hB hFL hFB hnA hnB hA20 hB20 hcb hb0 hR
  go_enter Try.func9, Try.ntmps9
  go_wp2_with fail
  refine (rshown11_any W0).mono ?_
  rintro r w1 ⟨rfl, hb1⟩
  have HC1 := Lib.hid (HCB.out.next hb1)
  have HB1 := Lib.hid (bthen HB0.out hb1)
  have c0 : w1.cell? ⟨w.heap.size, 0, none⟩ = some (.slice F nf cf) := HC1.out.cell 0
  have c1 : w1.cell? ⟨w.heap.size, 1, none⟩ = some (.slice G ng cg) := HC1.out.cell 1
  clear hb1
  go_wp2_with fail
  refine (HFE.out w1).mono ?_
  rintro r w2 ⟨rfl, hb2⟩
  have HC2 := Lib.hid (HC1.out.next hb2)
  have HB2 := Lib.hid (bthen HB1.out hb2)
  have d0 : w2.cell? ⟨w.heap.size, 0, none⟩ = some (.slice F nf cf) := HC2.out.cell 0
  have d1 : w2.cell? ⟨w.heap.size, 1, none⟩ = some (.slice G ng cg) := HC2.out.cell 1
  clear hb2 c0 c1
  obtain ⟨V, hV⟩ : ∃ V, fewE m = V := ⟨_, rfl⟩
  rw [hV]
  clear hV
  cases V with
  | false =>
    go_wp2_with fail
    go_ret
    exact ⟨rfl, HB2.out⟩
  | true =>
    by_cases h40 : (40 : Int) < (nr : Int)
    · go_wp2_with fail
      go_ret
      exact ⟨rfl, HB2.out⟩
    go_wp2_with fail
    refine (HFL.out w2 HB2.out).mono ?_
    rintro r w3 ⟨A3, c3, rfl, hb3, hs3⟩
    have HC3 := Lib.hid (HC2.out.next hb3)
    have HB3 := Lib.hid (bthen HB2.out hb3)
    have HS3 := Lib.hid hs3.strs
    have e0 : w3.cell? ⟨w.heap.size, 0, none⟩ = some (.slice F nf cf) := HC3.out.cell 0
    have e1 : w3.cell? ⟨w.heap.size, 1, none⟩ = some (.slice G ng cg) := HC3.out.cell 1
    clear hb3 hs3 d0 d1 hW0 HCB HB0 HC1 HB1 HC2 HB2
    go_upto_region 6 with fail
    go_cut [10] from 28 to 35 (fun v10 wx => ∃ A6 c6, v10 = .slice A6 nB c6 ∧ Below w3.heap.size w3 wx ∧ Strs wx (.slice A6 nB c6) B)
    case first =>
      have hd : w3.drew.cell? ⟨w.heap.size, 0, none⟩ = some (.slice F nf cf) ∧ w3.drew.cell? ⟨w.heap.size, 1, none⟩ = some (.slice G ng cg) ∧ Below w3.heap.size w3 w3.drew := ⟨e0, e1, (Below.refl _ _).drew⟩
      have HBW := Lib.hid (bthen HB3.out (Below.refl _ w3).drew)
      have HRZ := Lib.hid (HRS.out.next HBW.out)
      have HSX := Lib.hid (fun (U : World) (hU : Below w3.drew.heap.size w3.drew U) => (⟨(cellNext (World.block_lt_of_cell? _ _ hd.1) hU _).trans hd.1, (cellNext (World.block_lt_of_cell? _ _ hd.1) hU _).trans hd.2.1, bthen hd.2.2 hU⟩ : U.cell? ⟨w.heap.size, 0, none⟩ = some (.slice F nf cf) ∧ U.cell? ⟨w.heap.size, 1, none⟩ = some (.slice G ng cg) ∧ Below w3.heap.size w3 U))
      have HZ3 := Lib.hid hd.2.2
      refine wp_region_held_drew (S := fun U => U.cell? ⟨w.heap.size, 0, none⟩ = some (.slice F nf cf) ∧ U.cell? ⟨w.heap.size, 1, none⟩ = some (.slice G ng cg) ∧ Below w3.heap.size w3 U) (by kernel_rfl) hd (fun hHeld => ?_)
      generalize w3.drew = Z at *
      refine wpAnyH_take (i := 0) (v := ?_) rfl (by kernel_rfl) (by kernel_rfl) (by kernel_rfl) (fun _ _ _ h => h) (Or.inl ⟨by rfl, ?_⟩) hHeld ?_
      rotate_left
      · intro W' hSw; (try dsimp only at hSw); go_simp; try (with_reducible rfl)
      (try simp only [Act.put, List.getElem_toArray, List.getElem_cons_zero, List.setIfInBounds_toArray, List.set_cons_zero, List.set_cons_succ])
      refine wpAnyH_take (i := 2) (v := ?_) rfl (by kernel_rfl) (by kernel_rfl) (by kernel_rfl) (fun _ _ _ h => h) (Or.inl ⟨by rfl, ?_⟩) hHeld ?_
      rotate_left
      · intro W' hSw; (try dsimp only at hSw); go_simp; try (with_reducible rfl)
      (try simp only [Act.put, List.getElem_toArray, List.getElem_cons_zero, List.getElem_cons_succ, List.setIfInBounds_toArray, List.set_cons_zero, List.set_cons_succ])
      refine wpAnyH_take (i := 4) (v := ?_) rfl (by kernel_rfl) (by kernel_rfl) (by kernel_rfl) (fun _ _ _ h => h) (Or.inl ⟨by rfl, ?_⟩) hHeld ?_
      rotate_left
      · intro W' hSw; (try dsimp only at hSw); go_simp; try (with_reducible rfl)
      (try simp only [Act.put, List.getElem_toArray, List.getElem_cons_zero, List.getElem_cons_succ, List.setIfInBounds_toArray, List.set_cons_zero, List.set_cons_succ])
      refine wpAnyH_ready (rs := [1, 5]) (by kernel_rfl) (by simp) ?_
      refine AllReadyH.cons rfl (fun K hK => ?_) (AllReadyH.cons rfl (fun K hK => ?_) AllReadyH.nil)
      · go_simp
        have HBE := Lib.hid (balloc (Below.refl _ Z) (.cells #[] 9))
        have HO0 := Lib.hid (strs_empty Z)
        have HZE := Lib.hid (World.size_alloc Z (.cells #[] 9))
        refine hK.out _ _ (HSX.out _ HBE.out) (fun hHeld => ?_)
        clear hK
        (try simp only [Act.put, List.getElem_toArray, List.getElem_cons_zero, List.getElem_cons_succ, List.setIfInBounds_toArray, List.set_cons_zero, List.set_cons_succ])
        generalize Z.alloc (.cells #[] 9) = UE at *
        refine wpAnyH_ready (rs := [3, 5]) (by kernel_rfl) (by simp) ?_
        refine AllReadyH.cons rfl (fun K hK => ?_) (AllReadyH.cons rfl (fun K hK => ?_) AllReadyH.nil)
        · refine step_wp rfl (wp_append_strs rfl rfl rfl HO0.out HRZ.out (by have := HNR.out; have := HN9.out; omega) HBE.out (fun v2 U2 ho2 hb2 hg2 => ?_))
          refine hK.out _ _ (HSX.out _ hb2) (fun hHeld => ?_)
          clear hK
          (try simp only [Act.put, List.getElem_toArray, List.getElem_cons_zero, List.getElem_cons_succ, List.setIfInBounds_toArray, List.set_cons_zero, List.set_cons_succ])
          refine wpAnyH_ready (rs := [5]) (by kernel_rfl) (by simp) ?_
          refine AllReadyH.cons rfl (fun K hK => ?_) AllReadyH.nil
          go_simp
          have hb3 := bthen hb2 (balloc (Below.refl _ U2) (.cells #[.string more] 9))
          have hx3 := heap_alloc_new U2 (.cells #[.string more] 9)
          have ho3 := ho2.call (balloc (Below.refl _ U2) (.cells #[.string more] 9))
          refine hK.out _ _ (HSX.out _ hb3) (fun hHeld => ?_)
          clear hK
          (try simp only [Act.put, List.getElem_toArray, List.getElem_cons_zero, List.getElem_cons_succ, List.setIfInBounds_toArray, List.set_cons_zero, List.set_cons_succ])
          refine wpAnyH_ready (rs := [6]) (by kernel_rfl) (by simp) ?_
          refine AllReadyH.cons rfl (fun K hK => ?_) AllReadyH.nil
          refine step_wp rfl (wp_append_str1 (L := roots) (y := more) rfl rfl rfl ho3 hx3 (by have := HNR.out; have := HN9.out; omega) hb3 (fun v9 U9 ho9 hb9 => ?_))
          refine hK.out _ _ (HSX.out _ hb9) (fun hHeld => ?_)
          clear hK
          (try simp only [Act.put, List.getElem_toArray, List.getElem_cons_zero, List.getElem_cons_succ, List.setIfInBounds_toArray, List.set_cons_zero, List.set_cons_succ])
          obtain ⟨A9, c9, e9⟩ := ho9.form
          subst e9
          have hs9 := ho9.strs
          rw [List.length_append] at hs9
          change Strs U9 (.slice A9 (roots.length + 1) c9) (roots ++ [more]) at hs9
          refine wpAnyH_ready (rs := [7]) (by kernel_rfl) (by simp) ?_
          refine AllReadyH.cons rfl (fun K hK => ?_) AllReadyH.nil
          go_simp
          refine Calls.mono (HFB.out U9 (bthen HBW.out hb9) A9 _ c9 (by simp) hs9) ?_
          rintro r U10 ⟨A6, c6, rfl, hb10, ho10⟩
          refine hK.out _ _ (HSX.out _ (bthen hb9 hb10)) (fun hHeld => ?_)
          clear hK
          (try simp only [Act.put, List.getElem_toArray, List.getElem_cons_zero, List.getElem_cons_succ, List.setIfInBounds_toArray, List.set_cons_zero, List.set_cons_succ])
          refine wpAnyH_ready (rs := [8]) (by kernel_rfl) (by simp) ?_
          refine AllReadyH.cons rfl (fun K hK => ?_) AllReadyH.nil
          go_simp
          refine hK.out _ _ (HSX.out _ (bthen hb9 hb10)) (fun hHeld => ?_)
          clear hK
          (try simp only [Act.put, List.getElem_toArray, List.getElem_cons_zero, List.getElem_cons_succ, List.setIfInBounds_toArray, List.set_cons_zero, List.set_cons_succ])
          refine wpAnyH_done (by kernel_rfl) ?_ _
          have HFI := Lib.hid (show Below w3.heap.size w3 U10 ∧ Strs U10 (.slice A6 nB c6) B from ⟨bthen HZ3.out (bthen hb9 hb10), ho10.strs⟩)
          clear hb9 hb10 ho9 ho10 hs9 hHeld
          go_wp2_with fail
          go_meet
          exact ⟨_, _, rfl, HFI.out.1, HFI.out.2⟩
        · go_simp
          have hb1 := bthen HBE.out (balloc (Below.refl _ UE) (.cells #[.string more] 9))
          have hx1 := heap_alloc_new UE (.cells #[.string more] 9)
          have ho1 := HO0.out.call (balloc (Below.refl _ UE) (.cells #[.string more] 9))
          refine hK.out _ _ (HSX.out _ hb1) (fun hHeld => ?_)
          clear hK
          (try simp only [Act.put, List.getElem_toArray, List.getElem_cons_zero, List.getElem_cons_succ, List.setIfInBounds_toArray, List.set_cons_zero, List.set_cons_succ])
          refine wpAnyH_ready (rs := [3]) (by kernel_rfl) (by simp) ?_
          refine AllReadyH.cons rfl (fun K hK => ?_) AllReadyH.nil
          refine step_wp rfl (wp_append_strs rfl rfl rfl ho1 HRZ.out (by have := HNR.out; have := HN9.out; omega) hb1 (fun v2 U2 ho2 hb2 hg2 => ?_))
          have hx2 := (hg2.block UE.heap.size (by simp) (fun e => by have := HZE.out; simp only [Option.some.injEq] at e; omega)).trans hx1
          refine hK.out _ _ (HSX.out _ hb2) (fun hHeld => ?_)
          clear hK
          (try simp only [Act.put, List.getElem_toArray, List.getElem_cons_zero, List.getElem_cons_succ, List.setIfInBounds_toArray, List.set_cons_zero, List.set_cons_succ])
          refine wpAnyH_ready (rs := [6]) (by kernel_rfl) (by simp) ?_
          refine AllReadyH.cons rfl (fun K hK => ?_) AllReadyH.nil
          refine step_wp rfl (wp_append_str1 (L := roots) (y := more) rfl rfl rfl ho2 hx2 (by have := HNR.out; have := HN9.out; omega) hb2 (fun v9 U9 ho9 hb9 => ?_))
          refine hK.out _ _ (HSX.out _ hb9) (fun hHeld => ?_)
          clear hK
          (try simp only [Act.put, List.getElem_toArray, List.getElem_cons_zero, List.getElem_cons_succ, List.setIfInBounds_toArray, List.set_cons_zero, List.set_cons_succ])
          obtain ⟨A9, c9, e9⟩ := ho9.form
          subst e9
          have hs9 := ho9.strs
          rw [List.length_append] at hs9
          change Strs U9 (.slice A9 (roots.length + 1) c9) (roots ++ [more]) at hs9
          refine wpAnyH_ready (rs := [7]) (by kernel_rfl) (by simp) ?_
          refine AllReadyH.cons rfl (fun K hK => ?_) AllReadyH.nil
          go_simp
          refine Calls.mono (HFB.out U9 (bthen HBW.out hb9) A9 _ c9 (by simp) hs9) ?_
          rintro r U10 ⟨A6, c6, rfl, hb10, ho10⟩
          refine hK.out _ _ (HSX.out _ (bthen hb9 hb10)) (fun hHeld => ?_)
          clear hK
          (try simp only [Act.put, List.getElem_toArray, List.getElem_cons_zero, List.getElem_cons_succ, List.setIfInBounds_toArray, List.set_cons_zero, List.set_cons_succ])
          refine wpAnyH_ready (rs := [8]) (by kernel_rfl) (by simp) ?_
          refine AllReadyH.cons rfl (fun K hK => ?_) AllReadyH.nil
          go_simp
          refine hK.out _ _ (HSX.out _ (bthen hb9 hb10)) (fun hHeld => ?_)
          clear hK
          (try simp only [Act.put, List.getElem_toArray, List.getElem_cons_zero, List.getElem_cons_succ, List.setIfInBounds_toArray, List.set_cons_zero, List.set_cons_succ])
          refine wpAnyH_done (by kernel_rfl) ?_ _
          have HFI := Lib.hid (show Below w3.heap.size w3 U10 ∧ Strs U10 (.slice A6 nB c6) B from ⟨bthen HZ3.out (bthen hb9 hb10), ho10.strs⟩)
          clear hb9 hb10 ho9 ho10 hs9 hHeld
          go_wp2_with fail
          go_meet
          exact ⟨_, _, rfl, HFI.out.1, HFI.out.2⟩
      · go_simp
        have hb0 := balloc (Below.refl _ Z) (.cells #[.string more] 9)
        have hx0 := heap_alloc_new Z (.cells #[.string more] 9)
        refine hK.out _ _ (HSX.out _ hb0) (fun hHeld => ?_)
        clear hK
        (try simp only [Act.put, List.getElem_toArray, List.getElem_cons_zero, List.getElem_cons_succ, List.setIfInBounds_toArray, List.set_cons_zero, List.set_cons_succ])
        refine wpAnyH_ready (rs := [1]) (by kernel_rfl) (by simp) ?_
        refine AllReadyH.cons rfl (fun K hK => ?_) AllReadyH.nil
        go_simp
        have hb1 := bthen hb0 (balloc (Below.refl _ (Z.alloc (.cells #[.string more] 9))) (.cells #[] 9))
        have hx1 := ((balloc (Below.refl _ (Z.alloc (.cells #[.string more] 9))) (.cells #[] 9)).block Z.heap.size (by simp)).trans hx0
        have ho1 := (strs_empty (Z.alloc (.cells #[.string more] 9))).thin hb0.size
        simp only [World.size_alloc] at ho1
        refine hK.out _ _ (HSX.out _ hb1) (fun hHeld => ?_)
        clear hK
        (try simp only [Act.put, List.getElem_toArray, List.getElem_cons_zero, List.getElem_cons_succ, List.setIfInBounds_toArray, List.set_cons_zero, List.set_cons_succ])
        refine wpAnyH_ready (rs := [3]) (by kernel_rfl) (by simp) ?_
        refine AllReadyH.cons rfl (fun K hK => ?_) AllReadyH.nil
        refine step_wp rfl (wp_append_strs rfl rfl rfl ho1 HRZ.out (by have := HNR.out; have := HN9.out; omega) hb1 (fun v2 U2 ho2 hb2 hg2 => ?_))
        have hx2 := (hg2.block Z.heap.size (by simp; omega) (fun e => by simp at e)).trans hx1
        refine hK.out _ _ (HSX.out _ hb2) (fun hHeld => ?_)
        clear hK
        (try simp only [Act.put, List.getElem_toArray, List.getElem_cons_zero, List.getElem_cons_succ, List.setIfInBounds_toArray, List.set_cons_zero, List.set_cons_succ])
        refine wpAnyH_ready (rs := [6]) (by kernel_rfl) (by simp) ?_
        refine AllReadyH.cons rfl (fun K hK => ?_) AllReadyH.nil
        refine step_wp rfl (wp_append_str1 (L := roots) (y := more) rfl rfl rfl ho2 hx2 (by have := HNR.out; have := HN9.out; omega) hb2 (fun v9 U9 ho9 hb9 => ?_))
        refine hK.out _ _ (HSX.out _ hb9) (fun hHeld => ?_)
        clear hK
        (try simp only [Act.put, List.getElem_toArray, List.getElem_cons_zero, List.getElem_cons_succ, List.setIfInBounds_toArray, List.set_cons_zero, List.set_cons_succ])
        obtain ⟨A9, c9, e9⟩ := ho9.form
        subst e9
        have hs9 := ho9.strs
        rw [List.length_append] at hs9
        change Strs U9 (.slice A9 (roots.length + 1) c9) (roots ++ [more]) at hs9
        refine wpAnyH_ready (rs := [7]) (by kernel_rfl) (by simp) ?_
        refine AllReadyH.cons rfl (fun K hK => ?_) AllReadyH.nil
        go_simp
        refine Calls.mono (HFB.out U9 (bthen HBW.out hb9) A9 _ c9 (by simp) hs9) ?_
        rintro r U10 ⟨A6, c6, rfl, hb10, ho10⟩
        refine hK.out _ _ (HSX.out _ (bthen hb9 hb10)) (fun hHeld => ?_)
        clear hK
        (try simp only [Act.put, List.getElem_toArray, List.getElem_cons_zero, List.getElem_cons_succ, List.setIfInBounds_toArray, List.set_cons_zero, List.set_cons_succ])
        refine wpAnyH_ready (rs := [8]) (by kernel_rfl) (by simp) ?_
        refine AllReadyH.cons rfl (fun K hK => ?_) AllReadyH.nil
        go_simp
        refine hK.out _ _ (HSX.out _ (bthen hb9 hb10)) (fun hHeld => ?_)
        clear hK
        (try simp only [Act.put, List.getElem_toArray, List.getElem_cons_zero, List.getElem_cons_succ, List.setIfInBounds_toArray, List.set_cons_zero, List.set_cons_succ])
        refine wpAnyH_done (by kernel_rfl) ?_ _
        have HFI := Lib.hid (show Below w3.heap.size w3 U10 ∧ Strs U10 (.slice A6 nB c6) B from ⟨bthen HZ3.out (bthen hb9 hb10), ho10.strs⟩)
        clear hb9 hb10 ho9 ho10 hs9 hHeld
        go_wp2_with fail
        go_meet
        exact ⟨_, _, rfl, HFI.out.1, HFI.out.2⟩
    case rest =>
      obtain ⟨A6, c6, rfl, hb6, hs6⟩ := hcut
      have HC6 := Lib.hid (HC3.out.next hb6)
      have HB6 := Lib.hid (bthen HB3.out hb6)
      have HS6 := Lib.hid hs6
      have HSA := Lib.hid (HS3.out.next hb6)
      clear hb6 hs6 e0 e1 HC3 HB3 HS3 HFL HFB HRS HFE
      go_wp2_with fail
      go_loopw [11] (fun kv wi => ∃ i : Nat, i ≤ nA ∧ kv = .int .i64 i ∧ Below wc.heap.size wc wi) (fun kv _ => nA - (intOf kv).toNat)
      case atStart => exact ⟨0, Nat.zero_le _, rfl, Below.refl _ _⟩
      case round =>
        obtain ⟨i, hi, rfl, hbi⟩ := hrel
        have HC7 := Lib.hid (HC6.out.next hbi)
        have HB7 := Lib.hid (bthen HB6.out hbi)
        have HBI := Lib.hid hbi
        have d0 : wr.cell? ⟨w.heap.size, 0, none⟩ = some (.slice F nf cf) := HC7.out.cell 0
        have d1 : wr.cell? ⟨w.heap.size, 1, none⟩ = some (.slice G ng cg) := HC7.out.cell 1
        have HS7 := Lib.hid (HS6.out.next hbi)
        have HSI := Lib.hid (HSA.out.next hbi)
        clear hbi
        by_cases hlt : i < nA
        · have hm : i < L.length := by have := HNA.out; omega
          obtain ⟨b1, off, hA1, hbl, p0⟩ := RowOf.at_ HSI.out hm
          have hmem := List.getElem_mem hm
          obtain ⟨x, hx⟩ : ∃ x, L[i] = x := ⟨_, rfl⟩
          rw [hx] at p0 hmem
          subst hA1
          have HIN := Lib.hid (any_mem (HSU.out _ hmem))
          have HIO := Lib.hid (any_mem (HOW.out _ hmem))
          have HXK := Lib.hid (HAK.out _ hmem)
          have HX9 := Lib.hid (HL.out [x])
          have p0' : wr.cell? ⟨b1, off + i, none⟩ = some (.string x) := by simpa using p0
          have q0 : (0 : Int) ≤ (i : Int) := Int.natCast_nonneg _
          have q1 : (i : Int) < (nA : Int) := by omega
          have HLT := Lib.hid hlt
          clear p0 hmem hx hm hlt hbl hi
          go_wp2_with fail
          refine (refHas_any B x _ nB c6 wr (by have := HNB.out; omega) (by have := HN9.out; omega) HS7.out).mono ?_
          rintro r w7 ⟨rfl, rfl⟩
          rw [HIN.out]
          go_upto_region 11 with fail
          have hd : wr.drew.cell? ⟨w.heap.size, 0, none⟩ = some (.slice F nf cf) ∧ wr.drew.cell? ⟨w.heap.size, 1, none⟩ = some (.slice G ng cg) ∧ wr.drew.cell? ⟨b1, off + i, none⟩ = some (.string x) ∧ Below wr.heap.size wr wr.drew := ⟨d0, d1, p0', (Below.refl _ _).drew⟩
          refine wp_region_held_drew (S := fun U => U.cell? ⟨w.heap.size, 0, none⟩ = some (.slice F nf cf) ∧ U.cell? ⟨w.heap.size, 1, none⟩ = some (.slice G ng cg) ∧ U.cell? ⟨b1, off + i, none⟩ = some (.string x) ∧ Below wr.heap.size wr U) (by kernel_rfl) hd (fun hHeld => ?_)
          refine wpAnyH_take (i := 0) (v := ?_) rfl (by kernel_rfl) (by kernel_rfl) (by kernel_rfl) (fun _ _ _ h => h) (Or.inl ⟨by rfl, ?_⟩) hHeld ?_
          rotate_left
          · intro W' hSw; (try dsimp only at hSw); go_simp; try (with_reducible rfl)
          (try simp only [Act.put, List.getElem_toArray, List.getElem_cons_zero, List.setIfInBounds_toArray, List.set_cons_zero, List.set_cons_succ])
          refine wpAnyH_take (i := 1) (v := ?_) rfl (by kernel_rfl) (by kernel_rfl) (by kernel_rfl) (fun _ _ _ h => h) (Or.inl ⟨by rfl, ?_⟩) hHeld ?_
          rotate_left
          · intro W' hSw; (try dsimp only at hSw); go_simp; try (with_reducible rfl)
          (try simp only [Act.put, List.getElem_toArray, List.getElem_cons_zero, List.getElem_cons_succ, List.setIfInBounds_toArray, List.set_cons_zero, List.set_cons_succ])
          refine wpAnyH_take (i := 2) (v := ?_) rfl (by kernel_rfl) (by kernel_rfl) (by kernel_rfl) (fun _ _ _ h => h) (Or.inl ⟨by rfl, ?_⟩) hHeld ?_
          rotate_left
          · intro W' hSw; (try dsimp only at hSw); go_simp; try (with_reducible rfl)
          (try simp only [Act.put, List.getElem_toArray, List.getElem_cons_zero, List.getElem_cons_succ, List.setIfInBounds_toArray, List.set_cons_zero, List.set_cons_succ])
          refine wpAnyH_take (i := 3) (v := ?_) rfl (by kernel_rfl) (by kernel_rfl) (by kernel_rfl) (fun _ _ _ h => h) (Or.inl ⟨by rfl, ?_⟩) hHeld ?_
          rotate_left
          · intro W' hSw; (try dsimp only at hSw); go_simp; try (with_reducible rfl)
          (try simp only [Act.put, List.getElem_toArray, List.getElem_cons_zero, List.getElem_cons_succ, List.setIfInBounds_toArray, List.set_cons_zero, List.set_cons_succ])
          refine wpAnyH_take (i := 4) (v := ?_) rfl (by kernel_rfl) (by kernel_rfl) (by kernel_rfl) (fun _ _ _ h => h) (Or.inl ⟨by rfl, ?_⟩) hHeld ?_
          rotate_left
          · intro W' hSw; (try dsimp only at hSw); go_simp; try (with_reducible rfl)
          (try simp only [Act.put, List.getElem_toArray, List.getElem_cons_zero, List.getElem_cons_succ, List.setIfInBounds_toArray, List.set_cons_zero, List.set_cons_succ])
          refine wpAnyH_take (i := 7) (v := ?_) rfl (by kernel_rfl) (by kernel_rfl) (by kernel_rfl) (fun _ _ _ h => h) (Or.inl ⟨by rfl, ?_⟩) hHeld ?_
          rotate_left
          · intro W' hSw; (try dsimp only at hSw); go_simp; try (with_reducible rfl)
          (try simp only [Act.put, List.getElem_toArray, List.getElem_cons_zero, List.getElem_cons_succ, List.setIfInBounds_toArray, List.set_cons_zero, List.set_cons_succ])
          refine wpAnyH_take (i := 8) (v := ?_) rfl (by kernel_rfl) (by kernel_rfl) (by kernel_rfl) (fun _ _ _ h => h) (Or.inl ⟨by rfl, ?_⟩) hHeld ?_
          rotate_left
          · intro W' hSw; (try dsimp only at hSw); go_simp; try (with_reducible rfl)
          (try simp only [Act.put, List.getElem_toArray, List.getElem_cons_zero, List.getElem_cons_succ, List.setIfInBounds_toArray, List.set_cons_zero, List.set_cons_succ])
          refine wpAnyH_take (i := 9) (v := ?_) rfl (by kernel_rfl) (by kernel_rfl) (by kernel_rfl) (fun _ _ _ h => h) (Or.inl ⟨by rfl, ?_⟩) hHeld ?_
          rotate_left
          · intro W' hSw; (try dsimp only at hSw); go_simp; try (with_reducible rfl)
          (try simp only [Act.put, List.getElem_toArray, List.getElem_cons_zero, List.getElem_cons_succ, List.setIfInBounds_toArray, List.set_cons_zero, List.set_cons_succ])
          refine wpAnyH_take (i := 10) (v := ?_) rfl (by kernel_rfl) (by kernel_rfl) (by kernel_rfl) (fun _ _ _ h => h) (Or.inl ⟨by rfl, ?_⟩) hHeld ?_
          rotate_left
          · intro W' hSw; (try dsimp only at hSw); go_simp; try (with_reducible rfl)
          (try simp only [Act.put, List.getElem_toArray, List.getElem_cons_zero, List.getElem_cons_succ, List.setIfInBounds_toArray, List.set_cons_zero, List.set_cons_succ])
          have hd1 := ch_next (balloc (Below.refl _ wr.drew) (.cells #[.string x] 9)) hd
          refine wpAnyH_ready (rs := [5]) (by kernel_rfl) (by simp) ?_
          refine AllReadyH.cons rfl (fun K hK => ?_) AllReadyH.nil
          go_simp
          refine hK.out _ _ hd1 (fun hHeld => ?_)
          clear hK
          (try simp only [Act.put, List.getElem_toArray, List.getElem_cons_zero, List.getElem_cons_succ, List.setIfInBounds_toArray, List.set_cons_zero, List.set_cons_succ])
          refine wpAnyH_ready (rs := [6]) (by kernel_rfl) (by simp) ?_
          refine AllReadyH.cons rfl (fun K hK => ?_) AllReadyH.nil
          go_simp
          refine Calls.mono (HFR.out wr.drew (bthen HB7.out (ch_below hd)) x HXK.out) ?_
          rintro r w8 ⟨A8, c8, rfl, hb8, hs8⟩
          have hd2 := ch_next hb8 hd
          refine hK.out _ _ hd2 (fun hHeld => ?_)
          clear hK
          (try simp only [Act.put, List.getElem_toArray, List.getElem_cons_zero, List.getElem_cons_succ, List.setIfInBounds_toArray, List.set_cons_zero, List.set_cons_succ])
          refine wpAnyH_ready (rs := [11]) (by kernel_rfl) (by simp) ?_
          refine AllReadyH.cons rfl (fun K hK => ?_) AllReadyH.nil
          go_simp
          refine Calls.mono (refHas_any (fromE m [x]) x A8 _ c8 w8 rfl (by have := HX9.out; omega) hs8) ?_
          rintro r w9 ⟨rfl, rfl⟩
          rw [HIO.out]
          refine hK.out _ _ hd2 (fun hHeld => ?_)
          clear hK
          (try simp only [Act.put, List.getElem_toArray, List.getElem_cons_zero, List.getElem_cons_succ, List.setIfInBounds_toArray, List.set_cons_zero, List.set_cons_succ])
          refine wpAnyH_ready (rs := [12]) (by kernel_rfl) (by simp) ?_
          refine AllReadyH.cons rfl (fun K hK => ?_) AllReadyH.nil
          go_simp
          refine hK.out _ _ hd2 (fun hHeld => ?_)
          clear hK
          (try simp only [Act.put, List.getElem_toArray, List.getElem_cons_zero, List.getElem_cons_succ, List.setIfInBounds_toArray, List.set_cons_zero, List.set_cons_succ])
          refine wpAnyH_done (by kernel_rfl) ?_ _
          have HB9 := Lib.hid (bthen HBI.out hd2.2.2.2)
          clear hd hd1 hd2 hs8 hb8
          go_wp2_with fail
          go_roundw
          case rel => exact ⟨i + 1, HLT.out, by go_num, HB9.out⟩
          case measure => have := HLT.out; simp [intOf]; omega
        · have hd : decide ((i : Int) < (nA : Int)) = false := by simp; omega
          have e1 : decide ((nB : Int) ≤ (nf : Int) + (ng : Int)) = true := by simp; omega
          go_wp2_with fail
          go_ret
          exact ⟨rfl, HB7.out⟩
end Go.Proofs.Ytoglmdadpchhoaa
