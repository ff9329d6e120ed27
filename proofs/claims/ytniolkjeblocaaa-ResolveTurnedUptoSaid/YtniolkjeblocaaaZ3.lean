/- Package resolve: ResolveMore. -/
import Derived.Test.YtniolkjeblocaaaZ2
namespace Go.Proofs.Ytniolkjeblocaaa
open Go.RowKit

theorem mdl_info : (Try.prog.info? 25).map (fun i => (i.zero, i.size, i.bytes)) = some (some (.agg #[.slice none 0 0, .slice none 0 0]), 2, 48) := by kernel_rfl
theorem step_wp {P : Program} {w : World} {ops : Array Oper} {o : Oper} {a : Act} {K : Act → World → Prop} {Q : Exit → Act → World → Prop} {E : Prop} (hgd : o.guard = none) (h : Oper.wp P o a w K Q) : if Region.wanted o (yielded ops a.tmps) = true then Oper.wp P o a w K Q else E := by
  have hw : Region.wanted o (yielded ops a.tmps) = true := by simp [Region.wanted, hgd]
  rw [if_pos hw]
  exact h
/-- an empty row of the call's own -/
theorem outIn_at (w U : World) (hb : w.heap.size ≤ U.heap.size) : OutIn w (.slice (some ⟨U.heap.size, 0, none⟩) 0 0) [] (U.alloc (.cells #[] 25)) :=
  ⟨[], ⟨rfl, .inr ⟨U.heap.size, 0, #[], rfl, hb, heap_alloc_new U _, Nat.le_refl _, by unfold maxLen; omega, rfl, rfl⟩⟩, fun j hj => by simp at hj⟩
theorem outIn_empty (w : World) : OutIn w (.slice (some ⟨w.heap.size, 0, none⟩) 0 0) [] (w.alloc (.cells #[] 25)) := outIn_at w w (Nat.le_refl _)
theorem outIn_mods {w : World} {v : Value} {r : List Md} {W : World} (h : OutIn w v r W) (hb : Below w.heap.size w W) : Mods W v r := by
  obtain ⟨ys, ho, h⟩ := h
  by_cases hl : 0 < r.length
  · obtain ⟨g, cap, e, -, hlt⟩ := ho.form hl
    subst e
    refine .inr ⟨hl, g, 0, cap, rfl, hlt, fun i hi => ?_⟩
    obtain ⟨F, cf, G, cg, h0, h1, h2⟩ := h i hi
    have q : ∀ c, c < 2 → W.cell? ⟨g, 0 + i * 2 + c, none⟩ = ys[i * 2 + c]? := fun c hc => by rw [Nat.zero_add]; exact ho.cellAt _ (by omega)
    exact ⟨F, cf, G, cg, (q 0 (by omega)).trans h0, (q 1 (by omega)).trans h1, h2 W hb⟩
  · have hl0 : r = [] := by cases r <;> simp_all
    subst hl0
    rcases ho.2 with ⟨e, _⟩ | ⟨g, cap, cur, e, _⟩
    · exact .inl ⟨rfl, .inl e⟩
    · exact .inl ⟨rfl, .inr ⟨_, _, e⟩⟩
theorem outIn_snoc {w : World} {r : List Md} {ys : List Value} {m : Md} {F G : Option Addr} {cf cg : Nat} (hl : ys.length = r.length * 2) (hys : ∀ (j : Nat) (hj : j < r.length), MdYs (Below w.heap.size w) ys j r[j]) (hm : ∀ U, Below w.heap.size w U → MdAt U (.slice F m.f.length cf) (.slice G m.g.length cg) m) (j : Nat) (hj : j < (r ++ [m]).length) :
    MdYs (Below w.heap.size w) (ys ++ [.slice F m.f.length cf, .slice G m.g.length cg]) j (r ++ [m])[j] := by
  by_cases hjl : j < r.length
  · rw [List.getElem_append_left hjl]
    obtain ⟨F', cf', G', cg', h0, h1, h2⟩ := hys j hjl
    exact ⟨F', cf', G', cg', by rw [List.getElem?_append_left (by omega)]; exact h0, by rw [List.getElem?_append_left (by omega)]; exact h1, h2⟩
  · have hj1 : j = r.length := by simp at hj; omega
    subst hj1
    rw [List.getElem_concat_length rfl]
    exact ⟨F, cf, G, cg, by rw [List.getElem?_append_right (by omega), hl, Nat.sub_self]; rfl, by rw [List.getElem?_append_right (by omega), hl, Nat.add_sub_cancel_left]; rfl, hm⟩
theorem wp_append_one {w U : World} {o : Oper} {a : Act} {K : Act → World → Prop} {Q : Exit → Act → World → Prop} {s x : Operand} {v : Value} {r : List Md} {m : Md} {F G : Option Addr} {cf cg nf ng Hh : Nat}
    (ho : o.op = .call { callee := .builtin .append, args := #[s, x], argTypes := #[28, 28] }) (hs : a.eval s = v) (hx : a.eval x = .slice (some ⟨Hh, 0, none⟩) 1 1)
    (hO : OutIn w v r U) (hX : U.heap[Hh]? = some (.cells #[.slice F nf cf, .slice G ng cg] 25 (0, 0))) (hnf : m.f.length = nf) (hng : m.g.length = ng) (hm : ∀ W, Below w.heap.size w W → MdAt W (.slice F nf cf) (.slice G ng cg) m) (hn : r.length ≤ 1048576) (hb : Below w.heap.size w U)
    (h : ∀ v' U', OutIn w v' (r ++ [m]) U' → Below w.heap.size w U' → K (a.put o.dst v') U') : o.wp Try.prog a U K Q := by
  subst hnf hng
  obtain ⟨ys, ho1, hys⟩ := hO
  obtain ⟨i0, hi0, hz0, hz1, hz2⟩ := info_parts mdl_info
  refine wp_append_lies U s x 28 ho w.heap.size 25 i0 _ 2 48 Try.underlying28 hi0 hz0 hz1 hz2 rfl (by decide) v r.length ys hs ho1 ⟨Hh, 0, none⟩ 1 1 [.slice F m.f.length cf, .slice G m.g.length cg] hx rfl (World.news_of_block (cs := #[.slice F m.f.length cf, .slice G m.g.length cg]) hX) (by simp [Value.oneCell']) (by decide) (by unfold maxLen; omega) (by omega) hb.size U.heap.size rfl (fun g cap w' h2 h3 h4 h5 => ?_)
  exact h _ w' ⟨_, by rw [List.length_append]; exact h2, outIn_snoc ho1.1 hys hm⟩ (hb.grown h3 hb.size (fun q hq => (ho1.lt q hq).1))
/-- what a row of modules that lies there is, cell by cell -/
theorem mods_news {w : World} {b off : Nat} {ms : List Md} (hbl : b < w.heap.size) (h : ∀ i (hi : i < ms.length), MdIn w b (off + i * 2) ms[i]) :
    ∃ news : List Value, news.length = ms.length * 2 ∧ (∀ j u, news[j]? = some u → w.cell? ⟨b, off + j, none⟩ = some u) ∧ (∀ u ∈ news, u.oneCell' = true) ∧ ∀ i (hi : i < ms.length), MdYs (Below w.heap.size w) news i ms[i] := by
  have cel : ∀ j, j < ms.length * 2 → ∃ A n c, w.cell? ⟨b, off + j, none⟩ = some (.slice A n c) := fun j hj => by
    obtain ⟨F, cf, G, cg, c0, c1, -⟩ := h (j / 2) (by omega)
    rcases Nat.mod_two_eq_zero_or_one j with e | e
    · exact ⟨F, _, cf, by rw [← c0]; congr 2; omega⟩
    · exact ⟨G, _, cg, by rw [← c1]; congr 2; omega⟩
  have get : ∀ j, j < ms.length * 2 → ((List.range (ms.length * 2)).map fun j => (w.cell? ⟨b, off + j, none⟩).getD undef)[j]? = w.cell? ⟨b, off + j, none⟩ := fun j hj => by
    rw [List.getElem?_map, List.getElem?_range hj]
    obtain ⟨A, n, c, e⟩ := cel j hj
    simp [e]
  refine ⟨(List.range (ms.length * 2)).map fun j => (w.cell? ⟨b, off + j, none⟩).getD undef, by simp, fun j u hu => ?_, fun u hu => ?_, fun i hi => ?_⟩
  · have hj : j < ms.length * 2 := by
      have := (List.getElem?_eq_some_iff.1 hu).1
      simpa using this
    rw [← get j hj]
    exact hu
  · obtain ⟨j, hj, rfl⟩ := List.mem_map.1 hu
    obtain ⟨A, n, c, e⟩ := cel j (List.mem_range.1 hj)
    rw [e]
    rfl
  · obtain ⟨F, cf, G, cg, c0, c1, hm⟩ := h i hi
    exact ⟨F, cf, G, cg, by rw [get _ (by omega)]; exact c0, by rw [get _ (by omega), ← Nat.add_assoc]; exact c1, fun W hW => hm.next hW⟩
theorem run_append_zero {P : Program} {w : World} (base : Nat) (t ty e : TypeId) (i : TypeInfo) (size : Nat) (ht : P.underlying t = some (.slice e)) (hi : P.info? e = some i)
    (v : Value) (n : Nat) (xs : List Value) (hown : w.ownsRow base e size v n xs) (ad : Addr) (c : Nat) :
    (Builtin.append_ #[t, t] ty #[v, .slice (some ad) 0 c]).run P w = .ok v w := by
  rcases hown.2 with ⟨rfl, rfl⟩ | ⟨g, cap, cur, rfl, _, _, hnc, _⟩
  · simp [Builtin.append_, run_underlying ht, sizeOf, typeInfo, hi, Builtin.lenOf, Builtin.firstCells, loadCells, loadCellsFrom]
  · simp [Builtin.append_, run_underlying ht, sizeOf, typeInfo, hi, Builtin.lenOf, Builtin.firstCells, hnc, storeCells, loadCells, loadCellsFrom]
/-- append of all modules of a row that lies there, onto an empty row of the call's own -/
theorem wp_append_mods {w U : World} {o : Oper} {a : Act} {K : Act → World → Prop} {Q : Exit → Act → World → Prop} {s x : Operand} {A : Option Addr} {n c g0 : Nat} {ms : List Md}
    (ho : o.op = .call { callee := .builtin .append, args := #[s, x], argTypes := #[28, 28] }) (hs : a.eval s = .slice (some ⟨g0, 0, none⟩) 0 0) (hx : a.eval x = .slice A n c)
    (hO : OutIn w (.slice (some ⟨g0, 0, none⟩) 0 0) [] U) (hM : Mods w (.slice A n c) ms) (hn : ms.length ≤ 1048576) (hb : Below w.heap.size w U)
    (h : ∀ v' U', OutIn w v' ms U' → Below w.heap.size w U' → U.grownBy U' (some g0) → K (a.put o.dst v') U') : o.wp Try.prog a U K Q := by
  obtain ⟨ys, ho1, hys⟩ := hO
  obtain ⟨i0, hi0, hz0, hz1, hz2⟩ := info_parts mdl_info
  have hrefl : U.grownBy U (some g0) := ⟨rfl, rfl, rfl, Nat.le_refl _, fun _ _ _ => rfl⟩
  rcases hM with ⟨rfl, e | ⟨ad, cap, e⟩⟩ | ⟨hl, b, off, cap, e, hbl, hcell⟩
  · obtain ⟨rfl, rfl, rfl⟩ := Value.slice.inj e
    have hrun := run_append_owned_none (P := Try.prog) (w := U) w.heap.size 28 o.type 25 i0 2 Try.underlying28 hi0 _ 0 ys ho1
    unfold Oper.wp
    simp [execOp, ho, resolve, invoke, builtin, hs, hx, hrun, Result.andThen]
    exact h _ U ⟨ys, ho1, hys⟩ hb hrefl
  · obtain ⟨rfl, rfl, rfl⟩ := Value.slice.inj e
    have hrun := run_append_zero (P := Try.prog) (w := U) w.heap.size 28 o.type 25 i0 2 Try.underlying28 hi0 _ 0 ys ho1 ad c
    unfold Oper.wp
    simp [execOp, ho, resolve, invoke, builtin, hs, hx, hrun, Result.andThen]
    exact h _ U ⟨ys, ho1, hys⟩ hb hrefl
  · obtain ⟨rfl, rfl, rfl⟩ := Value.slice.inj e
    obtain ⟨news, n1, n2, n3, n4⟩ := mods_news hbl hcell
    have hy0 : ys = [] := List.eq_nil_of_length_eq_zero (by have := ho1.1; simpa using this)
    subst hy0
    refine wp_append_lies U s x 28 ho w.heap.size 25 i0 _ 2 48 Try.underlying28 hi0 hz0 hz1 hz2 rfl (by decide) (.slice (some ⟨g0, 0, none⟩) 0 0) 0 [] hs ho1 ⟨b, off, none⟩ ms.length c news hx n1 (fun j u hu => by rw [int_add]; exact (cellNext hbl hb _).trans (n2 j u hu)) n3 hl (by unfold maxLen; omega) (by omega) hb.size U.heap.size rfl (fun g cap2 w' h2 h3 h4 h5 => ?_)
    rw [Nat.zero_add, List.nil_append] at h2
    exact h _ w' ⟨news, by rw [Nat.zero_add]; exact h2, n4⟩ (hb.grown h3 hb.size (fun q hq => (ho1.lt q hq).1)) h3
theorem allI_one {m : Md} (h : namesU (allI [m] 1) = []) (k : Int) : itemsOf k m = [] := by
  have h1 : allI [m] 1 = [] := by
    cases hx : allI [m] 1 with
    | nil => rfl
    | cons x xs =>
      have := (namesU_mem (allI [m] 1) x.s).2 ⟨x, by rw [hx]; simp, rfl⟩
      rw [h] at this
      simp at this
  have h2 : itemsOf (0 : Int) m = [] := by
    have : allI [m] 1 = itemsOf (0 : Int) m := by simp [allI]
    rw [← this]; exact h1
  unfold itemsOf at h2 ⊢
  rw [List.append_eq_nil_iff, List.map_eq_nil_iff, List.map_eq_nil_iff] at h2
  rw [h2.1, h2.2]
  rfl
theorem allI_more {ms : List Md} {m : Md} (h : namesU (allI [m] 1) = []) : allI (ms ++ [m]) (ms ++ [m]).length = allI ms ms.length := by
  have hl : (ms ++ [m]).length = ms.length + 1 := by simp
  have e := allI_succ (ms := ms ++ [m]) (i := ms.length) (by omega)
  rw [hl, e]
  have : (ms ++ [m])[ms.length]'(by omega) = m := by simp
  rw [this, allI_one h, List.append_nil]
  unfold allI
  rw [List.zipIdx_append, List.take_append_of_le_length (by simp)]
set_option maxRecDepth 100000 in
set_option maxHeartbeats 16000000 in
theorem more_all9 (ms : List Md) (m : Md) (A F G : Option Addr) (c cf cg : Nat) (w : World) (hok : ∀ m ∈ ms, MdOk m) (hom : MdOk m) (hsum : (ms.map fun m => m.f.length + m.g.length).sum ≤ 1048576) (hlen : ms.length ≤ 1048576) (hsm : m.f.length + m.g.length ≤ 1048576) (hS : Mods w (.slice A ms.length c) ms) (hM : MdAt w (.slice F m.f.length cf) (.slice G m.g.length cg) m) :
    Calls Try.prog 8 #[.slice A ms.length c, .agg #[.slice F m.f.length cf, .slice G m.g.length cg]] w fun e w' => e = .returned (.bool true) ∧ Below w.heap.size w w' := by
  have hT := allI_fit hsum
  have HAL := Lib.hid (fun (U : World) (hU : Below w.heap.size w U) => all_any ms A ms.length c U rfl (by omega) hok hT (hS.next hU))
  have HN1 := Lib.hid (fun (U : World) (B : Nat) (hX : Mods U (.slice (some ⟨B, 0, none⟩) 1 1) [m]) => names_any [m] (some ⟨B, 0, none⟩) 1 1 U rfl (by decide) (fun x hx => by obtain rfl : x = m := (by simpa using hx); exact hom) (by have := allI_len [m]; simp at this ⊢; omega) hX)
  have HA2 := Lib.hid (fun (h : namesU (allI [m] 1) = []) (Z : World) (v9 : Value) (U9 : World) (ho9 : OutIn Z v9 (ms ++ [m]) U9) (hb9 : Below Z.heap.size Z U9) => (show Calls Try.prog 22 #[v9] U9 fun e w' => ∃ v, e = .returned (.tuple #[v, .int .i64 (tblE (grp (allI ms ms.length)))]) ∧ Dfs w' v (allD (grp (allI ms ms.length)) (tblE (grp (allI ms ms.length)))) ∧ Below U9.heap.size U9 w' from by
    obtain ⟨A9, c9, e9⟩ := ho9.slice
    subst e9
    have hcall := all_any (ms ++ [m]) A9 (ms ++ [m]).length c9 U9 rfl (by simp; omega) (fun x hx => by
      rcases List.mem_append.1 hx with hx | hx
      · exact hok x hx
      · obtain rfl : x = m := (by simpa using hx)
        exact hom) (by rw [allI_more h]; exact hT) (outIn_mods ho9 hb9)
    rwa [allI_more h] at hcall))
  have HL9 := Lib.hid (show (allD (grp (allI ms ms.length)) (tblE (grp (allI ms ms.length)))).length ≤ 9223372036854775807 by have := allD_len ms (tblE (grp (allI ms ms.length))); omega)
  obtain ⟨L, hL⟩ : ∃ L, allD (grp (allI ms ms.length)) (tblE (grp (allI ms ms.length))) = L := ⟨_, rfl⟩
  rw [hL] at HAL HA2 HL9
  obtain ⟨E, hE⟩ : ∃ E, tblE (grp (allI ms ms.length)) = E := ⟨_, rfl⟩
  rw [hE] at HAL HA2
  have HLN := Lib.hid (show ms.length ≤ 1048576 from hlen)
  have HMS := Lib.hid hS
  obtain ⟨nm, hnm⟩ : ∃ n, ms.length = n := ⟨_, rfl⟩
  rw [hnm] at HAL HMS ⊢
  obtain ⟨nf, hnf⟩ : ∃ n, m.f.length = n := ⟨_, rfl⟩
  obtain ⟨ng, hng⟩ : ∃ n, m.g.length = n := ⟨_, rfl⟩
  have HNF := Lib.hid (show m.f.length = nf from hnf)
  have HNG := Lib.hid (show m.g.length = ng from hng)
  have HMD := Lib.hid (show MdAt w (.slice F nf cf) (.slice G ng cg) m by rw [← hnf, ← hng]; exact hM)
  rw [hnf, hng]
  clear hL hE hnm hT hok hsum hlen hS hnf hng hM hom hsm
  obtain ⟨W1, hW1⟩ : ∃ W1, W1 = w.alloc (.cells #[.slice F nf cf, .slice G ng cg] 25) := ⟨_, rfl⟩
  have HBX := Lib.hid (show Below w.heap.size w W1 from hW1 ▸ balloc (Below.refl _ w) _)
  have HX1 := Lib.hid (show W1.heap[w.heap.size]? = some (.cells #[.slice F nf cf, .slice G ng cg] 25 (0, 0)) by rw [hW1]; exact heap_alloc_new w _)
  have HXC := Lib.hid (fun (U : World) (hU : Below W1.heap.size W1 U) => (show U.cell? ⟨w.heap.size, 0, none⟩ = some (.slice F nf cf) ∧ U.cell? ⟨w.heap.size, 1, none⟩ = some (.slice G ng cg) from by
    have h := (hU.block w.heap.size (Array.getElem?_eq_some_iff.1 HX1.out).1).trans HX1.out
    exact ⟨Lib.cell_of_heap h 0, Lib.cell_of_heap h 1⟩))
  go_enter Try.func8, Try.ntmps8
  go_wp2_with fail
  rw [← hW1]
  clear hW1
  refine (rshown_any W1).mono ?_
  rintro r w2 ⟨rfl, hb2⟩
  have HB2 := Lib.hid hb2
  obtain ⟨q0, q1⟩ := HXC.out _ hb2
  clear hb2
  go_wp2_with fail
  have hx3 := heap_alloc_new w2 (.cells #[.slice F nf cf, .slice G ng cg] 25)
  have hb3 := balloc (Below.refl _ w2) (.cells #[.slice F nf cf, .slice G ng cg] 25)
  have HB3 := Lib.hid (bthen HB2.out hb3)
  have HMM := Lib.hid (show Mods (w2.alloc (.cells #[.slice F nf cf, .slice G ng cg] 25)) (.slice (some ⟨w2.heap.size, 0, none⟩) 1 1) [m] from by
    refine .inr ⟨by simp, w2.heap.size, 0, 1, rfl, (Array.getElem?_eq_some_iff.1 hx3).1, fun i hi => ?_⟩
    have hi2 : i < 1 := hi
    obtain rfl : i = 0 := by omega
    exact ⟨F, cf, G, cg, by rw [show ([m] : List Md)[0] = m from rfl, HNF.out]; exact Lib.cell_of_heap hx3 0, by rw [show ([m] : List Md)[0] = m from rfl, HNG.out]; exact Lib.cell_of_heap hx3 1, by rw [show ([m] : List Md)[0] = m from rfl, HNF.out, HNG.out]; exact HMD.out.next (bthen HBX.out HB3.out)⟩)
  clear hx3 hb3
  refine (HN1.out _ _ HMM.out).mono ?_
  rintro r w4 ⟨v4, rfl, hs4, hb4⟩
  have HB4 := Lib.hid (bthen HB3.out hb4)
  obtain ⟨A4, c4, e4⟩ := hs4.slice
  subst e4
  have hl4 : (namesU (allI [m] [m].length)).length = (namesU (allI [m] 1)).length := rfl
  rw [hl4]
  obtain ⟨ns, hns⟩ : ∃ n, namesU (allI [m] 1) = n := ⟨_, rfl⟩
  rw [hns]
  rw [hns] at HA2
  clear hs4 hb4 hl4 hns q0 q1
  by_cases hne : ns = []
  case neg =>
    have hpos : 0 < ns.length := List.length_pos_iff.2 hne
    have hdp : decide (0 < ns.length) = true := decide_eq_true hpos
    go_wp2_with fail
    go_ret
    exact ⟨rfl, bthen HBX.out HB4.out⟩
  subst hne
  have HA3 := Lib.hid (HA2.out (by first | trivial | rfl))
  go_wp2_with fail
  refine (HAL.out _ (bthen HBX.out HB4.out)).mono ?_
  rintro r w5 ⟨v1, rfl, hd1, hb5⟩
  have HB5 := Lib.hid (bthen HB4.out hb5)
  have HD1' := Lib.hid hd1
  clear hd1 hb5
  go_upto_region 5 with fail
  have hd := HXC.out w5.drew (bthen HB5.out (Below.refl _ w5).drew)
  refine wp_region_held_drew (S := (fun U => U.cell? ⟨w.heap.size, 0, none⟩ = some (.slice F nf cf) ∧ U.cell? ⟨w.heap.size, 1, none⟩ = some (.slice G ng cg))) (by kernel_rfl) hd (fun hHeld => ?_)
  have HBZ := Lib.hid (show Below w.heap.size w w5.drew from bthen HBX.out (bthen HB5.out (Below.refl _ w5).drew))
  have HD1 := Lib.hid (show Dfs w5.drew v1 L from HD1'.out.next (Below.refl _ w5).drew)
  have HMZ := Lib.hid (HMS.out.next HBZ.out)
  have HSX := Lib.hid (fun (U : World) (hU : Below w5.drew.heap.size w5.drew U) => HXC.out U (bthen HB5.out (bthen (Below.refl _ w5).drew hU)))
  have HMA := Lib.hid (fun (U : World) (hU : Below w5.drew.heap.size w5.drew U) => HMD.out.next (bthen HBZ.out hU))
  have HA4 := Lib.hid (HA3.out w5.drew)
  clear HD1' HB5
  generalize w5.drew = Z at *
  refine wpAnyH_take (i := 1) (v := ?_) rfl (by kernel_rfl) (by kernel_rfl) (by kernel_rfl) (fun _ _ _ h => h) (Or.inl ⟨by rfl, ?_⟩) hHeld ?_
  rotate_left
  · intro W' hSw; (try dsimp only at hSw); go_simp; try (with_reducible rfl)
  (try simp only [Act.put, List.getElem_toArray, List.getElem_cons_zero, List.getElem_cons_succ, List.setIfInBounds_toArray, List.set_cons_zero, List.set_cons_succ])
  refine wpAnyH_take (i := 3) (v := ?_) rfl (by kernel_rfl) (by kernel_rfl) (by kernel_rfl) (fun _ _ _ h => h) (Or.inl ⟨by rfl, ?_⟩) hHeld ?_
  rotate_left
  · intro W' hSw; (try dsimp only at hSw); go_simp; try (with_reducible rfl)
  (try simp only [Act.put, List.getElem_toArray, List.getElem_cons_zero, List.getElem_cons_succ, List.setIfInBounds_toArray, List.set_cons_zero, List.set_cons_succ])
  refine wpAnyH_ready (rs := [0, 4]) (by kernel_rfl) (by simp) ?_
  refine AllReadyH.cons rfl (fun K hK => ?_) (AllReadyH.cons rfl (fun K hK => ?_) AllReadyH.nil)
  · go_simp
    have HBE := Lib.hid (balloc (Below.refl _ Z) (.cells #[] 25))
    have HO0 := Lib.hid (outIn_empty Z)
    have HZE := Lib.hid (World.size_alloc Z (.cells #[] 25))
    refine hK.out _ _ (HSX.out _ HBE.out) (fun hHeld => ?_)
    clear hK
    (try simp only [Act.put, List.getElem_toArray, List.getElem_cons_zero, List.getElem_cons_succ, List.setIfInBounds_toArray, List.set_cons_zero, List.set_cons_succ])
    generalize Z.alloc (.cells #[] 25) = UE at *
    refine wpAnyH_ready (rs := [2, 4]) (by kernel_rfl) (by simp) ?_
    refine AllReadyH.cons rfl (fun K hK => ?_) (AllReadyH.cons rfl (fun K hK => ?_) AllReadyH.nil)
    · refine step_wp rfl (wp_append_mods rfl rfl rfl HO0.out HMZ.out HLN.out HBE.out (fun v2 U2 ho2 hb2 hg2 => ?_))
      refine hK.out _ _ (HSX.out _ hb2) (fun hHeld => ?_)
      clear hK
      (try simp only [Act.put, List.getElem_toArray, List.getElem_cons_zero, List.getElem_cons_succ, List.setIfInBounds_toArray, List.set_cons_zero, List.set_cons_succ])
      refine wpAnyH_ready (rs := [4]) (by kernel_rfl) (by simp) ?_
      refine AllReadyH.cons rfl (fun K hK => ?_) AllReadyH.nil
      go_simp
      have hb3 := bthen hb2 (balloc (Below.refl _ U2) (.cells #[.slice F nf cf, .slice G ng cg] 25))
      have hx3 := heap_alloc_new U2 (.cells #[.slice F nf cf, .slice G ng cg] 25)
      have ho3 := ho2.below (balloc (Below.refl _ U2) (.cells #[.slice F nf cf, .slice G ng cg] 25))
      refine hK.out _ _ (HSX.out _ hb3) (fun hHeld => ?_)
      clear hK
      (try simp only [Act.put, List.getElem_toArray, List.getElem_cons_zero, List.getElem_cons_succ, List.setIfInBounds_toArray, List.set_cons_zero, List.set_cons_succ])
      refine wpAnyH_ready (rs := [5]) (by kernel_rfl) (by simp) ?_
      refine AllReadyH.cons rfl (fun K hK => ?_) AllReadyH.nil
      refine step_wp rfl (wp_append_one (r := ms) (m := m) (F := F) (G := G) (cf := cf) (cg := cg) rfl rfl rfl ho3 hx3 HNF.out HNG.out HMA.out HLN.out hb3 (fun v9 U9 ho9 hb9 => ?_))
      refine hK.out _ _ (HSX.out _ hb9) (fun hHeld => ?_)
      clear hK
      (try simp only [Act.put, List.getElem_toArray, List.getElem_cons_zero, List.getElem_cons_succ, List.setIfInBounds_toArray, List.set_cons_zero, List.set_cons_succ])
      refine wpAnyH_ready (rs := [6]) (by kernel_rfl) (by simp) ?_
      refine AllReadyH.cons rfl (fun K hK => ?_) AllReadyH.nil
      go_simp
      refine Calls.mono (HA4.out v9 U9 ho9 hb9) ?_
      rintro r U10 ⟨v10, rfl, hd10, hb10⟩
      have hb10 := bthen hb9 hb10
      refine hK.out _ _ (HSX.out _ hb10) (fun hHeld => ?_)
      clear hK
      (try simp only [Act.put, List.getElem_toArray, List.getElem_cons_zero, List.getElem_cons_succ, List.setIfInBounds_toArray, List.set_cons_zero, List.set_cons_succ])
      refine wpAnyH_take (i := 7) (v := ?_) rfl (by kernel_rfl) (by kernel_rfl) (by kernel_rfl) (fun _ _ _ h => h) (Or.inl ⟨by rfl, ?_⟩) hHeld ?_
      rotate_left
      · intro W' hSw; (try dsimp only at hSw); go_simp; try (with_reducible rfl)
      (try simp only [Act.put, List.getElem_toArray, List.getElem_cons_zero, List.getElem_cons_succ, List.setIfInBounds_toArray, List.set_cons_zero, List.set_cons_succ])
      refine wpAnyH_take (i := 8) (v := ?_) rfl (by kernel_rfl) (by kernel_rfl) (by kernel_rfl) (fun _ _ _ h => h) (Or.inl ⟨by rfl, ?_⟩) hHeld ?_
      rotate_left
      · intro W' hSw; (try dsimp only at hSw); go_simp; try (with_reducible rfl)
      (try simp only [Act.put, List.getElem_toArray, List.getElem_cons_zero, List.getElem_cons_succ, List.setIfInBounds_toArray, List.set_cons_zero, List.set_cons_succ])
      refine wpAnyH_take (i := 9) (v := ?_) rfl (by kernel_rfl) (by kernel_rfl) (by kernel_rfl) (fun _ _ _ h => h) (Or.inl ⟨by rfl, ?_⟩) hHeld ?_
      rotate_left
      · intro W' hSw; (try dsimp only at hSw); go_simp; try (with_reducible rfl)
      (try simp only [Act.put, List.getElem_toArray, List.getElem_cons_zero, List.getElem_cons_succ, List.setIfInBounds_toArray, List.set_cons_zero, List.set_cons_succ])
      refine wpAnyH_ready (rs := [10]) (by kernel_rfl) (by simp) ?_
      refine AllReadyH.cons rfl (fun K hK => ?_) AllReadyH.nil
      go_simp
      refine hK.out _ _ (HSX.out _ hb10) (fun hHeld => ?_)
      clear hK
      (try simp only [Act.put, List.getElem_toArray, List.getElem_cons_zero, List.getElem_cons_succ, List.setIfInBounds_toArray, List.set_cons_zero, List.set_cons_succ])
      refine wpAnyH_ready (rs := [11]) (by kernel_rfl) (by simp) ?_
      refine AllReadyH.cons rfl (fun K hK => ?_) AllReadyH.nil
      go_simp
      refine hK.out _ _ (HSX.out _ hb10) (fun hHeld => ?_)
      clear hK
      (try simp only [Act.put, List.getElem_toArray, List.getElem_cons_zero, List.getElem_cons_succ, List.setIfInBounds_toArray, List.set_cons_zero, List.set_cons_succ])
      refine wpAnyH_done (by kernel_rfl) ?_ _
      have HB10 := Lib.hid hb10
      have hd1 := HD1.out.next hb10
      obtain ⟨A1, c1, e1⟩ := hd1.slice
      obtain ⟨A2, c2, e2⟩ := hd10.slice
      obtain ⟨n, hn⟩ : ∃ n, L.length = n := ⟨_, rfl⟩
      rw [hn] at e1 e2
      subst e1
      subst e2
      have HSA := Lib.hid (refSame9_any L L A1 A2 n c1 n c2 U10 hn hn (by have := HL9.out; omega) hd1 hd10)
      rw [listB_refl sameD_refl] at HSA
      clear hd1 hd10 hn hb10 hHeld ho9 hb9
      go_wp2_with fail
      refine HSA.out.mono ?_
      rintro r w11 ⟨rfl, hb11⟩
      have HB11 := Lib.hid (bthen HBZ.out (bthen HB10.out hb11))
      clear hb11
      go_wp2_with fail
      go_ret
      exact ⟨by simp, HB11.out⟩
    · go_simp
      have hb2 := bthen HBE.out (balloc (Below.refl _ UE) (.cells #[.slice F nf cf, .slice G ng cg] 25))
      have hx2 := heap_alloc_new UE (.cells #[.slice F nf cf, .slice G ng cg] 25)
      have ho2 := HO0.out.below (balloc (Below.refl _ UE) (.cells #[.slice F nf cf, .slice G ng cg] 25))
      refine hK.out _ _ (HSX.out _ hb2) (fun hHeld => ?_)
      clear hK
      (try simp only [Act.put, List.getElem_toArray, List.getElem_cons_zero, List.getElem_cons_succ, List.setIfInBounds_toArray, List.set_cons_zero, List.set_cons_succ])
      refine wpAnyH_ready (rs := [2]) (by kernel_rfl) (by simp) ?_
      refine AllReadyH.cons rfl (fun K hK => ?_) AllReadyH.nil
      refine step_wp rfl (wp_append_mods rfl rfl rfl ho2 HMZ.out HLN.out hb2 (fun v3 U3 ho3 hb3 hg3 => ?_))
      have hx3 := (hg3.block UE.heap.size (by simp) (fun e => by have := HZE.out; simp only [Option.some.injEq] at e; omega)).trans hx2
      refine hK.out _ _ (HSX.out _ hb3) (fun hHeld => ?_)
      clear hK
      (try simp only [Act.put, List.getElem_toArray, List.getElem_cons_zero, List.getElem_cons_succ, List.setIfInBounds_toArray, List.set_cons_zero, List.set_cons_succ])
      refine wpAnyH_ready (rs := [5]) (by kernel_rfl) (by simp) ?_
      refine AllReadyH.cons rfl (fun K hK => ?_) AllReadyH.nil
      refine step_wp rfl (wp_append_one (r := ms) (m := m) (F := F) (G := G) (cf := cf) (cg := cg) rfl rfl rfl ho3 hx3 HNF.out HNG.out HMA.out HLN.out hb3 (fun v9 U9 ho9 hb9 => ?_))
      refine hK.out _ _ (HSX.out _ hb9) (fun hHeld => ?_)
      clear hK
      (try simp only [Act.put, List.getElem_toArray, List.getElem_cons_zero, List.getElem_cons_succ, List.setIfInBounds_toArray, List.set_cons_zero, List.set_cons_succ])
      refine wpAnyH_ready (rs := [6]) (by kernel_rfl) (by simp) ?_
      refine AllReadyH.cons rfl (fun K hK => ?_) AllReadyH.nil
      go_simp
      refine Calls.mono (HA4.out v9 U9 ho9 hb9) ?_
      rintro r U10 ⟨v10, rfl, hd10, hb10⟩
      have hb10 := bthen hb9 hb10
      refine hK.out _ _ (HSX.out _ hb10) (fun hHeld => ?_)
      clear hK
      (try simp only [Act.put, List.getElem_toArray, List.getElem_cons_zero, List.getElem_cons_succ, List.setIfInBounds_toArray, List.set_cons_zero, List.set_cons_succ])
      refine wpAnyH_take (i := 7) (v := ?_) rfl (by kernel_rfl) (by kernel_rfl) (by kernel_rfl) (fun _ _ _ h => h) (Or.inl ⟨by rfl, ?_⟩) hHeld ?_
      rotate_left
      · intro W' hSw; (try dsimp only at hSw); go_simp; try (with_reducible rfl)
      (try simp only [Act.put, List.getElem_toArray, List.getElem_cons_zero, List.getElem_cons_succ, List.setIfInBounds_toArray, List.set_cons_zero, List.set_cons_succ])
      refine wpAnyH_take (i := 8) (v := ?_) rfl (by kernel_rfl) (by kernel_rfl) (by kernel_rfl) (fun _ _ _ h => h) (Or.inl ⟨by rfl, ?_⟩) hHeld ?_
      rotate_left
      · intro W' hSw; (try dsimp only at hSw); go_simp; try (with_reducible rfl)
      (try simp only [Act.put, List.getElem_toArray, List.getElem_cons_zero, List.getElem_cons_succ, List.setIfInBounds_toArray, List.set_cons_zero, List.set_cons_succ])
      refine wpAnyH_take (i := 9) (v := ?_) rfl (by kernel_rfl) (by kernel_rfl) (by kernel_rfl) (fun _ _ _ h => h) (Or.inl ⟨by rfl, ?_⟩) hHeld ?_
      rotate_left
      · intro W' hSw; (try dsimp only at hSw); go_simp; try (with_reducible rfl)
      (try simp only [Act.put, List.getElem_toArray, List.getElem_cons_zero, List.getElem_cons_succ, List.setIfInBounds_toArray, List.set_cons_zero, List.set_cons_succ])
      refine wpAnyH_ready (rs := [10]) (by kernel_rfl) (by simp) ?_
      refine AllReadyH.cons rfl (fun K hK => ?_) AllReadyH.nil
      go_simp
      refine hK.out _ _ (HSX.out _ hb10) (fun hHeld => ?_)
      clear hK
      (try simp only [Act.put, List.getElem_toArray, List.getElem_cons_zero, List.getElem_cons_succ, List.setIfInBounds_toArray, List.set_cons_zero, List.set_cons_succ])
      refine wpAnyH_ready (rs := [11]) (by kernel_rfl) (by simp) ?_
      refine AllReadyH.cons rfl (fun K hK => ?_) AllReadyH.nil
      go_simp
      refine hK.out _ _ (HSX.out _ hb10) (fun hHeld => ?_)
      clear hK
      (try simp only [Act.put, List.getElem_toArray, List.getElem_cons_zero, List.getElem_cons_succ, List.setIfInBounds_toArray, List.set_cons_zero, List.set_cons_succ])
      refine wpAnyH_done (by kernel_rfl) ?_ _
      have HB10 := Lib.hid hb10
      have hd1 := HD1.out.next hb10
      obtain ⟨A1, c1, e1⟩ := hd1.slice
      obtain ⟨A2, c2, e2⟩ := hd10.slice
      obtain ⟨n, hn⟩ : ∃ n, L.length = n := ⟨_, rfl⟩
      rw [hn] at e1 e2
      subst e1
      subst e2
      have HSA := Lib.hid (refSame9_any L L A1 A2 n c1 n c2 U10 hn hn (by have := HL9.out; omega) hd1 hd10)
      rw [listB_refl sameD_refl] at HSA
      clear hd1 hd10 hn hb10 hHeld ho9 hb9
      go_wp2_with fail
      refine HSA.out.mono ?_
      rintro r w11 ⟨rfl, hb11⟩
      have HB11 := Lib.hid (bthen HBZ.out (bthen HB10.out hb11))
      clear hb11
      go_wp2_with fail
      go_ret
      exact ⟨by simp, HB11.out⟩
  · go_simp
    have hb1 := balloc (Below.refl _ Z) (.cells #[.slice F nf cf, .slice G ng cg] 25)
    have hx1 := heap_alloc_new Z (.cells #[.slice F nf cf, .slice G ng cg] 25)
    have hz1 := World.size_alloc Z (.cells #[.slice F nf cf, .slice G ng cg] 25)
    refine hK.out _ _ (HSX.out _ hb1) (fun hHeld => ?_)
    clear hK
    (try simp only [Act.put, List.getElem_toArray, List.getElem_cons_zero, List.getElem_cons_succ, List.setIfInBounds_toArray, List.set_cons_zero, List.set_cons_succ])
    generalize Z.alloc (.cells #[.slice F nf cf, .slice G ng cg] 25) = U1 at *
    refine wpAnyH_ready (rs := [0]) (by kernel_rfl) (by simp) ?_
    refine AllReadyH.cons rfl (fun K hK => ?_) AllReadyH.nil
    go_simp
    have HBE := Lib.hid (bthen hb1 (balloc (Below.refl _ U1) (.cells #[] 25)))
    have ho1 : OutIn Z (.slice (some ⟨Z.heap.size + 1, 0, none⟩) 0 0) [] (U1.alloc (.cells #[] 25)) := by rw [← hz1]; exact outIn_at Z U1 hb1.size
    have hx2 := ((balloc (Below.refl _ U1) (.cells #[] 25)).block Z.heap.size (by omega)).trans hx1
    refine hK.out _ _ (HSX.out _ HBE.out) (fun hHeld => ?_)
    clear hK
    (try simp only [Act.put, List.getElem_toArray, List.getElem_cons_zero, List.getElem_cons_succ, List.setIfInBounds_toArray, List.set_cons_zero, List.set_cons_succ])
    have hzU := World.size_alloc U1 (.cells #[] 25)
    generalize U1.alloc (.cells #[] 25) = UE at *
    refine wpAnyH_ready (rs := [2]) (by kernel_rfl) (by simp) ?_
    refine AllReadyH.cons rfl (fun K hK => ?_) AllReadyH.nil
    refine step_wp rfl (wp_append_mods rfl rfl rfl ho1 HMZ.out HLN.out HBE.out (fun v3 U3 ho3 hb3 hg3 => ?_))
    have hx3 := (hg3.block Z.heap.size (by omega) (fun e => by simp only [Option.some.injEq] at e; omega)).trans hx2
    refine hK.out _ _ (HSX.out _ hb3) (fun hHeld => ?_)
    clear hK
    (try simp only [Act.put, List.getElem_toArray, List.getElem_cons_zero, List.getElem_cons_succ, List.setIfInBounds_toArray, List.set_cons_zero, List.set_cons_succ])
    refine wpAnyH_ready (rs := [5]) (by kernel_rfl) (by simp) ?_
    refine AllReadyH.cons rfl (fun K hK => ?_) AllReadyH.nil
    refine step_wp rfl (wp_append_one (r := ms) (m := m) (F := F) (G := G) (cf := cf) (cg := cg) rfl rfl rfl ho3 hx3 HNF.out HNG.out HMA.out HLN.out hb3 (fun v9 U9 ho9 hb9 => ?_))
    refine hK.out _ _ (HSX.out _ hb9) (fun hHeld => ?_)
    clear hK
    (try simp only [Act.put, List.getElem_toArray, List.getElem_cons_zero, List.getElem_cons_succ, List.setIfInBounds_toArray, List.set_cons_zero, List.set_cons_succ])
    refine wpAnyH_ready (rs := [6]) (by kernel_rfl) (by simp) ?_
    refine AllReadyH.cons rfl (fun K hK => ?_) AllReadyH.nil
    go_simp
    refine Calls.mono (HA4.out v9 U9 ho9 hb9) ?_
    rintro r U10 ⟨v10, rfl, hd10, hb10⟩
    have hb10 := bthen hb9 hb10
    refine hK.out _ _ (HSX.out _ hb10) (fun hHeld => ?_)
    clear hK
    (try simp only [Act.put, List.getElem_toArray, List.getElem_cons_zero, List.getElem_cons_succ, List.setIfInBounds_toArray, List.set_cons_zero, List.set_cons_succ])
    refine wpAnyH_take (i := 7) (v := ?_) rfl (by kernel_rfl) (by kernel_rfl) (by kernel_rfl) (fun _ _ _ h => h) (Or.inl ⟨by rfl, ?_⟩) hHeld ?_
    rotate_left
    · intro W' hSw; (try dsimp only at hSw); go_simp; try (with_reducible rfl)
    (try simp only [Act.put, List.getElem_toArray, List.getElem_cons_zero, List.getElem_cons_succ, List.setIfInBounds_toArray, List.set_cons_zero, List.set_cons_succ])
    refine wpAnyH_take (i := 8) (v := ?_) rfl (by kernel_rfl) (by kernel_rfl) (by kernel_rfl) (fun _ _ _ h => h) (Or.inl ⟨by rfl, ?_⟩) hHeld ?_
    rotate_left
    · intro W' hSw; (try dsimp only at hSw); go_simp; try (with_reducible rfl)
    (try simp only [Act.put, List.getElem_toArray, List.getElem_cons_zero, List.getElem_cons_succ, List.setIfInBounds_toArray, List.set_cons_zero, List.set_cons_succ])
    refine wpAnyH_take (i := 9) (v := ?_) rfl (by kernel_rfl) (by kernel_rfl) (by kernel_rfl) (fun _ _ _ h => h) (Or.inl ⟨by rfl, ?_⟩) hHeld ?_
    rotate_left
    · intro W' hSw; (try dsimp only at hSw); go_simp; try (with_reducible rfl)
    (try simp only [Act.put, List.getElem_toArray, List.getElem_cons_zero, List.getElem_cons_succ, List.setIfInBounds_toArray, List.set_cons_zero, List.set_cons_succ])
    refine wpAnyH_ready (rs := [10]) (by kernel_rfl) (by simp) ?_
    refine AllReadyH.cons rfl (fun K hK => ?_) AllReadyH.nil
    go_simp
    refine hK.out _ _ (HSX.out _ hb10) (fun hHeld => ?_)
    clear hK
    (try simp only [Act.put, List.getElem_toArray, List.getElem_cons_zero, List.getElem_cons_succ, List.setIfInBounds_toArray, List.set_cons_zero, List.set_cons_succ])
    refine wpAnyH_ready (rs := [11]) (by kernel_rfl) (by simp) ?_
    refine AllReadyH.cons rfl (fun K hK => ?_) AllReadyH.nil
    go_simp
    refine hK.out _ _ (HSX.out _ hb10) (fun hHeld => ?_)
    clear hK
    (try simp only [Act.put, List.getElem_toArray, List.getElem_cons_zero, List.getElem_cons_succ, List.setIfInBounds_toArray, List.set_cons_zero, List.set_cons_succ])
    refine wpAnyH_done (by kernel_rfl) ?_ _
    have HB10 := Lib.hid hb10
    have hd1 := HD1.out.next hb10
    obtain ⟨A1, c1, e1⟩ := hd1.slice
    obtain ⟨A2, c2, e2⟩ := hd10.slice
    obtain ⟨n, hn⟩ : ∃ n, L.length = n := ⟨_, rfl⟩
    rw [hn] at e1 e2
    subst e1
    subst e2
    have HSA := Lib.hid (refSame9_any L L A1 A2 n c1 n c2 U10 hn hn (by have := HL9.out; omega) hd1 hd10)
    rw [listB_refl sameD_refl] at HSA
    clear hd1 hd10 hn hb10 hHeld ho9 hb9
    go_wp2_with fail
    refine HSA.out.mono ?_
    rintro r w11 ⟨rfl, hb11⟩
    have HB11 := Lib.hid (bthen HBZ.out (bthen HB10.out hb11))
    clear hb11
    go_wp2_with fail
    go_ret
    exact ⟨by simp, HB11.out⟩
end Go.Proofs.Ytniolkjeblocaaa
