/- ReachNamed: the walk. -/
import Derived.Test.YtoglmdadpchhoaaRk
import Derived.Test.YtoglmdadpchhoaaRn
namespace Go.Proofs.Ytoglmdadpchhoaa
open Go.RowKit Go.Shelf

theorem wp_append_names {U : World} {o : Oper} {a : Act} {K : Act → World → Prop} {Q : Exit → Act → World → Prop} {s x : Operand} {A : Option Addr} {n c base : Nat} {v : Value} {L M : List ByteArray}
    (ho : o.op = .call { callee := .builtin .append, args := #[s, x], argTypes := #[45, 45] }) (hs : a.eval s = v) (hx : a.eval x = .slice A n c)
    (hO : OwnsN U base v L) (hM : Strs U (.slice A n c) M) (hn : L.length + M.length ≤ 1048576) (hb : base ≤ U.heap.size)
    (h : ∀ v' U', OwnsN U' base v' (L ++ M) → Below base U U' → K (a.put o.dst v') U') : o.wp Try.prog a U K Q := by
  have ho1 : U.ownsRow base 9 1 v L.length (strRow L) := hO
  obtain ⟨i0, hi0, hz0, hz1, hz2⟩ := info_parts str_info
  have hg : ∀ U', U.grownBy U' v.ownBlock → Below base U U' := fun U' hg => ⟨hg.os, hg.tape, hg.output, hg.size, fun k hk => hg.block k (by omega) (fun e => by have := (ho1.lt k e.symm).1; omega)⟩
  rcases hM with ⟨rfl, e | ⟨ad, cap, e⟩⟩ | ⟨hl, b, off, cap, e, hbl, hcell⟩
  · obtain ⟨rfl, rfl, rfl⟩ := Value.slice.inj e
    have hrun := run_append_owned_none (P := Try.prog) (w := U) base 45 o.type 9 i0 1 Try.underlying45 hi0 _ _ _ ho1
    unfold Oper.wp
    simp [execOp, ho, resolve, invoke, builtin, hs, hx, hrun, Result.andThen]
    exact h _ U (by rw [List.append_nil]; exact hO) (Below.refl _ _)
  · obtain ⟨rfl, rfl, rfl⟩ := Value.slice.inj e
    have hrun := run_append_zero (P := Try.prog) (w := U) base 45 o.type 9 i0 1 Try.underlying45 hi0 _ _ _ ho1 ad c
    unfold Oper.wp
    simp [execOp, ho, resolve, invoke, builtin, hs, hx, hrun, Result.andThen]
    exact h _ U (by rw [List.append_nil]; exact hO) (Below.refl _ _)
  · obtain ⟨rfl, rfl, rfl⟩ := Value.slice.inj e
    refine wp_append_own U s x 45 ho base 9 i0 _ 1 16 Try.underlying45 hi0 hz0 hz1 hz2 rfl (by decide) v L.length (strRow L) hs ho1 ⟨b, off, none⟩ M.length c (strRow M) hx (by simp [strRow]) (fun j u hu => by
      have hj : j < M.length := by
        have := (List.getElem?_eq_some_iff.1 hu).1
        simpa [strRow] using this
      have hu' : u = .string M[j] := by
        have : (strRow M)[j]? = some (.string M[j]) := by simp [strRow, hj]
        rw [this] at hu
        exact (Option.some.inj hu).symm
      subst hu'
      have hc := hcell j hj
      rw [Nat.mul_one] at hc
      rw [int_add]
      exact hc) (fun u hu => by
      simp only [strRow, List.mem_map] at hu
      obtain ⟨q, -, rfl⟩ := hu
      rfl) (by unfold maxLen; omega) (by omega) hb (fun v' U' h2 h3 h4 => ?_)
    refine h v' U' ?_ (hg U' h3)
    unfold OwnsN strRow
    rw [List.length_append, List.map_append]
    exact h2
/-- what the first functions that stay name -/
def refsTo (l : List Fn) (i : Nat) : List ByteArray := ((l.take i).map refsL).flatten
theorem refsTo_succ {l : List Fn} {i : Nat} (hi : i < l.length) : refsTo l (i + 1) = refsTo l i ++ refsL l[i] := by
  unfold refsTo
  rw [List.take_succ_eq_append_getElem hi, List.map_append, List.flatten_append]
  simp
theorem flat_sum : ∀ l : List Fn, ((l.map refsL).flatten).length ≤ (l.map fun f => (insF f).length).sum
  | [] => by simp
  | f :: l => by
    have h1 := flat_sum l
    have h2 := refs_len f
    rw [List.map_cons, List.flatten_cons, List.length_append, List.map_cons, List.sum_cons]
    omega
theorem refsTo_len (l : List Fn) (i : Nat) : (refsTo l i).length ≤ ((l.map refsL).flatten).length := by
  unfold refsTo
  conv => rhs; rw [← List.take_append_drop i l]
  rw [List.map_append, List.flatten_append, List.length_append]
  omega
/-- what is found out of a name -/
theorem name_fits {m : Md} (hn : (namesM m).Nodup) {x : ByteArray} (hx : x ∈ namesM m) :
    (x ∈ fromE m (rootsE m) → ((refsAll m).any fun y => y == x) = false → ((rootsE m).any fun y => y == x) = true) ∧ (x ∉ fromE m (rootsE m) → ((refsAll m).any fun y => y == x) = false) := by
  refine ⟨fun h hf => ?_, fun h => ?_⟩
  · rcases stays_named h with h | h
    · rw [any_mem h] at hf; cases hf
    · exact any_mem h
  · rw [List.any_eq_false]
    intro y hy e
    rw [(jba_beq _ _).1 e] at hy
    exact h (named_stays hn hx hy)
theorem drop_f {m : Md} {i : Nat} (hi : i < m.f.length) : m.f[i].s ∈ (dropE m).f.map (·.s) ↔ m.f[i].s ∈ fromE m (rootsE m) := by
  refine ⟨fun h => ?_, fun h => List.mem_map_of_mem (List.mem_filter.2 ⟨List.getElem_mem hi, decide_eq_true h⟩)⟩
  obtain ⟨f, hf, e⟩ := List.mem_map.1 h
  rw [← e]
  exact of_decide_eq_true (List.mem_filter.1 hf).2
theorem drop_g {m : Md} {i : Nat} (hi : i < m.g.length) : m.g[i].s ∈ (dropE m).g.map (·.s) ↔ m.g[i].s ∈ fromE m (rootsE m) := by
  refine ⟨fun h => ?_, fun h => List.mem_map_of_mem (List.mem_filter.2 ⟨List.getElem_mem hi, decide_eq_true h⟩)⟩
  obtain ⟨f, hf, e⟩ := List.mem_map.1 h
  rw [← e]
  exact of_decide_eq_true (List.mem_filter.1 hf).2
theorem nm_next {w W W' : World} {B B2 B3 o3 : Nat} {c0 c1 d0 d1 x0 : Value} (hb : Below W.heap.size W W') (h : W.cell? ⟨B, 0, none⟩ = some c0 ∧ W.cell? ⟨B, 1, none⟩ = some c1 ∧ W.cell? ⟨B2, 0, none⟩ = some d0 ∧ W.cell? ⟨B2, 1, none⟩ = some d1 ∧ W.cell? ⟨B3, o3, none⟩ = some x0 ∧ Below w.heap.size w W) :
    W'.cell? ⟨B, 0, none⟩ = some c0 ∧ W'.cell? ⟨B, 1, none⟩ = some c1 ∧ W'.cell? ⟨B2, 0, none⟩ = some d0 ∧ W'.cell? ⟨B2, 1, none⟩ = some d1 ∧ W'.cell? ⟨B3, o3, none⟩ = some x0 ∧ Below w.heap.size w W' := by
  obtain ⟨h0, h1, h2, h3, h4, h5⟩ := h
  have hB := World.block_lt_of_cell? W _ h0
  have hB2 := World.block_lt_of_cell? W _ h2
  have hB3 := World.block_lt_of_cell? W _ h4
  exact ⟨(cellNext hB hb _).trans h0, (cellNext hB hb _).trans h1, (cellNext hB2 hb _).trans h2, (cellNext hB2 hb _).trans h3, (cellNext hB3 hb _).trans h4, bthen h5 hb⟩
theorem nm_below {w W : World} {B B2 B3 o3 : Nat} {c0 c1 d0 d1 x0 : Value} (h : W.cell? ⟨B, 0, none⟩ = some c0 ∧ W.cell? ⟨B, 1, none⟩ = some c1 ∧ W.cell? ⟨B2, 0, none⟩ = some d0 ∧ W.cell? ⟨B2, 1, none⟩ = some d1 ∧ W.cell? ⟨B3, o3, none⟩ = some x0 ∧ Below w.heap.size w W) : Below w.heap.size w W := h.2.2.2.2.2
theorem nm_id {w W : World} {B B2 B3 o3 : Nat} {c0 c1 d0 d1 x0 : Value} (h : W.cell? ⟨B, 0, none⟩ = some c0 ∧ W.cell? ⟨B, 1, none⟩ = some c1 ∧ W.cell? ⟨B2, 0, none⟩ = some d0 ∧ W.cell? ⟨B2, 1, none⟩ = some d1 ∧ W.cell? ⟨B3, o3, none⟩ = some x0 ∧ Below w.heap.size w W) :
    W.cell? ⟨B, 0, none⟩ = some c0 ∧ W.cell? ⟨B, 1, none⟩ = some c1 ∧ W.cell? ⟨B2, 0, none⟩ = some d0 ∧ W.cell? ⟨B2, 1, none⟩ = some d1 ∧ W.cell? ⟨B3, o3, none⟩ = some x0 ∧ Below w.heap.size w W := h
set_option maxRecDepth 100000 in
set_option maxHeartbeats 16000000 in
theorem named_all (m : Md) (F G : Option Addr) (cf cg : Nat) (w : World) (hok : MdOk m) (hw : MdW m) (hk : MdK 1048576 m) (hS : MdAt w (.slice F m.f.length cf) (.slice G m.g.length cg) m) :
    Calls Try.prog 6 #[.agg #[.slice F m.f.length cf, .slice G m.g.length cg]] w fun e w' => e = .returned (.bool true) ∧ Below w.heap.size w w' := by
  obtain ⟨nf, hnf⟩ : ∃ q, m.f.length = q := ⟨_, rfl⟩
  obtain ⟨ng, hng⟩ : ∃ q, m.g.length = q := ⟨_, rfl⟩
  rw [hnf, hng] at hS ⊢
  have h20 : nf + ng ≤ 1048576 := by have := hk.1; omega
  have HFE := Lib.hid (fun (U : World) => few_any m F G nf cf ng cg U hnf hng h20)
  have HCK := Lib.hid (fun (U : World) (hU : Below w.heap.size w U) => refCheck_any m F G nf cf ng cg U hok hw hnf hng (hS.next hU))
  have hRO := fun (U : World) (hU : Below w.heap.size w U) => roots_any m F G nf cf ng cg U hnf hng h20 (hS.next hU)
  have hDR := fun (U : World) (hU : Below w.heap.size w U) => drop_any m F G nf cf ng cg U hok hk hnf hng (hS.next hU)
  have hFF := fun (U : World) (F' G' : Option Addr) (c' d' : Nat) (s : ByteArray) (hS' : MdAt U (.slice F' (dropE m).f.length c') (.slice G' (dropE m).g.length d') (dropE m)) => findFunc_any (dropE m) F' G' _ c' _ d' s U (drop_ok hok) rfl hS'
  have hFG := fun (U : World) (F' G' : Option Addr) (c' d' : Nat) (s : ByteArray) (hS' : MdAt U (.slice F' (dropE m).f.length c') (.slice G' (dropE m).g.length d') (dropE m)) => findGlob_any (dropE m) F' G' _ c' _ d' s U (drop_ok hok) rfl hS'
  have hDF : ∀ i (hi : i < m.f.length), m.f[i].s ∈ (dropE m).f.map (·.s) ↔ m.f[i].s ∈ fromE m (rootsE m) := fun i hi => drop_f hi
  have hDG : ∀ i (hi : i < m.g.length), m.g[i].s ∈ (dropE m).g.map (·.s) ↔ m.g[i].s ∈ fromE m (rootsE m) := fun i hi => drop_g hi
  have HFIT := Lib.hid (show checkE m = 0 → ∀ x ∈ namesM m, (x ∈ fromE m (rootsE m) → ((refsAll m).any fun y => y == x) = false → ((rootsE m).any fun y => y == x) = true) ∧ (x ∉ fromE m (rootsE m) → ((refsAll m).any fun y => y == x) = false) from fun h x hx => name_fits (check_parts h).2.2.2.1 hx)
  have hRA : refsAll m = refsTo (dropE m).f (dropE m).f.length := by unfold refsAll refsTo; rw [List.take_length]
  have hRL : ∀ i, (refsTo (dropE m).f i).length ≤ 1048576 := fun i => Nat.le_trans (refsTo_len _ _) (Nat.le_trans (flat_sum _) (drop_few hk).2.1)
  have hDK : ∀ f ∈ (dropE m).f, FnOk f ∧ (insF f).length ≤ 1048576 := fun f hf => ⟨(drop_ok hok).1 f hf, ((drop_few hk).2.2 f hf).2.1⟩
  have hRN : (rootsE m).length ≤ 1048576 := by have := roots_len m; have := hk.1; omega
  obtain ⟨D, hD⟩ : ∃ D, dropE m = D := ⟨_, rfl⟩
  obtain ⟨R, hR⟩ : ∃ R, rootsE m = R := ⟨_, rfl⟩
  obtain ⟨S, hSS⟩ : ∃ S, fromE m (rootsE m) = S := ⟨_, rfl⟩
  unfold GivenMd at hDR
  unfold MadeN at hRO
  rw [hSS] at hDF hDG
  have HFIT2 := Lib.hid (show checkE m = 0 → ∀ x ∈ namesM m, (x ∈ S → ((refsTo D.f D.f.length).any fun y => y == x) = false → (R.any fun y => y == x) = true) ∧ (x ∉ S → ((refsTo D.f D.f.length).any fun y => y == x) = false) from by have := HFIT.out; rw [hSS, hR, hRA, hD] at this; exact this)
  rw [hD] at hDR hFF hFG hDF hDG hRL hDK
  rw [hR] at hRO hRN
  clear HFIT hRA hSS
  obtain ⟨n3, hn3⟩ : ∃ q, D.f.length = q := ⟨_, rfl⟩
  obtain ⟨g3, hg3⟩ : ∃ q, D.g.length = q := ⟨_, rfl⟩
  obtain ⟨nR, hnR⟩ : ∃ q, R.length = q := ⟨_, rfl⟩
  rw [hn3, hg3] at hDR hFF hFG
  rw [hn3] at HFIT2
  rw [hnR] at hRO hRN
  have HDR := Lib.hid hDR
  have HFF := Lib.hid hFF
  have HFG := Lib.hid hFG
  have HDF := Lib.hid hDF
  have HDG := Lib.hid hDG
  have HRL := Lib.hid hRL
  have HDK := Lib.hid hDK
  have HRO := Lib.hid hRO
  have HNR := Lib.hid (show R.length ≤ nR ∧ nR ≤ R.length ∧ nR ≤ 1048576 by omega)
  have HN3 := Lib.hid (show D.f.length ≤ n3 ∧ n3 ≤ D.f.length by omega)
  have HNF := Lib.hid (show m.f.length ≤ nf ∧ nf ≤ m.f.length by omega)
  have HNG := Lib.hid (show m.g.length ≤ ng ∧ ng ≤ m.g.length by omega)
  have HSS := Lib.hid hS
  have n1 : (nf : Int) ≤ 1048576 := by omega
  have n2 : (ng : Int) ≤ 1048576 := by omega
  have n3' : (n3 : Int) ≤ 9223372036854775807 := by have := (drop_ok hok).2.2.1; rw [hD] at this; omega
  have hcb := heap_alloc_new w (.cells #[.slice F nf cf, .slice G ng cg] 25)
  have hb0 := balloc (Below.refl _ w) (.cells #[.slice F nf cf, .slice G ng cg] 25)
  obtain ⟨W0, hW0⟩ : ∃ U, w.alloc (.cells #[.slice F nf cf, .slice G ng cg] 25) = U := ⟨_, rfl⟩
  rw [hW0] at hcb hb0
  have HCB := Lib.hid (show Whole W0 w.heap.size 25 #[.slice F nf cf, .slice G ng cg] from hcb)
  have HB0 := Lib.hid hb0
  clear hok hw hk hS hnf hng h20 hD hR hDR hFF hFG hDF hDG hRL hDK hRO hRN hn3 hg3 hnR hcb hb0
  go_enter Try.func6, Try.ntmps6
  go_wp2_with fail
  refine (rshown11_any W0).mono ?_
  rintro r w1 ⟨rfl, hb1⟩
  have HC1 := Lib.hid (HCB.out.next hb1)
  have HB1 := Lib.hid (bthen HB0.out hb1)
  have c0 : w1.cell? ⟨w.heap.size, 0, none⟩ = some (.slice F nf cf) := HC1.out.cell 0
  have c1 : w1.cell? ⟨w.heap.size, 1, none⟩ = some (.slice G ng cg) := HC1.out.cell 1
  clear hb1
  go_wp2_with fail
  refine (HFE.out w1).mono ?_
  rintro r w2 ⟨rfl, hb2⟩
  have HC2 := Lib.hid (HC1.out.next hb2)
  have HB2 := Lib.hid (bthen HB1.out hb2)
  have d0 : w2.cell? ⟨w.heap.size, 0, none⟩ = some (.slice F nf cf) := HC2.out.cell 0
  have d1 : w2.cell? ⟨w.heap.size, 1, none⟩ = some (.slice G ng cg) := HC2.out.cell 1
  clear hb2 c0 c1
  go_wp2_with fail
  refine (HDR.out w2 HB2.out).mono ?_
  rintro r w3 ⟨F3, c3, G3, e3, rfl, hb3, hm3⟩
  obtain ⟨w4, hw4⟩ : ∃ X, w3.alloc (.cells #[.slice F3 n3 c3, .slice G3 g3 e3] 25) = X := ⟨_, rfl⟩
  have hb4 : Below w3.heap.size w3 w4 := by rw [← hw4]; exact balloc (Below.refl _ w3) _
  have HC4 := Lib.hid ((HC2.out.next hb3).next hb4)
  have HZ4 := Lib.hid (show Whole w4 w3.heap.size 25 #[.slice F3 n3 c3, .slice G3 g3 e3] by rw [← hw4]; exact heap_alloc_new w3 _)
  have HB4 := Lib.hid (bthen (bthen HB2.out hb3) hb4)
  have HM4 := Lib.hid (hm3.next hb4)
  have f0 : w4.cell? ⟨w.heap.size, 0, none⟩ = some (.slice F nf cf) := HC4.out.cell 0
  have f1 : w4.cell? ⟨w.heap.size, 1, none⟩ = some (.slice G ng cg) := HC4.out.cell 1
  clear hb3 hm3 hb4 d0 d1
  go_wp2_with fail
  clear hw4
  refine (HRO.out w4 HB4.out).mono ?_
  rintro r w5 ⟨A5, c5, rfl, hb5, ho5⟩
  have HC5 := Lib.hid (HC4.out.next hb5)
  have HZ5 := Lib.hid (HZ4.out.next hb5)
  have HB5 := Lib.hid (bthen HB4.out hb5)
  have HM5 := Lib.hid (HM4.out.next hb5)
  have HS5 := Lib.hid ho5.strs
  have e0 : w5.cell? ⟨w.heap.size, 0, none⟩ = some (.slice F nf cf) := HC5.out.cell 0
  have e1 : w5.cell? ⟨w.heap.size, 1, none⟩ = some (.slice G ng cg) := HC5.out.cell 1
  clear hb5 ho5 f0 f1 HC1 HC2 HC4 HZ4 HM4 HB0 HB1 HB2 HCB hW0
  obtain ⟨V, hV⟩ : ∃ V, fewE m = V := ⟨_, rfl⟩
  rw [hV]
  clear hV
  cases V with
  | false =>
    go_wp2_with fail
    go_ret
    exact ⟨rfl, HB5.out⟩
  | true =>
    go_wp2_with fail
    refine (HCK.out w5 HB5.out).mono ?_
    rintro r w6 ⟨rfl, hb6⟩
    have HC6 := Lib.hid (HC5.out.next hb6)
    have HZ6 := Lib.hid (HZ5.out.next hb6)
    have HB6 := Lib.hid (bthen HB5.out hb6)
    have HM6 := Lib.hid (HM5.out.next hb6)
    have HS6 := Lib.hid (HS5.out.next hb6)
    clear hb6 e0 e1 HC5 HZ5 HB5 HM5 HS5
    obtain ⟨X, hX⟩ : ∃ X, checkE m = X := ⟨_, rfl⟩
    have HFIT3 := HFIT2.out
    rw [hX] at HFIT3 ⊢
    have HFI := Lib.hid HFIT3
    clear hX HFIT2 HFIT3
    by_cases hc : X = 0
    rotate_left
    · go_wp2_with fail
      go_ret
      exact ⟨rfl, HB6.out⟩
    have HFIT := Lib.hid (HFI.out hc)
    subst hc
    clear HFI
    have z0 : w6.cell? ⟨w3.heap.size, 0, none⟩ = some (.slice F3 n3 c3) := HZ6.out.cell 0
    go_wp2_with fail
    go_loopw [7, 8] (fun rv iv wr => ∃ i : Nat, i ≤ n3 ∧ iv = .int .i64 i ∧ OwnsN wr w6.heap.size rv (refsTo D.f i) ∧ Below w6.heap.size w6 wr) (fun _ iv _ => n3 - (intOf iv).toNat)
    case atStart => exact ⟨0, Nat.zero_le _, rfl, OwnsN.nil _ _, Below.refl _ _⟩
    case round =>
      obtain ⟨i, hi, rfl, ho, hbi⟩ := hrel
      have HOI := Lib.hid ho
      have HBI := Lib.hid hbi
      have HZI := Lib.hid (HZ6.out.next hbi)
      have z0 : wr.cell? ⟨w3.heap.size, 0, none⟩ = some (.slice F3 n3 c3) := HZI.out.cell 0
      clear ho hbi
      by_cases hlt : i < n3
      · have hm : i < D.f.length := by have := HN3.out; omega
        obtain ⟨b1, off, hA1, hbl, s0, s1, s2, C, ca, s3, hblk⟩ := RowOf.at_ (HM6.out.next HBI.out).1 hm
        have hdk := HDK.out _ (List.getElem_mem hm)
        have hsu := refsTo_succ hm
        have hlen := HRL.out (i + 1)
        obtain ⟨f, hf⟩ : ∃ f, D.f[i] = f := ⟨_, rfl⟩
        rw [hf] at s0 s1 s2 s3 hblk hdk hsu
        subst hA1
        obtain ⟨nl, hnl⟩ : ∃ q, f.l.length = q := ⟨_, rfl⟩
        rw [hnl] at s3 hblk
        have HRF := Lib.hid (refRefs_any f C nl ca wr hnl hdk.1 (by omega) hblk)
        have HSU := Lib.hid hsu
        have HLE := Lib.hid (show (refsTo D.f i).length + (refsL f).length ≤ 1048576 by rw [hsu, List.length_append] at hlen; exact hlen)
        have q0 : (0 : Int) ≤ (i : Int) := Int.natCast_nonneg _
        have q1 : (i : Int) < (n3 : Int) := by omega
        have HLT := Lib.hid hlt
        clear hdk hsu hlen hf hnl hblk hbl hm hlt hi
        go_wp2_with fail
        refine HRF.out.mono ?_
        rintro r w7 ⟨v7, rfl, hs7, hb7⟩
        obtain ⟨A7, c7, hv7⟩ := RowOf.slice hs7
        subst hv7
        have HO7 := Lib.hid (HOI.out.call hb7)
        have HS7 := Lib.hid hs7
        have HB7 := Lib.hid (bthen HBI.out hb7)
        clear hs7 hb7 z0 s0 s1 s2 s3
        go_wp2_with (refine wpList_plain rfl fun _ hK => wp_append_names rfl rfl rfl HO7.out HS7.out HLE.out HB7.out.size (fun v8 w8 ho8 hb8 => hK _ _ ?_))
        have HO8 := Lib.hid (show OwnsN w8 w6.heap.size v8 (refsTo D.f (i + 1)) by rw [HSU.out]; exact ho8)
        have HB8 := Lib.hid (HB7.out.trans hb8)
        clear ho8 hb8
        go_wp2_with fail
        go_roundw
        case rel => exact ⟨i + 1, HLT.out, by go_num, HO8.out, HB8.out⟩
        case measure => have := HLT.out; simp [intOf]; omega
      · have hd : decide ((i : Int) < (n3 : Int)) = false := by simp; omega
        obtain rfl : n3 = i := by omega
        obtain ⟨A8, c8, e8⟩ := HOI.out.form
        subst e8
        have HS8 := Lib.hid HOI.out.strs
        obtain ⟨N, hN⟩ : ∃ N, refsTo D.f n3 = N := ⟨_, rfl⟩
        have hNL := HRL.out n3
        rw [hN] at HS8 HFIT hNL
        obtain ⟨nN, hnN⟩ : ∃ q, N.length = q := ⟨_, rfl⟩
        rw [hN, hnN]
        rw [hnN] at HS8 hNL
        have HNN := Lib.hid (show N.length ≤ nN ∧ nN ≤ N.length ∧ nN ≤ 1048576 by omega)
        clear hN hNL hnN HOI HRL hi hlt
        go_wp2_with fail
        go_loopw [9] (fun kv wi => ∃ k : Nat, k ≤ nf ∧ kv = .int .i64 k ∧ Strs wi (.slice A8 nN c8) N ∧ Below w6.heap.size w6 wi) (fun kv _ => nf - (intOf kv).toNat)
        case atStart => exact ⟨0, Nat.zero_le _, rfl, HS8.out, HBI.out⟩
        case round =>
          obtain ⟨k, hk, rfl, hs, hb⟩ := hrel
          have HSK := Lib.hid hs
          have HBK := Lib.hid hb
          have HCK := Lib.hid (HC6.out.next hb)
          have HZK := Lib.hid (HZ6.out.next hb)
          have HRK := Lib.hid (HS6.out.next hb)
          have f0 : wr.cell? ⟨w.heap.size, 0, none⟩ = some (.slice F nf cf) := HCK.out.cell 0
          have f1 : wr.cell? ⟨w.heap.size, 1, none⟩ = some (.slice G ng cg) := HCK.out.cell 1
          have g0 : wr.cell? ⟨w3.heap.size, 0, none⟩ = some (.slice F3 n3 c3) := HZK.out.cell 0
          have g1 : wr.cell? ⟨w3.heap.size, 1, none⟩ = some (.slice G3 g3 e3) := HZK.out.cell 1
          clear hs hb
          by_cases hlt : k < nf
          · have hm : k < m.f.length := by have := HNF.out; omega
            obtain ⟨b1, off, hA1, hbl, p0, -⟩ := RowOf.at_ (HSS.out.next (bthen HB6.out HBK.out)).1 hm
            have hfit := HFIT.out _ (List.mem_append_left _ (List.mem_map_of_mem (List.getElem_mem hm)))
            have hdk := HDF.out k hm
            obtain ⟨x, hx⟩ : ∃ x, m.f[k].s = x := ⟨_, rfl⟩
            rw [hx] at p0 hfit hdk
            have hip := idx_pos (D.f.map (·.s)) x
            have hfc := fun (U : World) (hU : Below wr.heap.size wr U) => HFF.out U F3 G3 c3 e3 x (HM6.out.next (bthen HBK.out hU))
            obtain ⟨E, hE⟩ : ∃ E, idxE (fIdx (D.f.map (·.s)) x) = E := ⟨_, rfl⟩
            rw [hE] at hip hfc
            obtain ⟨NM, hNM⟩ : ∃ q, (N.any fun y => y == x) = q := ⟨_, rfl⟩
            obtain ⟨RT, hRT⟩ : ∃ q, (R.any fun y => y == x) = q := ⟨_, rfl⟩
            rw [hNM, hRT] at hfit
            have hcase : ((0 : Int) ≤ E ∧ NM = true) ∨ ((0 : Int) ≤ E ∧ NM = false ∧ RT = true) ∨ (¬ (0 : Int) ≤ E ∧ NM = false) := by
              by_cases he : (0 : Int) ≤ E
              · have hS : x ∈ S := hdk.1 (of_decide_eq_true (hip.symm.trans (decide_eq_true he)))
                cases h : NM with
                | true => exact .inl ⟨he, rfl⟩
                | false => exact .inr (.inl ⟨he, rfl, hfit.1 hS h⟩)
              · have hS : x ∉ S := fun h => he (of_decide_eq_true (hip.trans (decide_eq_true (hdk.2 h))))
                exact .inr (.inr ⟨he, hfit.2 hS⟩)
            have HNM := Lib.hid (show ((N.any fun y => y == x) = true) = (NM = true) by rw [hNM])
            have HNE := Lib.hid hNM
            have HRE := Lib.hid hRT
            have HFC := Lib.hid hfc
            have HLT := Lib.hid hlt
            have q0 : (0 : Int) ≤ (k : Int) := Int.natCast_nonneg _
            have q1 : (k : Int) < (nf : Int) := by omega
            subst hA1
            clear HNM hfit hdk hip hfc hE hNM hRT hx hm hlt hbl hk
            have hd : wr.drew.cell? ⟨w.heap.size, 0, none⟩ = some (.slice (some ⟨b1, off, none⟩) nf cf) ∧ wr.drew.cell? ⟨w.heap.size, 1, none⟩ = some (.slice G ng cg) ∧ wr.drew.cell? ⟨w3.heap.size, 0, none⟩ = some (.slice F3 n3 c3) ∧ wr.drew.cell? ⟨w3.heap.size, 1, none⟩ = some (.slice G3 g3 e3) ∧ wr.drew.cell? ⟨b1, off + k * 4, none⟩ = some (.string x) ∧ Below wr.heap.size wr wr.drew := ⟨f0, f1, g0, g1, p0, (Below.refl _ _).drew⟩
            rcases hcase with ⟨he, rfl⟩ | ⟨he, rfl, rfl⟩ | ⟨he, rfl⟩
            · go_upto_region 15 with fail
              go_region_held3 (fun U => U.cell? ⟨w.heap.size, 0, none⟩ = some (.slice (some ⟨b1, off, none⟩) nf cf) ∧ U.cell? ⟨w.heap.size, 1, none⟩ = some (.slice G ng cg) ∧ U.cell? ⟨w3.heap.size, 0, none⟩ = some (.slice F3 n3 c3) ∧ U.cell? ⟨w3.heap.size, 1, none⟩ = some (.slice G3 g3 e3) ∧ U.cell? ⟨b1, off + k * 4, none⟩ = some (.string x) ∧ Below wr.heap.size wr U) (first | assumption | exact hd | exact nm_next (by assumption) (by assumption))
                (first | (go_at_call 23; refine Calls.mono (HFC.out _ (nm_below (by assumption))) ?_; rintro r wa ⟨rfl, hba⟩))
              all_goals
                obtain ⟨u0, u1, u2, u3, u4, hu⟩ := nm_id (w := wr) (by assumption)
                have HU := Lib.hid hu
                clear hd f0 f1 g0 g1 p0 hba
                go_wp2_with fail
                refine (refHas_any N x _ nN c8 _ (by have := HNN.out; omega) (by have := HNN.out; omega) (HSK.out.next HU.out)).mono ?_
                rintro r w10 ⟨rfl, rfl⟩
                rw [HNE.out]
                go_wp2_with fail
                refine (refHas_any R x _ nR c5 _ (by have := HNR.out; omega) (by have := HNR.out; omega) (HRK.out.next HU.out)).mono ?_
                rintro r w11 ⟨rfl, rfl⟩
                rw [HRE.out]
                go_wp2_with fail
                go_roundw
                case rel => exact ⟨k + 1, HLT.out, by go_num, HSK.out.next HU.out, bthen HBK.out HU.out⟩
                case measure => have := HLT.out; simp [intOf]; omega
            · go_upto_region 15 with fail
              go_region_held3 (fun U => U.cell? ⟨w.heap.size, 0, none⟩ = some (.slice (some ⟨b1, off, none⟩) nf cf) ∧ U.cell? ⟨w.heap.size, 1, none⟩ = some (.slice G ng cg) ∧ U.cell? ⟨w3.heap.size, 0, none⟩ = some (.slice F3 n3 c3) ∧ U.cell? ⟨w3.heap.size, 1, none⟩ = some (.slice G3 g3 e3) ∧ U.cell? ⟨b1, off + k * 4, none⟩ = some (.string x) ∧ Below wr.heap.size wr U) (first | assumption | exact hd | exact nm_next (by assumption) (by assumption))
                (first | (go_at_call 23; refine Calls.mono (HFC.out _ (nm_below (by assumption))) ?_; rintro r wa ⟨rfl, hba⟩))
              all_goals
                obtain ⟨u0, u1, u2, u3, u4, hu⟩ := nm_id (w := wr) (by assumption)
                have HU := Lib.hid hu
                clear hd f0 f1 g0 g1 p0 hba
                go_wp2_with fail
                refine (refHas_any N x _ nN c8 _ (by have := HNN.out; omega) (by have := HNN.out; omega) (HSK.out.next HU.out)).mono ?_
                rintro r w10 ⟨rfl, rfl⟩
                rw [HNE.out]
                go_wp2_with fail
                refine (refHas_any R x _ nR c5 _ (by have := HNR.out; omega) (by have := HNR.out; omega) (HRK.out.next HU.out)).mono ?_
                rintro r w11 ⟨rfl, rfl⟩
                rw [HRE.out]
                go_wp2_with fail
                go_roundw
                case rel => exact ⟨k + 1, HLT.out, by go_num, HSK.out.next HU.out, bthen HBK.out HU.out⟩
                case measure => have := HLT.out; simp [intOf]; omega
            · go_upto_region 15 with fail
              go_region_held3 (fun U => U.cell? ⟨w.heap.size, 0, none⟩ = some (.slice (some ⟨b1, off, none⟩) nf cf) ∧ U.cell? ⟨w.heap.size, 1, none⟩ = some (.slice G ng cg) ∧ U.cell? ⟨w3.heap.size, 0, none⟩ = some (.slice F3 n3 c3) ∧ U.cell? ⟨w3.heap.size, 1, none⟩ = some (.slice G3 g3 e3) ∧ U.cell? ⟨b1, off + k * 4, none⟩ = some (.string x) ∧ Below wr.heap.size wr U) (first | assumption | exact hd | exact nm_next (by assumption) (by assumption))
                (first | (go_at_call 23; refine Calls.mono (HFC.out _ (nm_below (by assumption))) ?_; rintro r wa ⟨rfl, hba⟩))
              all_goals
                obtain ⟨u0, u1, u2, u3, u4, hu⟩ := nm_id (w := wr) (by assumption)
                have HU := Lib.hid hu
                clear hd f0 f1 g0 g1 p0 hba
                go_wp2_with fail
                refine (refHas_any N x _ nN c8 _ (by have := HNN.out; omega) (by have := HNN.out; omega) (HSK.out.next HU.out)).mono ?_
                rintro r w10 ⟨rfl, rfl⟩
                rw [HNE.out]
                go_wp2_with fail
                refine (refHas_any R x _ nR c5 _ (by have := HNR.out; omega) (by have := HNR.out; omega) (HRK.out.next HU.out)).mono ?_
                rintro r w11 ⟨rfl, rfl⟩
                rw [HRE.out]
                go_wp2_with fail
                go_roundw
                case rel => exact ⟨k + 1, HLT.out, by go_num, HSK.out.next HU.out, bthen HBK.out HU.out⟩
                case measure => have := HLT.out; simp [intOf]; omega
          · have hd : decide (k < nf) = false := by simp; omega
            go_wp2_with fail
            go_loopw [13] (fun kv wi => ∃ k : Nat, k ≤ ng ∧ kv = .int .i64 k ∧ Strs wi (.slice A8 nN c8) N ∧ Below w6.heap.size w6 wi) (fun kv _ => ng - (intOf kv).toNat)
            case atStart => exact ⟨0, Nat.zero_le _, rfl, HSK.out, HBK.out⟩
            case round =>
              obtain ⟨k, hk, rfl, hs, hb⟩ := hrel
              have HSK := Lib.hid hs
              have HBK := Lib.hid hb
              have HCK := Lib.hid (HC6.out.next hb)
              have HZK := Lib.hid (HZ6.out.next hb)
              have HRK := Lib.hid (HS6.out.next hb)
              have f0 : wr.cell? ⟨w.heap.size, 0, none⟩ = some (.slice F nf cf) := HCK.out.cell 0
              have f1 : wr.cell? ⟨w.heap.size, 1, none⟩ = some (.slice G ng cg) := HCK.out.cell 1
              have g0 : wr.cell? ⟨w3.heap.size, 0, none⟩ = some (.slice F3 n3 c3) := HZK.out.cell 0
              have g1 : wr.cell? ⟨w3.heap.size, 1, none⟩ = some (.slice G3 g3 e3) := HZK.out.cell 1
              clear hs hb
              by_cases hlt : k < ng
              · have hm : k < m.g.length := by have := HNG.out; omega
                obtain ⟨b1, off, hA1, hbl, p0, -⟩ := RowOf.at_ (HSS.out.next (bthen HB6.out HBK.out)).2 hm
                have hfit := HFIT.out _ (List.mem_append_right _ (List.mem_map_of_mem (List.getElem_mem hm)))
                have hdk := HDG.out k hm
                obtain ⟨x, hx⟩ : ∃ x, m.g[k].s = x := ⟨_, rfl⟩
                rw [hx] at p0 hfit hdk
                have hip := idx_pos (D.g.map (·.s)) x
                have hfc := fun (U : World) (hU : Below wr.heap.size wr U) => HFG.out U F3 G3 c3 e3 x (HM6.out.next (bthen HBK.out hU))
                obtain ⟨E, hE⟩ : ∃ E, idxE (fIdx (D.g.map (·.s)) x) = E := ⟨_, rfl⟩
                rw [hE] at hip hfc
                obtain ⟨NM, hNM⟩ : ∃ q, (N.any fun y => y == x) = q := ⟨_, rfl⟩
                obtain ⟨RT, hRT⟩ : ∃ q, (R.any fun y => y == x) = q := ⟨_, rfl⟩
                rw [hNM, hRT] at hfit
                have hcase : ((0 : Int) ≤ E ∧ NM = true) ∨ ((0 : Int) ≤ E ∧ NM = false ∧ RT = true) ∨ (¬ (0 : Int) ≤ E ∧ NM = false) := by
                  by_cases he : (0 : Int) ≤ E
                  · have hS : x ∈ S := hdk.1 (of_decide_eq_true (hip.symm.trans (decide_eq_true he)))
                    cases h : NM with
                    | true => exact .inl ⟨he, rfl⟩
                    | false => exact .inr (.inl ⟨he, rfl, hfit.1 hS h⟩)
                  · have hS : x ∉ S := fun h => he (of_decide_eq_true (hip.trans (decide_eq_true (hdk.2 h))))
                    exact .inr (.inr ⟨he, hfit.2 hS⟩)
                have HNM := Lib.hid (show ((N.any fun y => y == x) = true) = (NM = true) by rw [hNM])
                have HNE := Lib.hid hNM
                have HRE := Lib.hid hRT
                have HFC := Lib.hid hfc
                have HLT := Lib.hid hlt
                have q0 : (0 : Int) ≤ (k : Int) := Int.natCast_nonneg _
                have q1 : (k : Int) < (ng : Int) := by omega
                subst hA1
                clear HNM hfit hdk hip hfc hE hNM hRT hx hm hlt hbl hk
                have hd : wr.drew.cell? ⟨w.heap.size, 0, none⟩ = some (.slice F nf cf) ∧ wr.drew.cell? ⟨w.heap.size, 1, none⟩ = some (.slice (some ⟨b1, off, none⟩) ng cg) ∧ wr.drew.cell? ⟨w3.heap.size, 0, none⟩ = some (.slice F3 n3 c3) ∧ wr.drew.cell? ⟨w3.heap.size, 1, none⟩ = some (.slice G3 g3 e3) ∧ wr.drew.cell? ⟨b1, off + k * 4, none⟩ = some (.string x) ∧ Below wr.heap.size wr wr.drew := ⟨f0, f1, g0, g1, p0, (Below.refl _ _).drew⟩
                rcases hcase with ⟨he, rfl⟩ | ⟨he, rfl, rfl⟩ | ⟨he, rfl⟩
                · go_upto_region 23 with fail
                  go_region_held3 (fun U => U.cell? ⟨w.heap.size, 0, none⟩ = some (.slice F nf cf) ∧ U.cell? ⟨w.heap.size, 1, none⟩ = some (.slice (some ⟨b1, off, none⟩) ng cg) ∧ U.cell? ⟨w3.heap.size, 0, none⟩ = some (.slice F3 n3 c3) ∧ U.cell? ⟨w3.heap.size, 1, none⟩ = some (.slice G3 g3 e3) ∧ U.cell? ⟨b1, off + k * 4, none⟩ = some (.string x) ∧ Below wr.heap.size wr U) (first | assumption | exact hd | exact nm_next (by assumption) (by assumption))
                    (first | (go_at_call 25; refine Calls.mono (HFC.out _ (nm_below (by assumption))) ?_; rintro r wa ⟨rfl, hba⟩))
                  all_goals
                    obtain ⟨u0, u1, u2, u3, u4, hu⟩ := nm_id (w := wr) (by assumption)
                    have HU := Lib.hid hu
                    clear hd f0 f1 g0 g1 p0 hba
                    go_wp2_with fail
                    refine (refHas_any N x _ nN c8 _ (by have := HNN.out; omega) (by have := HNN.out; omega) (HSK.out.next HU.out)).mono ?_
                    rintro r w10 ⟨rfl, rfl⟩
                    rw [HNE.out]
                    go_wp2_with fail
                    refine (refHas_any R x _ nR c5 _ (by have := HNR.out; omega) (by have := HNR.out; omega) (HRK.out.next HU.out)).mono ?_
                    rintro r w11 ⟨rfl, rfl⟩
                    rw [HRE.out]
                    go_wp2_with fail
                    go_roundw
                    case rel => exact ⟨k + 1, HLT.out, by go_num, HSK.out.next HU.out, bthen HBK.out HU.out⟩
                    case measure => have := HLT.out; simp [intOf]; omega
                · go_upto_region 23 with fail
                  go_region_held3 (fun U => U.cell? ⟨w.heap.size, 0, none⟩ = some (.slice F nf cf) ∧ U.cell? ⟨w.heap.size, 1, none⟩ = some (.slice (some ⟨b1, off, none⟩) ng cg) ∧ U.cell? ⟨w3.heap.size, 0, none⟩ = some (.slice F3 n3 c3) ∧ U.cell? ⟨w3.heap.size, 1, none⟩ = some (.slice G3 g3 e3) ∧ U.cell? ⟨b1, off + k * 4, none⟩ = some (.string x) ∧ Below wr.heap.size wr U) (first | assumption | exact hd | exact nm_next (by assumption) (by assumption))
                    (first | (go_at_call 25; refine Calls.mono (HFC.out _ (nm_below (by assumption))) ?_; rintro r wa ⟨rfl, hba⟩))
                  all_goals
                    obtain ⟨u0, u1, u2, u3, u4, hu⟩ := nm_id (w := wr) (by assumption)
                    have HU := Lib.hid hu
                    clear hd f0 f1 g0 g1 p0 hba
                    go_wp2_with fail
                    refine (refHas_any N x _ nN c8 _ (by have := HNN.out; omega) (by have := HNN.out; omega) (HSK.out.next HU.out)).mono ?_
                    rintro r w10 ⟨rfl, rfl⟩
                    rw [HNE.out]
                    go_wp2_with fail
                    refine (refHas_any R x _ nR c5 _ (by have := HNR.out; omega) (by have := HNR.out; omega) (HRK.out.next HU.out)).mono ?_
                    rintro r w11 ⟨rfl, rfl⟩
                    rw [HRE.out]
                    go_wp2_with fail
                    go_roundw
                    case rel => exact ⟨k + 1, HLT.out, by go_num, HSK.out.next HU.out, bthen HBK.out HU.out⟩
                    case measure => have := HLT.out; simp [intOf]; omega
                · go_upto_region 23 with fail
                  go_region_held3 (fun U => U.cell? ⟨w.heap.size, 0, none⟩ = some (.slice F nf cf) ∧ U.cell? ⟨w.heap.size, 1, none⟩ = some (.slice (some ⟨b1, off, none⟩) ng cg) ∧ U.cell? ⟨w3.heap.size, 0, none⟩ = some (.slice F3 n3 c3) ∧ U.cell? ⟨w3.heap.size, 1, none⟩ = some (.slice G3 g3 e3) ∧ U.cell? ⟨b1, off + k * 4, none⟩ = some (.string x) ∧ Below wr.heap.size wr U) (first | assumption | exact hd | exact nm_next (by assumption) (by assumption))
                    (first | (go_at_call 25; refine Calls.mono (HFC.out _ (nm_below (by assumption))) ?_; rintro r wa ⟨rfl, hba⟩))
                  all_goals
                    obtain ⟨u0, u1, u2, u3, u4, hu⟩ := nm_id (w := wr) (by assumption)
                    have HU := Lib.hid hu
                    clear hd f0 f1 g0 g1 p0 hba
                    go_wp2_with fail
                    refine (refHas_any N x _ nN c8 _ (by have := HNN.out; omega) (by have := HNN.out; omega) (HSK.out.next HU.out)).mono ?_
                    rintro r w10 ⟨rfl, rfl⟩
                    rw [HNE.out]
                    go_wp2_with fail
                    refine (refHas_any R x _ nR c5 _ (by have := HNR.out; omega) (by have := HNR.out; omega) (HRK.out.next HU.out)).mono ?_
                    rintro r w11 ⟨rfl, rfl⟩
                    rw [HRE.out]
                    go_wp2_with fail
                    go_roundw
                    case rel => exact ⟨k + 1, HLT.out, by go_num, HSK.out.next HU.out, bthen HBK.out HU.out⟩
                    case measure => have := HLT.out; simp [intOf]; omega
              · have hd : decide ((k : Int) < (ng : Int)) = false := by simp; omega
                go_wp2_with fail
                go_ret
                exact ⟨rfl, bthen HB6.out HBK.out⟩
end Go.Proofs.Ytoglmdadpchhoaa
