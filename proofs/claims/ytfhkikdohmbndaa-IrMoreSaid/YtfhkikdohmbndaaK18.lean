/- IrMore: a right module with one more function that names nothing, of a new name, is right, if there is room. -/
import Derived.Test.YtfhkikdohmbndaaK17
namespace Go.Proofs.Ytfhkikdohmbndaa
open Go.RowKit

theorem owns_three {W : World} {base n : Nat} {v : Value} {xs : List Value} (h : W.ownsRow base 72 4 v n xs) (a b c : Obj) : (((W.alloc a).alloc b).alloc c).ownsRow base 72 4 v n xs := ((h.alloc a).alloc b).alloc c
/-- the new function's block -/
theorem new_blocks {W : World} {h : Nat} (i1 : W.heap[h]? = some (.cells #[.int .i64 15, .int .i64 0, .int .i64 0, .int .u64 0, .string ⟨#[]⟩, .slice none 0 0] 59 (0, 0))) (b1 : W.heap[h + 1]? = some (.cells #[.int .i64 0, .slice (some ⟨h, 0, none⟩) 1 1, .int .i64 3, .int .i64 0, .int .i64 0, .slice none 0 0, .int .i64 0, .slice none 0 0] 64 (0, 0))) : Blocks W (.slice (some ⟨h + 1, 0, none⟩) 1 1) [nwBk] := by
  refine .inr ⟨by simp, h + 1, 0, 1, rfl, (Array.getElem?_eq_some_iff.1 b1).1, fun j hj => ?_⟩
  obtain rfl : j = 0 := by simpa using hj
  refine ⟨Lib.cell_of_heap b1 0, ⟨some ⟨h, 0, none⟩, 1, Lib.cell_of_heap b1 1, .inr ⟨by simp [nwBk], h, 0, 1, rfl, (Array.getElem?_eq_some_iff.1 i1).1, fun j hj => ?_⟩⟩, Lib.cell_of_heap b1 2, Lib.cell_of_heap b1 3, Lib.cell_of_heap b1 4, ⟨none, 0, Lib.cell_of_heap b1 5, .inl ⟨rfl, .inl rfl⟩⟩, Lib.cell_of_heap b1 6, none, 0, Lib.cell_of_heap b1 7, .inl ⟨rfl, .inl rfl⟩⟩
  obtain rfl : j = 0 := by simpa [nwBk] using hj
  exact ⟨Lib.cell_of_heap i1 0, Lib.cell_of_heap i1 1, Lib.cell_of_heap i1 2, Lib.cell_of_heap i1 3, Lib.cell_of_heap i1 4, none, 0, Lib.cell_of_heap i1 5, .inl ⟨rfl, .inl rfl⟩⟩
def nwCells (s : ByteArray) (h : Nat) : List Value := [.string s, .int .i64 1, .int .i64 0, .slice (some ⟨h + 1, 0, none⟩) 1 1]
theorem three_heap (W : World) (s : ByteArray) : (((W.alloc (.cells #[.int .i64 15, .int .i64 0, .int .i64 0, .int .u64 0, .string ⟨#[]⟩, .slice none 0 0] 59)).alloc (.cells #[.int .i64 0, .slice (some ⟨W.heap.size, 0, none⟩) 1 1, .int .i64 3, .int .i64 0, .int .i64 0, .slice none 0 0, .int .i64 0, .slice none 0 0] 64)).alloc (.cells #[.string s, .int .i64 1, .int .i64 0, .slice (some ⟨W.heap.size + 1, 0, none⟩) 1 1] 72)).heap[W.heap.size]? = some (.cells #[.int .i64 15, .int .i64 0, .int .i64 0, .int .u64 0, .string ⟨#[]⟩, .slice none 0 0] 59 (0, 0)) ∧ (((W.alloc (.cells #[.int .i64 15, .int .i64 0, .int .i64 0, .int .u64 0, .string ⟨#[]⟩, .slice none 0 0] 59)).alloc (.cells #[.int .i64 0, .slice (some ⟨W.heap.size, 0, none⟩) 1 1, .int .i64 3, .int .i64 0, .int .i64 0, .slice none 0 0, .int .i64 0, .slice none 0 0] 64)).alloc (.cells #[.string s, .int .i64 1, .int .i64 0, .slice (some ⟨W.heap.size + 1, 0, none⟩) 1 1] 72)).heap[W.heap.size + 1]? = some (.cells #[.int .i64 0, .slice (some ⟨W.heap.size, 0, none⟩) 1 1, .int .i64 3, .int .i64 0, .int .i64 0, .slice none 0 0, .int .i64 0, .slice none 0 0] 64 (0, 0)) ∧ (((W.alloc (.cells #[.int .i64 15, .int .i64 0, .int .i64 0, .int .u64 0, .string ⟨#[]⟩, .slice none 0 0] 59)).alloc (.cells #[.int .i64 0, .slice (some ⟨W.heap.size, 0, none⟩) 1 1, .int .i64 3, .int .i64 0, .int .i64 0, .slice none 0 0, .int .i64 0, .slice none 0 0] 64)).alloc (.cells #[.string s, .int .i64 1, .int .i64 0, .slice (some ⟨W.heap.size + 1, 0, none⟩) 1 1] 72)).heap[W.heap.size + 1 + 1]? = some (.cells #[.string s, .int .i64 1, .int .i64 0, .slice (some ⟨W.heap.size + 1, 0, none⟩) 1 1] 72 (0, 0)) := by
  have i0 := heap_alloc_new W (.cells #[.int .i64 15, .int .i64 0, .int .i64 0, .int .u64 0, .string ⟨#[]⟩, .slice none 0 0] 59)
  have b0 := heap_alloc_new (W.alloc (.cells #[.int .i64 15, .int .i64 0, .int .i64 0, .int .u64 0, .string ⟨#[]⟩, .slice none 0 0] 59)) (.cells #[.int .i64 0, .slice (some ⟨W.heap.size, 0, none⟩) 1 1, .int .i64 3, .int .i64 0, .int .i64 0, .slice none 0 0, .int .i64 0, .slice none 0 0] 64)
  have f0 := heap_alloc_new ((W.alloc (.cells #[.int .i64 15, .int .i64 0, .int .i64 0, .int .u64 0, .string ⟨#[]⟩, .slice none 0 0] 59)).alloc (.cells #[.int .i64 0, .slice (some ⟨W.heap.size, 0, none⟩) 1 1, .int .i64 3, .int .i64 0, .int .i64 0, .slice none 0 0, .int .i64 0, .slice none 0 0] 64)) (.cells #[.string s, .int .i64 1, .int .i64 0, .slice (some ⟨W.heap.size + 1, 0, none⟩) 1 1] 72)
  rw [World.size_alloc] at b0
  rw [World.size_alloc, World.size_alloc] at f0
  have hb2 := balloc (Below.refl _ ((W.alloc (.cells #[.int .i64 15, .int .i64 0, .int .i64 0, .int .u64 0, .string ⟨#[]⟩, .slice none 0 0] 59)).alloc (.cells #[.int .i64 0, .slice (some ⟨W.heap.size, 0, none⟩) 1 1, .int .i64 3, .int .i64 0, .int .i64 0, .slice none 0 0, .int .i64 0, .slice none 0 0] 64))) (.cells #[.string s, .int .i64 1, .int .i64 0, .slice (some ⟨W.heap.size + 1, 0, none⟩) 1 1] 72)
  have hb1 := balloc (Below.refl _ (W.alloc (.cells #[.int .i64 15, .int .i64 0, .int .i64 0, .int .u64 0, .string ⟨#[]⟩, .slice none 0 0] 59))) (.cells #[.int .i64 0, .slice (some ⟨W.heap.size, 0, none⟩) 1 1, .int .i64 3, .int .i64 0, .int .i64 0, .slice none 0 0, .int .i64 0, .slice none 0 0] 64)
  exact ⟨((bthen hb1 hb2).block _ (Array.getElem?_eq_some_iff.1 i0).1).trans i0, (hb2.block _ (Array.getElem?_eq_some_iff.1 b0).1).trans b0, f0⟩
theorem news_new (W : World) (s : ByteArray) : ∀ (j : Nat) (u : Value), (nwCells s W.heap.size)[j]? = some u → (((W.alloc (.cells #[.int .i64 15, .int .i64 0, .int .i64 0, .int .u64 0, .string ⟨#[]⟩, .slice none 0 0] 59)).alloc (.cells #[.int .i64 0, .slice (some ⟨W.heap.size, 0, none⟩) 1 1, .int .i64 3, .int .i64 0, .int .i64 0, .slice none 0 0, .int .i64 0, .slice none 0 0] 64)).alloc (.cells #[.string s, .int .i64 1, .int .i64 0, .slice (some ⟨W.heap.size + 1, 0, none⟩) 1 1] 72)).cell? ((⟨W.heap.size + 1 + 1, 0, none⟩ : Addr).add j) = some u := fun j u hj => by
  rw [int_add, Nat.zero_add, Lib.cell_of_heap (three_heap W s).2.2 j, List.getElem?_toArray]
  exact hj
theorem nw_one (s : ByteArray) (h : Nat) : ∀ u ∈ nwCells s h, u.oneCell' = true := by
  intro u hu
  simp only [nwCells, List.mem_cons, List.not_mem_nil, or_false] at hu
  rcases hu with rfl | rfl | rfl | rfl <;> rfl
theorem own_form {W : World} {base n : Nat} {v : Value} {xs : List Value} (h : W.ownsRow base 72 4 v n xs) : ∃ A cap, v = .slice A n cap := by
  rcases h.2 with ⟨rfl, rfl⟩ | ⟨g, cap, cur, rfl, _⟩
  · exact ⟨_, _, rfl⟩
  · exact ⟨_, _, rfl⟩
theorem own_block {W : World} {base n : Nat} {v : Value} {xs : List Value} (h : W.ownsRow base 72 4 v n xs) : ∀ r, v.ownBlock = some r → base ≤ r ∧ ∃ cs, W.heap[r]? = some (.cells cs 72 (0, 0)) := by
  intro r e
  rcases h.2 with ⟨rfl, _⟩ | ⟨g, cap, cur, rfl, hb, hg, _⟩
  · cases e
  · obtain rfl : g = r := by simpa [Value.ownBlock] using e
    exact ⟨hb, _, hg⟩
/-- a box of a module lies as it lay when a row of functions grows -/
theorem box_grown {W W' : World} {base n KB : Nat} {v : Value} {xs : List Value} {cs : Array Value} (h : W.ownsRow base 72 4 v n xs) (hg : W.grownBy W' v.ownBlock) (hk : W.heap[KB]? = some (.cells cs 80 (0, 0))) : W'.heap[KB]? = some (.cells cs 80 (0, 0)) :=
  (hg.block KB (Array.getElem?_eq_some_iff.1 hk).1 (fun e => by
    obtain ⟨_, cs', h'⟩ := own_block h KB e.symm
    rw [h'] at hk; cases hk)).trans hk
theorem below_own {W W' : World} {base n : Nat} {v : Value} {xs : List Value} (h : W.ownsRow base 72 4 v n xs) (hg : W.grownBy W' v.ownBlock) (hb : base ≤ W.heap.size) : Below base W W' :=
  below_grown hg hb (fun r e => (own_block h r e).1)
set_option maxRecDepth 100000 in
set_option maxHeartbeats 8000000 in
theorem more_all (m : Md) (F G : Option Addr) (cf cg : Nat) (s : ByteArray) (w : World) (hok : MdOk m) (hs : s.size ≤ 140737488351232) (hS : MdAt w (.slice F m.f.length cf) (.slice G m.g.length cg) m) :
    Calls Try.prog 15 #[.agg #[.slice F m.f.length cf, .slice G m.g.length cg], .string s] w fun e w' => e = .returned (.bool true) ∧ Below w.heap.size w w' := by
  obtain ⟨nf, hnf⟩ : ∃ n, m.f.length = n := ⟨_, rfl⟩
  obtain ⟨ng, hng⟩ : ∃ n, m.g.length = n := ⟨_, rfl⟩
  rw [hnf, hng] at hS ⊢
  have HC := Lib.hid (fun (W : World) (hb : Below w.heap.size w W) => check_any m F G nf cf ng cg W hok hnf hng (hS.next hb))
  have HFF := Lib.hid (fun (W : World) (hb : Below w.heap.size w W) => findFunc_any m F G nf cf ng cg s W hok hnf (hS.next hb))
  have HFG := Lib.hid (fun (W : World) (hb : Below w.heap.size w W) => findGlob_any m F G nf cf ng cg s W hok hng (hS.next hb))
  have HS := Lib.hid hS
  have HOK := Lib.hid hok
  have HNF := Lib.hid (show m.f.length ≤ nf ∧ nf ≤ m.f.length by omega)
  have HNE := Lib.hid (And.intro hnf hng)
  obtain ⟨ce, hce⟩ : ∃ c, checkE m = c := ⟨_, rfl⟩
  rw [hce] at HC
  have HCE := Lib.hid (show ce = 0 → checkE m = 0 from fun h => hce.trans h)
  obtain ⟨zs, hzs⟩ : ∃ z, s.size = z := ⟨_, rfl⟩
  have HZS := Lib.hid (show s.size ≤ zs ∧ zs ≤ s.size by omega)
  have z9 : (zs : Int) ≤ 140737488351232 := by omega
  have f9 : (nf : Int) ≤ 9223372036854775807 := by have := hok.2.2.1; omega
  have HIN := Lib.hid (heap_alloc_new w (.cells #[.slice F nf cf, .slice G ng cg] 80))
  have HBW := Lib.hid (balloc (Below.refl _ w) (.cells #[.slice F nf cf, .slice G ng cg] 80))
  clear hS hok hnf hng hce hs
  go_enter Try.func15, Try.ntmps15
  go_wp2_with fail
  generalize w.alloc (.cells #[.slice F nf cf, .slice G ng cg] 80) = W0 at *
  refine (ishown_any _).mono ?_
  rintro r w1 ⟨rfl, hb⟩
  have hin := (hb.block _ (Array.getElem?_eq_some_iff.1 HIN.out).1).trans HIN.out
  have c0 := Lib.cell_of_heap hin 0
  have c1 := Lib.cell_of_heap hin 1
  simp only [List.getElem?_toArray, List.getElem?_cons_zero, List.getElem?_cons_succ] at c0 c1
  have HB1 := Lib.hid (bthen HBW.out hb)
  have HIN1 := Lib.hid hin
  clear hb hin
  go_wp2_with fail
  refine (HC.out _ HB1.out).mono ?_
  rintro r w2 ⟨rfl, hb⟩
  have HB2 := Lib.hid (bthen HB1.out hb)
  have hin2 := (hb.block _ (Array.getElem?_eq_some_iff.1 HIN1.out).1).trans HIN1.out
  have HIN2 := Lib.hid hin2
  clear hb c0 c1
  have c0 := Lib.cell_of_heap hin2 0
  have c1 := Lib.cell_of_heap hin2 1
  simp only [List.getElem?_toArray, List.getElem?_cons_zero, List.getElem?_cons_succ] at c0 c1
  clear hin2
  by_cases hz : ce = 0
  case neg =>
    have tz : (ce == 0) = false := by simpa using hz
    go_wp2_with fail
    go_ret
    exact ⟨rfl, HB2.out⟩
  have HP := Lib.hid (HCE.out hz)
  subst hz
  by_cases h15 : nf ≤ 15
  case neg =>
    have t : decide (15 < nf) = true := decide_eq_true (by omega)
    have t' : decide ((15 : Int) < (nf : Int)) = true := decide_eq_true (by omega)
    go_wp2_with fail
    go_ret
    exact ⟨rfl, HB2.out⟩
  have t15 : decide (15 < nf) = false := decide_eq_false (by omega)
  have t15' : decide ((15 : Int) < (nf : Int)) = false := decide_eq_false (by omega)
  have HL15 := Lib.hid h15
  clear h15
  by_cases hs1 : 1 ≤ zs
  case neg =>
    have t : decide (zs < 1) = true := decide_eq_true (by omega)
    have t' : decide ((zs : Int) < 1) = true := decide_eq_true (by omega)
    go_wp2_with fail
    go_ret
    exact ⟨rfl, HB2.out⟩
  have ts1 : decide (zs < 1) = false := decide_eq_false (by omega)
  have ts1' : decide ((zs : Int) < 1) = false := decide_eq_false (by omega)
  by_cases hs16 : zs ≤ 16
  case neg =>
    have t : decide (16 < zs) = true := decide_eq_true (by omega)
    have t' : decide ((16 : Int) < (zs : Int)) = true := decide_eq_true (by omega)
    go_wp2_with fail
    go_ret
    exact ⟨rfl, HB2.out⟩
  have ts16 : decide (16 < zs) = false := decide_eq_false (by omega)
  have ts16' : decide ((16 : Int) < (zs : Int)) = false := decide_eq_false (by omega)
  have HNB := Lib.hid (show nameB s = true by
    unfold nameB
    have := HZS.out
    rw [decide_eq_true (by omega), decide_eq_true (by omega)]
    rfl)
  clear hs1 hs16
  go_wp2_with fail
  refine (HFF.out _ HB2.out).mono ?_
  rintro r w3 ⟨rfl, hb⟩
  have HB3 := Lib.hid (bthen HB2.out hb)
  have hin3 := (hb.block _ (Array.getElem?_eq_some_iff.1 HIN2.out).1).trans HIN2.out
  have HIN3 := Lib.hid hin3
  clear hb c0 c1
  have c0 := Lib.cell_of_heap hin3 0
  have c1 := Lib.cell_of_heap hin3 1
  simp only [List.getElem?_toArray, List.getElem?_cons_zero, List.getElem?_cons_succ] at c0 c1
  clear hin3
  cases hf : fIdx (m.f.map (·.s)) s with
  | some j =>
    have tj : decide (0 ≤ idxE (some j)) = true := decide_eq_true (by show (0 : Int) ≤ (j : Int); omega)
    go_wp2_with fail
    go_ret
    exact ⟨rfl, HB3.out⟩
  | none =>
    have tn : decide (0 ≤ idxE none) = false := rfl
    go_wp2_with fail
    refine (HFG.out _ HB3.out).mono ?_
    rintro r w4 ⟨rfl, hb⟩
    have HB4 := Lib.hid (bthen HB3.out hb)
    have hin4 := (hb.block _ (Array.getElem?_eq_some_iff.1 HIN3.out).1).trans HIN3.out
    have HIN4 := Lib.hid hin4
    clear hb c0 c1
    have c0 := Lib.cell_of_heap hin4 0
    have c1 := Lib.cell_of_heap hin4 1
    simp only [List.getElem?_toArray, List.getElem?_cons_zero, List.getElem?_cons_succ] at c0 c1
    clear hin4
    cases hg : fIdx (m.g.map (·.s)) s with
    | some j =>
      have tj : decide (0 ≤ idxE (some j)) = true := decide_eq_true (by show (0 : Int) ≤ (j : Int); omega)
      go_wp2_with fail
      go_ret
      exact ⟨rfl, HB4.out⟩
    | none =>
      have HRT := Lib.hid (more_right HP.out (by have := HNF.out; have := HL15.out; omega) HNB.out hf hg)
      clear hf hg
      have hb5 := balloc (balloc (Below.refl _ w4) (.cells #[.slice F nf cf, .slice G ng cg] 80)) (.cells #[] 72)
      have HKB := Lib.hid (((balloc (Below.refl _ (w4.alloc (.cells #[.slice F nf cf, .slice G ng cg] 80))) (.cells #[] 72)).block w4.heap.size (by simp)).trans (heap_alloc_new w4 (.cells #[.slice F nf cf, .slice G ng cg] 80)))
      have q0 := (cellNext (World.block_lt_of_cell? _ _ c0) hb5 0).trans c0
      have HB5 := Lib.hid (bthen HB4.out hb5)
      have HO5 := Lib.hid (show ((w4.alloc (.cells #[.slice F nf cf, .slice G ng cg] 80)).alloc (.cells #[] 72)).ownsRow w.heap.size 72 4 (.slice (some ⟨w4.heap.size + 1, 0, none⟩) 0 0) 0 [] from ⟨rfl, .inr ⟨w4.heap.size + 1, 0, #[], rfl, by have := HB4.out.size; omega, by
        have := heap_alloc_new (w4.alloc (.cells #[.slice F nf cf, .slice G ng cg] 80)) (.cells #[] 72)
        rwa [World.size_alloc] at this, Nat.le_refl _, by unfold maxLen; omega, rfl, rfl⟩⟩)
      have HF5 := Lib.hid (And.intro HB5.out HS.out.1)
      have HN5 := Lib.hid (show (0 + m.f.length) * 56 ≤ 140737488355328 by have := HNF.out; have := HL15.out; omega)
      have HZ5 := Lib.hid HB5.out.size
      have HNN := Lib.hid (show nf + 1 ≤ maxLen ∧ (nf + 1) * 56 ≤ 140737488355328 by have := HL15.out; unfold maxLen; omega)
      obtain ⟨i0, hi, hz0, hz1, hz2⟩ := info_parts fn_info
      have HII := Lib.hid (And.intro hi (And.intro hz0 (And.intro hz1 hz2)))
      clear hi hz0 hz1 hz2
      clear hb5
      go_wp2_with (first
        | (at_builtin; refine wpList_append_funcs rfl _ _ rfl w.heap.size (.slice (some ⟨w4.heap.size + 1, 0, none⟩) 0 0) 0 [] rfl HO5.out _ rfl m.f w HF5.out.1 HF5.out.2 HN5.out HZ5.out ?_; intro v1 w6 ys1 hown1 hgrow1 hrc1; have hkb1 := box_grown HO5.out hgrow1 HKB.out; have hbl1 := below_own HO5.out hgrow1 HZ5.out; rw [Nat.zero_add, HNE.out.1] at hown1; obtain ⟨A1, cp1, hv1⟩ := own_form hown1; subst hv1; have hz6 := Nat.le_trans HZ5.out hgrow1.size)
        | (at_builtin; refine wpList_append_own _ rfl _ _ 77 rfl w.heap.size 72 i0 (.agg #[.string ⟨#[]⟩, .int .i64 0, .int .i64 0, .slice none 0 0]) 4 56 Try.underlying77 HII.out.1 HII.out.2.1 HII.out.2.2.1 HII.out.2.2.2 rfl (by decide) _ nf _ rfl (owns_three hown1 _ _ _) ⟨w6.heap.size + 1 + 1, 0, none⟩ 1 1 (nwCells s w6.heap.size) rfl rfl (news_new w6 s) (nw_one s _) HNN.out.1 HNN.out.2 (Nat.le_trans hz6 (by simp only [World.size_alloc]; omega)) ?_; intro v2 w7 hown2 hgrow2 hnil2; have hkb2 := box_grown (owns_three hown1 _ _ _) hgrow2 (((bthen (balloc (balloc (Below.refl _ w6) _) _) (balloc (Below.refl _ _) _)).block _ (Array.getElem?_eq_some_iff.1 hkb1).1).trans hkb1); have hbl2 := below_own (owns_three hown1 _ _ _) hgrow2 (Nat.le_trans hz6 (by simp only [World.size_alloc]; omega)); obtain ⟨A2, cp2, hv2⟩ := own_form hown2; subst hv2; have k0 := Lib.cell_of_heap hkb2 0; have k1 := Lib.cell_of_heap hkb2 1; have kf := Lib.frozen_of_heap hkb2 0))
      obtain ⟨t1, t2, -⟩ := three_heap w6 s
      have hbk := own_block (owns_three hown1 (.cells #[.int .i64 15, .int .i64 0, .int .i64 0, .int .u64 0, .string ⟨#[]⟩, .slice none 0 0] 59) (.cells #[.int .i64 0, .slice (some ⟨w6.heap.size, 0, none⟩) 1 1, .int .i64 3, .int .i64 0, .int .i64 0, .slice none 0 0, .int .i64 0, .slice none 0 0] 64) (.cells #[.string s, .int .i64 1, .int .i64 0, .slice (some ⟨w6.heap.size + 1, 0, none⟩) 1 1] 72))
      have e1 := (hgrow2.block _ (Array.getElem?_eq_some_iff.1 t1).1 (fun e => by obtain ⟨_, cs, h⟩ := hbk _ e.symm; rw [t1] at h; cases h)).trans t1
      have e2 := (hgrow2.block _ (Array.getElem?_eq_some_iff.1 t2).1 (fun e => by obtain ⟨_, cs, h⟩ := hbk _ e.symm; rw [t2] at h; cases h)).trans t2
      have hne1 : w4.heap.size ≠ w6.heap.size := fun e => by rw [← e, hkb2] at e1; cases e1
      have hne2 : w4.heap.size ≠ w6.heap.size + 1 := fun e => by rw [← e, hkb2] at e2; cases e2
      have hgs := grownBy_setCell' w7 w4.heap.size (.slice A2 (nf + 1) cp2)
      have e3 := (hgs.block _ (Array.getElem?_eq_some_iff.1 e1).1 (fun e => by have := Option.some.inj e; omega)).trans e1
      have e4 := (hgs.block _ (Array.getElem?_eq_some_iff.1 e2).1 (fun e => by have := Option.some.inj e; omega)).trans e2
      have ho8 := hown2.kept hgs (by
        by_cases h : (Value.slice A2 (nf + 1) cp2).ownBlock = none
        · exact .inl h
        · exact .inr (fun e => by obtain ⟨_, cs, h'⟩ := own_block hown2 _ e; rw [hkb2] at h'; cases h'))
      have hb8 : Below w.heap.size w (w7.setCell ⟨w4.heap.size, 0, none⟩ (.slice A2 (nf + 1) cp2)) := by
        refine Below.setCell (p := ⟨w4.heap.size, 0, none⟩) ?_ HB4.out.size _
        have hb6 := HB5.out.trans hbl1
        have hb6' : Below w.heap.size w6 (((w6.alloc (.cells #[.int .i64 15, .int .i64 0, .int .i64 0, .int .u64 0, .string ⟨#[]⟩, .slice none 0 0] 59)).alloc (.cells #[.int .i64 0, .slice (some ⟨w6.heap.size, 0, none⟩) 1 1, .int .i64 3, .int .i64 0, .int .i64 0, .slice none 0 0, .int .i64 0, .slice none 0 0] 64)).alloc (.cells #[.string s, .int .i64 1, .int .i64 0, .slice (some ⟨w6.heap.size + 1, 0, none⟩) 1 1] 72)) := (balloc (balloc (balloc (Below.refl _ w6) _) _) _).mono hz6
        exact (hb6.trans hb6').trans hbl2
      have hmd : MdAt (w7.setCell ⟨w4.heap.size, 0, none⟩ (.slice A2 (nf + 1) cp2)) (.slice A2 (nf + 1) cp2) (.slice G ng cg) ⟨m.f ++ [nwFn s], m.g⟩ := by
        refine ⟨RowCells.funcs (ys := ys1 ++ nwCells s w6.heap.size) ho8 (by rw [List.length_append]; have := HNE.out.1; simp; omega) (RowCells.append (hrc1.next hb8) ⟨rfl, fun i hi => ?_⟩), HS.out.2.next hb8⟩
        obtain rfl : i = 0 := by simpa using hi
        exact ⟨some ⟨w6.heap.size + 1, 0, none⟩, 1, rfl, rfl, rfl, rfl, new_blocks e3 e4⟩
      have HC8 := Lib.hid (check_any ⟨m.f ++ [nwFn s], m.g⟩ A2 G (nf + 1) cp2 ng cg _ ⟨fun f hf => by
        rcases List.mem_append.1 hf with hf | hf
        · exact HOK.out.1 f hf
        · obtain rfl : f = nwFn s := by simpa using hf
          exact nwFn_ok (by have := HZS.out; omega), HOK.out.2.1, by have := HNE.out.1; have := HL15.out; simp; omega, HOK.out.2.2.2⟩ (by have := HNE.out.1; simp; omega) HNE.out.2 hmd)
      rw [HRT.out] at HC8
      have HB8 := Lib.hid hb8
      refine HC8.out.mono ?_
      rintro r w9 ⟨rfl, hb9⟩
      have HB9 := Lib.hid (bthen HB8.out hb9)
      clear hb9 c0 c1 q0
      go_wp2_with fail
      go_ret
      exact ⟨rfl, HB9.out⟩
end Go.Proofs.Ytfhkikdohmbndaa
