/- Rows of functions that a call owns: append; a right module with one more function that names nothing is right: pure. -/
import Derived.Test.YtkalgiaapkjplaaK15
import Derived.Laws.AppendOwnNone
import Derived.Deep.AppendLies
namespace Go.Proofs.Ytkalgiaapkjplaa
open Go.RowKit

theorem fn_info : (Try.prog.info? 24).map (fun i => (i.zero, i.size, i.bytes)) = some (some (.agg #[.string ⟨#[]⟩, .int .i64 0, .int .i64 0, .slice none 0 0]), 4, 56) := by kernel_rfl
/-- the cells of a row of functions -/
def RowCells (w : World) (k : List Fn) (ys : List Value) : Prop :=
  ys.length = k.length * 4 ∧ ∀ (i : Nat) (h : i < k.length), ∃ A cap, ys[i * 4]? = some (.string k[i].s) ∧ ys[i * 4 + 1]? = some (.int .i64 k[i].b) ∧ ys[i * 4 + 2]? = some (.int .i64 k[i].p) ∧ ys[i * 4 + 3]? = some (.slice A k[i].l.length cap) ∧ Blocks w (.slice A k[i].l.length cap) k[i].l
theorem RowCells.next {w w' : World} {k : List Fn} {ys : List Value} (h : RowCells w k ys) (hb : Below w.heap.size w w') : RowCells w' k ys :=
  ⟨h.1, fun i hi => by obtain ⟨A, c, h0, h1, h2, h3, h4⟩ := h.2 i hi; exact ⟨A, c, h0, h1, h2, h3, h4.next hb⟩⟩
theorem RowCells.append {w : World} {k1 k2 : List Fn} {y1 y2 : List Value} (h1 : RowCells w k1 y1) (h2 : RowCells w k2 y2) : RowCells w (k1 ++ k2) (y1 ++ y2) := by
  refine ⟨by rw [List.length_append, List.length_append, h1.1, h2.1]; omega, fun i hi => ?_⟩
  rw [List.length_append] at hi
  by_cases h : i < k1.length
  · obtain ⟨A, c, g0, g1, g2, g3, g4⟩ := h1.2 i h
    have e := h1.1
    rw [List.getElem_append_left h, List.getElem?_append_left (by omega), List.getElem?_append_left (by omega), List.getElem?_append_left (by omega), List.getElem?_append_left (by omega)]
    exact ⟨A, c, g0, g1, g2, g3, g4⟩
  · obtain ⟨A, c, g0, g1, g2, g3, g4⟩ := h2.2 (i - k1.length) (by omega)
    have e := h1.1
    rw [List.getElem_append_right (by omega), List.getElem?_append_right (by omega), List.getElem?_append_right (by omega), List.getElem?_append_right (by omega), List.getElem?_append_right (by omega)]
    have q : ∀ j, i * 4 + j - y1.length = (i - k1.length) * 4 + j := fun j => by omega
    have q0 : i * 4 - y1.length = (i - k1.length) * 4 := by omega
    rw [q0, q, q, q]
    exact ⟨A, c, g0, g1, g2, g3, g4⟩
theorem RowCells.funcs {w : World} {base n : Nat} {v : Value} {k : List Fn} {ys : List Value} (ho : w.ownsRow base 24 4 v n ys) (hn : n = k.length) (h : RowCells w k ys) : Funcs w v k := by
  subst hn
  by_cases hl : 0 < k.length
  · obtain ⟨g, cap, e, hg, hlt⟩ := ho.form hl
    subst e
    refine .inr ⟨hl, g, 0, cap, rfl, hlt, fun i hi => ?_⟩
    obtain ⟨A, c, g0, g1, g2, g3, g4⟩ := h.2 i hi
    rw [Nat.zero_add]
    exact ⟨(ho.cellAt (i * 4) (by omega)).trans g0, (ho.cellAt (i * 4 + 1) (by omega)).trans g1, (ho.cellAt (i * 4 + 2) (by omega)).trans g2, A, c, (ho.cellAt (i * 4 + 3) (by omega)).trans g3, g4⟩
  · have hl0 : k = [] := by cases k <;> simp_all
    subst hl0
    rcases ho.2 with ⟨rfl, _⟩ | ⟨g, cap, cur, rfl, _⟩
    · exact .inl ⟨rfl, .inl rfl⟩
    · exact .inl ⟨rfl, .inr ⟨_, _, rfl⟩⟩
/-- the cells of a row that lies in memory -/
theorem row_cells {w : World} {b off : Nat} {k : List Fn} (h : ∀ (i : Nat) (h : i < k.length), FnAt w b (off + i * 4) k[i]) : ∃ ys : List Value, RowCells w k ys ∧ (∀ (j : Nat) (u : Value), ys[j]? = some u → w.cell? ⟨b, off + j, none⟩ = some u) ∧ (∀ u ∈ ys, u.oneCell' = true) := by
  refine ⟨(List.range (k.length * 4)).map (fun j => (w.cell? ⟨b, off + j, none⟩).getD (.bool false)), ⟨by simp, fun i hi => ?_⟩, fun j u hj => ?_, fun u hu => ?_⟩
  · obtain ⟨g0, g1, g2, A, c, g3, g4⟩ := h i hi
    have q : ∀ j, j < 4 → ((List.range (k.length * 4)).map (fun j => (w.cell? ⟨b, off + j, none⟩).getD (.bool false)))[i * 4 + j]? = some ((w.cell? ⟨b, off + i * 4 + j, none⟩).getD (.bool false)) := fun j hj => by
      rw [List.getElem?_map, List.getElem?_range (by omega), Nat.add_assoc]
      rfl
    refine ⟨A, c, ?_, ?_, ?_, ?_, g4⟩
    · have := q 0 (by omega)
      rw [Nat.add_zero, Nat.add_zero, g0] at this
      exact this
    · rw [q 1 (by omega), g1]; rfl
    · rw [q 2 (by omega), g2]; rfl
    · rw [q 3 (by omega), g3]; rfl
  · have hj2 : j < k.length * 4 := by have := (List.getElem?_eq_some_iff.1 hj).1; simpa using this
    rw [List.getElem?_map, List.getElem?_range hj2] at hj
    obtain ⟨g0, g1, g2, A, c, g3, g4⟩ := h (j / 4) (by omega)
    have e : off + j = off + j / 4 * 4 + j % 4 := by omega
    have hm : j % 4 = 0 ∨ j % 4 = 1 ∨ j % 4 = 2 ∨ j % 4 = 3 := by omega
    simp only [Option.map_some, Option.some.injEq] at hj
    rw [e] at hj ⊢
    rcases hm with hm | hm | hm | hm <;> rw [hm] at hj ⊢
    · rw [Nat.add_zero, g0] at hj ⊢; rw [← hj]; rfl
    · rw [g1] at hj ⊢; rw [← hj]; rfl
    · rw [g2] at hj ⊢; rw [← hj]; rfl
    · rw [g3] at hj ⊢; rw [← hj]; rfl
  · obtain ⟨j, hj, rfl⟩ := List.mem_map.1 hu
    have hj2 := List.mem_range.1 hj
    obtain ⟨g0, g1, g2, A, c, g3, g4⟩ := h (j / 4) (by omega)
    have e : off + j = off + j / 4 * 4 + j % 4 := by omega
    have hm : j % 4 = 0 ∨ j % 4 = 1 ∨ j % 4 = 2 ∨ j % 4 = 3 := by omega
    rw [e]
    rcases hm with hm | hm | hm | hm <;> rw [hm]
    · rw [Nat.add_zero, g0]; rfl
    · rw [g1]; rfl
    · rw [g2]; rfl
    · rw [g3]; rfl
/-- append of a row of functions to one of the call's own -/
theorem wpList_append_funcs {w : World} {ops : Array Oper} {rest : List Oper} {o : Oper} {a : Act} {Q : Exit → Act → World → Prop} (hgd : o.guard = none) (s x : Operand)
    (ho : o.op = .call { callee := .builtin .append, args := #[s, x], argTypes := #[30, 30] }) (base : Nat) (v : Value) (n : Nat) (xs : List Value) (hs : a.eval s = v) (hown : w.ownsRow base 24 4 v n xs)
    (u : Value) (hx : a.eval x = u) (k : List Fn) (w0 : World) (hb0 : Below w0.heap.size w0 w) (hO : Funcs w0 u k) (hn : (n + k.length) * 56 ≤ 140737488355328) (hbase : base ≤ w.heap.size)
    (h : ∀ v' w' ys, w'.ownsRow base 24 4 v' (n + k.length) (xs ++ ys) → w.grownBy w' v.ownBlock → RowCells w0 k ys → wpList Try.prog ops Q rest (a.put o.dst v') w') : wpList Try.prog ops Q (o :: rest) a w := by
  obtain ⟨i0, hi, hz0, hz1, hz2⟩ := info_parts fn_info
  rcases hO with ⟨rfl, rfl | ⟨A, cap, rfl⟩⟩ | ⟨hm0, b, off, cap, rfl, hb, hp⟩
  · exact wpList_append_own_none hgd s x 30 ho base 24 i0 4 Try.underlying30 hi v n xs hs hown hx (h v w [] (by simpa using hown) ⟨rfl, rfl, rfl, Nat.le_refl _, fun _ _ _ => rfl⟩ ⟨rfl, fun i hi => by simp at hi⟩)
  · exact wpList_append_own w hgd s x 30 ho base 24 i0 _ 4 56 Try.underlying30 hi hz0 hz1 hz2 rfl (by decide) v n xs hs hown A 0 cap [] hx rfl (fun j u hj => by simp at hj) (fun u hu => by cases hu) (by unfold maxLen; simp at hn; omega) (by simp at hn; omega) hbase (fun v' w' h1 h2 _ => h v' w' [] (by simpa using h1) h2 ⟨rfl, fun i hi => by simp at hi⟩)
  · obtain ⟨ys, hy, hc, h1⟩ := row_cells hp
    exact wpList_append_own w hgd s x 30 ho base 24 i0 _ 4 56 Try.underlying30 hi hz0 hz1 hz2 rfl (by decide) v n xs hs hown ⟨b, off, none⟩ k.length cap ys hx hy.1 (fun j u hj => by rw [int_add]; exact (cellNext hb hb0 _).trans (hc j u hj)) h1 (by unfold maxLen; omega) hn hbase (fun v' w' h1 h2 _ => h v' w' ys h1 h2 hy)
/-- the new function -/
def nwIn : In := ⟨15, 0, 0, 0, ⟨#[]⟩, []⟩
def nwBk : Bk := ⟨0, [nwIn], ⟨3, 0, 0, [], 0, []⟩⟩
def nwFn (s : ByteArray) : Fn := ⟨s, 1, 0, [nwBk]⟩
theorem nwFn_right {s : ByteArray} (h : nameB s = true) : funcB (nwFn s) = true := by
  unfold nwFn
  rw [funcB_eq, h]
  decide +kernel
theorem nwFn_ok {s : ByteArray} (h : s.size < 9223372036854775808) : FnOk (nwFn s) := ⟨h, by simp [nwFn], fun b hb => by
  obtain rfl : b = nwBk := (by simpa [nwFn] using hb)
  exact ⟨by decide, by decide, by decide, fun i hi => by obtain rfl : i = nwIn := (by simpa [nwBk] using hi); exact ⟨by decide, by decide⟩⟩⟩
theorem more_right {m : Md} {s : ByteArray} (h : checkE m = 0) (hl : m.f.length ≤ 15) (hs : nameB s = true) (hf : fIdx (m.f.map (·.s)) s = none) (hg : fIdx (m.g.map (·.s)) s = none) : checkE ⟨m.f ++ [nwFn s], m.g⟩ = 0 := by
  obtain ⟨h1, h2, h3, h4, h5, h6⟩ := check_parts h
  have nf : ∀ x ∈ m.f, (x.s == s) = false := fun x hx => by
    have := List.findIdx?_eq_none_iff.1 hf x.s (List.mem_map_of_mem hx)
    exact this
  have ng : ∀ x ∈ m.g, (x.s == s) = false := fun x hx => by
    have := List.findIdx?_eq_none_iff.1 hg x.s (List.mem_map_of_mem hx)
    exact this
  have hne : ∀ {x : ByteArray}, (x == s) = false → x ≠ s := fun h e => by rw [e, jba_refl] at h; cases h
  have hi : insM ⟨m.f ++ [nwFn s], m.g⟩ = insM m ++ [nwIn] := by
    unfold insM
    simp only [List.map_append, List.map_cons, List.map_nil, List.flatten_append, List.flatten_cons, List.flatten_nil]
    rfl
  refine check_of (by simp only [List.length_append, List.length_cons, List.length_nil]; omega) h2 ?_ ?_ ?_ ?_
  · unfold aloneB at h3 ⊢
    rw [Bool.and_eq_true] at h3 ⊢
    exact ⟨by rw [List.all_append, h3.1]; simp [nwFn_right hs], h3.2⟩
  · unfold namesM at h4 ⊢
    simp only [List.map_append, List.map_cons, List.map_nil]
    rw [List.append_assoc]
    obtain ⟨a1, a2, a3⟩ := List.nodup_append.1 h4
    refine List.nodup_append.2 ⟨a1, ?_, ?_⟩
    · rw [List.singleton_append, List.nodup_cons]
      exact ⟨fun hm => by
        obtain ⟨g, hgm, e⟩ := List.mem_map.1 hm
        exact hne (ng g hgm) e, a2⟩
    · intro x hx y hy
      rw [List.singleton_append, List.mem_cons] at hy
      rcases hy with rfl | hy
      · obtain ⟨f, hfm, e⟩ := List.mem_map.1 hx
        rw [← e]
        exact hne (nf f hfm)
      · exact a3 x hx y hy
  · rw [hi, List.any_append, Bool.or_eq_false_iff]
    refine ⟨?_, rfl⟩
    rw [List.any_eq_false] at h5 ⊢
    intro x hx
    have := h5 x hx
    unfold noneI at this ⊢
    simp only [List.any_append]
    revert this
    generalize (x.o == 14) = a
    generalize (x.o == 12 || x.o == 13) = b
    generalize (m.f.any fun f => f.s == x.s) = c
    generalize (m.g.any fun g => g.s == x.s) = d
    generalize ([nwFn s].any fun f => f.s == x.s) = e
    revert a b c d e
    decide
  · rw [hi, List.any_append, Bool.or_eq_false_iff]
    refine ⟨?_, rfl⟩
    rw [List.any_eq_false] at h5 h6 ⊢
    intro x hx
    have h5 := h5 x hx
    have h6 := h6 x hx
    unfold noneI at h5
    unfold oddI at h6 ⊢
    simp only [List.find?_append]
    cases h14 : x.o == 14 with
    | false => simp
    | true =>
      rw [h14] at h5 h6
      cases hff : m.f.find? (fun f => f.s == x.s) with
      | some f => rw [hff] at h6; simpa using h6
      | none =>
        exfalso
        have ha : m.f.any (fun f => f.s == x.s) = false := by
          rw [List.any_eq_false]
          exact fun f hfm => by have := List.find?_eq_none.1 hff f hfm; simpa using this
        rw [ha] at h5
        simp at h5
end Go.Proofs.Ytkalgiaapkjplaa
