/- A right module without a function that no instruction names is right: pure; append of a part of a row of functions. -/
import Derived.Test.YtkalgiaapkjplaaK17
namespace Go.Proofs.Ytkalgiaapkjplaa
open Go.RowKit

def lessM (m : Md) (n : Nat) : Md := ⟨m.f.take n ++ m.f.drop (n + 1), m.g⟩
theorem less_sub (m : Md) (n : Nat) : List.Sublist (lessM m n).f m.f := by
  have e : m.f = m.f.take n ++ m.f.drop n := (List.take_append_drop n m.f).symm
  have h : List.Sublist (m.f.take n ++ m.f.drop (n + 1)) (m.f.take n ++ m.f.drop n) := by
    refine List.Sublist.append (List.Sublist.refl _) ?_
    rw [← List.drop_drop]
    exact List.drop_sublist _ _
  rw [List.take_append_drop] at h
  exact h
theorem less_mem {m : Md} {n : Nat} {f : Fn} (h : f ∈ (lessM m n).f) : ∃ (i : Nat) (hi : i < m.f.length), i ≠ n ∧ m.f[i] = f := by
  rcases List.mem_append.1 h with h | h
  · obtain ⟨i, hi, e⟩ := List.getElem_of_mem h
    rw [List.length_take] at hi
    rw [List.getElem_take] at e
    exact ⟨i, by omega, by omega, e⟩
  · obtain ⟨i, hi, e⟩ := List.getElem_of_mem h
    rw [List.length_drop] at hi
    rw [List.getElem_drop] at e
    exact ⟨n + 1 + i, by omega, by omega, e⟩
theorem less_has {m : Md} {n : Nat} (hn : n < m.f.length) {g : Fn} (hg : g ∈ m.f) (hs : g.s ≠ m.f[n].s) : g ∈ (lessM m n).f := by
  obtain ⟨j, hj, rfl⟩ := List.getElem_of_mem hg
  have hjn : j ≠ n := fun e => hs (by subst e; rfl)
  by_cases h : j < n
  · exact List.mem_append_left _ (List.mem_take_iff_getElem.2 ⟨j, by omega, rfl⟩)
  · refine List.mem_append_right _ (List.mem_of_getElem (i := j - (n + 1)) (h := by rw [List.length_drop]; omega) ?_)
    rw [List.getElem_drop]
    congr 1
    omega
theorem less_find {m : Md} {n : Nat} (hn : n < m.f.length) {s : ByteArray} (hs : (m.f[n].s == s) = false) : (lessM m n).f.find? (fun f => f.s == s) = m.f.find? (fun f => f.s == s) := by
  have e : m.f = m.f.take n ++ (m.f[n] :: m.f.drop (n + 1)) := by
    rw [← List.drop_eq_getElem_cons hn, List.take_append_drop]
  have e2 : m.f.find? (fun f => f.s == s) = (m.f.take n ++ (m.f[n] :: m.f.drop (n + 1))).find? (fun f => f.s == s) := congrArg (List.find? (fun f => f.s == s)) e
  rw [e2, List.find?_append, List.find?_cons_of_neg (by rw [hs]; decide)]
  unfold lessM
  rw [List.find?_append]
theorem ins_ref {f : Fn} {x : In} (hx : x ∈ insF f) (h : hasB x.o = true) : x.s ∈ refsL f := by
  obtain ⟨l, hl, hxl⟩ := List.mem_flatten.1 hx
  obtain ⟨b, hb, rfl⟩ := List.mem_map.1 hl
  exact List.mem_flatten.2 ⟨_, List.mem_map.2 ⟨b, hb, rfl⟩, List.mem_map.2 ⟨x, List.mem_filter.2 ⟨hxl, h⟩, rfl⟩⟩
theorem less_right {m : Md} {n : Nat} (h : checkE m = 0) (hn : n < m.f.length) (hno : ∀ (i : Nat) (hi : i < m.f.length), i ≠ n → ∀ s ∈ refsL m.f[i], s ≠ m.f[n].s) : checkE (lessM m n) = 0 := by
  obtain ⟨h1, h2, h3, h4, h5, h6⟩ := check_parts h
  have hsub := less_sub m n
  have hin : ∀ x ∈ insM (lessM m n), x ∈ insM m ∧ (hasB x.o = true → x.s ≠ m.f[n].s) := fun x hx => by
    obtain ⟨l, hl, hxl⟩ := List.mem_flatten.1 hx
    obtain ⟨f, hf, rfl⟩ := List.mem_map.1 hl
    obtain ⟨i, hi, hin, rfl⟩ := less_mem hf
    exact ⟨insF_mem (List.getElem_mem hi) hxl, fun hh => hno i hi hin _ (ins_ref hxl hh)⟩
  refine check_of (Nat.le_trans hsub.length_le h1) h2 ?_ ?_ ?_ ?_
  · unfold aloneB at h3 ⊢
    rw [Bool.and_eq_true] at h3 ⊢
    exact ⟨List.all_eq_true.2 fun f hf => List.all_eq_true.1 h3.1 f (hsub.subset hf), h3.2⟩
  · unfold namesM at h4 ⊢
    exact List.Pairwise.sublist (List.Sublist.append (hsub.map _) (List.Sublist.refl _)) h4
  · rw [List.any_eq_false] at h5 ⊢
    intro x hx
    obtain ⟨hxm, hxs⟩ := hin x hx
    have h0 := h5 x hxm
    unfold noneI at h0 ⊢
    cases h14 : x.o == 14 with
    | false =>
      rw [h14] at h0
      exact h0
    | true =>
      have hb : hasB x.o = true := by unfold hasB; rw [h14]; simp
      have hne := hxs hb
      have hov : (x.o == 12 || x.o == 13) = false := by
        have e : x.o = 14 := by simpa using h14
        rw [e]
        rfl
      rw [h14, hov] at h0
      rw [hov]
      simp only [Bool.true_and, Bool.false_and, Bool.or_false] at h0 ⊢
      have ha : m.f.any (fun f => f.s == x.s) = true := by
        cases hq : m.f.any (fun f => f.s == x.s) with
        | true => rfl
        | false => rw [hq] at h0; simp at h0
      obtain ⟨g, hg, e⟩ := List.any_eq_true.1 ha
      have e' := (jba_beq _ _).1 e
      have hgm := less_has hn hg (by rw [e']; exact hne)
      have : (lessM m n).f.any (fun f => f.s == x.s) = true := List.any_eq_true.2 ⟨g, hgm, e⟩
      rw [this]
      decide
  · rw [List.any_eq_false] at h6 ⊢
    intro x hx
    obtain ⟨hxm, hxs⟩ := hin x hx
    have h0 := h6 x hxm
    unfold oddI at h0 ⊢
    cases h14 : x.o == 14 with
    | false => simp
    | true =>
      have hb : hasB x.o = true := by unfold hasB; rw [h14]; simp
      have hne := hxs hb
      rw [h14] at h0
      rw [less_find hn (by
        cases hq : m.f[n].s == x.s with
        | false => rfl
        | true => exact absurd ((jba_beq _ _).1 hq).symm hne)]
      exact h0
/-- the parts of a row of functions -/
theorem Funcs.part {w : World} {b off nf cf : Nat} {k : List Fn} (h : Funcs w (.slice (some ⟨b, off, none⟩) nf cf) k) (i j : Nat) (c : Nat) (hij : i ≤ j) (hj : j ≤ k.length) (hb : b < w.heap.size) : Funcs w (.slice (some ⟨b, off + i * 4, none⟩) (j - i) c) ((k.drop i).take (j - i)) := by
  have hl : ((k.drop i).take (j - i)).length = j - i := by rw [List.length_take, List.length_drop]; omega
  by_cases h0 : i < j
  · refine .inr ⟨by omega, b, off + i * 4, c, by rw [hl], hb, fun t ht => ?_⟩
    have ht' : i + t < k.length := by omega
    obtain ⟨b2, off2, e, -, hp⟩ := RowOf.at_ h ht'
    obtain ⟨rfl, rfl⟩ : b = b2 ∧ off = off2 := by simpa using e
    rw [List.getElem_take, List.getElem_drop, show off + i * 4 + t * 4 = off + (i + t) * 4 by omega]
    exact hp
  · obtain rfl : i = j := by omega
    refine .inl ⟨List.length_eq_zero_iff.1 (by omega), .inr ⟨⟨b, off + i * 4, none⟩, c, by rw [Nat.sub_self]⟩⟩
/-- append of a row of functions to one of the call's own, as one operation -/
theorem step_append_funcs {w : World} {ops : Array Oper} {o : Oper} {a : Act} {K : Act → World → Prop} {Q : Exit → Act → World → Prop} {E : Prop} (hgd : o.guard = none) (s x : Operand)
    (ho : o.op = .call { callee := .builtin .append, args := #[s, x], argTypes := #[30, 30] }) (base : Nat) (v : Value) (n : Nat) (xs : List Value) (hs : a.eval s = v) (hown : w.ownsRow base 24 4 v n xs)
    (b off m c : Nat) (hx : a.eval x = .slice (some ⟨b, off, none⟩) m c) (k : List Fn) (hk : k.length = m) (w0 : World) (hb0 : Below w0.heap.size w0 w) (hbl : b < w0.heap.size) (hO : Funcs w0 (.slice (some ⟨b, off, none⟩) m c) k) (hn : (n + m) * 56 ≤ 140737488355328) (hbase : base ≤ w.heap.size)
    (h : ∀ v' w' ys, w'.ownsRow base 24 4 v' (n + m) (xs ++ ys) → w.grownBy w' v.ownBlock → RowCells w0 k ys → K (a.put o.dst v') w') : if Region.wanted o (yielded ops a.tmps) = true then Oper.wp Try.prog o a w K Q else E := by
  have hw : Region.wanted o (yielded ops a.tmps) = true := by simp [Region.wanted, hgd]
  rw [if_pos hw]
  obtain ⟨i0, hi, hz0, hz1, hz2⟩ := info_parts fn_info
  obtain ⟨ys, hy, hc, h1⟩ := row_cells (w := w0) (b := b) (off := off) (k := k) (fun i hi => by
    obtain ⟨b2, off2, e, -, hp⟩ := RowOf.at_ hO hi
    obtain ⟨rfl, rfl⟩ : b = b2 ∧ off = off2 := by simpa using e
    exact hp)
  exact wp_append_own w s x 30 ho base 24 i0 _ 4 56 Try.underlying30 hi hz0 hz1 hz2 rfl (by decide) v n xs hs hown ⟨b, off, none⟩ m c ys hx (by rw [hy.1, hk]) (fun j u hj => by rw [int_add]; exact (cellNext hbl hb0 _).trans (hc j u hj)) h1 (by unfold maxLen; omega) hn hbase (fun v' w' h2 h3 _ => h v' w' ys h2 h3 hy)
end Go.Proofs.Ytkalgiaapkjplaa
