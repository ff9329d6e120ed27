/- Package slices: what DeleteFunc leaves: pure. -/
import Derived.Test.YtoglmdadpchhoaaO0
namespace Go.Proofs.Ytoglmdadpchhoaa
open Go.RowKit

/-- all outside of base to hi lies as it lay -/
def Out (base hi : Nat) (w W : World) : Prop := Below base w W ∧ ∀ b, hi ≤ b → b < w.heap.size → W.heap[b]? = w.heap[b]?
theorem Out.refl (base hi : Nat) (w : World) : Out base hi w w := ⟨Below.refl _ _, fun _ _ _ => rfl⟩
theorem Out.call {base hi : Nat} {w W U : World} (h : Out base hi w W) (hb : Below W.heap.size W U) (h1 : base ≤ w.heap.size) : Out base hi w U :=
  ⟨h.1.trans (hb.mono (Nat.le_trans h1 h.1.size)), fun b q1 q2 => (hb.block b (Nat.lt_of_lt_of_le q2 h.1.size)).trans (h.2 b q1 q2)⟩
theorem Out.of_below {base hi : Nat} {w U : World} (hb : Below w.heap.size w U) (h1 : base ≤ w.heap.size) : Out base hi w U := (Out.refl base hi w).call hb h1
theorem Out.cells {base hi g : Nat} {w W : World} (h : Out base hi w W) (hg : base ≤ g ∧ g < hi) (o : Nat) (cs : List Value) : Out base hi w (W.setCells g o cs) :=
  ⟨setCells_below h.1 hg.1, fun b q1 q2 => (setCells_other _ _ _ _ _ (by omega)).trans (h.2 b q1 q2)⟩
/-- the place of the first that p takes, or -1 -/
def idxP {α : Type} (p : α → Bool) (l : List α) : Int := match l.findIdx? p with
  | some i => (i : Int)
  | none => -1
theorem idxP_at {α : Type} {p : α → Bool} {l : List α} {i : Nat} (hi : i < l.length) (h : (l.take i).any p = false) (h1 : p l[i] = true) : idxP p l = i := by
  have : l.findIdx? p = some i := by
    refine List.findIdx?_eq_some_iff_getElem.2 ⟨hi, h1, fun j hj => ?_⟩
    rw [List.any_eq_false] at h
    have := h (l[j]'(by omega)) (List.mem_take_iff_getElem.2 ⟨j, by omega, rfl⟩)
    simpa using this
  unfold idxP
  rw [this]
theorem idxP_no {α : Type} {p : α → Bool} {l : List α} (h : l.any p = false) : idxP p l = -1 := by
  have : l.findIdx? p = none := by
    rw [List.findIdx?_eq_none_iff]
    intro x hx
    rw [List.any_eq_false] at h
    simpa using h x hx
  unfold idxP
  rw [this]
theorem idxP_cases {α : Type} (p : α → Bool) (l : List α) : (idxP p l = -1 ∧ l.filter (fun x => !p x) = l) ∨ ∃ i : Nat, ∃ hi : i < l.length, idxP p l = (i : Int) ∧ p l[i] = true ∧ (l.take i).filter (fun x => !p x) = l.take i := by
  cases h : l.findIdx? p with
  | none =>
    left
    refine ⟨by unfold idxP; rw [h], List.filter_eq_self.2 fun x hx => ?_⟩
    have := List.findIdx?_eq_none_iff.1 h x hx
    simp [this]
  | some i =>
    right
    obtain ⟨hi, h1, h2⟩ := List.findIdx?_eq_some_iff_getElem.1 h
    refine ⟨i, hi, by unfold idxP; rw [h], h1, List.filter_eq_self.2 fun x hx => ?_⟩
    obtain ⟨j, hj, rfl⟩ := List.mem_take_iff_getElem.1 hx
    have := h2 j (by omega)
    simpa using this
/-- what is kept of the first j -/
def keptE {α : Type} (p : α → Bool) (l : List α) (j : Nat) : List α := (l.take j).filter fun x => !p x
theorem keptE_skip {α : Type} {p : α → Bool} {l : List α} {j : Nat} (hj : j < l.length) (h : p l[j] = true) : keptE p l (j + 1) = keptE p l j := by
  unfold keptE
  rw [List.take_succ_eq_append_getElem hj, List.filter_append]
  simp [h]
theorem keptE_keep {α : Type} {p : α → Bool} {l : List α} {j : Nat} (hj : j < l.length) (h : p l[j] = false) : keptE p l (j + 1) = keptE p l j ++ [l[j]] := by
  unfold keptE
  rw [List.take_succ_eq_append_getElem hj, List.filter_append]
  simp [h]
/-- a row while some of it are struck: those kept of the first j, then anything, then the others from j on -/
def DelIn {α : Type} (sz : Nat) (T : TypeId) (V : World → List Value → α → Prop) (base hi : Nat) (p : α → Bool) (l : List α) (g n cap j : Nat) (w W : World) : Prop :=
  ∃ ys s, W.ownsRow base T sz (.slice (some ⟨g, 0, none⟩) n cap) n ys ∧ base ≤ s ∧ s ≤ hi ∧ hi ≤ w.heap.size ∧ g < s ∧ SameIn s hi w W ∧ Out base hi w W ∧
    (∀ (q : Nat) (hq : q < (keptE p l j).length), ∃ cs, cs.length = sz ∧ CellsAt ys (q * sz) cs ∧ ∀ U, SameIn s hi w U → V U cs (keptE p l j)[q]) ∧
    (∀ (q : Nat) (hq : q < l.length), j ≤ q → ∃ cs, cs.length = sz ∧ CellsAt ys (q * sz) cs ∧ ∀ U, SameIn s hi w U → V U cs l[q]) ∧ (keptE p l j).length < j
section
variable {α : Type} {sz : Nat} {T : TypeId} {V : World → List Value → α → Prop} {base hi : Nat} {p : α → Bool} {l : List α} {g n cap j : Nat} {w W : World}
theorem DelIn.drew (h : DelIn sz T V base hi p l g n cap j w W) : DelIn sz T V base hi p l g n cap j w W.drew := by
  obtain ⟨ys, s, h1, h2, h3, h4, h5, h6, h7, h8⟩ := h
  exact ⟨ys, s, h1, h2, h3, h4, h5, h6, ⟨h7.1.drew, h7.2⟩, h8⟩
theorem del_start (h : OwnAt sz T V base hi l (.slice (some ⟨g, 0, none⟩) n cap) w) {u : World} (hb : Below w.heap.size w u) {i : Nat} (hi' : i < l.length) (h1 : p l[i] = true) (h2 : (l.take i).filter (fun x => !p x) = l.take i) (hn : l.length = n) :
    DelIn sz T V base hi p l g n cap (i + 1) w u := by
  obtain ⟨ys, s, o1, o2, o3, o4, o5, o6⟩ := h
  have e : keptE p l (i + 1) = l.take i := by rw [keptE_skip hi' h1]; exact h2
  rw [hn] at o1
  refine ⟨ys, s, o1.kept (grown_keep hb) (.inr (by simp [Value.ownBlock])), o2, o3, o4, o5 g rfl, ⟨hb.size, fun q _ q2 => hb.block q (by omega)⟩, Out.of_below hb (by omega), fun q hq => ?_, fun q hq _ => o6 q hq, by rw [e, List.length_take]; omega⟩
  simp only [e] at hq ⊢
  rw [List.length_take] at hq
  rw [List.getElem_take]
  exact o6 q (by omega)
theorem DelIn.call (h : DelIn sz T V base hi p l g n cap j w W) {u : World} (hb : Below W.heap.size W u) : DelIn sz T V base hi p l g n cap j w u := by
  obtain ⟨ys, s, o1, o2, o3, o4, o5, o6, o7, o8, o9, o10⟩ := h
  refine ⟨ys, s, o1.kept (grown_keep hb) (.inr (by simp [Value.ownBlock])), o2, o3, o4, o5, ⟨Nat.le_trans o6.1 hb.size, fun q q1 q2 => (hb.block q (by have := o6.1; omega)).trans (o6.2 q q1 q2)⟩, o7.call hb (by omega), o8, o9, o10⟩
theorem del_get (h : DelIn sz T V base hi p l g n cap j w W) (hn : l.length = n) (hj : j < l.length) : ∃ cs, cs.length = sz ∧ V W cs l[j] ∧ W.rangeAt g (j * sz) cs := by
  obtain ⟨ys, s, o1, o2, o3, o4, o5, o6, o7, o8, o9, o10⟩ := h
  obtain ⟨cs, c1, c2, c3⟩ := o9 j hj (Nat.le_refl _)
  refine ⟨cs, c1, c3 W o6, fun k v hk => ?_⟩
  have hkl := (List.getElem?_eq_some_iff.1 hk).1
  have hm : j * sz + sz ≤ n * sz := by
    have : (j + 1) * sz ≤ n * sz := Nat.mul_le_mul_right _ (by omega)
    rwa [Nat.add_mul, Nat.one_mul] at this
  have hys : ys.length = n * sz := o1.1
  rw [o1.cellAt _ (by omega), c2 k hkl, hk]
theorem del_skip (h : DelIn sz T V base hi p l g n cap j w W) (hj : j < l.length) (hp : p l[j] = true) : DelIn sz T V base hi p l g n cap (j + 1) w W := by
  obtain ⟨ys, s, o1, o2, o3, o4, o5, o6, o7, o8, o9, o10⟩ := h
  refine ⟨ys, s, o1, o2, o3, o4, o5, o6, o7, ?_, fun q hq hjq => o9 q hq (by omega), by rw [keptE_skip hj hp]; omega⟩
  simp only [keptE_skip hj hp]
  exact o8
theorem del_keep (h : DelIn sz T V base hi p l g n cap j w W) (hn : l.length = n) (hj : j < l.length) (hp : p l[j] = false) {cs : List Value} (hc : cs.length = sz) (hr : W.rangeAt g (j * sz) cs) :
    W.there g ((keptE p l j).length * sz) sz ∧ DelIn sz T V base hi p l g n cap (j + 1) w (W.setCells g ((keptE p l j).length * sz) cs) := by
  obtain ⟨ys, s, o1, o2, o3, o4, o5, o6, o7, o8, o9, o10⟩ := h
  have hys : ys.length = n * sz := o1.1
  have room : ∀ k, k < n → k * sz + sz ≤ n * sz := fun k hk => by
    have : (k + 1) * sz ≤ n * sz := Nat.mul_le_mul_right _ (by omega)
    rwa [Nat.add_mul, Nat.one_mul] at this
  have hm := room (keptE p l j).length (by omega)
  have hmj := room j (by omega)
  have hgb : base ≤ g := (o1.lt g rfl).1
  obtain ⟨ds, d1, d2, d3⟩ := o9 j hj (Nat.le_refl _)
  have hds : ds = cs := by
    refine List.ext_getElem? fun k => ?_
    by_cases hk : k < sz
    · have e1 := d2 k (by omega)
      have e2 := hr k (cs[k]'(by omega)) (List.getElem?_eq_getElem (by omega))
      rw [o1.cellAt _ (by omega), e1] at e2
      rw [e2, List.getElem?_eq_getElem (by omega)]
    · rw [List.getElem?_eq_none (by omega), List.getElem?_eq_none (by omega)]
  subst hds
  have apart : ∀ q, q ≠ (keptE p l j).length → ∀ k, k < sz → (q * sz + k < (keptE p l j).length * sz ∨ (keptE p l j).length * sz + ds.length ≤ q * sz + k) := fun q hq k hk => by
    rcases Nat.lt_or_gt_of_ne hq with h | h
    · left
      have : (q + 1) * sz ≤ (keptE p l j).length * sz := Nat.mul_le_mul_right _ h
      rw [Nat.add_mul, Nat.one_mul] at this
      omega
    · right
      have : ((keptE p l j).length + 1) * sz ≤ q * sz := Nat.mul_le_mul_right _ h
      rw [Nat.add_mul, Nat.one_mul] at this
      omega
  refine ⟨fun k hk => ⟨?_, o1.frozenAt _⟩, _, s, setCells_owns ds _ W ys o1, o2, o3, o4, o5, ⟨by rw [setCells_size]; exact o6.1, fun q q1 q2 => (setCells_other _ _ _ _ _ (by omega)).trans (o6.2 q q1 q2)⟩, o7.cells ⟨hgb, by omega⟩ _ _, ?_, fun q hq hjq => ?_, by rw [keptE_keep hj hp, List.length_append, List.length_singleton]; omega⟩
  · rw [o1.cellAt _ (by omega), List.getElem?_eq_getElem (by omega)]
    rfl
  · simp only [keptE_keep hj hp]
    intro q hq
    rw [List.length_append, List.length_singleton] at hq
    by_cases e : q = (keptE p l j).length
    · subst e
      refine ⟨ds, d1, setList_in ds ys _ (by omega), fun U hU => ?_⟩
      rw [List.getElem_append_right (by omega)]
      simpa using d3 U hU
    · obtain ⟨es, e1, e2, e3⟩ := o8 q (by omega)
      refine ⟨es, e1, fun k hk => ?_, fun U hU => ?_⟩
      · rw [setList_out _ _ _ _ (apart q e k (by omega))]
        exact e2 k hk
      · rw [List.getElem_append_left (by omega)]
        exact e3 U hU
  · obtain ⟨es, e1, e2, e3⟩ := o9 q hq (by omega)
    refine ⟨es, e1, fun k hk => ?_, e3⟩
    rw [setList_out _ _ _ _ (apart q (by omega) k (by omega))]
    exact e2 k hk
/-- the row cut to what was kept -/
theorem del_done (h : DelIn sz T V base hi p l g n cap j w W) (hn : l.length = n) (hj : n ≤ j) (zs : List Value) :
    OwnAt sz T V base hi (l.filter fun x => !p x) (.slice (some ⟨g, 0, none⟩) (keptE p l j).length cap) (W.setCells g ((keptE p l j).length * sz) zs) ∧ Out base hi w (W.setCells g ((keptE p l j).length * sz) zs) ∧ keptE p l j = l.filter (fun x => !p x) := by
  obtain ⟨ys, s, o1, o2, o3, o4, o5, o6, o7, o8, o9, o10⟩ := h
  have hk : keptE p l j = l.filter (fun x => !p x) := by
    unfold keptE
    rw [List.take_of_length_le (by omega)]
  have hkn : (keptE p l j).length ≤ n := by
    rw [hk, ← hn]
    exact List.length_filter_le _ _
  have hys : ys.length = n * sz := o1.1
  have hgb : base ≤ g := (o1.lt g rfl).1
  have hkm : (keptE p l j).length * sz ≤ n * sz := Nat.mul_le_mul_right _ hkn
  have o2' := setCells_owns zs ((keptE p l j).length * sz) W ys o1
  refine ⟨⟨(setList ys ((keptE p l j).length * sz) zs).take ((keptE p l j).length * sz), s, ?_, o2, o3, by rw [setCells_size]; exact Nat.le_trans o4 o7.1.size, fun q e => ?_, fun q hq => ?_⟩, o7.cells ⟨hgb, by omega⟩ _ _, hk⟩
  · rw [← hk]
    refine ⟨by rw [List.length_take, setList_length]; omega, ?_⟩
    rcases o2'.2 with ⟨e, _⟩ | ⟨g', cap', cur, e, c1, c2, c3, c4, c5, c6⟩
    · cases e
    · have e2 := Value.slice.inj e
      obtain ⟨e3, -, e4⟩ := e2
      simp only [Option.some.injEq, Addr.mk.injEq, and_true] at e3
      subst e3 e4
      refine .inr ⟨g, cap, cur, rfl, c1, c2, by omega, c4, c5, ?_⟩
      rw [← c6, List.take_take, Nat.min_eq_left hkm]
  · have : g = q := by simpa [Value.ownBlock] using e
    omega
  · simp only [← hk] at hq ⊢
    obtain ⟨cs, c1, c2, c3⟩ := o8 q hq
    have hm : q * sz + sz ≤ (keptE p l j).length * sz := by
      have : (q + 1) * sz ≤ (keptE p l j).length * sz := Nat.mul_le_mul_right _ hq
      rwa [Nat.add_mul, Nat.one_mul] at this
    refine ⟨cs, c1, fun k hk2 => ?_, fun U hU => c3 U ?_⟩
    · rw [List.getElem?_take_of_lt (by omega), setList_out _ _ _ _ (by omega)]
      exact c2 k hk2
    · exact ⟨by have := hU.1; rw [setCells_size] at this; have := o7.1.size; omega, fun b b1 b2 => (hU.2 b b1 b2).trans ((setCells_other _ _ _ _ _ (by omega)).trans (o6.2 b b1 b2))⟩
end
/-- clear: the cells hold the zero value's -/
theorem run_clear_cells {P : Program} (w : World) (t e ty : TypeId) (z : Value) (ht : P.underlying t = some (.slice e)) (hv : ∀ w, (zeroValue e).run P w = .ok z w) (b o n c : Nat) (hn : 0 < n) (h1 : ∀ u ∈ z.cells, u.oneCell' = true) (h0 : 0 < z.cells.size)
    (hth : w.there b o (n * z.cells.size)) : (Builtin.clear_ #[t] ty #[.slice (some ⟨b, o, none⟩) n c]).run P w = .ok (.tuple #[]) (w.setCells b o (Builtin.zeroCells z.cells n).toList) := by
  have hl : (Builtin.zeroCells z.cells n).toList.length = n * z.cells.size := by simp [Builtin.zeroCells]
  have hone : ∀ v ∈ (Builtin.zeroCells z.cells n).toList, v.oneCell' = true := by
    intro v hv
    simp only [Builtin.zeroCells, Array.toList_map, List.mem_map] at hv
    obtain ⟨i, -, rfl⟩ := hv
    have hlt := Nat.mod_lt i h0
    rw [getElem!_pos z.cells (i % z.cells.size) hlt]
    exact h1 _ (Array.getElem_mem hlt)
  have hst := run_storeCells_cells (P := P) b o (Builtin.zeroCells z.cells n).toList 0 w (fun j hj => by simpa using (hth j (by rw [← hl]; exact hj)).1) (fun j hj => by simpa using (hth j (by rw [← hl]; exact hj)).2) hone
  simp only [Nat.add_zero] at hst
  obtain ⟨m, rfl⟩ : ∃ m, n = m + 1 := ⟨n - 1, by omega⟩
  simp [Builtin.clear_, run_underlying ht, hv, hst]
end Go.Proofs.Ytoglmdadpchhoaa
