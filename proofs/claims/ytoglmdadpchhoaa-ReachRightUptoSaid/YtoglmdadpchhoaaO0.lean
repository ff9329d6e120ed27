/- Package own: a row whose elements become others, one by one, in new memory: pure, for whatever elements. -/
import Derived.Test.YtoglmdadpchhoaaHY3
import Derived.Test.YtoglmdadpchhoaaOS
import Derived.Deep.MidRow
namespace Go.Proofs.Ytoglmdadpchhoaa
open Go.RowKit

/-- these cells stand in a row of values from o on -/
def CellsAt (ys : List Value) (o : Nat) (cs : List Value) : Prop := ∀ j, j < cs.length → ys[o + j]? = cs[j]?
/-- a row with these values from o on -/
def setList : List Value → Nat → List Value → List Value
  | ys, _, [] => ys
  | ys, o, v :: r => setList (ys.set o v) (o + 1) r
theorem setList_length : ∀ (cs : List Value) (ys : List Value) (o : Nat), (setList ys o cs).length = ys.length
  | [], _, _ => rfl
  | v :: r, ys, o => by rw [setList, setList_length r]; simp
theorem setList_out : ∀ (cs : List Value) (ys : List Value) (o j : Nat), (j < o ∨ o + cs.length ≤ j) → (setList ys o cs)[j]? = ys[j]?
  | [], _, _, _, _ => rfl
  | v :: r, ys, o, j, h => by
    rw [List.length_cons] at h
    rw [setList, setList_out r _ _ _ (by omega), List.getElem?_set_ne (by omega)]
theorem setList_in : ∀ (cs : List Value) (ys : List Value) (o : Nat), o + cs.length ≤ ys.length → CellsAt (setList ys o cs) o cs
  | [], _, _, _ => fun j hj => absurd hj (by simp)
  | v :: r, ys, o, h => fun j hj => by
    rw [List.length_cons] at h hj
    rw [setList]
    cases j with
    | zero =>
      rw [setList_out r _ _ _ (by omega), Nat.add_zero, List.getElem?_set_self (by omega)]
      rfl
    | succ j =>
      have := setList_in r (ys.set o v) (o + 1) (by simp; omega) j (by omega)
      rw [show o + (j + 1) = o + 1 + j by omega, this]
      rfl
theorem setCells_size (b : Nat) : ∀ (cs : List Value) (o : Nat) (w : World), (w.setCells b o cs).heap.size = w.heap.size
  | [], _, _ => rfl
  | v :: r, o, w => by rw [World.setCells, setCells_size b r]; simp
theorem setCells_other (b : Nat) : ∀ (cs : List Value) (o : Nat) (w : World) (q : Nat), q ≠ b → (w.setCells b o cs).heap[q]? = w.heap[q]?
  | [], _, _, _, _ => rfl
  | v :: r, o, w, q, h => by
    rw [World.setCells, setCells_other b r _ _ _ h]
    exact Below.heap_setCell _ _ _ _ (by simpa using h)
theorem setCells_below {n b o : Nat} {w W : World} {cs : List Value} (h : Below n w W) (hb : n ≤ b) : Below n w (W.setCells b o cs) := by
  refine h.trans ⟨?_, ?_, ?_, by rw [setCells_size]; exact Nat.le_refl _, fun q hq => setCells_other _ _ _ _ _ (by omega)⟩
  all_goals
    clear h hb
    induction cs generalizing o W with
    | nil => rfl
    | cons v r ih => rw [World.setCells, ih]; rfl
theorem setCells_owns {base g n cap sz : Nat} {T : TypeId} : ∀ (cs : List Value) (o : Nat) (W : World) (ys : List Value), W.ownsRow base T sz (.slice (some ⟨g, 0, none⟩) n cap) n ys → (W.setCells g o cs).ownsRow base T sz (.slice (some ⟨g, 0, none⟩) n cap) n (setList ys o cs)
  | [], _, _, _, h => h
  | v :: r, o, _, _, h => setCells_owns r (o + 1) _ _ (h.stored o v).1
/-- a row while its elements become others: those below i are what they become, the others are as they were -/
def EachIn {α β : Type} (sz : Nat) (T : TypeId) (V : World → List Value → α → Prop) (V' : World → List Value → β → Prop) (w : World) (l : List α) (l' : List β) (g s n cap i : Nat) (W : World) : Prop :=
  ∃ ys, W.ownsRow w.heap.size T sz (.slice (some ⟨g, 0, none⟩) n cap) n ys ∧
    (∀ (j : Nat) (hj : j < l'.length), j < i → ∃ cs, cs.length = sz ∧ CellsAt ys (j * sz) cs ∧ ∀ U, SameIn s W.heap.size W U → V' U cs l'[j]) ∧
    (∀ (j : Nat) (hj : j < l.length), i ≤ j → ∃ cs, cs.length = sz ∧ CellsAt ys (j * sz) cs ∧ ∀ U, Below w.heap.size w U → V U cs l[j]) ∧
    Below w.heap.size w W ∧ s ≤ W.heap.size ∧ g < s
section
variable {α β : Type} {sz : Nat} {T : TypeId} {V : World → List Value → α → Prop} {V' : World → List Value → β → Prop} {w W : World} {l : List α} {l' : List β} {g s n cap i : Nat}
theorem EachIn.drew (h : EachIn sz T V V' w l l' g s n cap i W) : EachIn sz T V V' w l l' g s n cap i W.drew := by
  obtain ⟨ys, h1, h2, h3, h4, h5, h6⟩ := h
  exact ⟨ys, h1, h2, h3, h4.drew, h5, h6⟩
theorem each_get (h : EachIn sz T V V' w l l' g s n cap i W) (_hl : l.length = n) (hi : i < l.length) : ∃ cs, cs.length = sz ∧ V W cs l[i] ∧ (∀ U, Below W.heap.size W U → U.rangeAt g (i * sz) cs ∧ U.there g (i * sz) sz) := by
  obtain ⟨ys, h1, -, h3, h4, h5, h6⟩ := h
  obtain ⟨cs, hc, hy, hv⟩ := h3 i hi (Nat.le_refl _)
  refine ⟨cs, hc, hv W h4, fun U hU => ?_⟩
  have hg : g < W.heap.size := by omega
  have o1 := h1.kept (grown_keep hU) (.inr (by simp [Value.ownBlock]))
  have hys : ys.length = n * sz := h1.1
  have hm : i * sz + sz ≤ n * sz := by
    have : (i + 1) * sz ≤ n * sz := Nat.mul_le_mul_right _ (by omega)
    rwa [Nat.add_mul, Nat.one_mul] at this
  have hat : ∀ j, j < sz → U.cell? ⟨g, i * sz + j, none⟩ = cs[j]? := fun j hj => by rw [o1.cellAt _ (by omega), hy j (by omega)]
  refine ⟨fun j v hj => ?_, fun j hj => ⟨?_, o1.frozenAt _⟩⟩
  · rw [hat j (by have := (List.getElem?_eq_some_iff.1 hj).1; omega), hj]
  · rw [hat j hj, List.getElem?_eq_getElem (by omega)]
    rfl
theorem each_step (h : EachIn sz T V V' w l l' g s n cap i W) (_hl : l.length = n) (hl' : l'.length = n) (hi : i < l'.length) {u : World} (hb : Below W.heap.size W u) {cs : List Value} (hc : cs.length = sz)
    (hv : ∀ U, SameIn W.heap.size u.heap.size u U → V' U cs l'[i]) : EachIn sz T V V' w l l' g s n cap (i + 1) (u.setCells g (i * sz) cs) := by
  obtain ⟨ys, h1, h2, h3, h4, h5, h6⟩ := h
  have o1 := h1.kept (grown_keep hb) (.inr (by simp [Value.ownBlock]))
  have o2 := setCells_owns cs (i * sz) u ys o1
  have hys : ys.length = n * sz := h1.1
  have hwg : w.heap.size ≤ g := (h1.lt g rfl).1
  have hz := hb.size
  have hm : i * sz + sz ≤ n * sz := by
    have : (i + 1) * sz ≤ n * sz := Nat.mul_le_mul_right _ (by omega)
    rwa [Nat.add_mul, Nat.one_mul] at this
  have apart : ∀ j, j ≠ i → ∀ k, k < sz → (j * sz + k < i * sz ∨ i * sz + cs.length ≤ j * sz + k) := fun j hj k hk => by
    rcases Nat.lt_or_gt_of_ne hj with h | h
    · left
      have : (j + 1) * sz ≤ i * sz := Nat.mul_le_mul_right _ h
      rw [Nat.add_mul, Nat.one_mul] at this
      omega
    · right
      have : (i + 1) * sz ≤ j * sz := Nat.mul_le_mul_right _ h
      rw [Nat.add_mul, Nat.one_mul] at this
      omega
  have low : ∀ U, SameIn s (u.setCells g (i * sz) cs).heap.size (u.setCells g (i * sz) cs) U → SameIn s u.heap.size u U := fun U hU => by
    rw [setCells_size] at hU
    exact ⟨by have := hU.1; rwa [setCells_size] at this, fun q q1 q2 => (hU.2 q q1 q2).trans (setCells_other _ _ _ _ _ (by omega))⟩
  refine ⟨_, o2, fun j hj hji => ?_, fun j hj hji => ?_, setCells_below (h4.trans (hb.mono h4.size)) hwg, by rw [setCells_size]; omega, h6⟩
  · by_cases e : j = i
    · subst e
      exact ⟨cs, hc, setList_in cs ys _ (by omega), fun U hU => hv U (by have h := low U hU; exact ⟨h.1, fun q q1 q2 => h.2 q (by omega) q2⟩)⟩
    · obtain ⟨ds, hd, hy, hv2⟩ := h2 j hj (by omega)
      exact ⟨ds, hd, fun k hk => by rw [setList_out _ _ _ _ (apart j e k (by omega))]; exact hy k hk, fun U hU => hv2 U (by
        have h := low U hU
        exact ⟨by have := h.1; omega, fun q q1 q2 => (h.2 q q1 (by omega)).trans (hb.block q q2)⟩)⟩
  · obtain ⟨ds, hd, hy, hv2⟩ := h3 j hj (by omega)
    exact ⟨ds, hd, fun k hk => by rw [setList_out _ _ _ _ (apart j (by omega) k (by omega))]; exact hy k hk, hv2⟩
/-- a row of one's own, with all that it leads to: from base on, ahead of hi -/
def OwnAt {β : Type} (sz : Nat) (T : TypeId) (V : World → List Value → β → Prop) (base hi : Nat) (l : List β) (v : Value) (W : World) : Prop :=
  ∃ ys s, W.ownsRow base T sz v l.length ys ∧ base ≤ s ∧ s ≤ hi ∧ hi ≤ W.heap.size ∧ (∀ g, v.ownBlock = some g → g < s) ∧
    ∀ (j : Nat) (hj : j < l.length), ∃ cs, cs.length = sz ∧ CellsAt ys (j * sz) cs ∧ ∀ U, SameIn s hi W U → V U cs l[j]
theorem each_done (h : EachIn sz T V V' w l l' g s n cap i W) (hin : n ≤ i) (hl' : l'.length = n) : OwnAt sz T V' w.heap.size W.heap.size l' (.slice (some ⟨g, 0, none⟩) n cap) W := by
  obtain ⟨ys, h1, h2, -, h4, h5, h6⟩ := h
  have hwg : w.heap.size ≤ g := (h1.lt g rfl).1
  refine ⟨ys, s, by rw [hl']; exact h1, by omega, h5, Nat.le_refl _, fun q e => ?_, fun j hj => h2 j hj (by omega)⟩
  have : g = q := by simpa [Value.ownBlock] using e
  omega
theorem OwnAt.nil (sz : Nat) (T : TypeId) (V : World → List Value → β → Prop) {base : Nat} {W : World} (hb : base ≤ W.heap.size) : OwnAt sz T V base W.heap.size [] (.slice none 0 0) W :=
  ⟨[], base, ⟨by simp, .inl ⟨rfl, rfl⟩⟩, Nat.le_refl _, hb, Nat.le_refl _, fun g e => (by cases e), fun j hj => absurd hj (by simp)⟩
/-- it is there still where nothing between base and hi changed -/
theorem OwnAt.later {base hi : Nat} {l : List β} {v : Value} {W U : World} (h : OwnAt sz T V' base hi l v W) (hs : SameIn base hi W U) : OwnAt sz T V' base hi l v U := by
  obtain ⟨ys, s, h1, h2, h3, h4, h5, h6⟩ := h
  refine ⟨ys, s, ?_, h2, h3, Nat.le_trans h4 hs.1, h5, fun j hj => ?_⟩
  · rcases h1 with ⟨e1, e2 | ⟨g, cap, cur, hv, hge, hh, r⟩⟩
    · exact ⟨e1, .inl e2⟩
    · have := h5 g (by rw [hv]; rfl)
      exact ⟨e1, .inr ⟨g, cap, cur, hv, hge, (hs.2 g hge (by omega)).trans hh, r⟩⟩
  · obtain ⟨cs, c1, c2, c3⟩ := h6 j hj
    exact ⟨cs, c1, c2, fun X hX => c3 X ⟨Nat.le_trans hs.1 hX.1, fun q q1 q2 => (hX.2 q q1 q2).trans (hs.2 q (by omega) q2)⟩⟩
theorem OwnAt.call {base hi : Nat} {l : List β} {v : Value} {W U : World} (h : OwnAt sz T V' base hi l v W) (hb : Below W.heap.size W U) : OwnAt sz T V' base hi l v U := by
  obtain ⟨-, -, -, -, -, h4, -⟩ := id h
  exact h.later ⟨hb.size, fun q _ q2 => hb.block q (by omega)⟩
theorem OwnAt.set {base hi : Nat} {l : List β} {v : Value} {W : World} (h : OwnAt sz T V' base hi l v W) (a : Addr) (u : Value) (ha : a.block < base ∨ hi ≤ a.block) : OwnAt sz T V' base hi l v (W.setCell a u) :=
  h.later ⟨by simp, fun q q1 q2 => Below.heap_setCell _ _ _ _ (by omega)⟩
theorem OwnAt.row {base hi : Nat} {l : List β} {v : Value} {W : World} (h : OwnAt sz T V' base hi l v W) (R : Nat) (cs : Array Value) (ha : R < base ∨ hi ≤ R) : OwnAt sz T V' base hi l v (W.setRow R cs) :=
  h.later ⟨by simp [World.setRow], fun q q1 q2 => by simp [World.setRow, Array.getElem?_modify, show ¬ R = q by omega]⟩
theorem OwnAt.drew {base hi : Nat} {l : List β} {v : Value} {W : World} (h : OwnAt sz T V' base hi l v W) : OwnAt sz T V' base hi l v W.drew := h.later ⟨Nat.le_refl _, fun _ _ _ => rfl⟩
theorem OwnAt.thin {base hi b' : Nat} {l : List β} {v : Value} {W : World} (h : OwnAt sz T V' base hi l v W) (hb : b' ≤ base) : OwnAt sz T V' b' hi l v W := by
  obtain ⟨ys, s, h1, h2, h3, h4, h5, h6⟩ := h
  refine ⟨ys, s, ?_, by omega, h3, h4, h5, h6⟩
  rcases h1 with ⟨e1, e2 | ⟨g, cap, cur, hv, hge, r⟩⟩
  · exact ⟨e1, .inl e2⟩
  · exact ⟨e1, .inr ⟨g, cap, cur, hv, by omega, r⟩⟩
theorem OwnAt.size {base hi : Nat} {l : List β} {v : Value} {W : World} (h : OwnAt sz T V' base hi l v W) : base ≤ hi ∧ hi ≤ W.heap.size := by
  obtain ⟨ys, s, -, h2, h3, h4, -⟩ := h
  omega
theorem OwnAt.slice {base hi : Nat} {l : List β} {v : Value} {W : World} (h : OwnAt sz T V' base hi l v W) : ∃ A c, v = .slice A l.length c := by
  obtain ⟨ys, s, h1, -⟩ := h
  rcases h1.2 with ⟨e, e2⟩ | ⟨g, cap, cur, e, -⟩
  · exact ⟨none, 0, by rw [e, e2]⟩
  · exact ⟨_, _, e⟩
/-- its elements in memory -/
theorem OwnAt.rowOf {base hi : Nat} {l : List β} {v : Value} {W : World} (h : OwnAt sz T V' base hi l v W) {P : World → Nat → Nat → β → Prop}
    (hP : ∀ (U : World) (b o : Nat) (cs : List Value) (x : β), cs.length = sz → V' U cs x → (∀ j, j < sz → U.cell? ⟨b, o + j, none⟩ = cs[j]?) → P U b o x) {U : World} (hU : SameIn base hi W U) : RowOf sz P U v l := by
  obtain ⟨ys, s, h1, h2, h3, h4, h5, h6⟩ := h.later hU
  have hys : ys.length = l.length * sz := h1.1
  by_cases h0 : 0 < l.length
  · obtain ⟨g, cap, e, hge, hlt⟩ := h1.form h0
    subst e
    refine .inr ⟨h0, g, 0, cap, rfl, hlt, fun j hj => ?_⟩
    obtain ⟨cs, hc, hy, hv⟩ := h6 j hj
    refine hP U g (0 + j * sz) cs _ hc (hv U ⟨Nat.le_refl _, fun _ _ _ => rfl⟩) (fun k hk => ?_)
    have hm : j * sz + sz ≤ l.length * sz := by
      have : (j + 1) * sz ≤ l.length * sz := Nat.mul_le_mul_right _ (by omega)
      rwa [Nat.add_mul, Nat.one_mul] at this
    rw [Nat.zero_add, h1.cellAt _ (by omega), hy k (by omega)]
  · have : l = [] := List.length_eq_zero_iff.1 (by omega)
    subst this
    rcases h1.2 with ⟨rfl, _⟩ | ⟨g, cap, cur, rfl, _⟩
    · exact .inl ⟨rfl, .inl rfl⟩
    · exact .inl ⟨rfl, .inr ⟨_, _, rfl⟩⟩
theorem OwnAt.rowAt {base hi : Nat} {l : List β} {v : Value} {W : World} (h : OwnAt sz T V' base hi l v W) {P : World → Nat → Nat → β → Prop}
    (hP : ∀ (U : World) (b o : Nat) (cs : List Value) (x : β), cs.length = sz → V' U cs x → (∀ j, j < sz → U.cell? ⟨b, o + j, none⟩ = cs[j]?) → P U b o x) : RowOf sz P W v l := h.rowOf hP ⟨Nat.le_refl _, fun _ _ _ => rfl⟩
/-- an element of a row of one's own -/
theorem own_get {base hi g n cap : Nat} {l : List β} {W : World} (h : OwnAt sz T V' base hi l (.slice (some ⟨g, 0, none⟩) n cap) W) {i : Nat} (hi' : i < l.length) : ∃ cs, cs.length = sz ∧ V' W cs l[i] ∧ W.rangeAt g (i * sz) cs := by
  obtain ⟨ys, s, h1, h2, h3, h4, h5, h6⟩ := h
  obtain ⟨cs, hc, hy, hv⟩ := h6 i hi'
  have hn : l.length = n := by
    rcases h1.2 with ⟨e, _⟩ | ⟨g', cap', cur, e, -⟩
    · cases e
    · exact (Value.slice.inj e).2.1.symm
  rw [hn] at h1 hi'
  have hm : i * sz + sz ≤ n * sz := by
    have : (i + 1) * sz ≤ n * sz := Nat.mul_le_mul_right _ hi'
    rwa [Nat.add_mul, Nat.one_mul] at this
  have hys : ys.length = n * sz := h1.1
  refine ⟨cs, hc, hv W ⟨Nat.le_refl _, fun _ _ _ => rfl⟩, fun j v hj => ?_⟩
  have hjl := (List.getElem?_eq_some_iff.1 hj).1
  rw [h1.cellAt _ (by omega), hy j hjl, hj]
end
/-- things by their cells -/
def InC (W : World) (cs : List Value) (x : In) : Prop := ∃ A c, cs = [.int .i64 x.o, .int .i64 x.a, .int .i64 x.b, .int .u64 x.k, .string x.s, .slice A x.l.length c] ∧ Ints W (.slice A x.l.length c) x.l
def BkC (W : World) (cs : List Value) (x : Bk) : Prop := ∃ A c A5 c5 A7 c7, cs = [.int .i64 x.p, .slice A x.i.length c, .int .i64 x.e.k, .int .i64 x.e.a, .int .i64 x.e.t, .slice A5 x.e.l.length c5, .int .i64 x.e.e, .slice A7 x.e.m.length c7] ∧
  Insts W (.slice A x.i.length c) x.i ∧ Ints W (.slice A5 x.e.l.length c5) x.e.l ∧ Ints W (.slice A7 x.e.m.length c7) x.e.m
def FnC (W : World) (cs : List Value) (x : Fn) : Prop := ∃ A c, cs = [.string x.s, .int .i64 x.b, .int .i64 x.p, .slice A x.l.length c] ∧ Blocks W (.slice A x.l.length c) x.l
theorem InC.lay (U : World) (b o : Nat) (cs : List Value) (x : In) (_ : cs.length = 6) (h : InC U cs x) (hc : ∀ j, j < 6 → U.cell? ⟨b, o + j, none⟩ = cs[j]?) : InAt U b o x := by
  obtain ⟨A, c, rfl, hi⟩ := h
  exact ⟨hc 0 (by omega), hc 1 (by omega), hc 2 (by omega), hc 3 (by omega), hc 4 (by omega), A, c, hc 5 (by omega), hi⟩
theorem BkC.lay (U : World) (b o : Nat) (cs : List Value) (x : Bk) (_ : cs.length = 8) (h : BkC U cs x) (hc : ∀ j, j < 8 → U.cell? ⟨b, o + j, none⟩ = cs[j]?) : BkAt U b o x := by
  obtain ⟨A, c, A5, c5, A7, c7, rfl, h1, h5, h7⟩ := h
  exact ⟨hc 0 (by omega), ⟨A, c, hc 1 (by omega), h1⟩, hc 2 (by omega), hc 3 (by omega), hc 4 (by omega), ⟨A5, c5, hc 5 (by omega), h5⟩, hc 6 (by omega), A7, c7, hc 7 (by omega), h7⟩
theorem FnC.lay (U : World) (b o : Nat) (cs : List Value) (x : Fn) (_ : cs.length = 4) (h : FnC U cs x) (hc : ∀ j, j < 4 → U.cell? ⟨b, o + j, none⟩ = cs[j]?) : FnAt U b o x := by
  obtain ⟨A, c, rfl, h1⟩ := h
  exact ⟨hc 0 (by omega), hc 1 (by omega), hc 2 (by omega), A, c, hc 3 (by omega), h1⟩
theorem InC.next {W W' : World} {cs : List Value} {x : In} (h : InC W cs x) (hb : Below W.heap.size W W') : InC W' cs x := by
  obtain ⟨A, c, e, h1⟩ := h
  exact ⟨A, c, e, h1.next hb⟩
theorem BkC.next {W W' : World} {cs : List Value} {x : Bk} (h : BkC W cs x) (hb : Below W.heap.size W W') : BkC W' cs x := by
  obtain ⟨A, c, A5, c5, A7, c7, e, h1, h5, h7⟩ := h
  exact ⟨A, c, A5, c5, A7, c7, e, h1.next hb, h5.next hb, h7.next hb⟩
theorem FnC.next {W W' : World} {cs : List Value} {x : Fn} (h : FnC W cs x) (hb : Below W.heap.size W W') : FnC W' cs x := by
  obtain ⟨A, c, e, h1⟩ := h
  exact ⟨A, c, e, h1.next hb⟩
theorem InC.len {W : World} {cs : List Value} {x : In} (h : InC W cs x) : cs.length = 6 ∧ cs.toArray.all (·.oneCell') = true := by
  obtain ⟨A, c, rfl, -⟩ := h
  exact ⟨rfl, by simp [Value.oneCell']⟩
theorem BkC.len {W : World} {cs : List Value} {x : Bk} (h : BkC W cs x) : cs.length = 8 ∧ cs.toArray.all (·.oneCell') = true := by
  obtain ⟨A, c, A5, c5, A7, c7, rfl, -⟩ := h
  exact ⟨rfl, by simp [Value.oneCell']⟩
theorem FnC.len {W : World} {cs : List Value} {x : Fn} (h : FnC W cs x) : cs.length = 4 ∧ cs.toArray.all (·.oneCell') = true := by
  obtain ⟨A, c, rfl, -⟩ := h
  exact ⟨rfl, by simp [Value.oneCell']⟩
theorem in_src {w : World} {b off : Nat} {l : List In} (hp : ∀ (i : Nat) (hi : i < l.length), InAt w b (off + i * 6) l[i]) {ys : List Value} (hc : ∀ j, j < l.length * 6 → ys[j]? = w.cell? ⟨b, off + j, none⟩) (j : Nat) (hj : j < l.length) :
    ∃ cs, cs.length = 6 ∧ CellsAt ys (j * 6) cs ∧ ∀ U, Below w.heap.size w U → InC U cs l[j] := by
  obtain ⟨h0, h1, h2, h3, h4, A, c, h5, h6⟩ := hp j hj
  have q : ∀ c, c < 6 → ys[j * 6 + c]? = w.cell? ⟨b, off + j * 6 + c, none⟩ := fun c h => by rw [hc _ (by omega), Nat.add_assoc]
  refine ⟨_, ?_, ?_, fun U hU => ⟨A, c, rfl, h6.next hU⟩⟩
  · rfl
  · intro k hk
    rw [q k hk]
    match k, hk with
    | 0, _ => exact h0
    | 1, _ => exact h1
    | 2, _ => exact h2
    | 3, _ => exact h3
    | 4, _ => exact h4
    | 5, _ => exact h5
theorem bk_src {w : World} {b off : Nat} {l : List Bk} (hp : ∀ (i : Nat) (hi : i < l.length), BkAt w b (off + i * 8) l[i]) {ys : List Value} (hc : ∀ j, j < l.length * 8 → ys[j]? = w.cell? ⟨b, off + j, none⟩) (j : Nat) (hj : j < l.length) :
    ∃ cs, cs.length = 8 ∧ CellsAt ys (j * 8) cs ∧ ∀ U, Below w.heap.size w U → BkC U cs l[j] := by
  obtain ⟨h0, ⟨A, c, h1, g1⟩, h2, h3, h4, ⟨A5, c5, h5, g5⟩, h6, A7, c7, h7, g7⟩ := hp j hj
  have q : ∀ c, c < 8 → ys[j * 8 + c]? = w.cell? ⟨b, off + j * 8 + c, none⟩ := fun c h => by rw [hc _ (by omega), Nat.add_assoc]
  refine ⟨_, ?_, ?_, fun U hU => ⟨A, c, A5, c5, A7, c7, rfl, g1.next hU, g5.next hU, g7.next hU⟩⟩
  · rfl
  · intro k hk
    rw [q k hk]
    match k, hk with
    | 0, _ => exact h0
    | 1, _ => exact h1
    | 2, _ => exact h2
    | 3, _ => exact h3
    | 4, _ => exact h4
    | 5, _ => exact h5
    | 6, _ => exact h6
    | 7, _ => exact h7
theorem fn_src {w : World} {b off : Nat} {l : List Fn} (hp : ∀ (i : Nat) (hi : i < l.length), FnAt w b (off + i * 4) l[i]) {ys : List Value} (hc : ∀ j, j < l.length * 4 → ys[j]? = w.cell? ⟨b, off + j, none⟩) (j : Nat) (hj : j < l.length) :
    ∃ cs, cs.length = 4 ∧ CellsAt ys (j * 4) cs ∧ ∀ U, Below w.heap.size w U → FnC U cs l[j] := by
  obtain ⟨h0, h1, h2, A, c, h3, h4⟩ := hp j hj
  have q : ∀ c, c < 4 → ys[j * 4 + c]? = w.cell? ⟨b, off + j * 4 + c, none⟩ := fun c h => by rw [hc _ (by omega), Nat.add_assoc]
  refine ⟨_, ?_, ?_, fun U hU => ⟨A, c, rfl, h4.next hU⟩⟩
  · rfl
  · intro k hk
    rw [q k hk]
    match k, hk with
    | 0, _ => exact h0
    | 1, _ => exact h1
    | 2, _ => exact h2
    | 3, _ => exact h3
/-- what a call makes in memory of its own: cells, and what they lead to -/
def Made {β : Type} (V' : World → List Value → β → Prop) (x : β) (w : World) (e : Ending) (w' : World) : Prop :=
  ∃ cs, e = .returned (.agg cs.toArray) ∧ Below w.heap.size w w' ∧ Fresh w.heap.size w' (fun U => V' U cs x)
/-- what a call makes in memory of its own: a row -/
def MadeRow {β : Type} (sz : Nat) (T : TypeId) (V : World → List Value → β → Prop) (l : List β) (w : World) (e : Ending) (w' : World) : Prop :=
  ∃ A c, e = .returned (.slice A l.length c) ∧ Below w.heap.size w w' ∧ OwnAt sz T V w.heap.size w'.heap.size l (.slice A l.length c) w'
/-- a global, a name by their cells -/
def GlC (_ : World) (cs : List Value) (x : Gl) : Prop := cs = [.string x.s, .int .i64 x.b, .bool x.h, .int .u64 x.i]
theorem GlC.lay (U : World) (b o : Nat) (cs : List Value) (x : Gl) (_ : cs.length = 4) (h : GlC U cs x) (hc : ∀ j, j < 4 → U.cell? ⟨b, o + j, none⟩ = cs[j]?) : GlAt U b o x := by
  unfold GlC at h
  subst h
  exact ⟨hc 0 (by omega), hc 1 (by omega), hc 2 (by omega), hc 3 (by omega)⟩
theorem GlC.len {W : World} {cs : List Value} {x : Gl} (h : GlC W cs x) : cs.length = 4 ∧ cs.toArray.all (·.oneCell') = true := by
  unfold GlC at h
  subst h
  exact ⟨rfl, by simp [Value.oneCell']⟩
def StC (_ : World) (cs : List Value) (x : ByteArray) : Prop := cs = [.string x]
theorem StC.lay (U : World) (b o : Nat) (cs : List Value) (x : ByteArray) (_ : cs.length = 1) (h : StC U cs x) (hc : ∀ j, j < 1 → U.cell? ⟨b, o + j, none⟩ = cs[j]?) : U.cell? ⟨b, o, none⟩ = some (.string x) := by
  unfold StC at h
  subst h
  exact hc 0 (by omega)
theorem StC.len {W : World} {cs : List Value} {x : ByteArray} (h : StC W cs x) : cs.length = 1 ∧ cs.toArray.all (·.oneCell') = true := by
  unfold StC at h
  subst h
  exact ⟨rfl, by simp [Value.oneCell']⟩
end Go.Proofs.Ytoglmdadpchhoaa
