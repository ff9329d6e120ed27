/- Package pick: rows of a copied module that lie in new memory: pure. Package pick: blocks are copied. Package pick: a module is copied: the same one, in new memory. -/
import Derived.Test.YtcfniagmnkngfaaQ4
import Derived.Test.YtcfniagmnkngfaaQ5
import Derived.Test.YtcfniagmnkngfaaBL
import Derived.Test.YtcfniagmnkngfaaQ1
import Derived.Deep.RegionHeld3
namespace Go.Proofs.Ytcfniagmnkngfaa
open Go.RowKit

/-- a world in which these blocks lie as they lie in W -/
def SameIn (lo hi : Nat) (W W' : World) : Prop := W.heap.size ≤ W'.heap.size ∧ ∀ b, lo ≤ b → b < hi → W'.heap[b]? = W.heap[b]?
theorem SameIn.refl (lo hi : Nat) (W : World) : SameIn lo hi W W := ⟨Nat.le_refl _, fun _ _ _ => rfl⟩
theorem SameIn.trans {lo hi : Nat} {A B C : World} (h : SameIn lo hi A B) (k : SameIn lo hi B C) : SameIn lo hi A C := ⟨Nat.le_trans h.1 k.1, fun b h1 h2 => (k.2 b h1 h2).trans (h.2 b h1 h2)⟩
theorem SameIn.thin {lo hi lo' hi' : Nat} {W W' : World} (h : SameIn lo hi W W') (h1 : lo ≤ lo') (h2 : hi' ≤ hi) : SameIn lo' hi' W W' := ⟨h.1, fun b g1 g2 => h.2 b (by omega) (by omega)⟩
theorem SameIn.of_below {n lo hi : Nat} {W W' : World} (h : Below n W W') (h2 : hi ≤ n) : SameIn lo hi W W' := ⟨h.size, fun b _ g2 => h.block b (by omega)⟩
/-- what lies as it lay from a world on, and what it is told of there -/
theorem SameIn.from {lo : Nat} {A B C : World} (h : SameIn lo A.heap.size A B) (k : SameIn lo B.heap.size B C) : SameIn lo A.heap.size A C := h.trans (k.thin (Nat.le_refl _) h.1)

theorem ownsRow_same {W W' : World} {base : Nat} {T : TypeId} {sz n : Nat} {v : Value} {ys : List Value} {lo hi : Nat} (h : W.ownsRow base T sz v n ys) (hlo : lo ≤ base) (hhi : W.heap.size ≤ hi) (hs : SameIn lo hi W W') : W'.ownsRow base T sz v n ys := by
  rcases h with ⟨h1, h2 | ⟨g, cap, cur, hv, hge, hh, r⟩⟩
  · exact ⟨h1, .inl h2⟩
  · have hg := (Array.getElem?_eq_some_iff.1 hh).1
    exact ⟨h1, .inr ⟨g, cap, cur, hv, hge, (hs.2 g (by omega) (by omega)).trans hh, r⟩⟩
theorem ownsI_same {W W' : World} {base : Nat} {v : Value} {l : List Int} (h : OwnsI W base v l) (hs : SameIn base W.heap.size W W') : Ints W' v l :=
  OwnsI.ints (base := base) (ownsRow_same h (Nat.le_refl _) (Nat.le_refl _) hs)
/-- the cells of an instruction, of a block, of a function in a row: what they lead to lies so in each world of a kind -/
def InYs (S : World → Prop) (ys : List Value) (j : Nat) (x : In) : Prop :=
  ys[j * 6]? = some (.int .i64 x.o) ∧ ys[j * 6 + 1]? = some (.int .i64 x.a) ∧ ys[j * 6 + 2]? = some (.int .i64 x.b) ∧ ys[j * 6 + 3]? = some (.int .u64 x.k) ∧ ys[j * 6 + 4]? = some (.string x.s) ∧
    ∃ A c, ys[j * 6 + 5]? = some (.slice A x.l.length c) ∧ ∀ W, S W → Ints W (.slice A x.l.length c) x.l
def BkYs (S : World → Prop) (ys : List Value) (j : Nat) (x : Bk) : Prop :=
  ys[j * 8]? = some (.int .i64 x.p) ∧ (∃ A c, ys[j * 8 + 1]? = some (.slice A x.i.length c) ∧ ∀ W, S W → Insts W (.slice A x.i.length c) x.i) ∧
    ys[j * 8 + 2]? = some (.int .i64 x.e.k) ∧ ys[j * 8 + 3]? = some (.int .i64 x.e.a) ∧ ys[j * 8 + 4]? = some (.int .i64 x.e.t) ∧
    (∃ A c, ys[j * 8 + 5]? = some (.slice A x.e.l.length c) ∧ ∀ W, S W → Ints W (.slice A x.e.l.length c) x.e.l) ∧ ys[j * 8 + 6]? = some (.int .i64 x.e.e) ∧
    (∃ A c, ys[j * 8 + 7]? = some (.slice A x.e.m.length c) ∧ ∀ W, S W → Ints W (.slice A x.e.m.length c) x.e.m)
def FnYs (S : World → Prop) (ys : List Value) (j : Nat) (x : Fn) : Prop :=
  ys[j * 4]? = some (.string x.s) ∧ ys[j * 4 + 1]? = some (.int .i64 x.b) ∧ ys[j * 4 + 2]? = some (.int .i64 x.p) ∧ ∃ A c, ys[j * 4 + 3]? = some (.slice A x.l.length c) ∧ ∀ W, S W → Blocks W (.slice A x.l.length c) x.l
theorem InYs.mono {S S' : World → Prop} {ys : List Value} {j : Nat} {x : In} (h : InYs S ys j x) (hs : ∀ W, S' W → S W) : InYs S' ys j x := by
  obtain ⟨h0, h1, h2, h3, h4, A, c, h5, h6⟩ := h
  exact ⟨h0, h1, h2, h3, h4, A, c, h5, fun W hW => h6 W (hs W hW)⟩
theorem BkYs.mono {S S' : World → Prop} {ys : List Value} {j : Nat} {x : Bk} (h : BkYs S ys j x) (hs : ∀ W, S' W → S W) : BkYs S' ys j x := by
  obtain ⟨h0, ⟨A, c, h1, g1⟩, h2, h3, h4, ⟨A5, c5, h5, g5⟩, h6, A7, c7, h7, g7⟩ := h
  exact ⟨h0, ⟨A, c, h1, fun W hW => g1 W (hs W hW)⟩, h2, h3, h4, ⟨A5, c5, h5, fun W hW => g5 W (hs W hW)⟩, h6, A7, c7, h7, fun W hW => g7 W (hs W hW)⟩
theorem FnYs.mono {S S' : World → Prop} {ys : List Value} {j : Nat} {x : Fn} (h : FnYs S ys j x) (hs : ∀ W, S' W → S W) : FnYs S' ys j x := by
  obtain ⟨h0, h1, h2, A, c, h3, h4⟩ := h
  exact ⟨h0, h1, h2, A, c, h3, fun W hW => h4 W (hs W hW)⟩
/-- a cell of another thing is written -/
theorem InYs.other {S : World → Prop} {ys : List Value} {j i : Nat} {x : In} (h : InYs S ys j x) (hj : j ≠ i) (u : Value) : InYs S (ys.set (i * 6 + 5) u) j x := by
  have q : ∀ c, c < 6 → (ys.set (i * 6 + 5) u)[j * 6 + c]? = ys[j * 6 + c]? := fun c hc => List.getElem?_set_ne (by omega)
  obtain ⟨h0, h1, h2, h3, h4, A, c, h5, h6⟩ := h
  exact ⟨(q 0 (by omega)).trans h0, (q 1 (by omega)).trans h1, (q 2 (by omega)).trans h2, (q 3 (by omega)).trans h3, (q 4 (by omega)).trans h4, A, c, (q 5 (by omega)).trans h5, h6⟩
theorem BkYs.other {S : World → Prop} {ys : List Value} {j i k : Nat} {x : Bk} (h : BkYs S ys j x) (hj : j ≠ i) (hk : k < 8) (u : Value) : BkYs S (ys.set (i * 8 + k) u) j x := by
  have q : ∀ c, c < 8 → (ys.set (i * 8 + k) u)[j * 8 + c]? = ys[j * 8 + c]? := fun c hc => List.getElem?_set_ne (by omega)
  obtain ⟨h0, ⟨A, c, h1, g1⟩, h2, h3, h4, ⟨A5, c5, h5, g5⟩, h6, A7, c7, h7, g7⟩ := h
  exact ⟨(q 0 (by omega)).trans h0, ⟨A, c, (q 1 (by omega)).trans h1, g1⟩, (q 2 (by omega)).trans h2, (q 3 (by omega)).trans h3, (q 4 (by omega)).trans h4, ⟨A5, c5, (q 5 (by omega)).trans h5, g5⟩, (q 6 (by omega)).trans h6, A7, c7, (q 7 (by omega)).trans h7, g7⟩
theorem FnYs.other {S : World → Prop} {ys : List Value} {j i : Nat} {x : Fn} (h : FnYs S ys j x) (hj : j ≠ i) (u : Value) : FnYs S (ys.set (i * 4 + 3) u) j x := by
  have q : ∀ c, c < 4 → (ys.set (i * 4 + 3) u)[j * 4 + c]? = ys[j * 4 + c]? := fun c hc => List.getElem?_set_ne (by omega)
  obtain ⟨h0, h1, h2, A, c, h3, h4⟩ := h
  exact ⟨(q 0 (by omega)).trans h0, (q 1 (by omega)).trans h1, (q 2 (by omega)).trans h2, A, c, (q 3 (by omega)).trans h3, h4⟩
/-- its own cell is written -/
theorem InYs.put {S S' : World → Prop} {ys : List Value} {i : Nat} {x : In} (h : InYs S ys i x) (hl : i * 6 + 5 < ys.length) {A : Option Addr} {c : Nat} (hn : ∀ W, S' W → Ints W (.slice A x.l.length c) x.l) : InYs S' (ys.set (i * 6 + 5) (.slice A x.l.length c)) i x := by
  have q : ∀ c, c < 5 → ∀ u : Value, (ys.set (i * 6 + 5) u)[i * 6 + c]? = ys[i * 6 + c]? := fun c hc u => List.getElem?_set_ne (by omega)
  obtain ⟨h0, h1, h2, h3, h4, -⟩ := h
  exact ⟨(q 0 (by omega) _).trans h0, (q 1 (by omega) _).trans h1, (q 2 (by omega) _).trans h2, (q 3 (by omega) _).trans h3, (q 4 (by omega) _).trans h4, A, c, List.getElem?_set_self hl, hn⟩
theorem FnYs.put {S S' : World → Prop} {ys : List Value} {i : Nat} {x : Fn} (h : FnYs S ys i x) (hl : i * 4 + 3 < ys.length) {A : Option Addr} {c : Nat} (hn : ∀ W, S' W → Blocks W (.slice A x.l.length c) x.l) : FnYs S' (ys.set (i * 4 + 3) (.slice A x.l.length c)) i x := by
  have q : ∀ c, c < 3 → ∀ u : Value, (ys.set (i * 4 + 3) u)[i * 4 + c]? = ys[i * 4 + c]? := fun c hc u => List.getElem?_set_ne (by omega)
  obtain ⟨h0, h1, h2, -⟩ := h
  exact ⟨(q 0 (by omega) _).trans h0, (q 1 (by omega) _).trans h1, (q 2 (by omega) _).trans h2, A, c, List.getElem?_set_self hl, hn⟩
theorem BkYs.put {S S' : World → Prop} {ys : List Value} {i : Nat} {x : Bk} (h : BkYs S ys i x) (hl : i * 8 + 7 < ys.length) {A A5 A7 : Option Addr} {c c5 c7 : Nat} (hn : ∀ W, S' W → Insts W (.slice A x.i.length c) x.i)
    (hn5 : ∀ W, S' W → Ints W (.slice A5 x.e.l.length c5) x.e.l) (hn7 : ∀ W, S' W → Ints W (.slice A7 x.e.m.length c7) x.e.m) :
    BkYs S' (((ys.set (i * 8 + 1) (.slice A x.i.length c)).set (i * 8 + 5) (.slice A5 x.e.l.length c5)).set (i * 8 + 7) (.slice A7 x.e.m.length c7)) i x := by
  have q : ∀ c, c < 8 → c ≠ 1 → c ≠ 5 → c ≠ 7 → ∀ u u5 u7 : Value, (((ys.set (i * 8 + 1) u).set (i * 8 + 5) u5).set (i * 8 + 7) u7)[i * 8 + c]? = ys[i * 8 + c]? := fun c hc h1 h5 h7 u u5 u7 => by
    rw [List.getElem?_set_ne (by omega), List.getElem?_set_ne (by omega), List.getElem?_set_ne (by omega)]
  obtain ⟨h0, -, h2, h3, h4, -, h6, -⟩ := h
  refine ⟨(q 0 (by omega) (by omega) (by omega) (by omega) _ _ _).trans h0, ⟨A, c, ?_, hn⟩, (q 2 (by omega) (by omega) (by omega) (by omega) _ _ _).trans h2, (q 3 (by omega) (by omega) (by omega) (by omega) _ _ _).trans h3, (q 4 (by omega) (by omega) (by omega) (by omega) _ _ _).trans h4, ⟨A5, c5, ?_, hn5⟩, (q 6 (by omega) (by omega) (by omega) (by omega) _ _ _).trans h6, A7, c7, ?_, hn7⟩
  · rw [List.getElem?_set_ne (by omega), List.getElem?_set_ne (by omega), List.getElem?_set_self (by omega)]
  · rw [List.getElem?_set_ne (by omega), List.getElem?_set_self (by simp; omega)]
  · rw [List.getElem?_set_self (by simp; omega)]
/-- the cells of a row that was cloned -/
theorem in_ys {w0 : World} {b off : Nat} {l : List In} (hp : ∀ (i : Nat) (hi : i < l.length), InAt w0 b (off + i * 6) l[i]) {ys : List Value} (hc : ∀ j, j < l.length * 6 → ys[j]? = w0.cell? ⟨b, off + j, none⟩) :
    ∀ (i : Nat) (hi : i < l.length), InYs (Below w0.heap.size w0) ys i l[i] := fun i hi => by
  have q : ∀ c, c < 6 → ys[i * 6 + c]? = w0.cell? ⟨b, off + i * 6 + c, none⟩ := fun c h => by rw [hc _ (by omega), Nat.add_assoc]
  obtain ⟨h0, h1, h2, h3, h4, A, c, h5, h6⟩ := hp i hi
  exact ⟨(q 0 (by omega)).trans h0, (q 1 (by omega)).trans h1, (q 2 (by omega)).trans h2, (q 3 (by omega)).trans h3, (q 4 (by omega)).trans h4, A, c, (q 5 (by omega)).trans h5, fun W hW => h6.next hW⟩
theorem bk_ys {w0 : World} {b off : Nat} {l : List Bk} (hp : ∀ (i : Nat) (hi : i < l.length), BkAt w0 b (off + i * 8) l[i]) {ys : List Value} (hc : ∀ j, j < l.length * 8 → ys[j]? = w0.cell? ⟨b, off + j, none⟩) :
    ∀ (i : Nat) (hi : i < l.length), BkYs (Below w0.heap.size w0) ys i l[i] := fun i hi => by
  have q : ∀ c, c < 8 → ys[i * 8 + c]? = w0.cell? ⟨b, off + i * 8 + c, none⟩ := fun c h => by rw [hc _ (by omega), Nat.add_assoc]
  obtain ⟨h0, ⟨A, c, h1, g1⟩, h2, h3, h4, ⟨A5, c5, h5, g5⟩, h6, A7, c7, h7, g7⟩ := hp i hi
  exact ⟨(q 0 (by omega)).trans h0, ⟨A, c, (q 1 (by omega)).trans h1, fun W hW => g1.next hW⟩, (q 2 (by omega)).trans h2, (q 3 (by omega)).trans h3, (q 4 (by omega)).trans h4, ⟨A5, c5, (q 5 (by omega)).trans h5, fun W hW => g5.next hW⟩, (q 6 (by omega)).trans h6, A7, c7, (q 7 (by omega)).trans h7, fun W hW => g7.next hW⟩
theorem fn_ys {w0 : World} {b off : Nat} {l : List Fn} (hp : ∀ (i : Nat) (hi : i < l.length), FnAt w0 b (off + i * 4) l[i]) {ys : List Value} (hc : ∀ j, j < l.length * 4 → ys[j]? = w0.cell? ⟨b, off + j, none⟩) :
    ∀ (i : Nat) (hi : i < l.length), FnYs (Below w0.heap.size w0) ys i l[i] := fun i hi => by
  have q : ∀ c, c < 4 → ys[i * 4 + c]? = w0.cell? ⟨b, off + i * 4 + c, none⟩ := fun c h => by rw [hc _ (by omega), Nat.add_assoc]
  obtain ⟨h0, h1, h2, A, c, h3, h4⟩ := hp i hi
  exact ⟨(q 0 (by omega)).trans h0, (q 1 (by omega)).trans h1, (q 2 (by omega)).trans h2, A, c, (q 3 (by omega)).trans h3, fun W hW => h4.next hW⟩
/-- a whole row lies so -/
theorem in_row {W : World} {base : Nat} {v : Value} {l : List In} {ys : List Value} (ho : W.ownsRow base 85 6 v l.length ys) {S : World → Prop} (hS : S W) (h : ∀ (i : Nat) (hi : i < l.length), InYs S ys i l[i]) : Insts W v l := by
  by_cases hl : 0 < l.length
  · obtain ⟨g, cap, e, -, hlt⟩ := ho.form hl
    subst e
    refine .inr ⟨hl, g, 0, cap, rfl, hlt, fun i hi => ?_⟩
    have q : ∀ c, c < 6 → W.cell? ⟨g, 0 + i * 6 + c, none⟩ = ys[i * 6 + c]? := fun c hc => by rw [Nat.zero_add]; exact ho.cellAt _ (by omega)
    obtain ⟨h0, h1, h2, h3, h4, A, c, h5, h6⟩ := h i hi
    exact ⟨(q 0 (by omega)).trans h0, (q 1 (by omega)).trans h1, (q 2 (by omega)).trans h2, (q 3 (by omega)).trans h3, (q 4 (by omega)).trans h4, A, c, (q 5 (by omega)).trans h5, h6 W hS⟩
  · have hl0 : l = [] := by cases l <;> simp_all
    subst hl0
    rcases ho.2 with ⟨rfl, _⟩ | ⟨g, cap, cur, rfl, _⟩
    · exact .inl ⟨rfl, .inl rfl⟩
    · exact .inl ⟨rfl, .inr ⟨_, _, rfl⟩⟩
theorem bk_row {W : World} {base : Nat} {v : Value} {l : List Bk} {ys : List Value} (ho : W.ownsRow base 90 8 v l.length ys) {S : World → Prop} (hS : S W) (h : ∀ (i : Nat) (hi : i < l.length), BkYs S ys i l[i]) : Blocks W v l := by
  by_cases hl : 0 < l.length
  · obtain ⟨g, cap, e, -, hlt⟩ := ho.form hl
    subst e
    refine .inr ⟨hl, g, 0, cap, rfl, hlt, fun i hi => ?_⟩
    have q : ∀ c, c < 8 → W.cell? ⟨g, 0 + i * 8 + c, none⟩ = ys[i * 8 + c]? := fun c hc => by rw [Nat.zero_add]; exact ho.cellAt _ (by omega)
    obtain ⟨h0, ⟨A, c, h1, g1⟩, h2, h3, h4, ⟨A5, c5, h5, g5⟩, h6, A7, c7, h7, g7⟩ := h i hi
    exact ⟨(q 0 (by omega)).trans h0, ⟨A, c, (q 1 (by omega)).trans h1, g1 W hS⟩, (q 2 (by omega)).trans h2, (q 3 (by omega)).trans h3, (q 4 (by omega)).trans h4, ⟨A5, c5, (q 5 (by omega)).trans h5, g5 W hS⟩, (q 6 (by omega)).trans h6, A7, c7, (q 7 (by omega)).trans h7, g7 W hS⟩
  · have hl0 : l = [] := by cases l <;> simp_all
    subst hl0
    rcases ho.2 with ⟨rfl, _⟩ | ⟨g, cap, cur, rfl, _⟩
    · exact .inl ⟨rfl, .inl rfl⟩
    · exact .inl ⟨rfl, .inr ⟨_, _, rfl⟩⟩
theorem fn_row {W : World} {base : Nat} {v : Value} {l : List Fn} {ys : List Value} (ho : W.ownsRow base 78 4 v l.length ys) {S : World → Prop} (hS : S W) (h : ∀ (i : Nat) (hi : i < l.length), FnYs S ys i l[i]) : Funcs W v l := by
  by_cases hl : 0 < l.length
  · obtain ⟨g, cap, e, -, hlt⟩ := ho.form hl
    subst e
    refine .inr ⟨hl, g, 0, cap, rfl, hlt, fun i hi => ?_⟩
    have q : ∀ c, c < 4 → W.cell? ⟨g, 0 + i * 4 + c, none⟩ = ys[i * 4 + c]? := fun c hc => by rw [Nat.zero_add]; exact ho.cellAt _ (by omega)
    obtain ⟨h0, h1, h2, A, c, h3, h4⟩ := h i hi
    exact ⟨(q 0 (by omega)).trans h0, (q 1 (by omega)).trans h1, (q 2 (by omega)).trans h2, A, c, (q 3 (by omega)).trans h3, h4 W hS⟩
  · have hl0 : l = [] := by cases l <;> simp_all
    subst hl0
    rcases ho.2 with ⟨rfl, _⟩ | ⟨g, cap, cur, rfl, _⟩
    · exact .inl ⟨rfl, .inl rfl⟩
    · exact .inl ⟨rfl, .inr ⟨_, _, rfl⟩⟩
/-- small: all rows are short -/
def InS (i : In) : Prop := i.l.length ≤ 1000000
def BkS (b : Bk) : Prop := b.i.length ≤ 1000000 ∧ b.e.l.length ≤ 1000000 ∧ b.e.m.length ≤ 1000000 ∧ ∀ i ∈ b.i, InS i
def FnS (f : Fn) : Prop := f.l.length ≤ 1000000 ∧ ∀ b ∈ f.l, BkS b
def MdSm (m : Md) : Prop := m.f.length ≤ 1000000 ∧ m.g.length ≤ 1000000 ∧ ∀ f ∈ m.f, FnS f
end Go.Proofs.Ytcfniagmnkngfaa

namespace Go.Proofs.Ytcfniagmnkngfaa
open Go.RowKit

/-- the same blocks in new memory -/
def CopyBks (l : List Bk) (n : Nat) (w : World) (e : Ending) (w' : World) : Prop :=
  ∃ A c, e = .returned (.slice A n c) ∧ Below w.heap.size w w' ∧ ∀ W, SameIn w.heap.size w'.heap.size w' W → Blocks W (.slice A n c) l
/-- the blocks' row while they are copied -/
def BkIn (w : World) (l : List Bk) (g s n cap i : Nat) (W : World) : Prop :=
  ∃ ys, W.ownsRow w.heap.size 90 8 (.slice (some ⟨g, 0, none⟩) n cap) n ys ∧ (∀ (j : Nat) (hj : j < l.length), j < i → BkYs (SameIn s W.heap.size W) ys j l[j]) ∧
    (∀ (j : Nat) (hj : j < l.length), i ≤ j → BkYs (Below w.heap.size w) ys j l[j]) ∧ Below w.heap.size w W ∧ s ≤ W.heap.size
/-- a block's instructions while their values are copied -/
def InIn (w wa : World) (l : List In) (v : Value) (b s m k : Nat) (W : World) : Prop :=
  ∃ zs, W.ownsRow b 85 6 v m zs ∧ (∀ (j : Nat) (hj : j < l.length), j < k → InYs (SameIn s W.heap.size W) zs j l[j]) ∧
    (∀ (j : Nat) (hj : j < l.length), k ≤ j → InYs (Below w.heap.size w) zs j l[j]) ∧ Below b wa W ∧ s ≤ W.heap.size ∧ Below w.heap.size w W ∧ ∀ g, v.ownBlock = some g → g < s
theorem setCell_grown (W : World) (a : Addr) (u : Value) : W.grownBy (W.setCell a u) (some a.block) := ⟨rfl, rfl, rfl, by simp, fun q _ hn => Below.heap_setCell _ _ _ _ (fun e => hn (by rw [e]))⟩
theorem below_setc {n : Nat} {w W : World} {a : Addr} {u : Value} (h : Below n w W) (ha : n ≤ a.block) : Below n w (W.setCell a u) :=
  h.trans ⟨rfl, rfl, rfl, by simp, fun q hq => Below.heap_setCell _ _ _ _ (by omega)⟩
/-- an instruction's values were copied -/
theorem inIn_step {w wa wx u : World} {l : List In} {g2 z2 b s m k : Nat} (hl : l.length = m) (hk : k < l.length) (h : InIn w wa l (.slice (some ⟨g2, 0, none⟩) m z2) b s m k wx) (hwb : w.heap.size ≤ b)
    {A : Option Addr} {c : Nat} (hb : Below wx.heap.size wx u) (ho : OwnsI u wx.heap.size (.slice A l[k].l.length c) l[k].l) :
    (∃ z, u.cell? ⟨g2, k * 6 + 5, none⟩ = some z) ∧ u.frozen? ⟨g2, k * 6 + 5, none⟩ = false ∧ InIn w wa l (.slice (some ⟨g2, 0, none⟩) m z2) b s m (k + 1) (u.setCell ⟨g2, k * 6 + 5, none⟩ (.slice A l[k].l.length c)) := by
  obtain ⟨zs, h1, h2, h3, h4, h5, h6, h7⟩ := h
  have hgs : g2 < s := h7 g2 rfl
  have hzs : zs.length = m * 6 := h1.1
  have o1 := h1.kept (grown_keep hb) (.inr (by simp [Value.ownBlock]))
  obtain ⟨o2, g⟩ := o1.stored (k * 6 + 5) (.slice A l[k].l.length c)
  have hbg : b ≤ g2 := (h1.lt g2 rfl).1
  have hlt : g2 < wx.heap.size := (h1.lt g2 rfl).2
  refine ⟨⟨_, (o1.cellAt _ (by omega)).trans (List.getElem?_eq_getElem (by omega))⟩, o1.frozenAt _, _, o2, fun j hj hjk => ?_, fun j hj hjk => ?_, ?_, ?_, ?_, h7⟩
  · by_cases e : j = k
    · subst e
      refine (h3 j hj (Nat.le_refl _)).put (by omega) (fun W hW => ?_)
      refine ownsI_same ho ⟨?_, fun q q1 q2 => ?_⟩
      · have := hW.1; simpa using this
      · rw [hW.2 q (by omega) (by simpa using q2)]
        exact Below.heap_setCell _ _ _ _ (by simp; omega)
    · refine ((h2 j hj (by omega)).other e _).mono (fun W hW => ⟨?_, fun q q1 q2 => ?_⟩)
      · have := hW.1; have := hb.size; simp at *; omega
      · rw [hW.2 q q1 (by have := hb.size; simp; omega), Below.heap_setCell _ _ _ _ (by simp; omega), hb.block q q2]
  · exact (h3 j hj (by omega)).other (by omega) _
  · exact below_setc (h4.trans (hb.mono (by omega))) (by simpa using hbg)
  · have := hb.size; simp; omega
  · exact below_setc (h6.trans (hb.mono (by omega))) (by simp; omega)
/-- a block was copied -/
theorem bkIn_step {w wz u1 u2 : World} {l : List Bk} {g s n cap i : Nat} (hl : l.length = n) (hi : i < l.length) {ys : List Value} (hgs : g < s)
    (h1 : wz.ownsRow w.heap.size 90 8 (.slice (some ⟨g, 0, none⟩) n cap) n ys) {A2 : Option Addr} {z2 : Nat} {ys0 : List Value} (he : ys = ys0.set (i * 8 + 1) (.slice A2 l[i].i.length z2))
    (h2 : ∀ (j : Nat) (hj : j < l.length), j < i → BkYs (SameIn s wz.heap.size wz) ys0 j l[j]) (h3 : ∀ (j : Nat) (hj : j < l.length), i ≤ j → BkYs (Below w.heap.size w) ys0 j l[j]) (h4 : Below w.heap.size w wz) (h5 : s ≤ wz.heap.size)
    (hI : ∀ W, SameIn s wz.heap.size wz W → Insts W (.slice A2 l[i].i.length z2) l[i].i)
    {A9 A0 : Option Addr} {c9 c0 : Nat} (hb5 : Below wz.heap.size wz u1) (ho5 : OwnsI u1 wz.heap.size (.slice A9 l[i].e.l.length c9) l[i].e.l) (hb7 : Below u1.heap.size u1 u2) (ho7 : OwnsI u2 u1.heap.size (.slice A0 l[i].e.m.length c0) l[i].e.m) :
    (∃ z, u2.cell? ⟨g, i * 8 + 5, none⟩ = some z) ∧ u2.frozen? ⟨g, i * 8 + 5, none⟩ = false ∧ (∃ z, (u2.setCell ⟨g, i * 8 + 5, none⟩ (.slice A9 l[i].e.l.length c9)).cell? ⟨g, i * 8 + 7, none⟩ = some z) ∧ (u2.setCell ⟨g, i * 8 + 5, none⟩ (.slice A9 l[i].e.l.length c9)).frozen? ⟨g, i * 8 + 7, none⟩ = false ∧
      BkIn w l g s n cap (i + 1) ((u2.setCell ⟨g, i * 8 + 5, none⟩ (.slice A9 l[i].e.l.length c9)).setCell ⟨g, i * 8 + 7, none⟩ (.slice A0 l[i].e.m.length c0)) := by
  have hb := bthen hb5 hb7
  have hy : ys.length = n * 8 := h1.1
  have hwg : w.heap.size ≤ g := (h1.lt g rfl).1
  have hgz : g < wz.heap.size := (h1.lt g rfl).2
  have o1 := h1.kept (grown_keep hb) (.inr (by simp [Value.ownBlock]))
  obtain ⟨o2, g2⟩ := o1.stored (i * 8 + 5) (.slice A9 l[i].e.l.length c9)
  obtain ⟨o3, g3⟩ := o2.stored (i * 8 + 7) (.slice A0 l[i].e.m.length c0)
  have z1 := hb5.size
  have z2' := hb7.size
  have low : ∀ (W : World), SameIn s ((u2.setCell ⟨g, i * 8 + 5, none⟩ (.slice A9 l[i].e.l.length c9)).setCell ⟨g, i * 8 + 7, none⟩ (.slice A0 l[i].e.m.length c0)).heap.size ((u2.setCell ⟨g, i * 8 + 5, none⟩ (.slice A9 l[i].e.l.length c9)).setCell ⟨g, i * 8 + 7, none⟩ (.slice A0 l[i].e.m.length c0)) W → SameIn s u2.heap.size u2 W := fun W hW => ⟨by have := hW.1; simpa using this, fun q q1 q2 => by
    rw [hW.2 q q1 (by simpa using q2), Below.heap_setCell _ _ _ _ (by simp; omega), Below.heap_setCell _ _ _ _ (by simp; omega)]⟩
  have low2 : ∀ (W : World), SameIn s u2.heap.size u2 W → SameIn s wz.heap.size wz W := fun W hW => ⟨by have := hW.1; omega, fun q q1 q2 => (hW.2 q q1 (by omega)).trans (hb.block q q2)⟩
  refine ⟨⟨_, (o1.cellAt _ (by omega)).trans (List.getElem?_eq_getElem (by omega))⟩, o1.frozenAt _, ⟨_, (o2.cellAt _ (by omega)).trans (List.getElem?_eq_getElem (by rw [o2.1]; omega))⟩, o2.frozenAt _, _, o3, fun j hj hji => ?_, fun j hj hji => ?_, ?_, ?_⟩
  · subst he
    by_cases e : j = i
    · subst e
      refine (h3 j hj (Nat.le_refl _)).put (by simp at hy; omega) (fun W hW => hI W (low2 W (low W hW))) (fun W hW => ?_) (fun W hW => ?_)
      · have h := low W hW
        exact ownsI_same ho5 ⟨by have := h.1; omega, fun q q1 q2 => (h.2 q (by omega) (by omega)).trans (hb7.block q q2)⟩
      · have h := low W hW
        exact ownsI_same ho7 ⟨h.1, fun q q1 q2 => h.2 q (by omega) q2⟩
    · exact ((((h2 j hj (by omega)).other e (by omega) _).other e (by omega) _).other e (by omega) _).mono (fun W hW => low2 W (low W hW))
  · subst he
    exact ((((h3 j hj (by omega)).other (by omega) (by omega) _).other (by omega) (by omega) _).other (by omega) (by omega) _)
  · exact below_setc (below_setc (h4.trans (hb.mono h4.size)) (by simpa using hwg)) (by simpa using hwg)
  · simp; omega
theorem ins_src {w wr : World} {A1 : Option Addr} {c1 : Nat} {l : List In} {zs : List Value} {b off cp n : Nat} (h : Insts w (.slice A1 l.length c1) l) (h0 : 0 < l.length) (hv : Value.slice A1 l.length c1 = .slice (some ⟨b, off, none⟩) n cp) (hB : Below w.heap.size w wr)
    (hc : ∀ j, j < l.length * 6 → zs[j]? = wr.cell? ⟨b, off + j, none⟩) : ∀ (i : Nat) (hi : i < l.length), InYs (Below w.heap.size w) zs i l[i] := by
  rcases h with ⟨rfl, -⟩ | ⟨-, b', off', cap, e, hb, hp⟩
  · simp at h0
  · have e2 := (Value.slice.inj (hv.symm.trans e)).1
    simp only [Option.some.injEq, Addr.mk.injEq, and_true] at e2
    obtain ⟨rfl, rfl⟩ := e2
    exact in_ys hp (fun j hj => (hc j hj).trans (cellNext hb hB _))
theorem InIn.drew {w wa : World} {l : List In} {v : Value} {b s m k : Nat} {W : World} (h : InIn w wa l v b s m k W) : InIn w wa l v b s m k W.drew := by
  obtain ⟨zs, h1, h2, h3, h4, h5, h6, h7⟩ := h
  exact ⟨zs, h1, h2, h3, h4.drew, h5, h6.drew, h7⟩
theorem inIn_done {w wa : World} {l : List In} {v : Value} {b s2 m k s : Nat} {W : World} (h : InIn w wa l v b s2 m k W) (hk : m ≤ k) (hl : l.length = m) (hsb : s ≤ b) (hs2 : s ≤ s2) : ∀ W', SameIn s W.heap.size W W' → Insts W' v l := by
  obtain ⟨zs, h1, h2, -, -, -, -, -⟩ := h
  intro W' hW
  subst hl
  exact in_row (ownsRow_same h1 hsb (Nat.le_refl _) hW) (S := SameIn s2 W.heap.size W) (hW.thin hs2 (Nat.le_refl _)) (fun i hi => h2 i hi (by omega))
theorem ownsRow_at {W W' : World} {base : Nat} {T : TypeId} {sz n : Nat} {g cap : Nat} {ys : List Value} (h : W.ownsRow base T sz (.slice (some ⟨g, 0, none⟩) n cap) n ys) (hs : W'.heap[g]? = W.heap[g]?) : W'.ownsRow base T sz (.slice (some ⟨g, 0, none⟩) n cap) n ys := by
  rcases h with ⟨h1, h2 | ⟨g', cap', cur, hv, hge, hh, r⟩⟩
  · exact ⟨h1, .inl h2⟩
  · have e := (Value.slice.inj hv).1
    simp only [Option.some.injEq, Addr.mk.injEq, and_true] at e
    subst e
    exact ⟨h1, .inr ⟨g, cap', cur, hv, hge, hs.trans hh, r⟩⟩
set_option maxRecDepth 100000 in
set_option maxHeartbeats 8000000 in
theorem copiedBlocks_any (l : List Bk) (A : Option Addr) (n c : Nat) (w : World) (hn : l.length = n) (hs : n ≤ 1000000 ∧ ∀ b ∈ l, BkS b) (hS : Blocks w (.slice A n c) l) :
    Calls Try.prog 146 #[.slice A n c] w (CopyBks l n w) := by
  have HC := Lib.hid (cloneBks_any hS (by omega))
  have HN := Lib.hid (show l.length ≤ n ∧ n ≤ l.length by omega)
  have HSB := Lib.hid hs.2
  have n1 : (n : Int) ≤ 1000000 := by omega
  have HNQ := Lib.hid hn
  clear hS hs hn
  go_enter Try.func146, Try.ntmps146
  go_wp2_with fail
  refine HC.out.mono ?_
  rintro r w1 ⟨v1, ys, rfl, ho, -, hb1, hsrc⟩
  rw [HNQ.out] at ho
  rcases ho.2 with ⟨rfl, hn0⟩ | ⟨g, cap, cur, rfl, hge, hh, -⟩
  · have HL0 := Lib.hid (show l = [] from List.length_eq_zero_iff.1 (by have := HN.out; omega))
    have HB1 := Lib.hid hb1
    subst hn0
    clear ho hb1 hsrc HC
    go_wp2_with fail
    go_loopw [10] (fun iv wr => iv = .int .i64 0 ∧ w1 = wr) (fun _ _ => 0)
    case atStart => exact ⟨rfl, rfl⟩
    case round =>
      obtain ⟨rfl, rfl⟩ := hrel
      go_wp2_with fail
      go_ret
      exact ⟨_, _, rfl, HB1.out, fun W _ => by rw [HL0.out]; exact .inl ⟨rfl, .inl rfl⟩⟩
  · obtain ⟨s, hsz⟩ : ∃ s, w1.heap.size = s := ⟨_, rfl⟩
    have HGS := Lib.hid (show w.heap.size ≤ g ∧ g < s by rw [← hsz]; exact ⟨hge, (Array.getElem?_eq_some_iff.1 hh).1⟩)
    have HIN := Lib.hid (show BkIn w l g s n cap 0 w1 from ⟨ys, ho, fun j _ h => absurd h (by omega), fun j hj _ => by
      obtain ⟨b, off, cp, -, -, hp, hc⟩ := hsrc (by omega)
      exact bk_ys hp hc j hj, hb1, by omega⟩)
    clear ho hb1 hsrc HC hge hh hsz
    go_wp2_with fail
    go_loopw [10] (fun iv wr => ∃ i : Nat, i ≤ n ∧ iv = .int .i64 i ∧ BkIn w l g s n cap i wr) (fun iv _ => n - (intOf iv).toNat)
    case atStart => exact ⟨0, Nat.zero_le _, rfl, HIN.out⟩
    case round =>
      obtain ⟨i, hi, rfl, hin⟩ := hrel
      have HI := Lib.hid hin
      clear hin HIN
      by_cases hlt : i < n
      · have hm : i < l.length := by have := HN.out; omega
        obtain ⟨ys1, ho, hnew, hold, hb, hs⟩ := HI.out
        clear HI
        have hx := hold i hm (Nat.le_refl _)
        have hbs := HSB.out _ (List.getElem_mem hm)
        obtain ⟨y0, ⟨A1, c1, y1, g1⟩, y2, y3, y4, ⟨A5, c5, y5, g5⟩, y6, A7, c7, y7, g7⟩ := hx
        have hyl : ys1.length = n * 8 := ho.1
        have HOLD := Lib.hid hold
        have HNEW := Lib.hid hnew
        have HB := Lib.hid hb
        have HSS := Lib.hid hs
        have HO := Lib.hid ho
        have HY1 := Lib.hid y1
        have HY5 := Lib.hid y5
        have HY7 := Lib.hid y7
        have HG1 := Lib.hid g1
        have HG5 := Lib.hid g5
        have HG7 := Lib.hid g7
        have HBS := Lib.hid hbs
        have HHM := Lib.hid (show i < l.length ∧ i < l.length from ⟨hm, hm⟩)
        have HYL := Lib.hid (show ys1.length ≤ n * 8 ∧ n * 8 ≤ ys1.length by omega)
        have HLT := Lib.hid hlt
        clear hold hnew hb hs y0 y2 y3 y4 y6 g1 g5 g7 hbs
        have c1w : wr.cell? ⟨g, i * 8 + 1, none⟩ = some (.slice A1 l[i].i.length c1) := (ho.cellAt _ (by omega)).trans y1
        have HCI := Lib.hid (cloneIns_any (HG1.out wr HB.out) (by have := HBS.out.1; omega))
        obtain ⟨m, hmm⟩ : ∃ m, l[i].i.length = m := ⟨_, rfl⟩
        rw [hmm] at c1w HCI
        have HM := Lib.hid (show l[i].i.length ≤ m ∧ m ≤ l[i].i.length by omega)
        have m1 : (m : Int) ≤ 1000000 := by have := HBS.out.1; omega
        have HMM := Lib.hid (show (l[i]'(HHM.out.1)).i.length = m from hmm)
        have hk0 : (0 : Int) ≤ (i : Int) := Int.natCast_nonneg _
        have hk1 : (i : Int) < (n : Int) := by omega
        clear ho hyl y1 y5 y7 hmm
        go_wp2_with fail
        refine HCI.out.mono ?_
        rintro r w2 ⟨v2, zs, rfl, ho2, hrow2, hb2, hsrc2⟩
        obtain ⟨A2, z2, hv2⟩ := RowOf.slice hrow2
        rw [HMM.out] at hv2 ho2
        subst hv2
        have oA := HO.out.kept (grown_keep hb2) (.inr (by simp [Value.ownBlock]))
        have f1 : w2.frozen? ⟨g, i * 8 + 1, none⟩ = false := oA.frozenAt _
        obtain ⟨e1, z1⟩ : ∃ z, w2.cell? ⟨g, i * 8 + 1, none⟩ = some z := ⟨_, (oA.cellAt _ (by omega)).trans HY1.out⟩
        obtain ⟨oB, gB⟩ := oA.stored (i * 8 + 1) (.slice A2 m z2)
        have cB : (w2.setCell ⟨g, i * 8 + 1, none⟩ (.slice A2 m z2)).cell? ⟨g, i * 8 + 1, none⟩ = some (.slice A2 m z2) := (oB.cellAt _ (by omega)).trans (List.getElem?_set_self (by have := HYL.out; omega))
        have HGW := Lib.hid (show g < wr.heap.size from (HO.out.lt g rfl).2)
        have HZ0 := Lib.hid hb2.size
        obtain ⟨s2, hs2⟩ : ∃ s2, w2.heap.size = s2 := ⟨_, rfl⟩
        obtain ⟨b2, hbb2⟩ : ∃ s2, wr.heap.size = s2 := ⟨_, rfl⟩
        rw [hbb2] at ho2 HGW HZ0
        have HBW := Lib.hid (show w.heap.size ≤ b2 by rw [← hbb2]; exact HB.out.size)
        rw [hs2] at HZ0
        obtain ⟨W3, hW3⟩ : ∃ W3, w2.setCell ⟨g, i * 8 + 1, none⟩ (.slice A2 m z2) = W3 := ⟨_, rfl⟩
        have HW3 := Lib.hid (show W3.heap.size ≤ s2 ∧ s2 ≤ W3.heap.size by rw [← hW3, ← hs2]; simp)
        have HSAME := Lib.hid (show (∀ q, s ≤ q → q < b2 → W3.heap[q]? = wr.heap[q]?) ∧ Below w.heap.size w W3 from by
          have h1 := HGS.out
          have h2 := HB.out.size
          refine ⟨fun q q1 q2 => ?_, ?_⟩
          · rw [← hW3, Below.heap_setCell _ _ _ _ (by simp; omega)]
            exact hb2.block q (by omega)
          · rw [← hW3]
            exact below_setc (HB.out.trans (hb2.mono h2)) (by simp; omega))
        have HII := Lib.hid (show InIn w W3 l[i].i (.slice A2 m z2) b2 s2 m 0 W3 from by
          refine ⟨zs, ?_, fun j _ h => absurd h (by omega), fun j hj _ => ?_, Below.refl _ _, HW3.out.2, HSAME.out.2, fun q hq => by have := (ho2.lt q hq).2; omega⟩
          · rw [← hW3]
            exact ho2.kept (setCell_grown _ _ _) (by
              by_cases e : (Value.slice A2 m z2).ownBlock = none
              · exact .inl e
              · right
                intro e2
                have := ho2.lt g e2
                have := HGW.out
                omega)
          · obtain ⟨b, off, cp, hv, -, -, hc⟩ := hsrc2 (by omega)
            have h9 := HMM.out
            exact ins_src (HG1.out w (Below.refl _ _)) (by omega) (by rw [h9]; exact hv) HB.out hc j hj)
        have HSB2 := Lib.hid (show s ≤ b2 by rw [← hbb2]; exact HSS.out)
        have HCH := Lib.hid (fun (wz W : World) (h : Below b2 W3 wz) (hW : SameIn s wz.heap.size wz W) => (show SameIn s wr.heap.size wr W from by
          have h1 := h.size
          have h2 := HW3.out
          have h3 := HZ0.out
          have h4 := hW.1
          refine ⟨by omega, fun q q1 q2 => ?_⟩
          rw [hbb2] at q2
          rw [hW.2 q q1 (by omega), h.block q q2, HSAME.out.1 q q1 q2]))
        have HOB := Lib.hid oB
        have HCB := Lib.hid cB
        clear ho2 hrow2 hb2 hsrc2 oA oB gB
        rw [hW3] at cB HOB HCB
        go_wp2_with fail
        clear hW3 f1 z1 cB c1w
        go_loopw [29] (fun kv wi => ∃ k : Nat, k ≤ m ∧ kv = .int .i64 k ∧ InIn w W3 l[i].i (.slice A2 m z2) b2 s2 m k wi) (fun kv _ => m - (intOf kv).toNat)
        case atStart => exact ⟨0, Nat.zero_le _, rfl, HII.out⟩
        case round =>
          obtain ⟨k, hk, rfl, hin⟩ := hrel
          have HX := Lib.hid hin
          clear hin
          by_cases hlk : k < m
          · have hkm : k < l[i].i.length := by have := HM.out; omega
            obtain ⟨zs1, o1, o2, o3, o4, o5, o6, o7⟩ := HX.out
            obtain ⟨g2, cap2, hv2, hge2, hlt2⟩ := o1.form (by omega)
            have ev := Value.slice.inj hv2
            obtain ⟨rfl, -, rfl⟩ := ev
            obtain ⟨x0, x1, x2, x3, x4, A4, c4, x5, g4⟩ := o3 k hkm (Nat.le_refl _)
            have hd : wr.drew.cell? ⟨g, i * 8 + 1, none⟩ = some (.slice (some ⟨g2, 0, none⟩) m z2) := (World.cell?_of_block (o4.block g HGW.out)).trans HCB.out
            have e12 : wr.drew.cell? ⟨g2, k * 6 + 5, none⟩ = some (.slice A4 l[i].i[k].l.length c4) := (o1.cellAt _ (by omega)).trans x5
            have HCL := Lib.hid (fun (U : World) (hU : Below w.heap.size w U) => iclone_any (g4 U hU) (by have := (HBS.out.2.2.2 _ (List.getElem_mem hkm)); unfold InS at this; omega))
            have HBD := Lib.hid o6.drew
            have HSC := Lib.hid (fun (U : World) (hU : Below wr.drew.heap.size wr.drew U) => (show U.cell? ⟨g, i * 8 + 1, none⟩ = some (.slice (some ⟨g2, 0, none⟩) m z2) from (cellNext (by have := HGW.out; have := o4.size; have := HW3.out; have := HZ0.out; show g < wr.heap.size; omega) hU _).trans hd))
            have HST := Lib.hid (fun (u : World) (A9 : Option Addr) (c9 : Nat) (hb : Below wr.drew.heap.size wr.drew u) (ho : OwnsI u wr.drew.heap.size (.slice A9 l[i].i[k].l.length c9) l[i].i[k].l) =>
              (show (∃ z, u.cell? ⟨g2, k * 6 + 5, none⟩ = some z) ∧ u.frozen? ⟨g2, k * 6 + 5, none⟩ = false ∧ ((u.setCell ⟨g2, k * 6 + 5, none⟩ (.slice A9 l[i].i[k].l.length c9)).cell? ⟨g, i * 8 + 1, none⟩ = some (.slice (some ⟨g2, 0, none⟩) m z2) ∧ InIn w W3 l[i].i (.slice (some ⟨g2, 0, none⟩) m z2) b2 s2 m (k + 1) (u.setCell ⟨g2, k * 6 + 5, none⟩ (.slice A9 l[i].i[k].l.length c9))) from by
                obtain ⟨q1, q2, q3⟩ := inIn_step (A := A9) (c := c9) HMM.out hkm HX.out.drew HBW.out hb ho
                refine ⟨q1, q2, ?_, q3⟩
                rw [World.cell?_of_block (Below.heap_setCell _ _ _ _ (show g ≠ g2 by have := HGW.out; omega))]
                exact HSC.out u hb))
            have hk9 : (0 : Int) ≤ (k : Int) := Int.natCast_nonneg _
            have hk8 : (k : Int) < (m : Int) := by omega
            have HLK := Lib.hid hlk
            have HX1 := Lib.hid (fun (u : World) (A9 : Option Addr) (c9 : Nat) => (show True from trivial))
            clear HX o1 o2 o3 o4 o5 o6 o7 hv2 hge2 hlt2 x0 x1 x2 x3 x4 x5 g4 hlk HX1
            go_upto_region 10 with fail
            refine wp_region_held_drew (S := (fun U => U.cell? ⟨g, i * 8 + 1, none⟩ = some (.slice (some ⟨g2, 0, none⟩) m z2))) (by kernel_rfl) hd (fun hHeld => ?_)
            refine wpAnyH_take (i := 0) (v := ?_) rfl (by kernel_rfl) (by kernel_rfl) (by kernel_rfl) (fun _ _ _ h => h) (Or.inl ⟨by rfl, ?_⟩) hHeld ?_
            rotate_left
            · intro W' hSw; (try dsimp only at hSw); go_simp; try (with_reducible rfl)
            (try simp only [Act.put, List.getElem_toArray, List.getElem_cons_zero, List.setIfInBounds_toArray, List.set_cons_zero, List.set_cons_succ])
            refine wpAnyH_take (i := 1) (v := ?_) rfl (by kernel_rfl) (by kernel_rfl) (by kernel_rfl) (fun _ _ _ h => h) (Or.inl ⟨by rfl, ?_⟩) hHeld ?_
            rotate_left
            · intro W' hSw; (try dsimp only at hSw); go_simp; try (with_reducible rfl)
            (try simp only [Act.put, List.getElem_toArray, List.getElem_cons_zero, List.getElem_cons_succ, List.setIfInBounds_toArray, List.set_cons_zero, List.set_cons_succ])
            refine wpAnyH_take (i := 2) (v := ?_) rfl (by kernel_rfl) (by kernel_rfl) (by kernel_rfl) (fun _ _ _ h => h) (Or.inl ⟨by rfl, ?_⟩) hHeld ?_
            rotate_left
            · intro W' hSw; (try dsimp only at hSw); go_simp; try (with_reducible rfl)
            (try simp only [Act.put, List.getElem_toArray, List.getElem_cons_zero, List.getElem_cons_succ, List.setIfInBounds_toArray, List.set_cons_zero, List.set_cons_succ])
            refine wpAnyH_take (i := 3) (v := ?_) rfl (by kernel_rfl) (by kernel_rfl) (by kernel_rfl) (fun _ _ _ h => h) (Or.inl ⟨by rfl, ?_⟩) hHeld ?_
            rotate_left
            · intro W' hSw; (try dsimp only at hSw); go_simp; try (with_reducible rfl)
            (try simp only [Act.put, List.getElem_toArray, List.getElem_cons_zero, List.getElem_cons_succ, List.setIfInBounds_toArray, List.set_cons_zero, List.set_cons_succ])
            refine wpAnyH_take (i := 4) (v := ?_) rfl (by kernel_rfl) (by kernel_rfl) (by kernel_rfl) (fun _ _ _ h => h) (Or.inl ⟨by rfl, ?_⟩) hHeld ?_
            rotate_left
            · intro W' hSw; (try dsimp only at hSw); go_simp; try (with_reducible rfl)
            (try simp only [Act.put, List.getElem_toArray, List.getElem_cons_zero, List.getElem_cons_succ, List.setIfInBounds_toArray, List.set_cons_zero, List.set_cons_succ])
            refine wpAnyH_take (i := 5) (v := ?_) rfl (by kernel_rfl) (by kernel_rfl) (by kernel_rfl) (fun _ _ _ h => h) (Or.inl ⟨by rfl, ?_⟩) hHeld ?_
            rotate_left
            · intro W' hSw; (try dsimp only at hSw); go_simp; try (with_reducible rfl)
            (try simp only [Act.put, List.getElem_toArray, List.getElem_cons_zero, List.getElem_cons_succ, List.setIfInBounds_toArray, List.set_cons_zero, List.set_cons_succ])
            refine wpAnyH_take (i := 6) (v := ?_) rfl (by kernel_rfl) (by kernel_rfl) (by kernel_rfl) (fun _ _ _ h => h) (Or.inl ⟨by rfl, ?_⟩) hHeld ?_
            rotate_left
            · intro W' hSw; (try dsimp only at hSw); go_simp; try (with_reducible rfl)
            (try simp only [Act.put, List.getElem_toArray, List.getElem_cons_zero, List.getElem_cons_succ, List.setIfInBounds_toArray, List.set_cons_zero, List.set_cons_succ])
            refine wpAnyH_take (i := 7) (v := ?_) rfl (by kernel_rfl) (by kernel_rfl) (by kernel_rfl) (fun _ _ _ h => h) (Or.inl ⟨by rfl, ?_⟩) hHeld ?_
            rotate_left
            · intro W' hSw; (try dsimp only at hSw); go_simp; try (with_reducible rfl)
            (try simp only [Act.put, List.getElem_toArray, List.getElem_cons_zero, List.getElem_cons_succ, List.setIfInBounds_toArray, List.set_cons_zero, List.set_cons_succ])
            refine wpAnyH_take (i := 8) (v := ?_) rfl (by kernel_rfl) (by kernel_rfl) (by kernel_rfl) (fun _ _ _ h => h) (Or.inl ⟨by rfl, ?_⟩) hHeld ?_
            rotate_left
            · intro W' hSw; (try dsimp only at hSw); go_simp; try (with_reducible rfl)
            (try simp only [Act.put, List.getElem_toArray, List.getElem_cons_zero, List.getElem_cons_succ, List.setIfInBounds_toArray, List.set_cons_zero, List.set_cons_succ])
            refine wpAnyH_take (i := 9) (v := ?_) rfl (by kernel_rfl) (by kernel_rfl) (by kernel_rfl) (fun _ _ _ h => h) (Or.inl ⟨by rfl, ?_⟩) hHeld ?_
            rotate_left
            · intro W' hSw; (try dsimp only at hSw); go_simp; try (with_reducible rfl)
            (try simp only [Act.put, List.getElem_toArray, List.getElem_cons_zero, List.getElem_cons_succ, List.setIfInBounds_toArray, List.set_cons_zero, List.set_cons_succ])
            refine wpAnyH_take (i := 10) (v := ?_) rfl (by kernel_rfl) (by kernel_rfl) (by kernel_rfl) (fun _ _ _ h => h) (Or.inl ⟨by rfl, ?_⟩) hHeld ?_
            rotate_left
            · intro W' hSw; (try dsimp only at hSw); go_simp; try (with_reducible rfl)
            (try simp only [Act.put, List.getElem_toArray, List.getElem_cons_zero, List.getElem_cons_succ, List.setIfInBounds_toArray, List.set_cons_zero, List.set_cons_succ])
            refine wpAnyH_take (i := 11) (v := ?_) rfl (by kernel_rfl) (by kernel_rfl) (by kernel_rfl) (fun _ _ _ h => h) (Or.inl ⟨by rfl, ?_⟩) hHeld ?_
            rotate_left
            · intro W' hSw; (try dsimp only at hSw); go_simp; try (with_reducible rfl)
            (try simp only [Act.put, List.getElem_toArray, List.getElem_cons_zero, List.getElem_cons_succ, List.setIfInBounds_toArray, List.set_cons_zero, List.set_cons_succ])
            refine wpAnyH_ready (rs := [12]) (by kernel_rfl) (by simp) ?_
            refine AllReadyH.cons rfl (fun K hK => ?_) AllReadyH.nil
            go_simp
            refine hK.out _ _ hd (fun hHeld => ?_)
            clear hK
            (try simp only [Act.put, List.getElem_toArray, List.getElem_cons_zero, List.getElem_cons_succ, List.setIfInBounds_toArray, List.set_cons_zero, List.set_cons_succ])
            refine wpAnyH_ready (rs := [13]) (by kernel_rfl) (by simp) ?_
            refine AllReadyH.cons rfl (fun K hK => ?_) AllReadyH.nil
            go_simp
            refine Calls.mono (HCL.out _ HBD.out) ?_
            rintro r u1 ⟨v5, rfl, ho5, hb5⟩
            obtain ⟨A9, c9, hv9⟩ := (OwnsI.ints ho5).slice
            subst hv9
            have hd1 := HSC.out u1 hb5
            obtain ⟨⟨z9, e9⟩, f9, HFIN⟩ := HST.out u1 A9 c9 hb5 ho5
            refine hK.out _ _ hd1 (fun hHeld => ?_)
            clear hK
            (try simp only [Act.put, List.getElem_toArray, List.getElem_cons_zero, List.getElem_cons_succ, List.setIfInBounds_toArray, List.set_cons_zero, List.set_cons_succ])
            refine wpAnyH_take (i := 14) (v := ?_) rfl (by kernel_rfl) (by kernel_rfl) (by kernel_rfl) (fun _ _ _ h => h) (Or.inl ⟨by rfl, ?_⟩) hHeld ?_
            rotate_left
            · intro W' hSw; (try dsimp only at hSw); go_simp; try (with_reducible rfl)
            (try simp only [Act.put, List.getElem_toArray, List.getElem_cons_zero, List.getElem_cons_succ, List.setIfInBounds_toArray, List.set_cons_zero, List.set_cons_succ])
            refine wpAnyH_take (i := 15) (v := ?_) rfl (by kernel_rfl) (by kernel_rfl) (by kernel_rfl) (fun _ _ _ h => h) (Or.inl ⟨by rfl, ?_⟩) hHeld ?_
            rotate_left
            · intro W' hSw; (try dsimp only at hSw); go_simp; try (with_reducible rfl)
            (try simp only [Act.put, List.getElem_toArray, List.getElem_cons_zero, List.getElem_cons_succ, List.setIfInBounds_toArray, List.set_cons_zero, List.set_cons_succ])
            refine wpAnyH_ready (rs := [16]) (by kernel_rfl) (by simp) ?_
            refine AllReadyH.cons rfl (fun K hK => ?_) AllReadyH.nil
            go_simp
            obtain ⟨hd2, HF⟩ := HFIN
            refine hK.out _ _ hd2 (fun hHeld => ?_)
            clear hK
            (try simp only [Act.put, List.getElem_toArray, List.getElem_cons_zero, List.getElem_cons_succ, List.setIfInBounds_toArray, List.set_cons_zero, List.set_cons_succ])
            refine wpAnyH_done (by kernel_rfl) ?_ _
            have HXX := Lib.hid HF
            clear HF hd hd1 hd2 hHeld e9 f9 e12 ho5 hb5
            go_wp2_with fail
            go_roundw
            case rel => exact ⟨k + 1, HLK.out, by go_num, HXX.out⟩
            case measure => have := HLK.out; simp [intOf]; omega
          · have hd : decide ((k : Int) < (m : Int)) = false := by simp; omega
            have hIN := inIn_done (s := s) HX.out (by omega) HMM.out HSB2.out (Nat.le_trans HSB2.out HZ0.out)
            obtain ⟨zs1, -, -, -, o4, o5, o6, -⟩ := HX.out
            have oz := ownsRow_at HOB.out (o4.block g HGW.out)
            have e6 : wr.drew.cell? ⟨g, i * 8 + 5, none⟩ = some (.slice A5 l[i].e.l.length c5) := (oz.cellAt _ (by omega)).trans ((List.getElem?_set_ne (by omega)).trans HY5.out)
            have e12 : wr.drew.cell? ⟨g, i * 8 + 7, none⟩ = some (.slice A7 l[i].e.m.length c7) := (oz.cellAt _ (by omega)).trans ((List.getElem?_set_ne (by omega)).trans HY7.out)
            have HC5 := Lib.hid (fun (U : World) (hU : Below w.heap.size w U) => iclone_any (HG5.out U hU) (by have := HBS.out.2.1; omega))
            have HC7 := Lib.hid (fun (U : World) (hU : Below w.heap.size w U) => iclone_any (HG7.out U hU) (by have := HBS.out.2.2.1; omega))
            have HBD := Lib.hid o6.drew
            have HGX := Lib.hid (show g < wr.drew.heap.size from (oz.lt g rfl).2)
            have HS1 := Lib.hid (fun (u1 : World) (hb5 : Below wr.drew.heap.size wr.drew u1) => (show u1.cell? ⟨g, i * 8 + 7, none⟩ = some (.slice A7 l[i].e.m.length c7) ∧ Below w.heap.size w u1 ∧ Below wr.drew.heap.size wr.drew u1 from
              ⟨(cellNext HGX.out hb5 _).trans e12, bthen HBD.out hb5, hb5⟩))
            have HST := Lib.hid (fun (u1 u2 : World) (A9 : Option Addr) (c9 : Nat) (A0 : Option Addr) (c0 : Nat) (hb5 : Below wr.drew.heap.size wr.drew u1) (ho5 : OwnsI u1 wr.drew.heap.size (.slice A9 l[i].e.l.length c9) l[i].e.l) (hb7 : Below u1.heap.size u1 u2) (ho7 : OwnsI u2 u1.heap.size (.slice A0 l[i].e.m.length c0) l[i].e.m) =>
              bkIn_step (wz := wr.drew) HNQ.out hm HGS.out.2 oz.drew (A2 := A2) (z2 := z2) (ys0 := ys1) (by rw [HMM.out]) (fun q hq hqi => (HNEW.out q hq hqi).mono (fun W hW => HCH.out _ W o4.drew hW)) HOLD.out HBD.out (by show s ≤ wr.heap.size; have := HSB2.out; have := HZ0.out; have := o4.size; have := HW3.out; omega) (by rw [HMM.out]; exact hIN) hb5 ho5 hb7 ho7)
            clear HX oz o4 o5 o6 hIN
            go_upto_region 12 with fail
            refine wp_region_held_drew (S := (fun _ => True)) (by kernel_rfl) trivial (fun hHeld => ?_)
            refine wpAnyH_take (i := 0) (v := ?_) rfl (by kernel_rfl) (by kernel_rfl) (by kernel_rfl) (fun _ _ _ h => h) (Or.inl ⟨by rfl, ?_⟩) hHeld ?_
            rotate_left
            · intro W' hSw; (try dsimp only at hSw); go_simp; try (with_reducible rfl)
            (try simp only [Act.put, List.getElem_toArray, List.getElem_cons_zero, List.setIfInBounds_toArray, List.set_cons_zero, List.set_cons_succ])
            refine wpAnyH_take (i := 1) (v := ?_) rfl (by kernel_rfl) (by kernel_rfl) (by kernel_rfl) (fun _ _ _ h => h) (Or.inl ⟨by rfl, ?_⟩) hHeld ?_
            rotate_left
            · intro W' hSw; (try dsimp only at hSw); go_simp; try (with_reducible rfl)
            (try simp only [Act.put, List.getElem_toArray, List.getElem_cons_zero, List.getElem_cons_succ, List.setIfInBounds_toArray, List.set_cons_zero, List.set_cons_succ])
            refine wpAnyH_take (i := 2) (v := ?_) rfl (by kernel_rfl) (by kernel_rfl) (by kernel_rfl) (fun _ _ _ h => h) (Or.inl ⟨by rfl, ?_⟩) hHeld ?_
            rotate_left
            · intro W' hSw; (try dsimp only at hSw); go_simp; try (with_reducible rfl)
            (try simp only [Act.put, List.getElem_toArray, List.getElem_cons_zero, List.getElem_cons_succ, List.setIfInBounds_toArray, List.set_cons_zero, List.set_cons_succ])
            refine wpAnyH_take (i := 3) (v := ?_) rfl (by kernel_rfl) (by kernel_rfl) (by kernel_rfl) (fun _ _ _ h => h) (Or.inl ⟨by rfl, ?_⟩) hHeld ?_
            rotate_left
            · intro W' hSw; (try dsimp only at hSw); go_simp; try (with_reducible rfl)
            (try simp only [Act.put, List.getElem_toArray, List.getElem_cons_zero, List.getElem_cons_succ, List.setIfInBounds_toArray, List.set_cons_zero, List.set_cons_succ])
            refine wpAnyH_take (i := 4) (v := ?_) rfl (by kernel_rfl) (by kernel_rfl) (by kernel_rfl) (fun _ _ _ h => h) (Or.inl ⟨by rfl, ?_⟩) hHeld ?_
            rotate_left
            · intro W' hSw; (try dsimp only at hSw); go_simp; try (with_reducible rfl)
            (try simp only [Act.put, List.getElem_toArray, List.getElem_cons_zero, List.getElem_cons_succ, List.setIfInBounds_toArray, List.set_cons_zero, List.set_cons_succ])
            refine wpAnyH_take (i := 5) (v := ?_) rfl (by kernel_rfl) (by kernel_rfl) (by kernel_rfl) (fun _ _ _ h => h) (Or.inl ⟨by rfl, ?_⟩) hHeld ?_
            rotate_left
            · intro W' hSw; (try dsimp only at hSw); go_simp; try (with_reducible rfl)
            (try simp only [Act.put, List.getElem_toArray, List.getElem_cons_zero, List.getElem_cons_succ, List.setIfInBounds_toArray, List.set_cons_zero, List.set_cons_succ])
            refine wpAnyH_take (i := 8) (v := ?_) rfl (by kernel_rfl) (by kernel_rfl) (by kernel_rfl) (fun _ _ _ h => h) (Or.inl ⟨by rfl, ?_⟩) hHeld ?_
            rotate_left
            · intro W' hSw; (try dsimp only at hSw); go_simp; try (with_reducible rfl)
            (try simp only [Act.put, List.getElem_toArray, List.getElem_cons_zero, List.getElem_cons_succ, List.setIfInBounds_toArray, List.set_cons_zero, List.set_cons_succ])
            refine wpAnyH_take (i := 9) (v := ?_) rfl (by kernel_rfl) (by kernel_rfl) (by kernel_rfl) (fun _ _ _ h => h) (Or.inl ⟨by rfl, ?_⟩) hHeld ?_
            rotate_left
            · intro W' hSw; (try dsimp only at hSw); go_simp; try (with_reducible rfl)
            (try simp only [Act.put, List.getElem_toArray, List.getElem_cons_zero, List.getElem_cons_succ, List.setIfInBounds_toArray, List.set_cons_zero, List.set_cons_succ])
            refine wpAnyH_take (i := 10) (v := ?_) rfl (by kernel_rfl) (by kernel_rfl) (by kernel_rfl) (fun _ _ _ h => h) (Or.inl ⟨by rfl, ?_⟩) hHeld ?_
            rotate_left
            · intro W' hSw; (try dsimp only at hSw); go_simp; try (with_reducible rfl)
            (try simp only [Act.put, List.getElem_toArray, List.getElem_cons_zero, List.getElem_cons_succ, List.setIfInBounds_toArray, List.set_cons_zero, List.set_cons_succ])
            refine wpAnyH_take (i := 11) (v := ?_) rfl (by kernel_rfl) (by kernel_rfl) (by kernel_rfl) (fun _ _ _ h => h) (Or.inl ⟨by rfl, ?_⟩) hHeld ?_
            rotate_left
            · intro W' hSw; (try dsimp only at hSw); go_simp; try (with_reducible rfl)
            (try simp only [Act.put, List.getElem_toArray, List.getElem_cons_zero, List.getElem_cons_succ, List.setIfInBounds_toArray, List.set_cons_zero, List.set_cons_succ])
            refine wpAnyH_ready (rs := [6, 12]) (by kernel_rfl) (by simp) ?_
            refine AllReadyH.cons rfl (fun K hK => ?_) (AllReadyH.cons rfl (fun K hK => ?_) AllReadyH.nil)
            · go_simp
              refine hK.out _ _ trivial (fun hHeld => ?_)
              clear hK
              (try simp only [Act.put, List.getElem_toArray, List.getElem_cons_zero, List.getElem_cons_succ, List.setIfInBounds_toArray, List.set_cons_zero, List.set_cons_succ])
              refine wpAnyH_ready (rs := [7, 12]) (by kernel_rfl) (by simp) ?_
              refine AllReadyH.cons rfl (fun K hK => ?_) (AllReadyH.cons rfl (fun K hK => ?_) AllReadyH.nil)
              · go_simp
                refine Calls.mono (HC5.out _ HBD.out) ?_
                rintro r u1 ⟨v5, rfl, ho5, hb5⟩
                obtain ⟨A9, c9, hv9⟩ := (OwnsI.ints ho5).slice
                subst hv9
                have HO5 := Lib.hid ho5
                obtain ⟨e71, HBU, HB1⟩ := HS1.out u1 hb5
                refine hK.out _ _ trivial (fun hHeld => ?_)
                clear hK
                (try simp only [Act.put, List.getElem_toArray, List.getElem_cons_zero, List.getElem_cons_succ, List.setIfInBounds_toArray, List.set_cons_zero, List.set_cons_succ])
                refine wpAnyH_ready (rs := [12]) (by kernel_rfl) (by simp) ?_
                refine AllReadyH.cons rfl (fun K hK => ?_) AllReadyH.nil
                go_simp
                refine hK.out _ _ trivial (fun hHeld => ?_)
                clear hK
                (try simp only [Act.put, List.getElem_toArray, List.getElem_cons_zero, List.getElem_cons_succ, List.setIfInBounds_toArray, List.set_cons_zero, List.set_cons_succ])
                refine wpAnyH_ready (rs := [13]) (by kernel_rfl) (by simp) ?_
                refine AllReadyH.cons rfl (fun K hK => ?_) AllReadyH.nil
                go_simp
                refine Calls.mono (HC7.out _ HBU) ?_
                rintro r u2 ⟨v7, rfl, ho7, hb7⟩
                obtain ⟨A0, c0, hv0⟩ := (OwnsI.ints ho7).slice
                subst hv0
                obtain ⟨⟨z5, e5⟩, f5, ⟨z7, e7⟩, f7, HFIN⟩ := HST.out u1 u2 A9 c9 A0 c0 HB1 HO5.out hb7 ho7
                refine hK.out _ _ trivial (fun hHeld => ?_)
                clear hK
                (try simp only [Act.put, List.getElem_toArray, List.getElem_cons_zero, List.getElem_cons_succ, List.setIfInBounds_toArray, List.set_cons_zero, List.set_cons_succ])
                refine wpAnyH_take (i := 14) (v := ?_) rfl (by kernel_rfl) (by kernel_rfl) (by kernel_rfl) (fun _ _ _ h => h) (Or.inl ⟨by rfl, ?_⟩) hHeld ?_
                rotate_left
                · intro W' hSw; (try dsimp only at hSw); go_simp; try (with_reducible rfl)
                (try simp only [Act.put, List.getElem_toArray, List.getElem_cons_zero, List.getElem_cons_succ, List.setIfInBounds_toArray, List.set_cons_zero, List.set_cons_succ])
                refine wpAnyH_take (i := 15) (v := ?_) rfl (by kernel_rfl) (by kernel_rfl) (by kernel_rfl) (fun _ _ _ h => h) (Or.inl ⟨by rfl, ?_⟩) hHeld ?_
                rotate_left
                · intro W' hSw; (try dsimp only at hSw); go_simp; try (with_reducible rfl)
                (try simp only [Act.put, List.getElem_toArray, List.getElem_cons_zero, List.getElem_cons_succ, List.setIfInBounds_toArray, List.set_cons_zero, List.set_cons_succ])
                refine wpAnyH_take (i := 16) (v := ?_) rfl (by kernel_rfl) (by kernel_rfl) (by kernel_rfl) (fun _ _ _ h => h) (Or.inl ⟨by rfl, ?_⟩) hHeld ?_
                rotate_left
                · intro W' hSw; (try dsimp only at hSw); go_simp; try (with_reducible rfl)
                (try simp only [Act.put, List.getElem_toArray, List.getElem_cons_zero, List.getElem_cons_succ, List.setIfInBounds_toArray, List.set_cons_zero, List.set_cons_succ])
                refine wpAnyH_ready (rs := [17]) (by kernel_rfl) (by simp) ?_
                refine AllReadyH.cons rfl (fun K hK => ?_) AllReadyH.nil
                go_simp
                refine hK.out _ _ trivial (fun hHeld => ?_)
                clear hK
                (try simp only [Act.put, List.getElem_toArray, List.getElem_cons_zero, List.getElem_cons_succ, List.setIfInBounds_toArray, List.set_cons_zero, List.set_cons_succ])
                refine wpAnyH_take (i := 18) (v := ?_) rfl (by kernel_rfl) (by kernel_rfl) (by kernel_rfl) (fun _ _ _ h => h) (Or.inl ⟨by rfl, ?_⟩) hHeld ?_
                rotate_left
                · intro W' hSw; (try dsimp only at hSw); go_simp; try (with_reducible rfl)
                (try simp only [Act.put, List.getElem_toArray, List.getElem_cons_zero, List.getElem_cons_succ, List.setIfInBounds_toArray, List.set_cons_zero, List.set_cons_succ])
                refine wpAnyH_take (i := 19) (v := ?_) rfl (by kernel_rfl) (by kernel_rfl) (by kernel_rfl) (fun _ _ _ h => h) (Or.inl ⟨by rfl, ?_⟩) hHeld ?_
                rotate_left
                · intro W' hSw; (try dsimp only at hSw); go_simp; try (with_reducible rfl)
                (try simp only [Act.put, List.getElem_toArray, List.getElem_cons_zero, List.getElem_cons_succ, List.setIfInBounds_toArray, List.set_cons_zero, List.set_cons_succ])
                refine wpAnyH_take (i := 20) (v := ?_) rfl (by kernel_rfl) (by kernel_rfl) (by kernel_rfl) (fun _ _ _ h => h) (Or.inl ⟨by rfl, ?_⟩) hHeld ?_
                rotate_left
                · intro W' hSw; (try dsimp only at hSw); go_simp; try (with_reducible rfl)
                (try simp only [Act.put, List.getElem_toArray, List.getElem_cons_zero, List.getElem_cons_succ, List.setIfInBounds_toArray, List.set_cons_zero, List.set_cons_succ])
                refine wpAnyH_ready (rs := [21]) (by kernel_rfl) (by simp) ?_
                refine AllReadyH.cons rfl (fun K hK => ?_) AllReadyH.nil
                go_simp
                refine hK.out _ _ trivial (fun hHeld => ?_)
                clear hK
                (try simp only [Act.put, List.getElem_toArray, List.getElem_cons_zero, List.getElem_cons_succ, List.setIfInBounds_toArray, List.set_cons_zero, List.set_cons_succ])
                refine wpAnyH_done (by kernel_rfl) ?_ _
                have HXX := Lib.hid HFIN
                clear HFIN hHeld e5 f5 e7 f7 e6 e12 e71 ho5 hb5 ho7 hb7
                go_wp2_with fail
                go_roundw
                case rel => exact ⟨i + 1, HLT.out, by go_num, HXX.out⟩
                case measure => have := HLT.out; simp [intOf]; omega
              · go_simp
                refine hK.out _ _ trivial (fun hHeld => ?_)
                clear hK
                (try simp only [Act.put, List.getElem_toArray, List.getElem_cons_zero, List.getElem_cons_succ, List.setIfInBounds_toArray, List.set_cons_zero, List.set_cons_succ])
                refine wpAnyH_ready (rs := [7]) (by kernel_rfl) (by simp) ?_
                refine AllReadyH.cons rfl (fun K hK => ?_) AllReadyH.nil
                go_simp
                refine Calls.mono (HC5.out _ HBD.out) ?_
                rintro r u1 ⟨v5, rfl, ho5, hb5⟩
                obtain ⟨A9, c9, hv9⟩ := (OwnsI.ints ho5).slice
                subst hv9
                have HO5 := Lib.hid ho5
                obtain ⟨e71, HBU, HB1⟩ := HS1.out u1 hb5
                refine hK.out _ _ trivial (fun hHeld => ?_)
                clear hK
                (try simp only [Act.put, List.getElem_toArray, List.getElem_cons_zero, List.getElem_cons_succ, List.setIfInBounds_toArray, List.set_cons_zero, List.set_cons_succ])
                refine wpAnyH_ready (rs := [13]) (by kernel_rfl) (by simp) ?_
                refine AllReadyH.cons rfl (fun K hK => ?_) AllReadyH.nil
                go_simp
                refine Calls.mono (HC7.out _ HBU) ?_
                rintro r u2 ⟨v7, rfl, ho7, hb7⟩
                obtain ⟨A0, c0, hv0⟩ := (OwnsI.ints ho7).slice
                subst hv0
                obtain ⟨⟨z5, e5⟩, f5, ⟨z7, e7⟩, f7, HFIN⟩ := HST.out u1 u2 A9 c9 A0 c0 HB1 HO5.out hb7 ho7
                refine hK.out _ _ trivial (fun hHeld => ?_)
                clear hK
                (try simp only [Act.put, List.getElem_toArray, List.getElem_cons_zero, List.getElem_cons_succ, List.setIfInBounds_toArray, List.set_cons_zero, List.set_cons_succ])
                refine wpAnyH_take (i := 14) (v := ?_) rfl (by kernel_rfl) (by kernel_rfl) (by kernel_rfl) (fun _ _ _ h => h) (Or.inl ⟨by rfl, ?_⟩) hHeld ?_
                rotate_left
                · intro W' hSw; (try dsimp only at hSw); go_simp; try (with_reducible rfl)
                (try simp only [Act.put, List.getElem_toArray, List.getElem_cons_zero, List.getElem_cons_succ, List.setIfInBounds_toArray, List.set_cons_zero, List.set_cons_succ])
                refine wpAnyH_take (i := 15) (v := ?_) rfl (by kernel_rfl) (by kernel_rfl) (by kernel_rfl) (fun _ _ _ h => h) (Or.inl ⟨by rfl, ?_⟩) hHeld ?_
                rotate_left
                · intro W' hSw; (try dsimp only at hSw); go_simp; try (with_reducible rfl)
                (try simp only [Act.put, List.getElem_toArray, List.getElem_cons_zero, List.getElem_cons_succ, List.setIfInBounds_toArray, List.set_cons_zero, List.set_cons_succ])
                refine wpAnyH_take (i := 16) (v := ?_) rfl (by kernel_rfl) (by kernel_rfl) (by kernel_rfl) (fun _ _ _ h => h) (Or.inl ⟨by rfl, ?_⟩) hHeld ?_
                rotate_left
                · intro W' hSw; (try dsimp only at hSw); go_simp; try (with_reducible rfl)
                (try simp only [Act.put, List.getElem_toArray, List.getElem_cons_zero, List.getElem_cons_succ, List.setIfInBounds_toArray, List.set_cons_zero, List.set_cons_succ])
                refine wpAnyH_ready (rs := [17]) (by kernel_rfl) (by simp) ?_
                refine AllReadyH.cons rfl (fun K hK => ?_) AllReadyH.nil
                go_simp
                refine hK.out _ _ trivial (fun hHeld => ?_)
                clear hK
                (try simp only [Act.put, List.getElem_toArray, List.getElem_cons_zero, List.getElem_cons_succ, List.setIfInBounds_toArray, List.set_cons_zero, List.set_cons_succ])
                refine wpAnyH_take (i := 18) (v := ?_) rfl (by kernel_rfl) (by kernel_rfl) (by kernel_rfl) (fun _ _ _ h => h) (Or.inl ⟨by rfl, ?_⟩) hHeld ?_
                rotate_left
                · intro W' hSw; (try dsimp only at hSw); go_simp; try (with_reducible rfl)
                (try simp only [Act.put, List.getElem_toArray, List.getElem_cons_zero, List.getElem_cons_succ, List.setIfInBounds_toArray, List.set_cons_zero, List.set_cons_succ])
                refine wpAnyH_take (i := 19) (v := ?_) rfl (by kernel_rfl) (by kernel_rfl) (by kernel_rfl) (fun _ _ _ h => h) (Or.inl ⟨by rfl, ?_⟩) hHeld ?_
                rotate_left
                · intro W' hSw; (try dsimp only at hSw); go_simp; try (with_reducible rfl)
                (try simp only [Act.put, List.getElem_toArray, List.getElem_cons_zero, List.getElem_cons_succ, List.setIfInBounds_toArray, List.set_cons_zero, List.set_cons_succ])
                refine wpAnyH_take (i := 20) (v := ?_) rfl (by kernel_rfl) (by kernel_rfl) (by kernel_rfl) (fun _ _ _ h => h) (Or.inl ⟨by rfl, ?_⟩) hHeld ?_
                rotate_left
                · intro W' hSw; (try dsimp only at hSw); go_simp; try (with_reducible rfl)
                (try simp only [Act.put, List.getElem_toArray, List.getElem_cons_zero, List.getElem_cons_succ, List.setIfInBounds_toArray, List.set_cons_zero, List.set_cons_succ])
                refine wpAnyH_ready (rs := [21]) (by kernel_rfl) (by simp) ?_
                refine AllReadyH.cons rfl (fun K hK => ?_) AllReadyH.nil
                go_simp
                refine hK.out _ _ trivial (fun hHeld => ?_)
                clear hK
                (try simp only [Act.put, List.getElem_toArray, List.getElem_cons_zero, List.getElem_cons_succ, List.setIfInBounds_toArray, List.set_cons_zero, List.set_cons_succ])
                refine wpAnyH_done (by kernel_rfl) ?_ _
                have HXX := Lib.hid HFIN
                clear HFIN hHeld e5 f5 e7 f7 e6 e12 e71 ho5 hb5 ho7 hb7
                go_wp2_with fail
                go_roundw
                case rel => exact ⟨i + 1, HLT.out, by go_num, HXX.out⟩
                case measure => have := HLT.out; simp [intOf]; omega
            · go_simp
              refine hK.out _ _ trivial (fun hHeld => ?_)
              clear hK
              (try simp only [Act.put, List.getElem_toArray, List.getElem_cons_zero, List.getElem_cons_succ, List.setIfInBounds_toArray, List.set_cons_zero, List.set_cons_succ])
              refine wpAnyH_ready (rs := [6]) (by kernel_rfl) (by simp) ?_
              refine AllReadyH.cons rfl (fun K hK => ?_) AllReadyH.nil
              go_simp
              refine hK.out _ _ trivial (fun hHeld => ?_)
              clear hK
              (try simp only [Act.put, List.getElem_toArray, List.getElem_cons_zero, List.getElem_cons_succ, List.setIfInBounds_toArray, List.set_cons_zero, List.set_cons_succ])
              refine wpAnyH_ready (rs := [7]) (by kernel_rfl) (by simp) ?_
              refine AllReadyH.cons rfl (fun K hK => ?_) AllReadyH.nil
              go_simp
              refine Calls.mono (HC5.out _ HBD.out) ?_
              rintro r u1 ⟨v5, rfl, ho5, hb5⟩
              obtain ⟨A9, c9, hv9⟩ := (OwnsI.ints ho5).slice
              subst hv9
              have HO5 := Lib.hid ho5
              obtain ⟨e71, HBU, HB1⟩ := HS1.out u1 hb5
              refine hK.out _ _ trivial (fun hHeld => ?_)
              clear hK
              (try simp only [Act.put, List.getElem_toArray, List.getElem_cons_zero, List.getElem_cons_succ, List.setIfInBounds_toArray, List.set_cons_zero, List.set_cons_succ])
              refine wpAnyH_ready (rs := [13]) (by kernel_rfl) (by simp) ?_
              refine AllReadyH.cons rfl (fun K hK => ?_) AllReadyH.nil
              go_simp
              refine Calls.mono (HC7.out _ HBU) ?_
              rintro r u2 ⟨v7, rfl, ho7, hb7⟩
              obtain ⟨A0, c0, hv0⟩ := (OwnsI.ints ho7).slice
              subst hv0
              obtain ⟨⟨z5, e5⟩, f5, ⟨z7, e7⟩, f7, HFIN⟩ := HST.out u1 u2 A9 c9 A0 c0 HB1 HO5.out hb7 ho7
              refine hK.out _ _ trivial (fun hHeld => ?_)
              clear hK
              (try simp only [Act.put, List.getElem_toArray, List.getElem_cons_zero, List.getElem_cons_succ, List.setIfInBounds_toArray, List.set_cons_zero, List.set_cons_succ])
              refine wpAnyH_take (i := 14) (v := ?_) rfl (by kernel_rfl) (by kernel_rfl) (by kernel_rfl) (fun _ _ _ h => h) (Or.inl ⟨by rfl, ?_⟩) hHeld ?_
              rotate_left
              · intro W' hSw; (try dsimp only at hSw); go_simp; try (with_reducible rfl)
              (try simp only [Act.put, List.getElem_toArray, List.getElem_cons_zero, List.getElem_cons_succ, List.setIfInBounds_toArray, List.set_cons_zero, List.set_cons_succ])
              refine wpAnyH_take (i := 15) (v := ?_) rfl (by kernel_rfl) (by kernel_rfl) (by kernel_rfl) (fun _ _ _ h => h) (Or.inl ⟨by rfl, ?_⟩) hHeld ?_
              rotate_left
              · intro W' hSw; (try dsimp only at hSw); go_simp; try (with_reducible rfl)
              (try simp only [Act.put, List.getElem_toArray, List.getElem_cons_zero, List.getElem_cons_succ, List.setIfInBounds_toArray, List.set_cons_zero, List.set_cons_succ])
              refine wpAnyH_take (i := 16) (v := ?_) rfl (by kernel_rfl) (by kernel_rfl) (by kernel_rfl) (fun _ _ _ h => h) (Or.inl ⟨by rfl, ?_⟩) hHeld ?_
              rotate_left
              · intro W' hSw; (try dsimp only at hSw); go_simp; try (with_reducible rfl)
              (try simp only [Act.put, List.getElem_toArray, List.getElem_cons_zero, List.getElem_cons_succ, List.setIfInBounds_toArray, List.set_cons_zero, List.set_cons_succ])
              refine wpAnyH_ready (rs := [17]) (by kernel_rfl) (by simp) ?_
              refine AllReadyH.cons rfl (fun K hK => ?_) AllReadyH.nil
              go_simp
              refine hK.out _ _ trivial (fun hHeld => ?_)
              clear hK
              (try simp only [Act.put, List.getElem_toArray, List.getElem_cons_zero, List.getElem_cons_succ, List.setIfInBounds_toArray, List.set_cons_zero, List.set_cons_succ])
              refine wpAnyH_take (i := 18) (v := ?_) rfl (by kernel_rfl) (by kernel_rfl) (by kernel_rfl) (fun _ _ _ h => h) (Or.inl ⟨by rfl, ?_⟩) hHeld ?_
              rotate_left
              · intro W' hSw; (try dsimp only at hSw); go_simp; try (with_reducible rfl)
              (try simp only [Act.put, List.getElem_toArray, List.getElem_cons_zero, List.getElem_cons_succ, List.setIfInBounds_toArray, List.set_cons_zero, List.set_cons_succ])
              refine wpAnyH_take (i := 19) (v := ?_) rfl (by kernel_rfl) (by kernel_rfl) (by kernel_rfl) (fun _ _ _ h => h) (Or.inl ⟨by rfl, ?_⟩) hHeld ?_
              rotate_left
              · intro W' hSw; (try dsimp only at hSw); go_simp; try (with_reducible rfl)
              (try simp only [Act.put, List.getElem_toArray, List.getElem_cons_zero, List.getElem_cons_succ, List.setIfInBounds_toArray, List.set_cons_zero, List.set_cons_succ])
              refine wpAnyH_take (i := 20) (v := ?_) rfl (by kernel_rfl) (by kernel_rfl) (by kernel_rfl) (fun _ _ _ h => h) (Or.inl ⟨by rfl, ?_⟩) hHeld ?_
              rotate_left
              · intro W' hSw; (try dsimp only at hSw); go_simp; try (with_reducible rfl)
              (try simp only [Act.put, List.getElem_toArray, List.getElem_cons_zero, List.getElem_cons_succ, List.setIfInBounds_toArray, List.set_cons_zero, List.set_cons_succ])
              refine wpAnyH_ready (rs := [21]) (by kernel_rfl) (by simp) ?_
              refine AllReadyH.cons rfl (fun K hK => ?_) AllReadyH.nil
              go_simp
              refine hK.out _ _ trivial (fun hHeld => ?_)
              clear hK
              (try simp only [Act.put, List.getElem_toArray, List.getElem_cons_zero, List.getElem_cons_succ, List.setIfInBounds_toArray, List.set_cons_zero, List.set_cons_succ])
              refine wpAnyH_done (by kernel_rfl) ?_ _
              have HXX := Lib.hid HFIN
              clear HFIN hHeld e5 f5 e7 f7 e6 e12 e71 ho5 hb5 ho7 hb7
              go_wp2_with fail
              go_roundw
              case rel => exact ⟨i + 1, HLT.out, by go_num, HXX.out⟩
              case measure => have := HLT.out; simp [intOf]; omega
      · have hd : decide ((i : Int) < (n : Int)) = false := by simp; omega
        have HFI := Lib.hid (show Below w.heap.size w wr ∧ ∀ W, SameIn w.heap.size wr.heap.size wr W → Blocks W (.slice (some ⟨g, 0, none⟩) n cap) l from by
          obtain ⟨ys, ho, hnew, -, hb, hs⟩ := HI.out
          refine ⟨hb, fun W hW => bk_row (base := w.heap.size) (ys := ys) (S := SameIn s wr.heap.size wr) ?_ (hW.thin (by have := HGS.out; omega) (Nat.le_refl _)) (fun j hj => hnew j hj (by have := HN.out; omega))⟩
          rw [HNQ.out]
          exact ownsRow_same ho (Nat.le_refl _) (Nat.le_refl _) hW)
        go_wp2_with fail
        go_ret
        exact ⟨_, _, rfl, HFI.out⟩
end Go.Proofs.Ytcfniagmnkngfaa

namespace Go.Proofs.Ytcfniagmnkngfaa
open Go.RowKit

/-- the functions' row while they are copied -/
def FnIn (w : World) (l : List Fn) (v vg : Value) (gl : List Gl) (s n i : Nat) (W : World) : Prop :=
  ∃ ys, W.ownsRow (w.heap.size + 2) 78 4 v n ys ∧ (∀ (j : Nat) (hj : j < l.length), j < i → FnYs (SameIn s W.heap.size W) ys j l[j]) ∧
    (∀ (j : Nat) (hj : j < l.length), i ≤ j → FnYs (Below w.heap.size w) ys j l[j]) ∧ Below w.heap.size w W ∧ s ≤ W.heap.size ∧ (∀ g, v.ownBlock = some g → g < s) ∧ w.heap.size + 2 ≤ s ∧
    W.heap[w.heap.size]? = some (.cells #[v, vg] 25 (0, 0)) ∧ W.heap[w.heap.size + 1]? = some (.cells #[.slice none 0 0, .slice none 0 0] 25 (0, 0)) ∧
    ∃ zs, W.ownsRow (w.heap.size + 2) 80 4 vg gl.length zs ∧ RowOf 4 GlAt W vg gl ∧ (∀ g g', v.ownBlock = some g → vg.ownBlock = some g' → g ≠ g')
theorem FnIn.drew {w : World} {l : List Fn} {v vg : Value} {gl : List Gl} {s n i : Nat} {W : World} (h : FnIn w l v vg gl s n i W) : FnIn w l v vg gl s n i W.drew := by
  obtain ⟨ys, h1, h2, h3, h4, h5, h6, h7, h8, h9, zs, h10, h11, h12⟩ := h
  exact ⟨ys, h1, h2, h3, h4.drew, h5, h6, h7, h8, h9, zs, h10, h11.next GlAt.next (Below.refl _ _).drew, h12⟩
theorem globs_same {W W' : World} {base : Nat} {v : Value} {l : List Gl} {zs : List Value} (ho : W.ownsRow base 80 4 v l.length zs) (h : RowOf 4 GlAt W v l) (hs : ∀ g, v.ownBlock = some g → W'.heap[g]? = W.heap[g]?) : Globs W' v l := by
  rcases h with h | ⟨h0, b, off, cap, rfl, h1, h2⟩
  · exact .inl h
  · have hb := hs b rfl
    refine .inr ⟨h0, b, off, cap, rfl, ?_, fun i hi => ?_⟩
    · by_cases hlt : b < W'.heap.size
      · exact hlt
      · rw [Array.getElem?_eq_none (by omega), Array.getElem?_eq_getElem h1] at hb
        cases hb
    · obtain ⟨h0, h1, h2, h3⟩ := h2 i hi
      exact ⟨(World.cell?_of_block hb).trans h0, (World.cell?_of_block hb).trans h1, (World.cell?_of_block hb).trans h2, (World.cell?_of_block hb).trans h3⟩
theorem ownsRow_atv {W W' : World} {base : Nat} {T : TypeId} {sz n : Nat} {v : Value} {ys : List Value} (h : W.ownsRow base T sz v n ys) (hs : ∀ g, v.ownBlock = some g → W'.heap[g]? = W.heap[g]?) : W'.ownsRow base T sz v n ys := by
  rcases h with ⟨h1, h2 | ⟨g', cap', cur, rfl, hge, hh, r⟩⟩
  · exact ⟨h1, .inl h2⟩
  · exact ⟨h1, .inr ⟨g', cap', cur, rfl, hge, (hs g' rfl).trans hh, r⟩⟩
/-- a function's blocks were copied -/
theorem fnIn_step {w wx u : World} {l : List Fn} {vg : Value} {gl : List Gl} {g cap s n i : Nat} (hl : l.length = n) (hi : i < l.length) (h : FnIn w l (.slice (some ⟨g, 0, none⟩) n cap) vg gl s n i wx)
    {A : Option Addr} {c : Nat} (hb : Below wx.heap.size wx u) (ho : ∀ W, SameIn wx.heap.size u.heap.size u W → Blocks W (.slice A l[i].l.length c) l[i].l) :
    (∃ z, u.cell? ⟨g, i * 4 + 3, none⟩ = some z) ∧ u.frozen? ⟨g, i * 4 + 3, none⟩ = false ∧ (u.setCell ⟨g, i * 4 + 3, none⟩ (.slice A l[i].l.length c)).cell? ⟨w.heap.size, 0, none⟩ = some (.slice (some ⟨g, 0, none⟩) n cap) ∧
      FnIn w l (.slice (some ⟨g, 0, none⟩) n cap) vg gl s n (i + 1) (u.setCell ⟨g, i * 4 + 3, none⟩ (.slice A l[i].l.length c)) := by
  obtain ⟨zs, h1, h2, h3, h4, h5, h6, h7, h8, h9, gs, h10, h11, h12⟩ := h
  have hgs : g < s := h6 g rfl
  have hzs : zs.length = n * 4 := h1.1
  have o1 := h1.kept (grown_keep hb) (.inr (by simp [Value.ownBlock]))
  obtain ⟨o2, -⟩ := o1.stored (i * 4 + 3) (.slice A l[i].l.length c)
  have hbg : w.heap.size + 2 ≤ g := (h1.lt g rfl).1
  have hlt : g < wx.heap.size := (h1.lt g rfl).2
  have low : ∀ q, q < wx.heap.size → q ≠ g → (u.setCell ⟨g, i * 4 + 3, none⟩ (.slice A l[i].l.length c)).heap[q]? = wx.heap[q]? := fun q q1 q2 => (Below.heap_setCell _ _ _ _ (by simpa using q2)).trans (hb.block q q1)
  have h8' := (low w.heap.size (by omega) (by omega)).trans h8
  have hg9 : ∀ q, vg.ownBlock = some q → (u.setCell ⟨g, i * 4 + 3, none⟩ (.slice A l[i].l.length c)).heap[q]? = wx.heap[q]? := fun q hq => low q (h10.lt q hq).2 (fun e => h12 g q rfl hq e.symm)
  refine ⟨⟨_, (o1.cellAt _ (by omega)).trans (List.getElem?_eq_getElem (by omega))⟩, o1.frozenAt _, Lib.cell_of_heap h8' 0, _, o2, fun j hj hji => ?_, fun j hj hji => ?_, ?_, ?_, h6, h7, h8', (low _ (by omega) (by omega)).trans h9, gs, ownsRow_atv h10 hg9, globs_same h10 h11 hg9, h12⟩
  · by_cases e : j = i
    · subst e
      refine (h3 j hj (Nat.le_refl _)).put (by omega) (fun W hW => ho W ⟨?_, fun q q1 q2 => ?_⟩)
      · have := hW.1; simpa using this
      · rw [hW.2 q (by omega) (by simpa using q2)]
        exact Below.heap_setCell _ _ _ _ (by simp; omega)
    · refine ((h2 j hj (by omega)).other e _).mono (fun W hW => ⟨?_, fun q q1 q2 => ?_⟩)
      · have := hW.1; have := hb.size; simp at *; omega
      · rw [hW.2 q q1 (by have := hb.size; simp; omega), Below.heap_setCell _ _ _ _ (by simp; omega), hb.block q q2]
  · exact (h3 j hj (by omega)).other (by omega) _
  · exact below_setc (h4.trans (hb.mono h4.size)) (by simp; omega)
  · have := hb.size; simp; omega
theorem fns_src {w wr : World} {A1 : Option Addr} {c1 : Nat} {l : List Fn} {zs : List Value} {b off cp n : Nat} (h : Funcs w (.slice A1 l.length c1) l) (h0 : 0 < l.length) (hv : Value.slice A1 l.length c1 = .slice (some ⟨b, off, none⟩) n cp) (hB : Below w.heap.size w wr)
    (hc : ∀ j, j < l.length * 4 → zs[j]? = wr.cell? ⟨b, off + j, none⟩) : ∀ (i : Nat) (hi : i < l.length), FnYs (Below w.heap.size w) zs i l[i] := by
  rcases h with ⟨rfl, -⟩ | ⟨-, b', off', cap, e, hb, hp⟩
  · simp at h0
  · have e2 := (Value.slice.inj (hv.symm.trans e)).1
    simp only [Option.some.injEq, Addr.mk.injEq, and_true] at e2
    obtain ⟨rfl, rfl⟩ := e2
    exact fn_ys hp (fun j hj => (hc j hj).trans (cellNext hb hB _))
/-- the same module in new memory -/
def CopyMd (m : Md) (nf ng : Nat) (w : World) (e : Ending) (w' : World) : Prop :=
  ∃ F cf G cg, e = .returned (.agg #[.slice F nf cf, .slice G ng cg]) ∧ Below w.heap.size w w' ∧ ∀ W, SameIn w.heap.size w'.heap.size w' W → MdAt W (.slice F nf cf) (.slice G ng cg) m
theorem md_info : (Try.prog.info? 25).map (·.size) = some 2 := by kernel_rfl
theorem md_results (tmps : Array Value) (w : World) (B : Nat) (v vg : Value) (hB : w.heap[B]? = some (.cells #[v, vg] 25 (0, 0))) (h2 : tmps.getD 2 undef = .pointer (some ⟨B, 0, none⟩)) :
    (results Try.f122 tmps).run Try.prog w = .ok (.agg #[v, vg]) w := by
  have c0 : w.cell? ⟨B, 0, none⟩ = some v := Lib.cell_of_heap hB 0
  have c1 : w.cell? ⟨B, 1, none⟩ = some vg := Lib.cell_of_heap hB 1
  rw [Array.getD_eq_getD_getElem?] at h2
  simp [results, Try.results122, go_sem, h2, c0, c1]
theorem ownsRow_slice {W : World} {base : Nat} {T : TypeId} {sz n : Nat} {v : Value} {ys : List Value} (h : W.ownsRow base T sz v n ys) : ∃ A c, v = .slice A n c := by
  rcases h.2 with ⟨rfl, rfl⟩ | ⟨g, cap, cur, rfl, -⟩
  · exact ⟨_, _, rfl⟩
  · exact ⟨_, _, rfl⟩
set_option maxRecDepth 100000 in
set_option maxHeartbeats 8000000 in
theorem copied_any (m : Md) (F G : Option Addr) (nf cf ng cg : Nat) (w : World) (hsm : MdSm m) (hnf : m.f.length = nf) (hng : m.g.length = ng) (hS : MdAt w (.slice F nf cf) (.slice G ng cg) m) :
    Calls Try.prog 122 #[.agg #[.slice F nf cf, .slice G ng cg]] w (CopyMd m nf ng w) := by
  obtain ⟨hs1, hs2, hs3⟩ := hsm
  have HS := Lib.hid hS
  have HNF := Lib.hid hnf
  have HNG := Lib.hid hng
  have HSF := Lib.hid hs3
  have n1 : (nf : Int) ≤ 1000000 := by omega
  have HSZ := Lib.hid (show nf ≤ 1000000 ∧ ng ≤ 1000000 by omega)
  clear hS hs1 hs2 hs3 hnf hng
  go_enter Try.func122, Try.ntmps122
  go_upto_region 1 with fail
  have HB0 := Lib.hid (balloc (balloc (Below.refl _ w) (.cells #[.slice F nf cf, .slice G ng cg] 25)) (.cells #[.slice none 0 0, .slice none 0 0] 25))
  have HX0 := Lib.hid (show ((w.alloc (.cells #[.slice F nf cf, .slice G ng cg] 25)).alloc (.cells #[.slice none 0 0, .slice none 0 0] 25)).heap[w.heap.size]? = some (.cells #[.slice F nf cf, .slice G ng cg] 25 (0, 0)) from ((balloc (Below.refl _ _) _).block w.heap.size (by simp)).trans (heap_alloc_new w _))
  have HX1 := Lib.hid (show ((w.alloc (.cells #[.slice F nf cf, .slice G ng cg] 25)).alloc (.cells #[.slice none 0 0, .slice none 0 0] 25)).heap[w.heap.size + 1]? = some (.cells #[.slice none 0 0, .slice none 0 0] 25 (0, 0)) from by
    have e := heap_alloc_new (w.alloc (.cells #[.slice F nf cf, .slice G ng cg] 25)) (.cells #[.slice none 0 0, .slice none 0 0] 25)
    rwa [World.size_alloc] at e)
  have HZ0 := Lib.hid (show ((w.alloc (.cells #[.slice F nf cf, .slice G ng cg] 25)).alloc (.cells #[.slice none 0 0, .slice none 0 0] 25)).heap.size = w.heap.size + 2 by simp)
  generalize (w.alloc (.cells #[.slice F nf cf, .slice G ng cg] 25)).alloc (.cells #[.slice none 0 0, .slice none 0 0] 25) = W0 at *
  have e1 : W0.drew.cell? ⟨w.heap.size, 0, none⟩ = some (.slice F nf cf) := Lib.cell_of_heap HX0.out 0
  have e4 : W0.drew.cell? ⟨w.heap.size, 1, none⟩ = some (.slice G ng cg) := Lib.cell_of_heap HX0.out 1
  have HC1 := Lib.hid (cloneFns_any (l := m.f) (v := .slice F nf cf) (w := W0.drew) ((HS.out.1.next HB0.out).next (Below.refl _ _).drew) (by have := HSZ.out; have := HNF.out; omega))
  have HC2 := Lib.hid (fun (U : World) (hU : Below w.heap.size w U) => cloneGls_any (l := m.g) (v := .slice G ng cg) (w := U) (HS.out.2.next hU) (by have := HSZ.out; have := HNG.out; omega))
  have HS1 := Lib.hid (fun (u1 : World) (v6 : Value) (ys : List Value) (hb6 : Below W0.drew.heap.size W0.drew u1) (ho6 : u1.ownsRow W0.drew.heap.size 78 4 v6 m.f.length ys)
      (hsrc : 0 < m.f.length → ∃ b off cap, Value.slice F nf cf = .slice (some ⟨b, off, none⟩) m.f.length cap ∧ b < W0.drew.heap.size ∧ (∀ (i : Nat) (hi : i < m.f.length), FnAt W0.drew b (off + i * 4) m.f[i]) ∧ ∀ j, j < m.f.length * 4 → ys[j]? = W0.drew.cell? ⟨b, off + j, none⟩) =>
    (show Below w.heap.size w u1 ∧ u1.cell? ⟨w.heap.size, 1, none⟩ = some (.slice G ng cg) ∧ (∃ ys, u1.ownsRow (w.heap.size + 2) 78 4 v6 nf ys ∧ (∀ (j : Nat) (hj : j < m.f.length), FnYs (Below w.heap.size w) ys j m.f[j]) ∧ Below w.heap.size w u1 ∧ Below W0.heap.size W0 u1) from by
      have hz : W0.drew.heap.size = w.heap.size + 2 := HZ0.out
      have h0 : Below W0.heap.size W0 u1 := (Below.refl _ W0).drew.trans hb6
      refine ⟨bthen HB0.out h0, (cellNext (by have := HZ0.out; omega) h0 _).trans (Lib.cell_of_heap HX0.out 1), ys, ?_, fun j hj => ?_, bthen HB0.out h0, h0⟩
      · rw [hz, HNF.out] at ho6
        exact ho6
      · obtain ⟨b, off, cap, hv, -, -, hc⟩ := hsrc (by omega)
        have hF := HS.out.1
        rw [← HNF.out] at hF hv
        exact fns_src hF (by omega) hv (HB0.out.drew) hc j hj))
  have HS2 := Lib.hid (fun (u1 u2 : World) (v6 v9 : Value) (zs : List Value) (h6 : ∃ ys, u1.ownsRow (w.heap.size + 2) 78 4 v6 nf ys ∧ (∀ (j : Nat) (hj : j < m.f.length), FnYs (Below w.heap.size w) ys j m.f[j]) ∧ Below w.heap.size w u1 ∧ Below W0.heap.size W0 u1) (hb9 : Below u1.heap.size u1 u2)
      (ho9 : u2.ownsRow u1.heap.size 80 4 v9 m.g.length zs) (hrow9 : RowOf 4 GlAt u2 v9 m.g) =>
    (show (∃ z, u2.cell? ⟨w.heap.size, 0, none⟩ = some z) ∧ u2.frozen? ⟨w.heap.size, 0, none⟩ = false ∧ (∃ z, (u2.setCell ⟨w.heap.size, 0, none⟩ v6).cell? ⟨w.heap.size, 1, none⟩ = some z) ∧ (u2.setCell ⟨w.heap.size, 0, none⟩ v6).frozen? ⟨w.heap.size, 1, none⟩ = false ∧
        (∃ v vg, FnIn w m.f v vg m.g ((u2.setCell ⟨w.heap.size, 0, none⟩ v6).setCell ⟨w.heap.size, 1, none⟩ v9).heap.size nf 0 ((u2.setCell ⟨w.heap.size, 0, none⟩ v6).setCell ⟨w.heap.size, 1, none⟩ v9)) from by
      obtain ⟨ys, g1, g2, g3, g4⟩ := h6
      have hz := HZ0.out
      have hb0 : Below W0.heap.size W0 u2 := bthen g4 hb9
      have hu := g4.size
      have hk0 : u2.heap[w.heap.size]? = some (.cells #[.slice F nf cf, .slice G ng cg] 25 (0, 0)) := (hb0.block _ (by omega)).trans HX0.out
      have hk1 : u2.heap[w.heap.size + 1]? = some (.cells #[.slice none 0 0, .slice none 0 0] 25 (0, 0)) := (hb0.block _ (by omega)).trans HX1.out
      have hs0 := heap_setCell_same u2 w.heap.size 0 _ _ v6 hk0
      have hs1 := heap_setCell_same (u2.setCell ⟨w.heap.size, 0, none⟩ v6) w.heap.size 1 _ _ v9 hs0
      have hoth : ∀ q, q ≠ w.heap.size → ((u2.setCell ⟨w.heap.size, 0, none⟩ v6).setCell ⟨w.heap.size, 1, none⟩ v9).heap[q]? = u2.heap[q]? := fun q hq => (Below.heap_setCell _ _ _ _ (by simpa using hq)).trans (Below.heap_setCell _ _ _ _ (by simpa using hq))
      have hsz : ((u2.setCell ⟨w.heap.size, 0, none⟩ v6).setCell ⟨w.heap.size, 1, none⟩ v9).heap.size = u2.heap.size := by simp
      have low6 : ∀ g, v6.ownBlock = some g → w.heap.size + 2 ≤ g ∧ g < u1.heap.size := fun g hg => g1.lt g hg
      have low9 : ∀ g, v9.ownBlock = some g → u1.heap.size ≤ g ∧ g < u2.heap.size := fun g hg => ho9.lt g hg
      have g1' : u2.ownsRow (w.heap.size + 2) 78 4 v6 nf ys := ownsRow_atv g1 (fun g hg => hb9.block g (low6 g hg).2)
      refine ⟨⟨_, Lib.cell_of_heap hk0 0⟩, Lib.frozen_of_heap hk0 0, ⟨_, Lib.cell_of_heap hs0 1⟩, Lib.frozen_of_heap hs0 1, v6, v9, ys, ownsRow_atv g1' (fun g hg => hoth g (by have := low6 g hg; omega)), fun j _ h => absurd h (by omega), fun j hj _ => g2 j hj, ?_, Nat.le_refl _, fun g hg => by have := low6 g hg; have := hb9.size; omega, by have := hb9.size; omega, hs1, (hoth _ (by omega)).trans hk1, zs, ?_, ?_, fun g g' hg hg' => by have := low6 g hg; have := low9 g' hg'; omega⟩
      · exact below_setc (below_setc (g3.trans (hb9.mono g3.size)) (Nat.le_refl _)) (Nat.le_refl _)
      · refine ownsRow_atv (W := u2) ?_ (fun g hg => hoth g (by have := low9 g hg; omega))
        rcases ho9 with ⟨a1, a2 | ⟨g', cap', cur, rfl, hge, hh, r⟩⟩
        · exact ⟨a1, .inl a2⟩
        · exact ⟨a1, .inr ⟨g', cap', cur, rfl, by omega, hh, r⟩⟩
      · exact globs_same ho9 hrow9 (fun g hg => hoth g (by have := low9 g hg; omega))))
  clear HB0 HX0 HX1
  go_cut [] from 4 to 11 (fun wy => ∃ v vg, FnIn w m.f v vg m.g wy.heap.size nf 0 wy)
  case first =>
    refine wp_region_held_drew (S := (fun _ => True)) (by kernel_rfl) trivial (fun hHeld => ?_)
    refine wpAnyH_take (i := 0) (v := ?_) rfl (by kernel_rfl) (by kernel_rfl) (by kernel_rfl) (fun _ _ _ h => h) (Or.inl ⟨by rfl, ?_⟩) hHeld ?_
    rotate_left
    · intro W' hSw; (try dsimp only at hSw); go_simp; try (with_reducible rfl)
    (try simp only [Act.put, List.getElem_toArray, List.getElem_cons_zero, List.setIfInBounds_toArray, List.set_cons_zero, List.set_cons_succ])
    refine wpAnyH_take (i := 3) (v := ?_) rfl (by kernel_rfl) (by kernel_rfl) (by kernel_rfl) (fun _ _ _ h => h) (Or.inl ⟨by rfl, ?_⟩) hHeld ?_
    rotate_left
    · intro W' hSw; (try dsimp only at hSw); go_simp; try (with_reducible rfl)
    (try simp only [Act.put, List.getElem_toArray, List.getElem_cons_zero, List.getElem_cons_succ, List.setIfInBounds_toArray, List.set_cons_zero, List.set_cons_succ])
    refine wpAnyH_ready (rs := [1, 4]) (by kernel_rfl) (by simp) ?_
    refine AllReadyH.cons rfl (fun K hK => ?_) (AllReadyH.cons rfl (fun K hK => ?_) AllReadyH.nil)
    · go_simp
      refine hK.out _ _ trivial (fun hHeld => ?_)
      clear hK
      (try simp only [Act.put, List.getElem_toArray, List.getElem_cons_zero, List.getElem_cons_succ, List.setIfInBounds_toArray, List.set_cons_zero, List.set_cons_succ])
      refine wpAnyH_ready (rs := [2, 4]) (by kernel_rfl) (by simp) ?_
      refine AllReadyH.cons rfl (fun K hK => ?_) (AllReadyH.cons rfl (fun K hK => ?_) AllReadyH.nil)
      · go_simp
        refine Calls.mono HC1.out ?_
        rintro r u1 ⟨v6, ys, rfl, ho6, hrow6, hb6, hsrc⟩
        obtain ⟨A6, c6, hv6⟩ := RowOf.slice hrow6
        rw [HNF.out] at hv6
        subst hv6
        obtain ⟨HBU, e4b, HX6⟩ := HS1.out u1 _ ys hb6 ho6 hsrc
        refine hK.out _ _ trivial (fun hHeld => ?_)
        clear hK
        (try simp only [Act.put, List.getElem_toArray, List.getElem_cons_zero, List.getElem_cons_succ, List.setIfInBounds_toArray, List.set_cons_zero, List.set_cons_succ])
        refine wpAnyH_ready (rs := [4]) (by kernel_rfl) (by simp) ?_
        refine AllReadyH.cons rfl (fun K hK => ?_) AllReadyH.nil
        go_simp
        refine hK.out _ _ trivial (fun hHeld => ?_)
        clear hK
        (try simp only [Act.put, List.getElem_toArray, List.getElem_cons_zero, List.getElem_cons_succ, List.setIfInBounds_toArray, List.set_cons_zero, List.set_cons_succ])
        refine wpAnyH_take (i := 6) (v := ?_) rfl (by kernel_rfl) (by kernel_rfl) (by kernel_rfl) (fun _ _ _ h => h) (Or.inl ⟨by rfl, ?_⟩) hHeld ?_
        rotate_left
        · intro W' hSw; (try dsimp only at hSw); go_simp; try (with_reducible rfl)
        (try simp only [Act.put, List.getElem_toArray, List.getElem_cons_zero, List.getElem_cons_succ, List.setIfInBounds_toArray, List.set_cons_zero, List.set_cons_succ])
        refine wpAnyH_ready (rs := [5]) (by kernel_rfl) (by simp) ?_
        refine AllReadyH.cons rfl (fun K hK => ?_) AllReadyH.nil
        go_simp
        refine Calls.mono (HC2.out _ HBU) ?_
        rintro r u2 ⟨v9, zs, rfl, ho9, hrow9, hb9, -⟩
        obtain ⟨A9, c9, hv9⟩ := RowOf.slice hrow9
        rw [HNG.out] at hv9
        subst hv9
        obtain ⟨⟨z7, e7⟩, f7, ⟨z9, e9⟩, f9, HFIN⟩ := HS2.out u1 u2 _ _ zs HX6 hb9 ho9 hrow9
        refine hK.out _ _ trivial (fun hHeld => ?_)
        clear hK
        (try simp only [Act.put, List.getElem_toArray, List.getElem_cons_zero, List.getElem_cons_succ, List.setIfInBounds_toArray, List.set_cons_zero, List.set_cons_succ])
        refine wpAnyH_ready (rs := [7]) (by kernel_rfl) (by simp) ?_
        refine AllReadyH.cons rfl (fun K hK => ?_) AllReadyH.nil
        go_simp
        refine hK.out _ _ trivial (fun hHeld => ?_)
        clear hK
        (try simp only [Act.put, List.getElem_toArray, List.getElem_cons_zero, List.getElem_cons_succ, List.setIfInBounds_toArray, List.set_cons_zero, List.set_cons_succ])
        refine wpAnyH_take (i := 8) (v := ?_) rfl (by kernel_rfl) (by kernel_rfl) (by kernel_rfl) (fun _ _ _ h => h) (Or.inl ⟨by rfl, ?_⟩) hHeld ?_
        rotate_left
        · intro W' hSw; (try dsimp only at hSw); go_simp; try (with_reducible rfl)
        (try simp only [Act.put, List.getElem_toArray, List.getElem_cons_zero, List.getElem_cons_succ, List.setIfInBounds_toArray, List.set_cons_zero, List.set_cons_succ])
        refine wpAnyH_ready (rs := [9]) (by kernel_rfl) (by simp) ?_
        refine AllReadyH.cons rfl (fun K hK => ?_) AllReadyH.nil
        go_simp
        refine hK.out _ _ trivial (fun hHeld => ?_)
        clear hK
        (try simp only [Act.put, List.getElem_toArray, List.getElem_cons_zero, List.getElem_cons_succ, List.setIfInBounds_toArray, List.set_cons_zero, List.set_cons_succ])
        refine wpAnyH_done (by kernel_rfl) ?_ _
        go_wp2_with fail
        go_meet
        exact HFIN
      · go_simp
        refine hK.out _ _ trivial (fun hHeld => ?_)
        clear hK
        (try simp only [Act.put, List.getElem_toArray, List.getElem_cons_zero, List.getElem_cons_succ, List.setIfInBounds_toArray, List.set_cons_zero, List.set_cons_succ])
        refine wpAnyH_ready (rs := [2]) (by kernel_rfl) (by simp) ?_
        refine AllReadyH.cons rfl (fun K hK => ?_) AllReadyH.nil
        go_simp
        refine Calls.mono HC1.out ?_
        rintro r u1 ⟨v6, ys, rfl, ho6, hrow6, hb6, hsrc⟩
        obtain ⟨A6, c6, hv6⟩ := RowOf.slice hrow6
        rw [HNF.out] at hv6
        subst hv6
        obtain ⟨HBU, e4b, HX6⟩ := HS1.out u1 _ ys hb6 ho6 hsrc
        refine hK.out _ _ trivial (fun hHeld => ?_)
        clear hK
        (try simp only [Act.put, List.getElem_toArray, List.getElem_cons_zero, List.getElem_cons_succ, List.setIfInBounds_toArray, List.set_cons_zero, List.set_cons_succ])
        refine wpAnyH_take (i := 6) (v := ?_) rfl (by kernel_rfl) (by kernel_rfl) (by kernel_rfl) (fun _ _ _ h => h) (Or.inl ⟨by rfl, ?_⟩) hHeld ?_
        rotate_left
        · intro W' hSw; (try dsimp only at hSw); go_simp; try (with_reducible rfl)
        (try simp only [Act.put, List.getElem_toArray, List.getElem_cons_zero, List.getElem_cons_succ, List.setIfInBounds_toArray, List.set_cons_zero, List.set_cons_succ])
        refine wpAnyH_ready (rs := [5]) (by kernel_rfl) (by simp) ?_
        refine AllReadyH.cons rfl (fun K hK => ?_) AllReadyH.nil
        go_simp
        refine Calls.mono (HC2.out _ HBU) ?_
        rintro r u2 ⟨v9, zs, rfl, ho9, hrow9, hb9, -⟩
        obtain ⟨A9, c9, hv9⟩ := RowOf.slice hrow9
        rw [HNG.out] at hv9
        subst hv9
        obtain ⟨⟨z7, e7⟩, f7, ⟨z9, e9⟩, f9, HFIN⟩ := HS2.out u1 u2 _ _ zs HX6 hb9 ho9 hrow9
        refine hK.out _ _ trivial (fun hHeld => ?_)
        clear hK
        (try simp only [Act.put, List.getElem_toArray, List.getElem_cons_zero, List.getElem_cons_succ, List.setIfInBounds_toArray, List.set_cons_zero, List.set_cons_succ])
        refine wpAnyH_ready (rs := [7]) (by kernel_rfl) (by simp) ?_
        refine AllReadyH.cons rfl (fun K hK => ?_) AllReadyH.nil
        go_simp
        refine hK.out _ _ trivial (fun hHeld => ?_)
        clear hK
        (try simp only [Act.put, List.getElem_toArray, List.getElem_cons_zero, List.getElem_cons_succ, List.setIfInBounds_toArray, List.set_cons_zero, List.set_cons_succ])
        refine wpAnyH_take (i := 8) (v := ?_) rfl (by kernel_rfl) (by kernel_rfl) (by kernel_rfl) (fun _ _ _ h => h) (Or.inl ⟨by rfl, ?_⟩) hHeld ?_
        rotate_left
        · intro W' hSw; (try dsimp only at hSw); go_simp; try (with_reducible rfl)
        (try simp only [Act.put, List.getElem_toArray, List.getElem_cons_zero, List.getElem_cons_succ, List.setIfInBounds_toArray, List.set_cons_zero, List.set_cons_succ])
        refine wpAnyH_ready (rs := [9]) (by kernel_rfl) (by simp) ?_
        refine AllReadyH.cons rfl (fun K hK => ?_) AllReadyH.nil
        go_simp
        refine hK.out _ _ trivial (fun hHeld => ?_)
        clear hK
        (try simp only [Act.put, List.getElem_toArray, List.getElem_cons_zero, List.getElem_cons_succ, List.setIfInBounds_toArray, List.set_cons_zero, List.set_cons_succ])
        refine wpAnyH_done (by kernel_rfl) ?_ _
        go_wp2_with fail
        go_meet
        exact HFIN
    · go_simp
      refine hK.out _ _ trivial (fun hHeld => ?_)
      clear hK
      (try simp only [Act.put, List.getElem_toArray, List.getElem_cons_zero, List.getElem_cons_succ, List.setIfInBounds_toArray, List.set_cons_zero, List.set_cons_succ])
      refine wpAnyH_ready (rs := [1]) (by kernel_rfl) (by simp) ?_
      refine AllReadyH.cons rfl (fun K hK => ?_) AllReadyH.nil
      go_simp
      refine hK.out _ _ trivial (fun hHeld => ?_)
      clear hK
      (try simp only [Act.put, List.getElem_toArray, List.getElem_cons_zero, List.getElem_cons_succ, List.setIfInBounds_toArray, List.set_cons_zero, List.set_cons_succ])
      refine wpAnyH_ready (rs := [2]) (by kernel_rfl) (by simp) ?_
      refine AllReadyH.cons rfl (fun K hK => ?_) AllReadyH.nil
      go_simp
      refine Calls.mono HC1.out ?_
      rintro r u1 ⟨v6, ys, rfl, ho6, hrow6, hb6, hsrc⟩
      obtain ⟨A6, c6, hv6⟩ := RowOf.slice hrow6
      rw [HNF.out] at hv6
      subst hv6
      obtain ⟨HBU, e4b, HX6⟩ := HS1.out u1 _ ys hb6 ho6 hsrc
      refine hK.out _ _ trivial (fun hHeld => ?_)
      clear hK
      (try simp only [Act.put, List.getElem_toArray, List.getElem_cons_zero, List.getElem_cons_succ, List.setIfInBounds_toArray, List.set_cons_zero, List.set_cons_succ])
      refine wpAnyH_take (i := 6) (v := ?_) rfl (by kernel_rfl) (by kernel_rfl) (by kernel_rfl) (fun _ _ _ h => h) (Or.inl ⟨by rfl, ?_⟩) hHeld ?_
      rotate_left
      · intro W' hSw; (try dsimp only at hSw); go_simp; try (with_reducible rfl)
      (try simp only [Act.put, List.getElem_toArray, List.getElem_cons_zero, List.getElem_cons_succ, List.setIfInBounds_toArray, List.set_cons_zero, List.set_cons_succ])
      refine wpAnyH_ready (rs := [5]) (by kernel_rfl) (by simp) ?_
      refine AllReadyH.cons rfl (fun K hK => ?_) AllReadyH.nil
      go_simp
      refine Calls.mono (HC2.out _ HBU) ?_
      rintro r u2 ⟨v9, zs, rfl, ho9, hrow9, hb9, -⟩
      obtain ⟨A9, c9, hv9⟩ := RowOf.slice hrow9
      rw [HNG.out] at hv9
      subst hv9
      obtain ⟨⟨z7, e7⟩, f7, ⟨z9, e9⟩, f9, HFIN⟩ := HS2.out u1 u2 _ _ zs HX6 hb9 ho9 hrow9
      refine hK.out _ _ trivial (fun hHeld => ?_)
      clear hK
      (try simp only [Act.put, List.getElem_toArray, List.getElem_cons_zero, List.getElem_cons_succ, List.setIfInBounds_toArray, List.set_cons_zero, List.set_cons_succ])
      refine wpAnyH_ready (rs := [7]) (by kernel_rfl) (by simp) ?_
      refine AllReadyH.cons rfl (fun K hK => ?_) AllReadyH.nil
      go_simp
      refine hK.out _ _ trivial (fun hHeld => ?_)
      clear hK
      (try simp only [Act.put, List.getElem_toArray, List.getElem_cons_zero, List.getElem_cons_succ, List.setIfInBounds_toArray, List.set_cons_zero, List.set_cons_succ])
      refine wpAnyH_take (i := 8) (v := ?_) rfl (by kernel_rfl) (by kernel_rfl) (by kernel_rfl) (fun _ _ _ h => h) (Or.inl ⟨by rfl, ?_⟩) hHeld ?_
      rotate_left
      · intro W' hSw; (try dsimp only at hSw); go_simp; try (with_reducible rfl)
      (try simp only [Act.put, List.getElem_toArray, List.getElem_cons_zero, List.getElem_cons_succ, List.setIfInBounds_toArray, List.set_cons_zero, List.set_cons_succ])
      refine wpAnyH_ready (rs := [9]) (by kernel_rfl) (by simp) ?_
      refine AllReadyH.cons rfl (fun K hK => ?_) AllReadyH.nil
      go_simp
      refine hK.out _ _ trivial (fun hHeld => ?_)
      clear hK
      (try simp only [Act.put, List.getElem_toArray, List.getElem_cons_zero, List.getElem_cons_succ, List.setIfInBounds_toArray, List.set_cons_zero, List.set_cons_succ])
      refine wpAnyH_done (by kernel_rfl) ?_ _
      go_wp2_with fail
      go_meet
      exact HFIN
  case rest =>
    obtain ⟨v, vg, hin⟩ := hcut
    have HS0 := Lib.hid (show ∃ s, FnIn w m.f v vg m.g s nf 0 wc from ⟨_, hin⟩)
    clear hin
    obtain ⟨s, hin⟩ := HS0.out
    have HIN := Lib.hid hin
    obtain ⟨ys0, a1, -, -, -, -, -, -, a8, a9, zs0, a10, a11, -⟩ := hin
    obtain ⟨A1, c1, rfl⟩ := ownsRow_slice a1
    obtain ⟨A2, c2, hv2⟩ := RowOf.slice a11
    rw [HNG.out] at hv2
    subst hv2
    have c0 : wc.cell? ⟨w.heap.size, 0, none⟩ = some (.slice A1 nf c1) := Lib.cell_of_heap a8 0
    clear HS0 a1 a8 a9 a10 a11 HC1 HC2 HS1 HS2 e1 e4 HZ0
    go_wp2_with fail
    clear c0
    go_loopw [15] (fun iv wr => ∃ i : Nat, i ≤ nf ∧ iv = .int .i64 i ∧ FnIn w m.f (.slice A1 nf c1) (.slice A2 ng c2) m.g s nf i wr) (fun iv _ => nf - (intOf iv).toNat)
    case atStart => exact ⟨0, Nat.zero_le _, rfl, HIN.out⟩
    case round =>
      obtain ⟨i, hi, rfl, hin⟩ := hrel
      have HX := Lib.hid hin
      clear hin HIN
      by_cases hlt : i < nf
      · have hm : i < m.f.length := by have := HNF.out; omega
        obtain ⟨ys, o1, -, o3, o4, -, -, -, o8, -, -⟩ := HX.out
        obtain ⟨g, cap, hv, hge, hlt2⟩ := o1.form (by omega)
        have ev := Value.slice.inj hv
        obtain ⟨rfl, -, rfl⟩ := ev
        obtain ⟨-, -, -, A, c, x3, x4⟩ := o3 i hm (Nat.le_refl _)
        have hd : wr.drew.cell? ⟨w.heap.size, 0, none⟩ = some (.slice (some ⟨g, 0, none⟩) nf c1) := Lib.cell_of_heap o8 0
        have e8 : wr.drew.cell? ⟨g, i * 4 + 3, none⟩ = some (.slice A m.f[i].l.length c) := (o1.cellAt _ (by omega)).trans x3
        have hfs := HSF.out _ (List.getElem_mem hm)
        have HCL := Lib.hid (fun (U : World) (hU : Below w.heap.size w U) => copiedBlocks_any m.f[i].l A m.f[i].l.length c U rfl hfs (x4 U hU))
        have HBD := Lib.hid o4.drew
        have HSC := Lib.hid (fun (U : World) (hU : Below wr.drew.heap.size wr.drew U) => (show U.cell? ⟨w.heap.size, 0, none⟩ = some (.slice (some ⟨g, 0, none⟩) nf c1) from (cellNext (by have := (Array.getElem?_eq_some_iff.1 o8).1; exact this) hU _).trans hd))
        have HST := Lib.hid (fun (u : World) (A9 : Option Addr) (c9 : Nat) (hb : Below wr.drew.heap.size wr.drew u) (ho : ∀ W, SameIn wr.drew.heap.size u.heap.size u W → Blocks W (.slice A9 m.f[i].l.length c9) m.f[i].l) => fnIn_step (A := A9) (c := c9) HNF.out hm HX.out.drew hb ho)
        have hk0 : (0 : Int) ≤ (i : Int) := Int.natCast_nonneg _
        have hk1 : (i : Int) < (nf : Int) := by omega
        have HLT := Lib.hid hlt
        clear HX o1 o3 o4 o8 hv hge hlt2 x3 x4 hlt hfs
        go_upto_region 5 with fail
        refine wp_region_held_drew (S := (fun U => U.cell? ⟨w.heap.size, 0, none⟩ = some (.slice (some ⟨g, 0, none⟩) nf c1))) (by kernel_rfl) hd (fun hHeld => ?_)
        refine wpAnyH_take (i := 0) (v := ?_) rfl (by kernel_rfl) (by kernel_rfl) (by kernel_rfl) (fun _ _ _ h => h) (Or.inl ⟨by rfl, ?_⟩) hHeld ?_
        rotate_left
        · intro W' hSw; (try dsimp only at hSw); go_simp; try (with_reducible rfl)
        (try simp only [Act.put, List.getElem_toArray, List.getElem_cons_zero, List.setIfInBounds_toArray, List.set_cons_zero, List.set_cons_succ])
        refine wpAnyH_take (i := 1) (v := ?_) rfl (by kernel_rfl) (by kernel_rfl) (by kernel_rfl) (fun _ _ _ h => h) (Or.inl ⟨by rfl, ?_⟩) hHeld ?_
        rotate_left
        · intro W' hSw; (try dsimp only at hSw); go_simp; try (with_reducible rfl)
        (try simp only [Act.put, List.getElem_toArray, List.getElem_cons_zero, List.getElem_cons_succ, List.setIfInBounds_toArray, List.set_cons_zero, List.set_cons_succ])
        refine wpAnyH_take (i := 2) (v := ?_) rfl (by kernel_rfl) (by kernel_rfl) (by kernel_rfl) (fun _ _ _ h => h) (Or.inl ⟨by rfl, ?_⟩) hHeld ?_
        rotate_left
        · intro W' hSw; (try dsimp only at hSw); go_simp; try (with_reducible rfl)
        (try simp only [Act.put, List.getElem_toArray, List.getElem_cons_zero, List.getElem_cons_succ, List.setIfInBounds_toArray, List.set_cons_zero, List.set_cons_succ])
        refine wpAnyH_take (i := 3) (v := ?_) rfl (by kernel_rfl) (by kernel_rfl) (by kernel_rfl) (fun _ _ _ h => h) (Or.inl ⟨by rfl, ?_⟩) hHeld ?_
        rotate_left
        · intro W' hSw; (try dsimp only at hSw); go_simp; try (with_reducible rfl)
        (try simp only [Act.put, List.getElem_toArray, List.getElem_cons_zero, List.getElem_cons_succ, List.setIfInBounds_toArray, List.set_cons_zero, List.set_cons_succ])
        refine wpAnyH_take (i := 4) (v := ?_) rfl (by kernel_rfl) (by kernel_rfl) (by kernel_rfl) (fun _ _ _ h => h) (Or.inl ⟨by rfl, ?_⟩) hHeld ?_
        rotate_left
        · intro W' hSw; (try dsimp only at hSw); go_simp; try (with_reducible rfl)
        (try simp only [Act.put, List.getElem_toArray, List.getElem_cons_zero, List.getElem_cons_succ, List.setIfInBounds_toArray, List.set_cons_zero, List.set_cons_succ])
        refine wpAnyH_take (i := 5) (v := ?_) rfl (by kernel_rfl) (by kernel_rfl) (by kernel_rfl) (fun _ _ _ h => h) (Or.inl ⟨by rfl, ?_⟩) hHeld ?_
        rotate_left
        · intro W' hSw; (try dsimp only at hSw); go_simp; try (with_reducible rfl)
        (try simp only [Act.put, List.getElem_toArray, List.getElem_cons_zero, List.getElem_cons_succ, List.setIfInBounds_toArray, List.set_cons_zero, List.set_cons_succ])
        refine wpAnyH_take (i := 6) (v := ?_) rfl (by kernel_rfl) (by kernel_rfl) (by kernel_rfl) (fun _ _ _ h => h) (Or.inl ⟨by rfl, ?_⟩) hHeld ?_
        rotate_left
        · intro W' hSw; (try dsimp only at hSw); go_simp; try (with_reducible rfl)
        (try simp only [Act.put, List.getElem_toArray, List.getElem_cons_zero, List.getElem_cons_succ, List.setIfInBounds_toArray, List.set_cons_zero, List.set_cons_succ])
        refine wpAnyH_take (i := 7) (v := ?_) rfl (by kernel_rfl) (by kernel_rfl) (by kernel_rfl) (fun _ _ _ h => h) (Or.inl ⟨by rfl, ?_⟩) hHeld ?_
        rotate_left
        · intro W' hSw; (try dsimp only at hSw); go_simp; try (with_reducible rfl)
        (try simp only [Act.put, List.getElem_toArray, List.getElem_cons_zero, List.getElem_cons_succ, List.setIfInBounds_toArray, List.set_cons_zero, List.set_cons_succ])
        refine wpAnyH_ready (rs := [8]) (by kernel_rfl) (by simp) ?_
        refine AllReadyH.cons rfl (fun K hK => ?_) AllReadyH.nil
        go_simp
        refine hK.out _ _ hd (fun hHeld => ?_)
        clear hK
        (try simp only [Act.put, List.getElem_toArray, List.getElem_cons_zero, List.getElem_cons_succ, List.setIfInBounds_toArray, List.set_cons_zero, List.set_cons_succ])
        refine wpAnyH_ready (rs := [9]) (by kernel_rfl) (by simp) ?_
        refine AllReadyH.cons rfl (fun K hK => ?_) AllReadyH.nil
        go_simp
        refine Calls.mono (HCL.out _ HBD.out) ?_
        rintro r u1 ⟨A9, c9, rfl, hb5, ho5⟩
        have hd1 := HSC.out u1 hb5
        obtain ⟨⟨z9, e9⟩, f9, hd2, HF⟩ := HST.out u1 A9 c9 hb5 ho5
        refine hK.out _ _ hd1 (fun hHeld => ?_)
        clear hK
        (try simp only [Act.put, List.getElem_toArray, List.getElem_cons_zero, List.getElem_cons_succ, List.setIfInBounds_toArray, List.set_cons_zero, List.set_cons_succ])
        refine wpAnyH_take (i := 10) (v := ?_) rfl (by kernel_rfl) (by kernel_rfl) (by kernel_rfl) (fun _ _ _ h => h) (Or.inl ⟨by rfl, ?_⟩) hHeld ?_
        rotate_left
        · intro W' hSw; (try dsimp only at hSw); go_simp; try (with_reducible rfl)
        (try simp only [Act.put, List.getElem_toArray, List.getElem_cons_zero, List.getElem_cons_succ, List.setIfInBounds_toArray, List.set_cons_zero, List.set_cons_succ])
        refine wpAnyH_take (i := 11) (v := ?_) rfl (by kernel_rfl) (by kernel_rfl) (by kernel_rfl) (fun _ _ _ h => h) (Or.inl ⟨by rfl, ?_⟩) hHeld ?_
        rotate_left
        · intro W' hSw; (try dsimp only at hSw); go_simp; try (with_reducible rfl)
        (try simp only [Act.put, List.getElem_toArray, List.getElem_cons_zero, List.getElem_cons_succ, List.setIfInBounds_toArray, List.set_cons_zero, List.set_cons_succ])
        refine wpAnyH_ready (rs := [12]) (by kernel_rfl) (by simp) ?_
        refine AllReadyH.cons rfl (fun K hK => ?_) AllReadyH.nil
        go_simp
        refine hK.out _ _ hd2 (fun hHeld => ?_)
        clear hK
        (try simp only [Act.put, List.getElem_toArray, List.getElem_cons_zero, List.getElem_cons_succ, List.setIfInBounds_toArray, List.set_cons_zero, List.set_cons_succ])
        refine wpAnyH_done (by kernel_rfl) ?_ _
        have HXX := Lib.hid HF
        clear HF hd hd1 hd2 hHeld e9 f9 e8 hb5
        go_wp2_with fail
        go_roundw
        case rel => exact ⟨i + 1, HLT.out, by go_num, HXX.out⟩
        case measure => have := HLT.out; simp [intOf]; omega
      · have hd : decide ((i : Int) < (nf : Int)) = false := by simp; omega
        obtain ⟨ys, o1, o2, -, o4, -, -, o7, o8, o9, zs, o10, o11, o12⟩ := HX.out
        have c0 : wr.cell? ⟨w.heap.size, 0, none⟩ = some (.slice A1 nf c1) := Lib.cell_of_heap o8 0
        have c1' : wr.cell? ⟨w.heap.size, 1, none⟩ = some (.slice A2 ng c2) := Lib.cell_of_heap o8 1
        have HBW := Lib.hid o4
        have HFI := Lib.hid (show ∀ W, SameIn (w.heap.size + 2) wr.heap.size wr W → MdAt W (.slice A1 nf c1) (.slice A2 ng c2) m from fun W hW => by
          refine ⟨fn_row (base := w.heap.size + 2) (ys := ys) (S := SameIn s wr.heap.size wr) ?_ (hW.thin o7 (Nat.le_refl _)) (fun j hj => o2 j hj (by have := HNF.out; omega)), globs_same o10 o11 (fun q hq => hW.2 q (o10.lt q hq).1 (o10.lt q hq).2)⟩
          rw [HNF.out]
          exact ownsRow_same o1 (Nat.le_refl _) (Nat.le_refl _) hW)
        have HO9 := Lib.hid o9
        clear o1 o2 o4 o7 o8 o9 o10 o11 o12
        have HR9 := Lib.hid (setRow_heap wr (w.heap.size + 1) _ #[.slice A1 nf c1, .slice A2 ng c2] _ _ HO9.out)
        have HFR := Lib.hid (show Below w.heap.size w (wr.setRow (w.heap.size + 1) #[.slice A1 nf c1, .slice A2 ng c2]) ∧ ∀ W, SameIn w.heap.size (wr.setRow (w.heap.size + 1) #[.slice A1 nf c1, .slice A2 ng c2]).heap.size (wr.setRow (w.heap.size + 1) #[.slice A1 nf c1, .slice A2 ng c2]) W → MdAt W (.slice A1 nf c1) (.slice A2 ng c2) m from by
          refine ⟨HBW.out.trans ⟨rfl, rfl, rfl, by simp, fun k hk => setRow_other _ _ k _ (by omega)⟩, fun W hW => HFI.out W ⟨by have := hW.1; simpa using this, fun q q1 q2 => ?_⟩⟩
          rw [hW.2 q (by omega) (by simpa using q2)]
          exact setRow_other _ _ q _ (by omega))
        go_wp2_with (refine wpList_store_row rfl _ _ _ rfl (w.heap.size + 1) #[.slice A1 nf c1, .slice A2 ng c2] rfl rfl _ _ HO9.out md_info rfl (by simp [Value.oneCell']) ?_)
        exact bodyPost_ret (md_results _ _ (w.heap.size + 1) _ _ HR9.out rfl) rfl ⟨_, _, _, _, rfl, HFR.out⟩
end Go.Proofs.Ytcfniagmnkngfaa
