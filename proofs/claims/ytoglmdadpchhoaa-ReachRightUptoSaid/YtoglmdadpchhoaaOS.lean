/- Rows in new memory: worlds in which these blocks lie as they lay: pure. -/
import Derived.Test.YtoglmdadpchhoaaHY3
namespace Go.Proofs.Ytoglmdadpchhoaa
open Go.RowKit

/-- a world in which these blocks lie as they lie in W -/
def SameIn (lo hi : Nat) (W W' : World) : Prop := W.heap.size ≤ W'.heap.size ∧ ∀ b, lo ≤ b → b < hi → W'.heap[b]? = W.heap[b]?
theorem SameIn.refl (lo hi : Nat) (W : World) : SameIn lo hi W W := ⟨Nat.le_refl _, fun _ _ _ => rfl⟩
theorem SameIn.trans {lo hi : Nat} {A B C : World} (h : SameIn lo hi A B) (k : SameIn lo hi B C) : SameIn lo hi A C := ⟨Nat.le_trans h.1 k.1, fun b h1 h2 => (k.2 b h1 h2).trans (h.2 b h1 h2)⟩
theorem SameIn.thin {lo hi lo' hi' : Nat} {W W' : World} (h : SameIn lo hi W W') (h1 : lo ≤ lo') (h2 : hi' ≤ hi) : SameIn lo' hi' W W' := ⟨h.1, fun b g1 g2 => h.2 b (by omega) (by omega)⟩
theorem SameIn.of_below {n lo hi : Nat} {W W' : World} (h : Below n W W') (h2 : hi ≤ n) : SameIn lo hi W W' := ⟨h.size, fun b _ g2 => h.block b (by omega)⟩
/-- what lies as it lay from a world on, and what it is told of there -/
theorem SameIn.from {lo : Nat} {A B C : World} (h : SameIn lo A.heap.size A B) (k : SameIn lo B.heap.size B C) : SameIn lo A.heap.size A C := h.trans (k.thin (Nat.le_refl _) h.1)

theorem ownsRow_same {W W' : World} {base : Nat} {T : TypeId} {sz n : Nat} {v : Value} {ys : List Value} {lo hi : Nat} (h : W.ownsRow base T sz v n ys) (hlo : lo ≤ base) (hhi : W.heap.size ≤ hi) (hs : SameIn lo hi W W') : W'.ownsRow base T sz v n ys := by
  rcases h with ⟨h1, h2 | ⟨g, cap, cur, hv, hge, hh, r⟩⟩
  · exact ⟨h1, .inl h2⟩
  · have hg := (Array.getElem?_eq_some_iff.1 hh).1
    exact ⟨h1, .inr ⟨g, cap, cur, hv, hge, (hs.2 g (by omega) (by omega)).trans hh, r⟩⟩
theorem ownsI_same {W W' : World} {base : Nat} {v : Value} {l : List Int} (h : OwnsI W base v l) (hs : SameIn base W.heap.size W W') : Ints W' v l :=
  OwnsI.ints (base := base) (ownsRow_same h (Nat.le_refl _) (Nat.le_refl _) hs)
/-- the cells of an instruction, of a block, of a function in a row: what they lead to lies so in each world of a kind -/
def InYs (S : World → Prop) (ys : List Value) (j : Nat) (x : In) : Prop :=
  ys[j * 6]? = some (.int .i64 x.o) ∧ ys[j * 6 + 1]? = some (.int .i64 x.a) ∧ ys[j * 6 + 2]? = some (.int .i64 x.b) ∧ ys[j * 6 + 3]? = some (.int .u64 x.k) ∧ ys[j * 6 + 4]? = some (.string x.s) ∧
    ∃ A c, ys[j * 6 + 5]? = some (.slice A x.l.length c) ∧ ∀ W, S W → Ints W (.slice A x.l.length c) x.l
def BkYs (S : World → Prop) (ys : List Value) (j : Nat) (x : Bk) : Prop :=
  ys[j * 8]? = some (.int .i64 x.p) ∧ (∃ A c, ys[j * 8 + 1]? = some (.slice A x.i.length c) ∧ ∀ W, S W → Insts W (.slice A x.i.length c) x.i) ∧
    ys[j * 8 + 2]? = some (.int .i64 x.e.k) ∧ ys[j * 8 + 3]? = some (.int .i64 x.e.a) ∧ ys[j * 8 + 4]? = some (.int .i64 x.e.t) ∧
    (∃ A c, ys[j * 8 + 5]? = some (.slice A x.e.l.length c) ∧ ∀ W, S W → Ints W (.slice A x.e.l.length c) x.e.l) ∧ ys[j * 8 + 6]? = some (.int .i64 x.e.e) ∧
    (∃ A c, ys[j * 8 + 7]? = some (.slice A x.e.m.length c) ∧ ∀ W, S W → Ints W (.slice A x.e.m.length c) x.e.m)
def FnYs (S : World → Prop) (ys : List Value) (j : Nat) (x : Fn) : Prop :=
  ys[j * 4]? = some (.string x.s) ∧ ys[j * 4 + 1]? = some (.int .i64 x.b) ∧ ys[j * 4 + 2]? = some (.int .i64 x.p) ∧ ∃ A c, ys[j * 4 + 3]? = some (.slice A x.l.length c) ∧ ∀ W, S W → Blocks W (.slice A x.l.length c) x.l
theorem InYs.mono {S S' : World → Prop} {ys : List Value} {j : Nat} {x : In} (h : InYs S ys j x) (hs : ∀ W, S' W → S W) : InYs S' ys j x := by
  obtain ⟨h0, h1, h2, h3, h4, A, c, h5, h6⟩ := h
  exact ⟨h0, h1, h2, h3, h4, A, c, h5, fun W hW => h6 W (hs W hW)⟩
theorem BkYs.mono {S S' : World → Prop} {ys : List Value} {j : Nat} {x : Bk} (h : BkYs S ys j x) (hs : ∀ W, S' W → S W) : BkYs S' ys j x := by
  obtain ⟨h0, ⟨A, c, h1, g1⟩, h2, h3, h4, ⟨A5, c5, h5, g5⟩, h6, A7, c7, h7, g7⟩ := h
  exact ⟨h0, ⟨A, c, h1, fun W hW => g1 W (hs W hW)⟩, h2, h3, h4, ⟨A5, c5, h5, fun W hW => g5 W (hs W hW)⟩, h6, A7, c7, h7, fun W hW => g7 W (hs W hW)⟩
theorem FnYs.mono {S S' : World → Prop} {ys : List Value} {j : Nat} {x : Fn} (h : FnYs S ys j x) (hs : ∀ W, S' W → S W) : FnYs S' ys j x := by
  obtain ⟨h0, h1, h2, A, c, h3, h4⟩ := h
  exact ⟨h0, h1, h2, A, c, h3, fun W hW => h4 W (hs W hW)⟩
/-- a cell of another thing is written -/
theorem InYs.other {S : World → Prop} {ys : List Value} {j i : Nat} {x : In} (h : InYs S ys j x) (hj : j ≠ i) (u : Value) : InYs S (ys.set (i * 6 + 5) u) j x := by
  have q : ∀ c, c < 6 → (ys.set (i * 6 + 5) u)[j * 6 + c]? = ys[j * 6 + c]? := fun c hc => List.getElem?_set_ne (by omega)
  obtain ⟨h0, h1, h2, h3, h4, A, c, h5, h6⟩ := h
  exact ⟨(q 0 (by omega)).trans h0, (q 1 (by omega)).trans h1, (q 2 (by omega)).trans h2, (q 3 (by omega)).trans h3, (q 4 (by omega)).trans h4, A, c, (q 5 (by omega)).trans h5, h6⟩
theorem BkYs.other {S : World → Prop} {ys : List Value} {j i k : Nat} {x : Bk} (h : BkYs S ys j x) (hj : j ≠ i) (hk : k < 8) (u : Value) : BkYs S (ys.set (i * 8 + k) u) j x := by
  have q : ∀ c, c < 8 → (ys.set (i * 8 + k) u)[j * 8 + c]? = ys[j * 8 + c]? := fun c hc => List.getElem?_set_ne (by omega)
  obtain ⟨h0, ⟨A, c, h1, g1⟩, h2, h3, h4, ⟨A5, c5, h5, g5⟩, h6, A7, c7, h7, g7⟩ := h
  exact ⟨(q 0 (by omega)).trans h0, ⟨A, c, (q 1 (by omega)).trans h1, g1⟩, (q 2 (by omega)).trans h2, (q 3 (by omega)).trans h3, (q 4 (by omega)).trans h4, ⟨A5, c5, (q 5 (by omega)).trans h5, g5⟩, (q 6 (by omega)).trans h6, A7, c7, (q 7 (by omega)).trans h7, g7⟩
theorem FnYs.other {S : World → Prop} {ys : List Value} {j i : Nat} {x : Fn} (h : FnYs S ys j x) (hj : j ≠ i) (u : Value) : FnYs S (ys.set (i * 4 + 3) u) j x := by
  have q : ∀ c, c < 4 → (ys.set (i * 4 + 3) u)[j * 4 + c]? = ys[j * 4 + c]? := fun c hc => List.getElem?_set_ne (by omega)
  obtain ⟨h0, h1, h2, A, c, h3, h4⟩ := h
  exact ⟨(q 0 (by omega)).trans h0, (q 1 (by omega)).trans h1, (q 2 (by omega)).trans h2, A, c, (q 3 (by omega)).trans h3, h4⟩
/-- its own cell is written -/
theorem InYs.put {S S' : World → Prop} {ys : List Value} {i : Nat} {x : In} (h : InYs S ys i x) (hl : i * 6 + 5 < ys.length) {A : Option Addr} {c : Nat} (hn : ∀ W, S' W → Ints W (.slice A x.l.length c) x.l) : InYs S' (ys.set (i * 6 + 5) (.slice A x.l.length c)) i x := by
  have q : ∀ c, c < 5 → ∀ u : Value, (ys.set (i * 6 + 5) u)[i * 6 + c]? = ys[i * 6 + c]? := fun c hc u => List.getElem?_set_ne (by omega)
  obtain ⟨h0, h1, h2, h3, h4, -⟩ := h
  exact ⟨(q 0 (by omega) _).trans h0, (q 1 (by omega) _).trans h1, (q 2 (by omega) _).trans h2, (q 3 (by omega) _).trans h3, (q 4 (by omega) _).trans h4, A, c, List.getElem?_set_self hl, hn⟩
theorem FnYs.put {S S' : World → Prop} {ys : List Value} {i : Nat} {x : Fn} (h : FnYs S ys i x) (hl : i * 4 + 3 < ys.length) {A : Option Addr} {c : Nat} (hn : ∀ W, S' W → Blocks W (.slice A x.l.length c) x.l) : FnYs S' (ys.set (i * 4 + 3) (.slice A x.l.length c)) i x := by
  have q : ∀ c, c < 3 → ∀ u : Value, (ys.set (i * 4 + 3) u)[i * 4 + c]? = ys[i * 4 + c]? := fun c hc u => List.getElem?_set_ne (by omega)
  obtain ⟨h0, h1, h2, -⟩ := h
  exact ⟨(q 0 (by omega) _).trans h0, (q 1 (by omega) _).trans h1, (q 2 (by omega) _).trans h2, A, c, List.getElem?_set_self hl, hn⟩
theorem BkYs.put {S S' : World → Prop} {ys : List Value} {i : Nat} {x : Bk} (h : BkYs S ys i x) (hl : i * 8 + 7 < ys.length) {A A5 A7 : Option Addr} {c c5 c7 : Nat} (hn : ∀ W, S' W → Insts W (.slice A x.i.length c) x.i)
    (hn5 : ∀ W, S' W → Ints W (.slice A5 x.e.l.length c5) x.e.l) (hn7 : ∀ W, S' W → Ints W (.slice A7 x.e.m.length c7) x.e.m) :
    BkYs S' (((ys.set (i * 8 + 1) (.slice A x.i.length c)).set (i * 8 + 5) (.slice A5 x.e.l.length c5)).set (i * 8 + 7) (.slice A7 x.e.m.length c7)) i x := by
  have q : ∀ c, c < 8 → c ≠ 1 → c ≠ 5 → c ≠ 7 → ∀ u u5 u7 : Value, (((ys.set (i * 8 + 1) u).set (i * 8 + 5) u5).set (i * 8 + 7) u7)[i * 8 + c]? = ys[i * 8 + c]? := fun c hc h1 h5 h7 u u5 u7 => by
    rw [List.getElem?_set_ne (by omega), List.getElem?_set_ne (by omega), List.getElem?_set_ne (by omega)]
  obtain ⟨h0, -, h2, h3, h4, -, h6, -⟩ := h
  refine ⟨(q 0 (by omega) (by omega) (by omega) (by omega) _ _ _).trans h0, ⟨A, c, ?_, hn⟩, (q 2 (by omega) (by omega) (by omega) (by omega) _ _ _).trans h2, (q 3 (by omega) (by omega) (by omega) (by omega) _ _ _).trans h3, (q 4 (by omega) (by omega) (by omega) (by omega) _ _ _).trans h4, ⟨A5, c5, ?_, hn5⟩, (q 6 (by omega) (by omega) (by omega) (by omega) _ _ _).trans h6, A7, c7, ?_, hn7⟩
  · rw [List.getElem?_set_ne (by omega), List.getElem?_set_ne (by omega), List.getElem?_set_self (by omega)]
  · rw [List.getElem?_set_ne (by omega), List.getElem?_set_self (by simp; omega)]
  · rw [List.getElem?_set_self (by simp; omega)]
/-- the cells of a row that was cloned -/
theorem in_ys {w0 : World} {b off : Nat} {l : List In} (hp : ∀ (i : Nat) (hi : i < l.length), InAt w0 b (off + i * 6) l[i]) {ys : List Value} (hc : ∀ j, j < l.length * 6 → ys[j]? = w0.cell? ⟨b, off + j, none⟩) :
    ∀ (i : Nat) (hi : i < l.length), InYs (Below w0.heap.size w0) ys i l[i] := fun i hi => by
  have q : ∀ c, c < 6 → ys[i * 6 + c]? = w0.cell? ⟨b, off + i * 6 + c, none⟩ := fun c h => by rw [hc _ (by omega), Nat.add_assoc]
  obtain ⟨h0, h1, h2, h3, h4, A, c, h5, h6⟩ := hp i hi
  exact ⟨(q 0 (by omega)).trans h0, (q 1 (by omega)).trans h1, (q 2 (by omega)).trans h2, (q 3 (by omega)).trans h3, (q 4 (by omega)).trans h4, A, c, (q 5 (by omega)).trans h5, fun W hW => h6.next hW⟩
theorem bk_ys {w0 : World} {b off : Nat} {l : List Bk} (hp : ∀ (i : Nat) (hi : i < l.length), BkAt w0 b (off + i * 8) l[i]) {ys : List Value} (hc : ∀ j, j < l.length * 8 → ys[j]? = w0.cell? ⟨b, off + j, none⟩) :
    ∀ (i : Nat) (hi : i < l.length), BkYs (Below w0.heap.size w0) ys i l[i] := fun i hi => by
  have q : ∀ c, c < 8 → ys[i * 8 + c]? = w0.cell? ⟨b, off + i * 8 + c, none⟩ := fun c h => by rw [hc _ (by omega), Nat.add_assoc]
  obtain ⟨h0, ⟨A, c, h1, g1⟩, h2, h3, h4, ⟨A5, c5, h5, g5⟩, h6, A7, c7, h7, g7⟩ := hp i hi
  exact ⟨(q 0 (by omega)).trans h0, ⟨A, c, (q 1 (by omega)).trans h1, fun W hW => g1.next hW⟩, (q 2 (by omega)).trans h2, (q 3 (by omega)).trans h3, (q 4 (by omega)).trans h4, ⟨A5, c5, (q 5 (by omega)).trans h5, fun W hW => g5.next hW⟩, (q 6 (by omega)).trans h6, A7, c7, (q 7 (by omega)).trans h7, fun W hW => g7.next hW⟩
theorem fn_ys {w0 : World} {b off : Nat} {l : List Fn} (hp : ∀ (i : Nat) (hi : i < l.length), FnAt w0 b (off + i * 4) l[i]) {ys : List Value} (hc : ∀ j, j < l.length * 4 → ys[j]? = w0.cell? ⟨b, off + j, none⟩) :
    ∀ (i : Nat) (hi : i < l.length), FnYs (Below w0.heap.size w0) ys i l[i] := fun i hi => by
  have q : ∀ c, c < 4 → ys[i * 4 + c]? = w0.cell? ⟨b, off + i * 4 + c, none⟩ := fun c h => by rw [hc _ (by omega), Nat.add_assoc]
  obtain ⟨h0, h1, h2, A, c, h3, h4⟩ := hp i hi
  exact ⟨(q 0 (by omega)).trans h0, (q 1 (by omega)).trans h1, (q 2 (by omega)).trans h2, A, c, (q 3 (by omega)).trans h3, fun W hW => h4.next hW⟩
/-- a whole row lies so -/
theorem in_row {W : World} {base : Nat} {v : Value} {l : List In} {ys : List Value} (ho : W.ownsRow base 62 6 v l.length ys) {S : World → Prop} (hS : S W) (h : ∀ (i : Nat) (hi : i < l.length), InYs S ys i l[i]) : Insts W v l := by
  by_cases hl : 0 < l.length
  · obtain ⟨g, cap, e, -, hlt⟩ := ho.form hl
    subst e
    refine .inr ⟨hl, g, 0, cap, rfl, hlt, fun i hi => ?_⟩
    have q : ∀ c, c < 6 → W.cell? ⟨g, 0 + i * 6 + c, none⟩ = ys[i * 6 + c]? := fun c hc => by rw [Nat.zero_add]; exact ho.cellAt _ (by omega)
    obtain ⟨h0, h1, h2, h3, h4, A, c, h5, h6⟩ := h i hi
    exact ⟨(q 0 (by omega)).trans h0, (q 1 (by omega)).trans h1, (q 2 (by omega)).trans h2, (q 3 (by omega)).trans h3, (q 4 (by omega)).trans h4, A, c, (q 5 (by omega)).trans h5, h6 W hS⟩
  · have hl0 : l = [] := by cases l <;> simp_all
    subst hl0
    rcases ho.2 with ⟨rfl, _⟩ | ⟨g, cap, cur, rfl, _⟩
    · exact .inl ⟨rfl, .inl rfl⟩
    · exact .inl ⟨rfl, .inr ⟨_, _, rfl⟩⟩
theorem bk_row {W : World} {base : Nat} {v : Value} {l : List Bk} {ys : List Value} (ho : W.ownsRow base 67 8 v l.length ys) {S : World → Prop} (hS : S W) (h : ∀ (i : Nat) (hi : i < l.length), BkYs S ys i l[i]) : Blocks W v l := by
  by_cases hl : 0 < l.length
  · obtain ⟨g, cap, e, -, hlt⟩ := ho.form hl
    subst e
    refine .inr ⟨hl, g, 0, cap, rfl, hlt, fun i hi => ?_⟩
    have q : ∀ c, c < 8 → W.cell? ⟨g, 0 + i * 8 + c, none⟩ = ys[i * 8 + c]? := fun c hc => by rw [Nat.zero_add]; exact ho.cellAt _ (by omega)
    obtain ⟨h0, ⟨A, c, h1, g1⟩, h2, h3, h4, ⟨A5, c5, h5, g5⟩, h6, A7, c7, h7, g7⟩ := h i hi
    exact ⟨(q 0 (by omega)).trans h0, ⟨A, c, (q 1 (by omega)).trans h1, g1 W hS⟩, (q 2 (by omega)).trans h2, (q 3 (by omega)).trans h3, (q 4 (by omega)).trans h4, ⟨A5, c5, (q 5 (by omega)).trans h5, g5 W hS⟩, (q 6 (by omega)).trans h6, A7, c7, (q 7 (by omega)).trans h7, g7 W hS⟩
  · have hl0 : l = [] := by cases l <;> simp_all
    subst hl0
    rcases ho.2 with ⟨rfl, _⟩ | ⟨g, cap, cur, rfl, _⟩
    · exact .inl ⟨rfl, .inl rfl⟩
    · exact .inl ⟨rfl, .inr ⟨_, _, rfl⟩⟩
theorem fn_row {W : World} {base : Nat} {v : Value} {l : List Fn} {ys : List Value} (ho : W.ownsRow base 50 4 v l.length ys) {S : World → Prop} (hS : S W) (h : ∀ (i : Nat) (hi : i < l.length), FnYs S ys i l[i]) : Funcs W v l := by
  by_cases hl : 0 < l.length
  · obtain ⟨g, cap, e, -, hlt⟩ := ho.form hl
    subst e
    refine .inr ⟨hl, g, 0, cap, rfl, hlt, fun i hi => ?_⟩
    have q : ∀ c, c < 4 → W.cell? ⟨g, 0 + i * 4 + c, none⟩ = ys[i * 4 + c]? := fun c hc => by rw [Nat.zero_add]; exact ho.cellAt _ (by omega)
    obtain ⟨h0, h1, h2, A, c, h3, h4⟩ := h i hi
    exact ⟨(q 0 (by omega)).trans h0, (q 1 (by omega)).trans h1, (q 2 (by omega)).trans h2, A, c, (q 3 (by omega)).trans h3, h4 W hS⟩
  · have hl0 : l = [] := by cases l <;> simp_all
    subst hl0
    rcases ho.2 with ⟨rfl, _⟩ | ⟨g, cap, cur, rfl, _⟩
    · exact .inl ⟨rfl, .inl rfl⟩
    · exact .inl ⟨rfl, .inr ⟨_, _, rfl⟩⟩
theorem grown_keep {W W' : World} (h : Below W.heap.size W W') : W.grownBy W' none := ⟨h.os, h.tape, h.output, h.size, fun i hi _ => h.block i hi⟩
theorem setc_grown (W : World) (a : Addr) (u : Value) : W.grownBy (W.setCell a u) (some a.block) := ⟨rfl, rfl, rfl, by simp, fun q _ hn => Below.heap_setCell _ _ _ _ (fun e => hn (by rw [e]))⟩
theorem below_setc {n : Nat} {w W : World} {a : Addr} {u : Value} (h : Below n w W) (ha : n ≤ a.block) : Below n w (W.setCell a u) :=
  h.trans ⟨rfl, rfl, rfl, by simp, fun q hq => Below.heap_setCell _ _ _ _ (by omega)⟩
theorem setRow_grown (W : World) (R : Nat) (cs : Array Value) : W.grownBy (W.setRow R cs) (some R) :=
  ⟨rfl, rfl, rfl, by simp [World.setRow], fun k _ hk => by simp [World.setRow, Array.getElem?_modify, show ¬ R = k from fun e => hk (by rw [e])]⟩
theorem below_setr {n : Nat} {w W : World} {R : Nat} {cs : Array Value} (h : Below n w W) (hr : n ≤ R) : Below n w (W.setRow R cs) := by
  refine ⟨h.os, h.tape, h.output, ?_, fun b hbb => ?_⟩
  · simpa [World.setRow] using h.size
  · rw [← h.block b hbb]
    simp [World.setRow, Array.getElem?_modify, show ¬ R = b by omega]
theorem ownsRow_slice {W : World} {base : Nat} {T : TypeId} {sz n : Nat} {v : Value} {ys : List Value} (h : W.ownsRow base T sz v n ys) : ∃ A c, v = .slice A n c := by
  rcases h.2 with ⟨rfl, rfl⟩ | ⟨g, cap, cur, rfl, -⟩
  · exact ⟨_, _, rfl⟩
  · exact ⟨_, _, rfl⟩
theorem store_whole {ops : Array Oper} {rest : List Oper} {o : Oper} {a : Act} {w : World} {Q : Exit → Act → World → Prop} {T : TypeId} (hgd : o.guard = none) (x y : Operand) (ho : o.op = .store T x y)
    (R : Nat) (cs zs : Array Value) (hx : a.eval x = .pointer (some ⟨R, 0, none⟩)) (hy : a.eval y = .agg cs) (hM : Whole w R T zs) (hi : (Try.prog.info? T).map (·.size) = some cs.size) (hs : zs.size = cs.size) (h1 : cs.all (·.oneCell') = true)
    (h : wpList Try.prog ops Q rest (a.put o.dst undef) (w.setRow R cs)) : wpList Try.prog ops Q (o :: rest) a w :=
  wpList_plain hgd fun _ hK => wp_store_row _ x y ho R cs hx hy _ _ hM hi hs h1 (hK _ _ h)
/-- it holds in each world in which the blocks from n on lie as here -/
def Fresh (n : Nat) (w : World) (P : World → Prop) : Prop := ∀ W, SameIn n w.heap.size w W → P W
theorem Fresh.at_ {n : Nat} {w : World} {P : World → Prop} (h : Fresh n w P) : P w := h w (SameIn.refl _ _ _)
theorem Fresh.later {n : Nat} {w w' : World} {P : World → Prop} {row : Option Nat} (h : Fresh n w P) (hg : w.grownBy w' row) (hr : ∀ r, row = some r → r < n) : Fresh n w' P := fun W hW =>
  h W ⟨Nat.le_trans hg.size hW.1, fun b h1 h2 => (hW.2 b h1 (Nat.lt_of_lt_of_le h2 hg.size)).trans (hg.block b h2 (fun e => by have := hr b e.symm; omega))⟩
theorem Fresh.thin {n m : Nat} {w : World} {P : World → Prop} (h : Fresh n w P) (hm : m ≤ n) : Fresh m w P := fun W hW => h W (hW.thin hm (Nat.le_refl _))
theorem Fresh.mono {n : Nat} {w : World} {P Q : World → Prop} (h : Fresh n w P) (hq : ∀ U, P U → Q U) : Fresh n w Q := fun W hW => hq W (h W hW)
theorem Fresh.call {n : Nat} {w w' : World} {P : World → Prop} (h : Fresh n w P) (hb : Below w.heap.size w w') : Fresh n w' P := h.later (grown_keep hb) (fun _ e => by cases e)
theorem Fresh.set {n : Nat} {W : World} {P : World → Prop} (h : Fresh n W P) (a : Addr) (u : Value) (hB : a.block < n) : Fresh n (W.setCell a u) P :=
  h.later (setc_grown W a u) (fun r e => by cases e; exact hB)
theorem Fresh.row {n : Nat} {W : World} {P : World → Prop} (h : Fresh n W P) (R : Nat) (cs : Array Value) (hB : R < n) : Fresh n (W.setRow R cs) P :=
  h.later (setRow_grown W R cs) (fun r e => by cases e; exact hB)
theorem Fresh.drew {n : Nat} {W : World} {P : World → Prop} (h : Fresh n W P) : Fresh n W.drew P := fun U hU => h U hU
theorem OwnsI.fresh {W : World} {base : Nat} {v : Value} {l : List Int} (h : OwnsI W base v l) : Fresh base W (fun U => Ints U v l) := fun _ hU => ownsI_same h hU
/-- the two blocks of a call that changes a struct: its own, the answer's -/
theorem two_new (w : World) (T : TypeId) (cs zs : Array Value) : Below w.heap.size w ((w.alloc (.cells cs T)).alloc (.cells zs T)) ∧ Whole ((w.alloc (.cells cs T)).alloc (.cells zs T)) w.heap.size T cs ∧ Whole ((w.alloc (.cells cs T)).alloc (.cells zs T)) (w.heap.size + 1) T zs ∧ ((w.alloc (.cells cs T)).alloc (.cells zs T)).heap.size = w.heap.size + 2 := by
  refine ⟨balloc (balloc (Below.refl _ w) _) _, ?_, ?_, by simp⟩
  · exact ((balloc (Below.refl _ _) (.cells zs T)).block w.heap.size (by simp)).trans (heap_alloc_new w _)
  · have := heap_alloc_new (w.alloc (.cells cs T)) (.cells zs T)
    rw [World.size_alloc] at this
    exact this
theorem Whole.next {W W' : World} {g : Nat} {T : TypeId} {cs : Array Value} (h : Whole W g T cs) (hb : Below W.heap.size W W') : Whole W' g T cs := (hb.block g h.lt).trans h
theorem Whole.set {W : World} {g : Nat} {T : TypeId} {cs : Array Value} (h : Whole W g T cs) (p : Addr) (u : Value) (hp : g ≠ p.block) : Whole (W.setCell p u) g T cs := (Below.heap_setCell W p u g hp).trans h
theorem Whole.rowed {W : World} {g : Nat} {T : TypeId} {cs ds : Array Value} (h : Whole W g T cs) : Whole (W.setRow g ds) g T ds := by
  unfold Whole at h ⊢
  simp [World.setRow, Array.getElem?_modify, h]
end Go.Proofs.Ytoglmdadpchhoaa
