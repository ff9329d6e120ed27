/- What the texts of package resolve stand on, of the packages ir and pick (part 11). -/
import Derived.Test.YtjldddpchiaalaaHU9
namespace Go.Proofs.Ytjldddpchiaalaa
open Go.RowKit
/-- a module that lies in two cells -/
def MdIn (W : World) (b off : Nat) (m : Md) : Prop :=
  ∃ F cf G cg, W.cell? ⟨b, off, none⟩ = some (.slice F m.f.length cf) ∧ W.cell? ⟨b, off + 1, none⟩ = some (.slice G m.g.length cg) ∧ MdAt W (.slice F m.f.length cf) (.slice G m.g.length cg) m
theorem MdIn.next (W W' : World) (b off : Nat) (x : Md) (hb : b < W.heap.size) (h : Below W.heap.size W W') (hx : MdIn W b off x) : MdIn W' b off x := by
  obtain ⟨F, cf, G, cg, h0, h1, h2⟩ := hx
  exact ⟨F, cf, G, cg, (cellNext hb h _).trans h0, (cellNext hb h _).trans h1, h2.next h⟩
def Mods : World → Value → List Md → Prop := RowOf 2 MdIn
theorem Mods.next {W W' : World} {v : Value} {l : List Md} (h : Mods W v l) (hb : Below W.heap.size W W') : Mods W' v l := RowOf.next MdIn.next h hb
/-- a file -/
structure Fl where
  a : Bool
  m : List Md
def FlIn (W : World) (b off : Nat) (x : Fl) : Prop := W.cell? ⟨b, off, none⟩ = some (.bool x.a) ∧ ∃ A cap, W.cell? ⟨b, off + 1, none⟩ = some (.slice A x.m.length cap) ∧ Mods W (.slice A x.m.length cap) x.m
theorem FlIn.next (W W' : World) (b off : Nat) (x : Fl) (hb : b < W.heap.size) (h : Below W.heap.size W W') (hx : FlIn W b off x) : FlIn W' b off x := by
  obtain ⟨h0, A, c, h1, h2⟩ := hx
  exact ⟨(cellNext hb h _).trans h0, A, c, (cellNext hb h _).trans h1, h2.next h⟩
def Files : World → Value → List Fl → Prop := RowOf 2 FlIn
theorem Files.next {W W' : World} {v : Value} {l : List Fl} (h : Files W v l) (hb : Below W.heap.size W W') : Files W' v l := RowOf.next FlIn.next h hb
end Go.Proofs.Ytjldddpchiaalaa
namespace Go.Proofs.Ytjldddpchiaalaa
open Go.RowKit
theorem grown_keep {W W' : World} (h : Below W.heap.size W W') : W.grownBy W' none := ⟨h.os, h.tape, h.output, h.size, fun i hi _ => h.block i hi⟩
end Go.Proofs.Ytjldddpchiaalaa
namespace Go.Proofs.Ytjldddpchiaalaa
open Go.RowKit
/-- a world in which these blocks lie as they lie in W -/
def SameIn (lo hi : Nat) (W W' : World) : Prop := W.heap.size ≤ W'.heap.size ∧ ∀ b, lo ≤ b → b < hi → W'.heap[b]? = W.heap[b]?
theorem SameIn.refl (lo hi : Nat) (W : World) : SameIn lo hi W W := ⟨Nat.le_refl _, fun _ _ _ => rfl⟩
theorem SameIn.trans {lo hi : Nat} {A B C : World} (h : SameIn lo hi A B) (k : SameIn lo hi B C) : SameIn lo hi A C := ⟨Nat.le_trans h.1 k.1, fun b h1 h2 => (k.2 b h1 h2).trans (h.2 b h1 h2)⟩
theorem SameIn.thin {lo hi lo' hi' : Nat} {W W' : World} (h : SameIn lo hi W W') (h1 : lo ≤ lo') (h2 : hi' ≤ hi) : SameIn lo' hi' W W' := ⟨h.1, fun b g1 g2 => h.2 b (by omega) (by omega)⟩
/-- what lies as it lay from a world on, and what it is told of there -/
theorem SameIn.from {lo : Nat} {A B C : World} (h : SameIn lo A.heap.size A B) (k : SameIn lo B.heap.size B C) : SameIn lo A.heap.size A C := h.trans (k.thin (Nat.le_refl _) h.1)
theorem ownsRow_same {W W' : World} {base : Nat} {T : TypeId} {sz n : Nat} {v : Value} {ys : List Value} {lo hi : Nat} (h : W.ownsRow base T sz v n ys) (hlo : lo ≤ base) (hhi : W.heap.size ≤ hi) (hs : SameIn lo hi W W') : W'.ownsRow base T sz v n ys := by
  rcases h with ⟨h1, h2 | ⟨g, cap, cur, hv, hge, hh, r⟩⟩
  · exact ⟨h1, .inl h2⟩
  · have hg := (Array.getElem?_eq_some_iff.1 hh).1
    exact ⟨h1, .inr ⟨g, cap, cur, hv, hge, (hs.2 g (by omega) (by omega)).trans hh, r⟩⟩
theorem ownsI_same {W W' : World} {base : Nat} {v : Value} {l : List Int} (h : OwnsI W base v l) (hs : SameIn base W.heap.size W W') : Ints W' v l :=
  OwnsI.ints (base := base) (ownsRow_same h (Nat.le_refl _) (Nat.le_refl _) hs)
/-- the cells of an instruction, of a block, of a function in a row: what they lead to lies so in each world of a kind -/
def InYs (S : World → Prop) (ys : List Value) (j : Nat) (x : In) : Prop :=
  ys[j * 6]? = some (.int .i64 x.o) ∧ ys[j * 6 + 1]? = some (.int .i64 x.a) ∧ ys[j * 6 + 2]? = some (.int .i64 x.b) ∧ ys[j * 6 + 3]? = some (.int .u64 x.k) ∧ ys[j * 6 + 4]? = some (.string x.s) ∧
    ∃ A c, ys[j * 6 + 5]? = some (.slice A x.l.length c) ∧ ∀ W, S W → Ints W (.slice A x.l.length c) x.l
def BkYs (S : World → Prop) (ys : List Value) (j : Nat) (x : Bk) : Prop :=
  ys[j * 8]? = some (.int .i64 x.p) ∧ (∃ A c, ys[j * 8 + 1]? = some (.slice A x.i.length c) ∧ ∀ W, S W → Insts W (.slice A x.i.length c) x.i) ∧
    ys[j * 8 + 2]? = some (.int .i64 x.e.k) ∧ ys[j * 8 + 3]? = some (.int .i64 x.e.a) ∧ ys[j * 8 + 4]? = some (.int .i64 x.e.t) ∧
    (∃ A c, ys[j * 8 + 5]? = some (.slice A x.e.l.length c) ∧ ∀ W, S W → Ints W (.slice A x.e.l.length c) x.e.l) ∧ ys[j * 8 + 6]? = some (.int .i64 x.e.e) ∧
    (∃ A c, ys[j * 8 + 7]? = some (.slice A x.e.m.length c) ∧ ∀ W, S W → Ints W (.slice A x.e.m.length c) x.e.m)
def FnYs (S : World → Prop) (ys : List Value) (j : Nat) (x : Fn) : Prop :=
  ys[j * 4]? = some (.string x.s) ∧ ys[j * 4 + 1]? = some (.int .i64 x.b) ∧ ys[j * 4 + 2]? = some (.int .i64 x.p) ∧ ∃ A c, ys[j * 4 + 3]? = some (.slice A x.l.length c) ∧ ∀ W, S W → Blocks W (.slice A x.l.length c) x.l
theorem InYs.mono {S S' : World → Prop} {ys : List Value} {j : Nat} {x : In} (h : InYs S ys j x) (hs : ∀ W, S' W → S W) : InYs S' ys j x := by
  obtain ⟨h0, h1, h2, h3, h4, A, c, h5, h6⟩ := h
  exact ⟨h0, h1, h2, h3, h4, A, c, h5, fun W hW => h6 W (hs W hW)⟩
theorem BkYs.mono {S S' : World → Prop} {ys : List Value} {j : Nat} {x : Bk} (h : BkYs S ys j x) (hs : ∀ W, S' W → S W) : BkYs S' ys j x := by
  obtain ⟨h0, ⟨A, c, h1, g1⟩, h2, h3, h4, ⟨A5, c5, h5, g5⟩, h6, A7, c7, h7, g7⟩ := h
  exact ⟨h0, ⟨A, c, h1, fun W hW => g1 W (hs W hW)⟩, h2, h3, h4, ⟨A5, c5, h5, fun W hW => g5 W (hs W hW)⟩, h6, A7, c7, h7, fun W hW => g7 W (hs W hW)⟩
theorem FnYs.mono {S S' : World → Prop} {ys : List Value} {j : Nat} {x : Fn} (h : FnYs S ys j x) (hs : ∀ W, S' W → S W) : FnYs S' ys j x := by
  obtain ⟨h0, h1, h2, A, c, h3, h4⟩ := h
  exact ⟨h0, h1, h2, A, c, h3, fun W hW => h4 W (hs W hW)⟩
/-- a cell of another thing is written -/
theorem InYs.other {S : World → Prop} {ys : List Value} {j i : Nat} {x : In} (h : InYs S ys j x) (hj : j ≠ i) (u : Value) : InYs S (ys.set (i * 6 + 5) u) j x := by
  have q : ∀ c, c < 6 → (ys.set (i * 6 + 5) u)[j * 6 + c]? = ys[j * 6 + c]? := fun c hc => List.getElem?_set_ne (by omega)
  obtain ⟨h0, h1, h2, h3, h4, A, c, h5, h6⟩ := h
  exact ⟨(q 0 (by omega)).trans h0, (q 1 (by omega)).trans h1, (q 2 (by omega)).trans h2, (q 3 (by omega)).trans h3, (q 4 (by omega)).trans h4, A, c, (q 5 (by omega)).trans h5, h6⟩
theorem BkYs.other {S : World → Prop} {ys : List Value} {j i k : Nat} {x : Bk} (h : BkYs S ys j x) (hj : j ≠ i) (hk : k < 8) (u : Value) : BkYs S (ys.set (i * 8 + k) u) j x := by
  have q : ∀ c, c < 8 → (ys.set (i * 8 + k) u)[j * 8 + c]? = ys[j * 8 + c]? := fun c hc => List.getElem?_set_ne (by omega)
  obtain ⟨h0, ⟨A, c, h1, g1⟩, h2, h3, h4, ⟨A5, c5, h5, g5⟩, h6, A7, c7, h7, g7⟩ := h
  exact ⟨(q 0 (by omega)).trans h0, ⟨A, c, (q 1 (by omega)).trans h1, g1⟩, (q 2 (by omega)).trans h2, (q 3 (by omega)).trans h3, (q 4 (by omega)).trans h4, ⟨A5, c5, (q 5 (by omega)).trans h5, g5⟩, (q 6 (by omega)).trans h6, A7, c7, (q 7 (by omega)).trans h7, g7⟩
theorem FnYs.other {S : World → Prop} {ys : List Value} {j i : Nat} {x : Fn} (h : FnYs S ys j x) (hj : j ≠ i) (u : Value) : FnYs S (ys.set (i * 4 + 3) u) j x := by
  have q : ∀ c, c < 4 → (ys.set (i * 4 + 3) u)[j * 4 + c]? = ys[j * 4 + c]? := fun c hc => List.getElem?_set_ne (by omega)
  obtain ⟨h0, h1, h2, A, c, h3, h4⟩ := h
  exact ⟨(q 0 (by omega)).trans h0, (q 1 (by omega)).trans h1, (q 2 (by omega)).trans h2, A, c, (q 3 (by omega)).trans h3, h4⟩
/-- its own cell is written -/
theorem InYs.put {S S' : World → Prop} {ys : List Value} {i : Nat} {x : In} (h : InYs S ys i x) (hl : i * 6 + 5 < ys.length) {A : Option Addr} {c : Nat} (hn : ∀ W, S' W → Ints W (.slice A x.l.length c) x.l) : InYs S' (ys.set (i * 6 + 5) (.slice A x.l.length c)) i x := by
  have q : ∀ c, c < 5 → ∀ u : Value, (ys.set (i * 6 + 5) u)[i * 6 + c]? = ys[i * 6 + c]? := fun c hc u => List.getElem?_set_ne (by omega)
  obtain ⟨h0, h1, h2, h3, h4, -⟩ := h
  exact ⟨(q 0 (by omega) _).trans h0, (q 1 (by omega) _).trans h1, (q 2 (by omega) _).trans h2, (q 3 (by omega) _).trans h3, (q 4 (by omega) _).trans h4, A, c, List.getElem?_set_self hl, hn⟩
theorem FnYs.put {S S' : World → Prop} {ys : List Value} {i : Nat} {x : Fn} (h : FnYs S ys i x) (hl : i * 4 + 3 < ys.length) {A : Option Addr} {c : Nat} (hn : ∀ W, S' W → Blocks W (.slice A x.l.length c) x.l) : FnYs S' (ys.set (i * 4 + 3) (.slice A x.l.length c)) i x := by
  have q : ∀ c, c < 3 → ∀ u : Value, (ys.set (i * 4 + 3) u)[i * 4 + c]? = ys[i * 4 + c]? := fun c hc u => List.getElem?_set_ne (by omega)
  obtain ⟨h0, h1, h2, -⟩ := h
  exact ⟨(q 0 (by omega) _).trans h0, (q 1 (by omega) _).trans h1, (q 2 (by omega) _).trans h2, A, c, List.getElem?_set_self hl, hn⟩
theorem BkYs.put {S S' : World → Prop} {ys : List Value} {i : Nat} {x : Bk} (h : BkYs S ys i x) (hl : i * 8 + 7 < ys.length) {A A5 A7 : Option Addr} {c c5 c7 : Nat} (hn : ∀ W, S' W → Insts W (.slice A x.i.length c) x.i)
    (hn5 : ∀ W, S' W → Ints W (.slice A5 x.e.l.length c5) x.e.l) (hn7 : ∀ W, S' W → Ints W (.slice A7 x.e.m.length c7) x.e.m) :
    BkYs S' (((ys.set (i * 8 + 1) (.slice A x.i.length c)).set (i * 8 + 5) (.slice A5 x.e.l.length c5)).set (i * 8 + 7) (.slice A7 x.e.m.length c7)) i x := by
  have q : ∀ c, c < 8 → c ≠ 1 → c ≠ 5 → c ≠ 7 → ∀ u u5 u7 : Value, (((ys.set (i * 8 + 1) u).set (i * 8 + 5) u5).set (i * 8 + 7) u7)[i * 8 + c]? = ys[i * 8 + c]? := fun c hc h1 h5 h7 u u5 u7 => by
    rw [List.getElem?_set_ne (by omega), List.getElem?_set_ne (by omega), List.getElem?_set_ne (by omega)]
  obtain ⟨h0, -, h2, h3, h4, -, h6, -⟩ := h
  refine ⟨(q 0 (by omega) (by omega) (by omega) (by omega) _ _ _).trans h0, ⟨A, c, ?_, hn⟩, (q 2 (by omega) (by omega) (by omega) (by omega) _ _ _).trans h2, (q 3 (by omega) (by omega) (by omega) (by omega) _ _ _).trans h3, (q 4 (by omega) (by omega) (by omega) (by omega) _ _ _).trans h4, ⟨A5, c5, ?_, hn5⟩, (q 6 (by omega) (by omega) (by omega) (by omega) _ _ _).trans h6, A7, c7, ?_, hn7⟩
  · rw [List.getElem?_set_ne (by omega), List.getElem?_set_ne (by omega), List.getElem?_set_self (by omega)]
  · rw [List.getElem?_set_ne (by omega), List.getElem?_set_self (by simp; omega)]
  · rw [List.getElem?_set_self (by simp; omega)]
/-- a whole row lies so -/
theorem in_row {W : World} {base : Nat} {v : Value} {l : List In} {ys : List Value} (ho : W.ownsRow base 76 6 v l.length ys) {S : World → Prop} (hS : S W) (h : ∀ (i : Nat) (hi : i < l.length), InYs S ys i l[i]) : Insts W v l := by
  by_cases hl : 0 < l.length
  · obtain ⟨g, cap, e, -, hlt⟩ := ho.form hl
    subst e
    refine .inr ⟨hl, g, 0, cap, rfl, hlt, fun i hi => ?_⟩
    have q : ∀ c, c < 6 → W.cell? ⟨g, 0 + i * 6 + c, none⟩ = ys[i * 6 + c]? := fun c hc => by rw [Nat.zero_add]; exact ho.cellAt _ (by omega)
    obtain ⟨h0, h1, h2, h3, h4, A, c, h5, h6⟩ := h i hi
    exact ⟨(q 0 (by omega)).trans h0, (q 1 (by omega)).trans h1, (q 2 (by omega)).trans h2, (q 3 (by omega)).trans h3, (q 4 (by omega)).trans h4, A, c, (q 5 (by omega)).trans h5, h6 W hS⟩
  · have hl0 : l = [] := by cases l <;> simp_all
    subst hl0
    rcases ho.2 with ⟨rfl, _⟩ | ⟨g, cap, cur, rfl, _⟩
    · exact .inl ⟨rfl, .inl rfl⟩
    · exact .inl ⟨rfl, .inr ⟨_, _, rfl⟩⟩
theorem bk_row {W : World} {base : Nat} {v : Value} {l : List Bk} {ys : List Value} (ho : W.ownsRow base 74 8 v l.length ys) {S : World → Prop} (hS : S W) (h : ∀ (i : Nat) (hi : i < l.length), BkYs S ys i l[i]) : Blocks W v l := by
  by_cases hl : 0 < l.length
  · obtain ⟨g, cap, e, -, hlt⟩ := ho.form hl
    subst e
    refine .inr ⟨hl, g, 0, cap, rfl, hlt, fun i hi => ?_⟩
    have q : ∀ c, c < 8 → W.cell? ⟨g, 0 + i * 8 + c, none⟩ = ys[i * 8 + c]? := fun c hc => by rw [Nat.zero_add]; exact ho.cellAt _ (by omega)
    obtain ⟨h0, ⟨A, c, h1, g1⟩, h2, h3, h4, ⟨A5, c5, h5, g5⟩, h6, A7, c7, h7, g7⟩ := h i hi
    exact ⟨(q 0 (by omega)).trans h0, ⟨A, c, (q 1 (by omega)).trans h1, g1 W hS⟩, (q 2 (by omega)).trans h2, (q 3 (by omega)).trans h3, (q 4 (by omega)).trans h4, ⟨A5, c5, (q 5 (by omega)).trans h5, g5 W hS⟩, (q 6 (by omega)).trans h6, A7, c7, (q 7 (by omega)).trans h7, g7 W hS⟩
  · have hl0 : l = [] := by cases l <;> simp_all
    subst hl0
    rcases ho.2 with ⟨rfl, _⟩ | ⟨g, cap, cur, rfl, _⟩
    · exact .inl ⟨rfl, .inl rfl⟩
    · exact .inl ⟨rfl, .inr ⟨_, _, rfl⟩⟩
theorem fn_row {W : World} {base : Nat} {v : Value} {l : List Fn} {ys : List Value} (ho : W.ownsRow base 60 4 v l.length ys) {S : World → Prop} (hS : S W) (h : ∀ (i : Nat) (hi : i < l.length), FnYs S ys i l[i]) : Funcs W v l := by
  by_cases hl : 0 < l.length
  · obtain ⟨g, cap, e, -, hlt⟩ := ho.form hl
    subst e
    refine .inr ⟨hl, g, 0, cap, rfl, hlt, fun i hi => ?_⟩
    have q : ∀ c, c < 4 → W.cell? ⟨g, 0 + i * 4 + c, none⟩ = ys[i * 4 + c]? := fun c hc => by rw [Nat.zero_add]; exact ho.cellAt _ (by omega)
    obtain ⟨h0, h1, h2, A, c, h3, h4⟩ := h i hi
    exact ⟨(q 0 (by omega)).trans h0, (q 1 (by omega)).trans h1, (q 2 (by omega)).trans h2, A, c, (q 3 (by omega)).trans h3, h4 W hS⟩
  · have hl0 : l = [] := by cases l <;> simp_all
    subst hl0
    rcases ho.2 with ⟨rfl, _⟩ | ⟨g, cap, cur, rfl, _⟩
    · exact .inl ⟨rfl, .inl rfl⟩
    · exact .inl ⟨rfl, .inr ⟨_, _, rfl⟩⟩
end Go.Proofs.Ytjldddpchiaalaa
namespace Go.Proofs.Ytjldddpchiaalaa
open Go.RowKit
/-- a block's instructions while their values are copied -/
def InIn (w wa : World) (l : List In) (v : Value) (b s m k : Nat) (W : World) : Prop :=
  ∃ zs, W.ownsRow b 76 6 v m zs ∧ (∀ (j : Nat) (hj : j < l.length), j < k → InYs (SameIn s W.heap.size W) zs j l[j]) ∧
    (∀ (j : Nat) (hj : j < l.length), k ≤ j → InYs (Below w.heap.size w) zs j l[j]) ∧ Below b wa W ∧ s ≤ W.heap.size ∧ Below w.heap.size w W ∧ ∀ g, v.ownBlock = some g → g < s
theorem setCell_grown (W : World) (a : Addr) (u : Value) : W.grownBy (W.setCell a u) (some a.block) := ⟨rfl, rfl, rfl, by simp, fun q _ hn => Below.heap_setCell _ _ _ _ (fun e => hn (by rw [e]))⟩
theorem below_setc {n : Nat} {w W : World} {a : Addr} {u : Value} (h : Below n w W) (ha : n ≤ a.block) : Below n w (W.setCell a u) :=
  h.trans ⟨rfl, rfl, rfl, by simp, fun q hq => Below.heap_setCell _ _ _ _ (by omega)⟩
theorem InIn.drew {w wa : World} {l : List In} {v : Value} {b s m k : Nat} {W : World} (h : InIn w wa l v b s m k W) : InIn w wa l v b s m k W.drew := by
  obtain ⟨zs, h1, h2, h3, h4, h5, h6, h7⟩ := h
  exact ⟨zs, h1, h2, h3, h4.drew, h5, h6.drew, h7⟩
end Go.Proofs.Ytjldddpchiaalaa
namespace Go.Proofs.Ytjldddpchiaalaa
open Go.RowKit
/-- the functions' row while they are copied -/
def FnIn (w : World) (l : List Fn) (v vg : Value) (gl : List Gl) (s n i : Nat) (W : World) : Prop :=
  ∃ ys, W.ownsRow (w.heap.size + 2) 60 4 v n ys ∧ (∀ (j : Nat) (hj : j < l.length), j < i → FnYs (SameIn s W.heap.size W) ys j l[j]) ∧
    (∀ (j : Nat) (hj : j < l.length), i ≤ j → FnYs (Below w.heap.size w) ys j l[j]) ∧ Below w.heap.size w W ∧ s ≤ W.heap.size ∧ (∀ g, v.ownBlock = some g → g < s) ∧ w.heap.size + 2 ≤ s ∧
    W.heap[w.heap.size]? = some (.cells #[v, vg] 25 (0, 0)) ∧ W.heap[w.heap.size + 1]? = some (.cells #[.slice none 0 0, .slice none 0 0] 25 (0, 0)) ∧
    ∃ zs, W.ownsRow (w.heap.size + 2) 62 4 vg gl.length zs ∧ RowOf 4 GlAt W vg gl ∧ (∀ g g', v.ownBlock = some g → vg.ownBlock = some g' → g ≠ g')
theorem FnIn.drew {w : World} {l : List Fn} {v vg : Value} {gl : List Gl} {s n i : Nat} {W : World} (h : FnIn w l v vg gl s n i W) : FnIn w l v vg gl s n i W.drew := by
  obtain ⟨ys, h1, h2, h3, h4, h5, h6, h7, h8, h9, zs, h10, h11, h12⟩ := h
  exact ⟨ys, h1, h2, h3, h4.drew, h5, h6, h7, h8, h9, zs, h10, h11.next GlAt.next (Below.refl _ _).drew, h12⟩
end Go.Proofs.Ytjldddpchiaalaa
namespace Go.Proofs.Ytjldddpchiaalaa
open Go.RowKit
theorem recurses_of {P : Program} {N : Nat} (h : 1 + (P.funcs.toList.map fun g => (P.leadsTo g).length + 1).sum = N) (f : FuncId) :
    P.recurses f = (P.unfollowed f || (P.closureVia N [f] []).any fun g => ((P.funcs[g]?).elim [] P.leadsTo).any fun h => (P.closureVia N [h] []).contains g) := by
  unfold Program.recurses Program.closure
  rw [h]
end Go.Proofs.Ytjldddpchiaalaa
