/- Package ir: instructions, blocks, functions, globals, modules, and rows of them in memory. -/
import Derived.Test.YtkalgiaapkjplaaI1
namespace Go.Proofs.Ytkalgiaapkjplaa
open Go.RowKit

/-- an instruction -/
structure In where
  o : Int
  a : Int
  b : Int
  k : Int
  s : ByteArray
  l : List Int
/-- a block's end -/
structure Tm where
  k : Int
  a : Int
  t : Int
  l : List Int
  e : Int
  m : List Int
/-- a block -/
structure Bk where
  p : Int
  i : List In
  e : Tm
/-- a function -/
structure Fn where
  s : ByteArray
  b : Int
  p : Int
  l : List Bk
/-- a global -/
structure Gl where
  s : ByteArray
  b : Int
  h : Bool
  i : Int

/-- a row of things that lie one behind another, each in so many cells -/
def RowOf {α : Type} (sz : Nat) (P : World → Nat → Nat → α → Prop) (W : World) (v : Value) (l : List α) : Prop :=
  (l = [] ∧ (v = .slice none 0 0 ∨ ∃ a cap, v = .slice (some a) 0 cap)) ∨ (0 < l.length ∧ ∃ b off cap, v = .slice (some ⟨b, off, none⟩) l.length cap ∧ b < W.heap.size ∧ ∀ (i : Nat) (h : i < l.length), P W b (off + i * sz) l[i])
theorem RowOf.next {α : Type} {sz : Nat} {P : World → Nat → Nat → α → Prop} (hP : ∀ (W W' : World) (b off : Nat) (x : α), b < W.heap.size → Below W.heap.size W W' → P W b off x → P W' b off x)
    {W W' : World} {v : Value} {l : List α} (h : RowOf sz P W v l) (hb : Below W.heap.size W W') : RowOf sz P W' v l := by
  rcases h with h | ⟨h0, b, off, cap, rfl, h1, h2⟩
  · exact .inl h
  · exact .inr ⟨h0, b, off, cap, rfl, Nat.lt_of_lt_of_le h1 hb.size, fun i hi => hP _ _ _ _ _ h1 hb (h2 i hi)⟩
theorem RowOf.slice {α : Type} {sz : Nat} {P : World → Nat → Nat → α → Prop} {W : World} {v : Value} {l : List α} (h : RowOf sz P W v l) : ∃ A cap, v = .slice A l.length cap := by
  rcases h with ⟨rfl, rfl | ⟨a, cap, rfl⟩⟩ | ⟨_, b, off, cap, rfl, _⟩
  · exact ⟨_, _, rfl⟩
  · exact ⟨_, _, rfl⟩
  · exact ⟨_, _, rfl⟩
theorem RowOf.len {α : Type} {sz : Nat} {P : World → Nat → Nat → α → Prop} {W : World} {A : Option Addr} {n cap : Nat} {l : List α} (h : RowOf sz P W (.slice A n cap) l) : l.length = n := by
  obtain ⟨A', c', e⟩ := h.slice
  exact (Value.slice.inj e).2.1.symm
theorem RowOf.at_ {α : Type} {sz : Nat} {P : World → Nat → Nat → α → Prop} {W : World} {A : Option Addr} {n cap : Nat} {l : List α} (h : RowOf sz P W (.slice A n cap) l) {i : Nat} (hi : i < l.length) :
    ∃ b off, A = some ⟨b, off, none⟩ ∧ b < W.heap.size ∧ P W b (off + i * sz) l[i] := by
  rcases h with ⟨rfl, -⟩ | ⟨_, b, off, c, e, h1, h2⟩
  · simp at hi
  · exact ⟨b, off, (Value.slice.inj e).1, h1, h2 i hi⟩
theorem cellNext {W W' : World} {b : Nat} (hb : b < W.heap.size) (h : Below W.heap.size W W') (o : Nat) : W'.cell? ⟨b, o, none⟩ = W.cell? ⟨b, o, none⟩ := World.cell?_of_block (h.block b hb)

/-- an instruction that lies in six cells -/
def InAt (W : World) (b off : Nat) (i : In) : Prop :=
  W.cell? ⟨b, off, none⟩ = some (.int .i64 i.o) ∧ W.cell? ⟨b, off + 1, none⟩ = some (.int .i64 i.a) ∧ W.cell? ⟨b, off + 2, none⟩ = some (.int .i64 i.b) ∧ W.cell? ⟨b, off + 3, none⟩ = some (.int .u64 i.k) ∧ W.cell? ⟨b, off + 4, none⟩ = some (.string i.s) ∧
    ∃ A cap, W.cell? ⟨b, off + 5, none⟩ = some (.slice A i.l.length cap) ∧ Ints W (.slice A i.l.length cap) i.l
theorem InAt.next (W W' : World) (b off : Nat) (x : In) (hb : b < W.heap.size) (h : Below W.heap.size W W') (hx : InAt W b off x) : InAt W' b off x := by
  obtain ⟨h0, h1, h2, h3, h4, A, cap, h5, h6⟩ := hx
  exact ⟨(cellNext hb h _).trans h0, (cellNext hb h _).trans h1, (cellNext hb h _).trans h2, (cellNext hb h _).trans h3, (cellNext hb h _).trans h4, A, cap, (cellNext hb h _).trans h5, h6.next h⟩
/-- a row of instructions -/
def Insts : World → Value → List In → Prop := RowOf 6 InAt
theorem Insts.next {W W' : World} {v : Value} {l : List In} (h : Insts W v l) (hb : Below W.heap.size W W') : Insts W' v l := RowOf.next InAt.next h hb
/-- a block that lies in eight cells -/
def BkAt (W : World) (b off : Nat) (x : Bk) : Prop :=
  W.cell? ⟨b, off, none⟩ = some (.int .i64 x.p) ∧ (∃ A cap, W.cell? ⟨b, off + 1, none⟩ = some (.slice A x.i.length cap) ∧ Insts W (.slice A x.i.length cap) x.i) ∧
    W.cell? ⟨b, off + 2, none⟩ = some (.int .i64 x.e.k) ∧ W.cell? ⟨b, off + 3, none⟩ = some (.int .i64 x.e.a) ∧ W.cell? ⟨b, off + 4, none⟩ = some (.int .i64 x.e.t) ∧
    (∃ A cap, W.cell? ⟨b, off + 5, none⟩ = some (.slice A x.e.l.length cap) ∧ Ints W (.slice A x.e.l.length cap) x.e.l) ∧ W.cell? ⟨b, off + 6, none⟩ = some (.int .i64 x.e.e) ∧
    (∃ A cap, W.cell? ⟨b, off + 7, none⟩ = some (.slice A x.e.m.length cap) ∧ Ints W (.slice A x.e.m.length cap) x.e.m)
theorem BkAt.next (W W' : World) (b off : Nat) (x : Bk) (hb : b < W.heap.size) (h : Below W.heap.size W W') (hx : BkAt W b off x) : BkAt W' b off x := by
  obtain ⟨h0, ⟨A, c, h1, g1⟩, h2, h3, h4, ⟨A5, c5, h5, g5⟩, h6, A7, c7, h7, g7⟩ := hx
  exact ⟨(cellNext hb h _).trans h0, ⟨A, c, (cellNext hb h _).trans h1, g1.next h⟩, (cellNext hb h _).trans h2, (cellNext hb h _).trans h3, (cellNext hb h _).trans h4, ⟨A5, c5, (cellNext hb h _).trans h5, g5.next h⟩, (cellNext hb h _).trans h6, A7, c7, (cellNext hb h _).trans h7, g7.next h⟩
/-- a row of blocks -/
def Blocks : World → Value → List Bk → Prop := RowOf 8 BkAt
theorem Blocks.next {W W' : World} {v : Value} {l : List Bk} (h : Blocks W v l) (hb : Below W.heap.size W W') : Blocks W' v l := RowOf.next BkAt.next h hb
/-- a function that lies in four cells -/
def FnAt (W : World) (b off : Nat) (x : Fn) : Prop :=
  W.cell? ⟨b, off, none⟩ = some (.string x.s) ∧ W.cell? ⟨b, off + 1, none⟩ = some (.int .i64 x.b) ∧ W.cell? ⟨b, off + 2, none⟩ = some (.int .i64 x.p) ∧
    ∃ A cap, W.cell? ⟨b, off + 3, none⟩ = some (.slice A x.l.length cap) ∧ Blocks W (.slice A x.l.length cap) x.l
theorem FnAt.next (W W' : World) (b off : Nat) (x : Fn) (hb : b < W.heap.size) (h : Below W.heap.size W W') (hx : FnAt W b off x) : FnAt W' b off x := by
  obtain ⟨h0, h1, h2, A, c, h3, g3⟩ := hx
  exact ⟨(cellNext hb h _).trans h0, (cellNext hb h _).trans h1, (cellNext hb h _).trans h2, A, c, (cellNext hb h _).trans h3, g3.next h⟩
/-- a row of functions -/
def Funcs : World → Value → List Fn → Prop := RowOf 4 FnAt
theorem Funcs.next {W W' : World} {v : Value} {l : List Fn} (h : Funcs W v l) (hb : Below W.heap.size W W') : Funcs W' v l := RowOf.next FnAt.next h hb
/-- a global that lies in four cells -/
def GlAt (W : World) (b off : Nat) (x : Gl) : Prop :=
  W.cell? ⟨b, off, none⟩ = some (.string x.s) ∧ W.cell? ⟨b, off + 1, none⟩ = some (.int .i64 x.b) ∧ W.cell? ⟨b, off + 2, none⟩ = some (.bool x.h) ∧ W.cell? ⟨b, off + 3, none⟩ = some (.int .u64 x.i)
theorem GlAt.next (W W' : World) (b off : Nat) (x : Gl) (hb : b < W.heap.size) (h : Below W.heap.size W W') (hx : GlAt W b off x) : GlAt W' b off x := by
  obtain ⟨h0, h1, h2, h3⟩ := hx
  exact ⟨(cellNext hb h _).trans h0, (cellNext hb h _).trans h1, (cellNext hb h _).trans h2, (cellNext hb h _).trans h3⟩
/-- a row of globals -/
def Globs : World → Value → List Gl → Prop := RowOf 4 GlAt
theorem Globs.next {W W' : World} {v : Value} {l : List Gl} (h : Globs W v l) (hb : Below W.heap.size W W') : Globs W' v l := RowOf.next GlAt.next h hb

/-- may a function or a global have that name? -/
def nameB (s : ByteArray) : Bool := decide (1 ≤ (s.size : Int)) && decide ((s.size : Int) ≤ 16)
/-- has an instruction of that operation a name? -/
def hasB (o : Int) : Bool := o == 12 || o == 13 || o == 14
/-- what an instruction uses -/
def usesL (op a b : Int) (args : List Int) : List Int :=
  if 2 ≤ op ∧ op ≤ 11 then [a, b] else if op = 13 ∨ op = 16 then [a] else if op = 14 then args else []
def usesI (i : In) : List Int := usesL i.o i.a i.b i.l
/-- does it use A, and B? -/
def aB (o : Int) : Bool := (decide (2 ≤ o) && decide (o ≤ 11)) || o == 13 || o == 16
def bB (o : Int) : Bool := decide (2 ≤ o) && decide (o ≤ 11)
/-- is an instruction right among n values? -/
def instB (n : Int) (i : In) : Bool :=
  decide (1 ≤ i.o) && decide (i.o ≤ 16) && decide (i.l.length ≤ 6) && amongB n (usesI i) && (aB i.o || i.a == 0) && (bB i.o || i.b == 0) && (i.o == 1 || i.k == 0) && (i.o == 14 || decide (i.l = [])) &&
    (if hasB i.o then nameB i.s else i.s == ByteArray.empty)
/-- its instructions, the first one among n values -/
def instsB : Int → List In → Bool
  | _, [] => true
  | n, i :: l => instB n i && instsB (n + 1) l
/-- may a block go to one of these, with so many values, with these? -/
def goesB (all : List Bk) (n : Int) (to : Int) (l : List Int) : Bool :=
  decide (0 ≤ to) && decide (to < all.length) && (match all[to.toNat]? with | some b => (l.length : Int) == b.p | none => false) && amongB n l
/-- is a block's end right? -/
def endB (all : List Bk) (n : Int) (t : Tm) : Bool :=
  if t.k = 1 then goesB all n t.t t.l && t.a == 0 && t.e == 0 && decide (t.m = [])
  else if t.k = 2 then amongB n [t.a] && goesB all n t.t t.l && goesB all n t.e t.m
  else if t.k = 3 then amongB n [t.a] && t.t == 0 && decide (t.l = []) && t.e == 0 && decide (t.m = [])
  else false
def blockB (all : List Bk) (b : Bk) : Bool :=
  decide (0 ≤ b.p) && decide (b.p ≤ 6) && decide (b.i.length ≤ 32) && endB all (b.p + b.i.length) b.e && instsB b.p b.i
/-- is a function right? -/
def funcB (f : Fn) : Bool :=
  nameB f.s && (decide (1 ≤ f.b) && decide (f.b ≤ 3)) && (decide (0 ≤ f.p) && decide (f.p ≤ 6)) && decide (f.l.length ≤ 16) &&
    (match f.l with | [] => !(f.b == 1) | b :: _ => b.p == f.p && f.l.all (blockB f.l))
/-- its instructions' names -/
def insNames (l : List In) : List ByteArray := (l.filter fun i => hasB i.o).map (·.s)
def refsL (f : Fn) : List ByteArray := (f.l.map fun b => insNames b.i).flatten
/-- what stands in an instruction that its operation asks for -/
def askedI (i : In) : In :=
  ⟨i.o, if aB i.o then i.a else 0, if bB i.o then i.b else 0, if i.o = 1 then i.k else 0, if hasB i.o then i.s else .empty, if i.o = 14 then i.l else []⟩
def sameI (x y : In) : Bool := x.o == y.o && x.a == y.a && x.b == y.b && x.k == y.k && x.s == y.s && decide (x.l = y.l)
end Go.Proofs.Ytkalgiaapkjplaa
