/- What the texts of package resolve stand on, of the packages ir and pick (part 2). -/
import Derived.Test.YtniolkjeblocaaaH0
namespace Go.Proofs.Ytniolkjeblocaaa
open Go.RowKit
/-- a module that lies in two cells -/
def MdIn (W : World) (b off : Nat) (m : Md) : Prop :=
  ∃ F cf G cg, W.cell? ⟨b, off, none⟩ = some (.slice F m.f.length cf) ∧ W.cell? ⟨b, off + 1, none⟩ = some (.slice G m.g.length cg) ∧ MdAt W (.slice F m.f.length cf) (.slice G m.g.length cg) m
theorem MdIn.next (W W' : World) (b off : Nat) (x : Md) (hb : b < W.heap.size) (h : Below W.heap.size W W') (hx : MdIn W b off x) : MdIn W' b off x := by
  obtain ⟨F, cf, G, cg, h0, h1, h2⟩ := hx
  exact ⟨F, cf, G, cg, (cellNext hb h _).trans h0, (cellNext hb h _).trans h1, h2.next h⟩
def Mods : World → Value → List Md → Prop := RowOf 2 MdIn
theorem Mods.next {W W' : World} {v : Value} {l : List Md} (h : Mods W v l) (hb : Below W.heap.size W W') : Mods W' v l := RowOf.next MdIn.next h hb
/-- a file -/
structure Fl where
  a : Bool
  m : List Md
def FlIn (W : World) (b off : Nat) (x : Fl) : Prop := W.cell? ⟨b, off, none⟩ = some (.bool x.a) ∧ ∃ A cap, W.cell? ⟨b, off + 1, none⟩ = some (.slice A x.m.length cap) ∧ Mods W (.slice A x.m.length cap) x.m
theorem FlIn.next (W W' : World) (b off : Nat) (x : Fl) (hb : b < W.heap.size) (h : Below W.heap.size W W') (hx : FlIn W b off x) : FlIn W' b off x := by
  obtain ⟨h0, A, c, h1, h2⟩ := hx
  exact ⟨(cellNext hb h _).trans h0, A, c, (cellNext hb h _).trans h1, h2.next h⟩
def Files : World → Value → List Fl → Prop := RowOf 2 FlIn
theorem Files.next {W W' : World} {v : Value} {l : List Fl} (h : Files W v l) (hb : Below W.heap.size W W') : Files W' v l := RowOf.next FlIn.next h hb
def FlOk (x : Fl) : Prop := x.m.length ≤ 1152921504606846975 ∧ ∀ m ∈ x.m, MdOk m
def sumM (l : List Fl) : Nat := (l.map (·.m.length)).sum
def oneB (l : List Fl) : Bool := l.all fun f => f.a || f.m.length == 1
theorem sumM_take {l : List Fl} {i : Nat} (hi : i < l.length) : sumM (l.take (i + 1)) = sumM (l.take i) + l[i].m.length := by
  unfold sumM
  rw [List.take_succ_eq_append_getElem hi, List.map_append, List.sum_append]
  simp
end Go.Proofs.Ytniolkjeblocaaa
namespace Go.Proofs.Ytniolkjeblocaaa
open Go.RowKit
/-- a world in which these blocks lie as they lie in W -/
def SameIn (lo hi : Nat) (W W' : World) : Prop := W.heap.size ≤ W'.heap.size ∧ ∀ b, lo ≤ b → b < hi → W'.heap[b]? = W.heap[b]?
theorem SameIn.refl (lo hi : Nat) (W : World) : SameIn lo hi W W := ⟨Nat.le_refl _, fun _ _ _ => rfl⟩
theorem SameIn.trans {lo hi : Nat} {A B C : World} (h : SameIn lo hi A B) (k : SameIn lo hi B C) : SameIn lo hi A C := ⟨Nat.le_trans h.1 k.1, fun b h1 h2 => (k.2 b h1 h2).trans (h.2 b h1 h2)⟩
theorem SameIn.thin {lo hi lo' hi' : Nat} {W W' : World} (h : SameIn lo hi W W') (h1 : lo ≤ lo') (h2 : hi' ≤ hi) : SameIn lo' hi' W W' := ⟨h.1, fun b g1 g2 => h.2 b (by omega) (by omega)⟩
/-- what lies as it lay from a world on, and what it is told of there -/
theorem SameIn.from {lo : Nat} {A B C : World} (h : SameIn lo A.heap.size A B) (k : SameIn lo B.heap.size B C) : SameIn lo A.heap.size A C := h.trans (k.thin (Nat.le_refl _) h.1)
/-- the cells of an instruction, of a block, of a function in a row: what they lead to lies so in each world of a kind -/
def InYs (S : World → Prop) (ys : List Value) (j : Nat) (x : In) : Prop :=
  ys[j * 6]? = some (.int .i64 x.o) ∧ ys[j * 6 + 1]? = some (.int .i64 x.a) ∧ ys[j * 6 + 2]? = some (.int .i64 x.b) ∧ ys[j * 6 + 3]? = some (.int .u64 x.k) ∧ ys[j * 6 + 4]? = some (.string x.s) ∧
    ∃ A c, ys[j * 6 + 5]? = some (.slice A x.l.length c) ∧ ∀ W, S W → Ints W (.slice A x.l.length c) x.l
def BkYs (S : World → Prop) (ys : List Value) (j : Nat) (x : Bk) : Prop :=
  ys[j * 8]? = some (.int .i64 x.p) ∧ (∃ A c, ys[j * 8 + 1]? = some (.slice A x.i.length c) ∧ ∀ W, S W → Insts W (.slice A x.i.length c) x.i) ∧
    ys[j * 8 + 2]? = some (.int .i64 x.e.k) ∧ ys[j * 8 + 3]? = some (.int .i64 x.e.a) ∧ ys[j * 8 + 4]? = some (.int .i64 x.e.t) ∧
    (∃ A c, ys[j * 8 + 5]? = some (.slice A x.e.l.length c) ∧ ∀ W, S W → Ints W (.slice A x.e.l.length c) x.e.l) ∧ ys[j * 8 + 6]? = some (.int .i64 x.e.e) ∧
    (∃ A c, ys[j * 8 + 7]? = some (.slice A x.e.m.length c) ∧ ∀ W, S W → Ints W (.slice A x.e.m.length c) x.e.m)
def FnYs (S : World → Prop) (ys : List Value) (j : Nat) (x : Fn) : Prop :=
  ys[j * 4]? = some (.string x.s) ∧ ys[j * 4 + 1]? = some (.int .i64 x.b) ∧ ys[j * 4 + 2]? = some (.int .i64 x.p) ∧ ∃ A c, ys[j * 4 + 3]? = some (.slice A x.l.length c) ∧ ∀ W, S W → Blocks W (.slice A x.l.length c) x.l
theorem InYs.mono {S S' : World → Prop} {ys : List Value} {j : Nat} {x : In} (h : InYs S ys j x) (hs : ∀ W, S' W → S W) : InYs S' ys j x := by
  obtain ⟨h0, h1, h2, h3, h4, A, c, h5, h6⟩ := h
  exact ⟨h0, h1, h2, h3, h4, A, c, h5, fun W hW => h6 W (hs W hW)⟩
theorem BkYs.mono {S S' : World → Prop} {ys : List Value} {j : Nat} {x : Bk} (h : BkYs S ys j x) (hs : ∀ W, S' W → S W) : BkYs S' ys j x := by
  obtain ⟨h0, ⟨A, c, h1, g1⟩, h2, h3, h4, ⟨A5, c5, h5, g5⟩, h6, A7, c7, h7, g7⟩ := h
  exact ⟨h0, ⟨A, c, h1, fun W hW => g1 W (hs W hW)⟩, h2, h3, h4, ⟨A5, c5, h5, fun W hW => g5 W (hs W hW)⟩, h6, A7, c7, h7, fun W hW => g7 W (hs W hW)⟩
theorem FnYs.mono {S S' : World → Prop} {ys : List Value} {j : Nat} {x : Fn} (h : FnYs S ys j x) (hs : ∀ W, S' W → S W) : FnYs S' ys j x := by
  obtain ⟨h0, h1, h2, A, c, h3, h4⟩ := h
  exact ⟨h0, h1, h2, A, c, h3, fun W hW => h4 W (hs W hW)⟩
/-- a cell of another thing is written -/
theorem InYs.other {S : World → Prop} {ys : List Value} {j i : Nat} {x : In} (h : InYs S ys j x) (hj : j ≠ i) (u : Value) : InYs S (ys.set (i * 6 + 5) u) j x := by
  have q : ∀ c, c < 6 → (ys.set (i * 6 + 5) u)[j * 6 + c]? = ys[j * 6 + c]? := fun c hc => List.getElem?_set_ne (by omega)
  obtain ⟨h0, h1, h2, h3, h4, A, c, h5, h6⟩ := h
  exact ⟨(q 0 (by omega)).trans h0, (q 1 (by omega)).trans h1, (q 2 (by omega)).trans h2, (q 3 (by omega)).trans h3, (q 4 (by omega)).trans h4, A, c, (q 5 (by omega)).trans h5, h6⟩
theorem BkYs.other {S : World → Prop} {ys : List Value} {j i k : Nat} {x : Bk} (h : BkYs S ys j x) (hj : j ≠ i) (hk : k < 8) (u : Value) : BkYs S (ys.set (i * 8 + k) u) j x := by
  have q : ∀ c, c < 8 → (ys.set (i * 8 + k) u)[j * 8 + c]? = ys[j * 8 + c]? := fun c hc => List.getElem?_set_ne (by omega)
  obtain ⟨h0, ⟨A, c, h1, g1⟩, h2, h3, h4, ⟨A5, c5, h5, g5⟩, h6, A7, c7, h7, g7⟩ := h
  exact ⟨(q 0 (by omega)).trans h0, ⟨A, c, (q 1 (by omega)).trans h1, g1⟩, (q 2 (by omega)).trans h2, (q 3 (by omega)).trans h3, (q 4 (by omega)).trans h4, ⟨A5, c5, (q 5 (by omega)).trans h5, g5⟩, (q 6 (by omega)).trans h6, A7, c7, (q 7 (by omega)).trans h7, g7⟩
theorem FnYs.other {S : World → Prop} {ys : List Value} {j i : Nat} {x : Fn} (h : FnYs S ys j x) (hj : j ≠ i) (u : Value) : FnYs S (ys.set (i * 4 + 3) u) j x := by
  have q : ∀ c, c < 4 → (ys.set (i * 4 + 3) u)[j * 4 + c]? = ys[j * 4 + c]? := fun c hc => List.getElem?_set_ne (by omega)
  obtain ⟨h0, h1, h2, A, c, h3, h4⟩ := h
  exact ⟨(q 0 (by omega)).trans h0, (q 1 (by omega)).trans h1, (q 2 (by omega)).trans h2, A, c, (q 3 (by omega)).trans h3, h4⟩
/-- its own cell is written -/
theorem InYs.put {S S' : World → Prop} {ys : List Value} {i : Nat} {x : In} (h : InYs S ys i x) (hl : i * 6 + 5 < ys.length) {A : Option Addr} {c : Nat} (hn : ∀ W, S' W → Ints W (.slice A x.l.length c) x.l) : InYs S' (ys.set (i * 6 + 5) (.slice A x.l.length c)) i x := by
  have q : ∀ c, c < 5 → ∀ u : Value, (ys.set (i * 6 + 5) u)[i * 6 + c]? = ys[i * 6 + c]? := fun c hc u => List.getElem?_set_ne (by omega)
  obtain ⟨h0, h1, h2, h3, h4, -⟩ := h
  exact ⟨(q 0 (by omega) _).trans h0, (q 1 (by omega) _).trans h1, (q 2 (by omega) _).trans h2, (q 3 (by omega) _).trans h3, (q 4 (by omega) _).trans h4, A, c, List.getElem?_set_self hl, hn⟩
theorem FnYs.put {S S' : World → Prop} {ys : List Value} {i : Nat} {x : Fn} (h : FnYs S ys i x) (hl : i * 4 + 3 < ys.length) {A : Option Addr} {c : Nat} (hn : ∀ W, S' W → Blocks W (.slice A x.l.length c) x.l) : FnYs S' (ys.set (i * 4 + 3) (.slice A x.l.length c)) i x := by
  have q : ∀ c, c < 3 → ∀ u : Value, (ys.set (i * 4 + 3) u)[i * 4 + c]? = ys[i * 4 + c]? := fun c hc u => List.getElem?_set_ne (by omega)
  obtain ⟨h0, h1, h2, -⟩ := h
  exact ⟨(q 0 (by omega) _).trans h0, (q 1 (by omega) _).trans h1, (q 2 (by omega) _).trans h2, A, c, List.getElem?_set_self hl, hn⟩
theorem BkYs.put {S S' : World → Prop} {ys : List Value} {i : Nat} {x : Bk} (h : BkYs S ys i x) (hl : i * 8 + 7 < ys.length) {A A5 A7 : Option Addr} {c c5 c7 : Nat} (hn : ∀ W, S' W → Insts W (.slice A x.i.length c) x.i)
    (hn5 : ∀ W, S' W → Ints W (.slice A5 x.e.l.length c5) x.e.l) (hn7 : ∀ W, S' W → Ints W (.slice A7 x.e.m.length c7) x.e.m) :
    BkYs S' (((ys.set (i * 8 + 1) (.slice A x.i.length c)).set (i * 8 + 5) (.slice A5 x.e.l.length c5)).set (i * 8 + 7) (.slice A7 x.e.m.length c7)) i x := by
  have q : ∀ c, c < 8 → c ≠ 1 → c ≠ 5 → c ≠ 7 → ∀ u u5 u7 : Value, (((ys.set (i * 8 + 1) u).set (i * 8 + 5) u5).set (i * 8 + 7) u7)[i * 8 + c]? = ys[i * 8 + c]? := fun c hc h1 h5 h7 u u5 u7 => by
    rw [List.getElem?_set_ne (by omega), List.getElem?_set_ne (by omega), List.getElem?_set_ne (by omega)]
  obtain ⟨h0, -, h2, h3, h4, -, h6, -⟩ := h
  refine ⟨(q 0 (by omega) (by omega) (by omega) (by omega) _ _ _).trans h0, ⟨A, c, ?_, hn⟩, (q 2 (by omega) (by omega) (by omega) (by omega) _ _ _).trans h2, (q 3 (by omega) (by omega) (by omega) (by omega) _ _ _).trans h3, (q 4 (by omega) (by omega) (by omega) (by omega) _ _ _).trans h4, ⟨A5, c5, ?_, hn5⟩, (q 6 (by omega) (by omega) (by omega) (by omega) _ _ _).trans h6, A7, c7, ?_, hn7⟩
  · rw [List.getElem?_set_ne (by omega), List.getElem?_set_ne (by omega), List.getElem?_set_self (by omega)]
  · rw [List.getElem?_set_ne (by omega), List.getElem?_set_self (by simp; omega)]
  · rw [List.getElem?_set_self (by simp; omega)]
end Go.Proofs.Ytniolkjeblocaaa
namespace Go.Proofs.Ytniolkjeblocaaa
open Go.RowKit
/-- a block's instructions while their values are copied -/
def InIn (w wa : World) (l : List In) (v : Value) (b s m k : Nat) (W : World) : Prop :=
  ∃ zs, W.ownsRow b 107 6 v m zs ∧ (∀ (j : Nat) (hj : j < l.length), j < k → InYs (SameIn s W.heap.size W) zs j l[j]) ∧
    (∀ (j : Nat) (hj : j < l.length), k ≤ j → InYs (Below w.heap.size w) zs j l[j]) ∧ Below b wa W ∧ s ≤ W.heap.size ∧ Below w.heap.size w W ∧ ∀ g, v.ownBlock = some g → g < s
theorem below_setc {n : Nat} {w W : World} {a : Addr} {u : Value} (h : Below n w W) (ha : n ≤ a.block) : Below n w (W.setCell a u) :=
  h.trans ⟨rfl, rfl, rfl, by simp, fun q hq => Below.heap_setCell _ _ _ _ (by omega)⟩
theorem InIn.drew {w wa : World} {l : List In} {v : Value} {b s m k : Nat} {W : World} (h : InIn w wa l v b s m k W) : InIn w wa l v b s m k W.drew := by
  obtain ⟨zs, h1, h2, h3, h4, h5, h6, h7⟩ := h
  exact ⟨zs, h1, h2, h3, h4.drew, h5, h6.drew, h7⟩
end Go.Proofs.Ytniolkjeblocaaa
namespace Go.Proofs.Ytniolkjeblocaaa
open Go.RowKit
/-- the functions' row while they are copied -/
def FnIn (w : World) (l : List Fn) (v vg : Value) (gl : List Gl) (s n i : Nat) (W : World) : Prop :=
  ∃ ys, W.ownsRow (w.heap.size + 2) 57 4 v n ys ∧ (∀ (j : Nat) (hj : j < l.length), j < i → FnYs (SameIn s W.heap.size W) ys j l[j]) ∧
    (∀ (j : Nat) (hj : j < l.length), i ≤ j → FnYs (Below w.heap.size w) ys j l[j]) ∧ Below w.heap.size w W ∧ s ≤ W.heap.size ∧ (∀ g, v.ownBlock = some g → g < s) ∧ w.heap.size + 2 ≤ s ∧
    W.heap[w.heap.size]? = some (.cells #[v, vg] 25 (0, 0)) ∧ W.heap[w.heap.size + 1]? = some (.cells #[.slice none 0 0, .slice none 0 0] 25 (0, 0)) ∧
    ∃ zs, W.ownsRow (w.heap.size + 2) 60 4 vg gl.length zs ∧ RowOf 4 GlAt W vg gl ∧ (∀ g g', v.ownBlock = some g → vg.ownBlock = some g' → g ≠ g')
theorem FnIn.drew {w : World} {l : List Fn} {v vg : Value} {gl : List Gl} {s n i : Nat} {W : World} (h : FnIn w l v vg gl s n i W) : FnIn w l v vg gl s n i W.drew := by
  obtain ⟨ys, h1, h2, h3, h4, h5, h6, h7, h8, h9, zs, h10, h11, h12⟩ := h
  exact ⟨ys, h1, h2, h3, h4.drew, h5, h6, h7, h8, h9, zs, h10, h11.next GlAt.next (Below.refl _ _).drew, h12⟩
theorem ownsRow_atv {W W' : World} {base : Nat} {T : TypeId} {sz n : Nat} {v : Value} {ys : List Value} (h : W.ownsRow base T sz v n ys) (hs : ∀ g, v.ownBlock = some g → W'.heap[g]? = W.heap[g]?) : W'.ownsRow base T sz v n ys := by
  rcases h with ⟨h1, h2 | ⟨g', cap', cur, rfl, hge, hh, r⟩⟩
  · exact ⟨h1, .inl h2⟩
  · exact ⟨h1, .inr ⟨g', cap', cur, rfl, hge, (hs g' rfl).trans hh, r⟩⟩
theorem md_info : (Try.prog.info? 25).map (·.size) = some 2 := by kernel_rfl
theorem ownsRow_slice {W : World} {base : Nat} {T : TypeId} {sz n : Nat} {v : Value} {ys : List Value} (h : W.ownsRow base T sz v n ys) : ∃ A c, v = .slice A n c := by
  rcases h.2 with ⟨rfl, rfl⟩ | ⟨g, cap, cur, rfl, -⟩
  · exact ⟨_, _, rfl⟩
  · exact ⟨_, _, rfl⟩
end Go.Proofs.Ytniolkjeblocaaa
namespace Go.Proofs.Ytniolkjeblocaaa
open Go.RowKit
def inB (l : List ByteArray) (s : ByteArray) : Bool := l.any fun x => x == s
def defB (l : List Md) (s : ByteArray) : Bool := l.any fun m => inB (selM defP m) s
def wantB (l : List Md) (s : ByteArray) : Bool := l.any fun m => inB (selM wantP m) s
def openB (l : List Md) (m : Md) : Bool := (selM defP m).any fun s => !defB l s && wantB l s
end Go.Proofs.Ytniolkjeblocaaa
namespace Go.Proofs.Ytniolkjeblocaaa
open Go.RowKit
/-- the modules of files, each with whether it stands in an archive -/
def flat (l : List Fl) : List (Bool × Md) := (l.map fun f => f.m.map fun m => (f.a, m)).flatten
/-- which ones are taken, and their row -/
structure Tk where
  t : Nat → Bool
  r : List Md
def OneStep (L : List (Bool × Md)) (s s' : Tk) : Prop :=
  ∃ j, ∃ h : j < L.length, s.t j = false ∧ openB s.r L[j].2 = true ∧ (∀ k (hk : k < L.length), k < j → s.t k = true ∨ openB s.r L[k].2 = false) ∧ s' = ⟨fun k => k == j || s.t k, s.r ++ [L[j].2]⟩
inductive Steps (L : List (Bool × Md)) (s0 : Tk) : Tk → Prop
  | refl : Steps L s0 s0
  | step {s s' : Tk} : Steps L s0 s → OneStep L s s' → Steps L s0 s'
/-- places and numbers -/
def offL (l : List Fl) (i : Nat) : Nat := sumM (l.take i)
theorem flat_length (l : List Fl) : (flat l).length = sumM l := by
  unfold flat sumM
  rw [List.length_flatten, List.map_map]
  congr 1
  apply List.map_congr_left
  intro f _
  simp
theorem offL_succ {l : List Fl} {i : Nat} (hi : i < l.length) : offL l (i + 1) = offL l i + l[i].m.length := sumM_take hi
theorem offL_all {l : List Fl} {i : Nat} (hi : l.length ≤ i) : offL l i = sumM l := by unfold offL; rw [List.take_of_length_le hi]
theorem offL_mono {l : List Fl} {i k : Nat} (h : i ≤ k) : offL l i ≤ offL l k := by
  induction k with
  | zero => simp [show i = 0 by omega]
  | succ k ih =>
    by_cases e : i = k + 1
    · rw [e]; exact Nat.le_refl _
    · by_cases hk : k < l.length
      · rw [offL_succ hk]; have := ih (by omega); omega
      · rw [offL_all (i := k + 1) (by omega)]; have := ih (by omega); rw [offL_all (i := k) (by omega)] at this; exact this
theorem off_lt {l : List Fl} {i k : Nat} (hi : i < l.length) (hk : k < l[i].m.length) : offL l i + k < (flat l).length := by
  rw [flat_length, ← offL_all (l := l) (Nat.le_refl _)]
  have := offL_mono (l := l) (show i + 1 ≤ l.length from hi)
  rw [offL_succ hi] at this
  omega
theorem off_inj {l : List Fl} {i k i' k' : Nat} (hi : i < l.length) (hk : k < l[i].m.length) (hi' : i' < l.length) (hk' : k' < l[i'].m.length) (h : offL l i + k = offL l i' + k') : i = i' ∧ k = k' := by
  have e : i = i' := by
    rcases Nat.lt_trichotomy i i' with g | g | g
    · have := offL_mono (l := l) (show i + 1 ≤ i' from g)
      rw [offL_succ hi] at this
      omega
    · exact g
    · have := offL_mono (l := l) (show i' + 1 ≤ i from g)
      rw [offL_succ hi'] at this
      omega
  subst e
  exact ⟨rfl, by omega⟩
end Go.Proofs.Ytniolkjeblocaaa
namespace Go.Proofs.Ytniolkjeblocaaa
open Go.RowKit
def placeV (i k : Nat) : Value := .agg #[.int .i64 i, .int .i64 k]
noncomputable def plit (i k : Nat) : Lit := (keyOf Try.prog 110 (placeV i k)).getD (.bool false)
/-- what a map of places says -/
def HasAll (l : List Fl) (D : DataW Unit) (t : Nat → Bool) : Prop := ∀ (i k : Nat) (hi : i < l.length), k < l[i].m.length → Maps.has D (plit i k) = t (offL l i + k)
/-- a world in which all lies as in W but for three blocks -/
def SameBut (n B mb : Nat) (r : Option Nat) (W W' : World) : Prop := W.heap.size ≤ W'.heap.size ∧ ∀ b, n ≤ b → b < W.heap.size → b ≠ B → b ≠ mb → some b ≠ r → W'.heap[b]? = W.heap[b]?
def MdYs (S : World → Prop) (ys : List Value) (j : Nat) (x : Md) : Prop :=
  ∃ F cf G cg, ys[j * 2]? = some (.slice F x.f.length cf) ∧ ys[j * 2 + 1]? = some (.slice G x.g.length cg) ∧ ∀ W, S W → MdAt W (.slice F x.f.length cf) (.slice G x.g.length cg) x
theorem MdYs.mono {S S' : World → Prop} {ys : List Value} {j : Nat} {x : Md} (h : MdYs S ys j x) (hs : ∀ W, S' W → S W) : MdYs S' ys j x := by
  obtain ⟨F, cf, G, cg, h0, h1, h2⟩ := h
  exact ⟨F, cf, G, cg, h0, h1, fun W hW => h2 W (hs W hW)⟩
/-- the row of what is taken -/
def RowIn (base B mb : Nat) (row : List Md) (v : Value) (W : World) : Prop :=
  ∃ ys, W.ownsRow base 25 2 v row.length ys ∧ ∀ (j : Nat) (hj : j < row.length), MdYs (SameBut base B mb v.ownBlock W) ys j row[j]
/-- other blocks are written, or new ones made -/
theorem RowIn.keep {base B B' mb mb' : Nat} {row : List Md} {v : Value} {W W' : World} (h : RowIn base B mb row v W) (hz : W.heap.size ≤ W'.heap.size) (hs : ∀ b, base ≤ b → b < W.heap.size → b ≠ B → b ≠ mb → W'.heap[b]? = W.heap[b]?)
    (hB : B' = B ∨ W.heap.size ≤ B') (hmb : mb' = mb ∨ W.heap.size ≤ mb') (hv : v.ownBlock ≠ some B ∧ v.ownBlock ≠ some mb) : RowIn base B' mb' row v W' := by
  obtain ⟨ys, ho, h⟩ := h
  refine ⟨ys, ownsRow_atv ho (fun g hg => hs g (ho.lt g hg).1 (ho.lt g hg).2 (fun e => hv.1 (by rw [hg, e])) (fun e => hv.2 (by rw [hg, e]))), fun j hj => (h j hj).mono (fun U hU => ⟨Nat.le_trans hz hU.1, fun b h0 h1 h2 h3 h4 => ?_⟩)⟩
  rw [hU.2 b h0 (by omega) (by rcases hB with e | e <;> omega) (by rcases hmb with e | e <;> omega) h4]
  exact hs b h0 h1 h2 h3
theorem ownsRow_down {W : World} {base base' : Nat} {T : TypeId} {sz n : Nat} {v : Value} {ys : List Value} (h : W.ownsRow base T sz v n ys) (hb : base' ≤ base) : W.ownsRow base' T sz v n ys := by
  rcases h with ⟨h1, h2 | ⟨g', cap', cur, rfl, hge, r⟩⟩
  · exact ⟨h1, .inl h2⟩
  · exact ⟨h1, .inr ⟨g', cap', cur, rfl, by omega, r⟩⟩
theorem RowIn.down {base base' B mb : Nat} {row : List Md} {v : Value} {W : World} (h : RowIn base B mb row v W) (hb : base' ≤ base) : RowIn base' B mb row v W := by
  obtain ⟨ys, ho, h⟩ := h
  exact ⟨ys, ownsRow_down ho hb, fun j hj => (h j hj).mono (fun U hU => ⟨hU.1, fun b b0 b1 b2 b3 b4 => hU.2 b (by omega) b1 b2 b3 b4⟩)⟩
/-- what is taken, as it lies behind a pointer -/
def PkAt (w0 : World) (fv : Value) (l : List Fl) (B mb : Nat) (s : Tk) (k : Nat) (W : World) : Prop :=
  ∃ v D, W.heap[B]? = some (.cells #[fv, .map (some mb), v] 70 (0, 0)) ∧ RowIn w0.heap.size B mb s.r v W ∧ W.ownsMap Try.prog 110 unitElem mb k D ∧ HasAll l D s.t ∧ Below w0.heap.size w0 W ∧
    w0.heap.size ≤ B ∧ w0.heap.size ≤ mb ∧ B ≠ mb ∧ v.ownBlock ≠ some B ∧ v.ownBlock ≠ some mb
end Go.Proofs.Ytniolkjeblocaaa
namespace Go.Proofs.Ytniolkjeblocaaa
open Go.RowKit
section
variable {H : Type}
theorem step_mapUpdate {P : Program} {w : World} {ops : Array Oper} {o : Oper} {a : Act} {K : Act → World → Prop} {Q : Exit → Act → World → Prop} {E : Prop} (hgd : o.guard = none) (m x v : Operand) (t : TypeId) (hop : o.op = Op.mapUpdate t m x v)
    (k e : TypeId) (KK : Maps.Keyed P k) (ht : P.underlying t = some (.map k e)) (R : Value → Option (DataW H × List MemPlace)) (b n : Nat) (D : DataW H)
    (hm : a.eval m = .map (some b)) (hown : w.ownsMap P k R b n D) (hn : n < maxLen) (key val : Value) (kl : Lit) (hx : a.eval x = key) (hv : a.eval v = val) (hkey : keyOf P k key = some kl)
    (d : DataW H) (ps : List MemPlace) (hval : R val = some (d, ps))
    (hK : ∀ w', w'.ownsMap P k R b (n + 1) (D.put kl d) → w.mapTurned w' b → K (a.put o.dst undef) w') :
    if Region.wanted o (yielded ops a.tmps) = true then Oper.wp P o a w K Q else E := by
  have hw : Region.wanted o (yielded ops a.tmps) = true := by simp [Region.wanted, hgd]
  rw [if_pos hw]
  obtain ⟨w', hrun, r1, r2⟩ := hown.store KK ht hn hkey hval
  unfold Oper.wp
  simp [execOp, hop, hm, hx, hv, hrun, Result.andThen]
  exact hK w' r1 r2
end
end Go.Proofs.Ytniolkjeblocaaa
namespace Go.Proofs.Ytniolkjeblocaaa
open Go.RowKit
/-- a map of names -/
def SetAt (W : World) (b : Nat) (D : DataW Unit) : Prop := ∃ n, W.ownsMap Try.prog 9 unitElem b n D
theorem SetAt.next {W W' : World} {b : Nat} {D : DataW Unit} (h : SetAt W b D) (hb : Below W.heap.size W W') : SetAt W' b D := by
  obtain ⟨n, es, cl, hb', r⟩ := h
  exact ⟨n, es, cl, (hb.block b (Array.getElem?_eq_some_iff.1 hb').1).trans hb', r⟩
end Go.Proofs.Ytniolkjeblocaaa
namespace Go.Proofs.Ytniolkjeblocaaa
open Go.RowKit
/-- what a map of names says -/
def HasW (D : DataW Unit) (p : ByteArray → Bool) : Prop := ∀ s : ByteArray, s.size < 9223372036854775808 → Maps.has D (slit s) = p s
theorem HasW.congr {D : DataW Unit} {p q : ByteArray → Bool} (h : HasW D p) (e : ∀ s, p s = q s) : HasW D q := fun s hs => (h s hs).trans (e s)
end Go.Proofs.Ytniolkjeblocaaa
namespace Go.Proofs.Ytniolkjeblocaaa
open Go.RowKit
theorem PkAt.next {w0 : World} {fv : Value} {l : List Fl} {B mb : Nat} {s : Tk} {k : Nat} {W W' : World} (h : PkAt w0 fv l B mb s k W) (hb : Below W.heap.size W W') : PkAt w0 fv l B mb s k W' := by
  obtain ⟨v, D, h1, h2, h3, h4, h5, h6, h7, h8, h9, h10⟩ := h
  refine ⟨v, D, (hb.block B (Array.getElem?_eq_some_iff.1 h1).1).trans h1, h2.keep hb.size (fun b _ b1 _ _ => hb.block b b1) (.inl rfl) (.inl rfl) ⟨h9, h10⟩, ?_, h4, bthen h5 hb, h6, h7, h8, h9, h10⟩
  obtain ⟨es, cl, hq, r⟩ := h3
  exact ⟨es, cl, (hb.block _ (Array.getElem?_eq_some_iff.1 hq).1).trans hq, r⟩
/-- files that may be linked -/
structure Good (l : List Fl) : Prop where
  ok : ∀ f ∈ l, FlOk f
  n8 : l.length ≤ 8
  m16 : sumM l ≤ 16
  one : oneB l = true
  right : ∀ f ∈ l, ∀ m ∈ f.m, checkE m = 0
theorem Good.len {l : List Fl} (g : Good l) : ∀ f ∈ l, f.m.length ≤ 16 := fun f hf => by
  obtain ⟨i, hi, rfl⟩ := List.getElem_of_mem hf
  have := off_lt (l := l) hi (k := l[i].m.length - 1)
  by_cases h0 : l[i].m.length = 0
  · omega
  · have h1 := this (by omega)
    rw [flat_length] at h1
    have := g.m16
    omega
end Go.Proofs.Ytniolkjeblocaaa
namespace Go.Proofs.Ytniolkjeblocaaa
open Go.RowKit
theorem ownsRow_cap {W : World} {base : Nat} {T : TypeId} {sz n : Nat} {A : Option Addr} {c : Nat} {ys : List Value} (h : W.ownsRow base T sz (.slice A n c) n ys) : n ≤ c := by
  rcases h.2 with ⟨-, rfl⟩ | ⟨g, cap, cur, e, -, -, h1, -⟩
  · exact Nat.zero_le _
  · have := (Value.slice.inj e).2.2
    omega
theorem PkAt.cap {w0 : World} {fv : Value} {l : List Fl} {B mb : Nat} {s : Tk} {k : Nat} {W : World} (h : PkAt w0 fv l B mb s k W) {A : Option Addr} {c : Nat} (hB : W.heap[B]? = some (.cells #[fv, .map (some mb), .slice A s.r.length c] 70 (0, 0))) : s.r.length ≤ c := by
  obtain ⟨v, D, h1, ⟨ys, ho, -⟩, -⟩ := h
  rw [h1] at hB
  have e : v = .slice A s.r.length c := by simpa using hB
  subst e
  exact ownsRow_cap ho
end Go.Proofs.Ytniolkjeblocaaa
namespace Go.Proofs.Ytniolkjeblocaaa
open Go.RowKit
def gvIn : In := ⟨1, 0, 0, 0, ⟨#[]⟩, []⟩
def gvBk : Bk := ⟨0, [gvIn], ⟨3, 0, 0, [], 0, []⟩⟩
def NewMd (m : Md) (w : World) (e : Ending) (w' : World) : Prop := ∃ F, e = .returned (.agg #[.slice F 1 1, .slice none 0 0]) ∧ MdAt w' (.slice F 1 1) (.slice none 0 0) m ∧ Below w.heap.size w w'
theorem below_setRowp {w X : World} {n B : Nat} {cells : Array Value} (h : Below n w X) (hB : n ≤ B) : Below n w (X.setRow B cells) :=
  h.trans ⟨rfl, rfl, rfl, by simp, fun k hk => setRow_other X _ k _ (by omega)⟩
theorem gv_blocks (w : World) (W : World) (hW : W = ((w.alloc (.cells #[.int .i64 1, .int .i64 0, .int .i64 0, .int .u64 0, .string ⟨#[]⟩, .slice none 0 0] 107)).alloc (.cells #[.int .i64 0, .slice (some ⟨w.heap.size, 0, none⟩) 1 1, .int .i64 3, .int .i64 0, .int .i64 0, .slice none 0 0, .int .i64 0, .slice none 0 0] 105))) :
    Blocks W (.slice (some ⟨w.heap.size + 1, 0, none⟩) 1 1) [gvBk] ∧ Below w.heap.size w W := by
  subst hW
  have i0 := heap_alloc_new w (.cells #[.int .i64 1, .int .i64 0, .int .i64 0, .int .u64 0, .string ⟨#[]⟩, .slice none 0 0] 107)
  have hb := balloc (Below.refl _ (w.alloc (.cells #[.int .i64 1, .int .i64 0, .int .i64 0, .int .u64 0, .string ⟨#[]⟩, .slice none 0 0] 107))) (.cells #[.int .i64 0, .slice (some ⟨w.heap.size, 0, none⟩) 1 1, .int .i64 3, .int .i64 0, .int .i64 0, .slice none 0 0, .int .i64 0, .slice none 0 0] 105)
  have i1 := (hb.block _ (Array.getElem?_eq_some_iff.1 i0).1).trans i0
  have b1 := heap_alloc_new (w.alloc (.cells #[.int .i64 1, .int .i64 0, .int .i64 0, .int .u64 0, .string ⟨#[]⟩, .slice none 0 0] 107)) (.cells #[.int .i64 0, .slice (some ⟨w.heap.size, 0, none⟩) 1 1, .int .i64 3, .int .i64 0, .int .i64 0, .slice none 0 0, .int .i64 0, .slice none 0 0] 105)
  rw [World.size_alloc] at b1
  refine ⟨.inr ⟨by simp, w.heap.size + 1, 0, 1, rfl, (Array.getElem?_eq_some_iff.1 b1).1, fun i hi => ?_⟩, bthen (balloc (Below.refl _ w) _) hb⟩
  obtain rfl : i = 0 := by simpa using hi
  refine ⟨Lib.cell_of_heap b1 0, ⟨some ⟨w.heap.size, 0, none⟩, 1, Lib.cell_of_heap b1 1, .inr ⟨by simp [gvBk], w.heap.size, 0, 1, rfl, (Array.getElem?_eq_some_iff.1 i1).1, fun j hj => ?_⟩⟩, Lib.cell_of_heap b1 2, Lib.cell_of_heap b1 3, Lib.cell_of_heap b1 4, ⟨none, 0, Lib.cell_of_heap b1 5, .inl ⟨rfl, .inl rfl⟩⟩, Lib.cell_of_heap b1 6, none, 0, Lib.cell_of_heap b1 7, .inl ⟨rfl, .inl rfl⟩⟩
  obtain rfl : j = 0 := by simpa [gvBk] using hj
  exact ⟨Lib.cell_of_heap i1 0, Lib.cell_of_heap i1 1, Lib.cell_of_heap i1 2, Lib.cell_of_heap i1 3, Lib.cell_of_heap i1 4, none, 0, Lib.cell_of_heap i1 5, .inl ⟨rfl, .inl rfl⟩⟩
end Go.Proofs.Ytniolkjeblocaaa
namespace Go.Proofs.Ytniolkjeblocaaa
open Go.RowKit
def nF : ByteArray := ⟨#[102]⟩
end Go.Proofs.Ytniolkjeblocaaa
namespace Go.Proofs.Ytniolkjeblocaaa
open Go.RowKit
/-- a row of modules of the call's own; what they hold lay there when it began -/
def OutIn (w : World) (v : Value) (r : List Md) (W : World) : Prop := ∃ ys, W.ownsRow w.heap.size 25 2 v r.length ys ∧ ∀ (j : Nat) (hj : j < r.length), MdYs (Below w.heap.size w) ys j r[j]
theorem OutIn.next {w : World} {v : Value} {r : List Md} {W W' : World} (h : OutIn w v r W) (hs : ∀ g, v.ownBlock = some g → W'.heap[g]? = W.heap[g]?) : OutIn w v r W' := by
  obtain ⟨ys, ho, h⟩ := h
  exact ⟨ys, ownsRow_atv ho hs, h⟩
theorem OutIn.below {w : World} {v : Value} {r : List Md} {W W' : World} (h : OutIn w v r W) (hb : Below W.heap.size W W') : OutIn w v r W' :=
  h.next (fun g hg => by obtain ⟨ys, ho, -⟩ := h; exact hb.block g (ho.lt g hg).2)
theorem OutIn.slice {w : World} {v : Value} {r : List Md} {W : World} (h : OutIn w v r W) : ∃ A c, v = .slice A r.length c := by
  obtain ⟨ys, ho, -⟩ := h
  exact ownsRow_slice ho
/-- which ones are had -/
def HadAt (l : List Fl) (Hb : Nat) (t : Nat → Bool) (W : World) : Prop :=
  ∃ hs : Array Value, W.heap[Hb]? = some (.cells hs 73 (0, 0)) ∧ hs.size = 128 ∧ (∀ j, j < 128 → ∃ b, hs[j]? = some (.bool b)) ∧ ∀ (i k : Nat) (hi : i < l.length), k < l[i].m.length → l[i].a = true → hs[i * 16 + k]? = some (.bool (t (offL l i + k)))
theorem HadAt.next {l : List Fl} {Hb : Nat} {t : Nat → Bool} {W W' : World} (h : HadAt l Hb t W) (hs : W'.heap[Hb]? = W.heap[Hb]?) : HadAt l Hb t W' := by
  obtain ⟨hs', h1, r⟩ := h
  exact ⟨hs', hs.trans h1, r⟩
theorem HadAt.put {l : List Fl} {Hb : Nat} {t : Nat → Bool} {W : World} (g : Good l) (h : HadAt l Hb t W) {i k : Nat} (hi : i < l.length) (hk : k < l[i].m.length) : HadAt l Hb (fun q => q == offL l i + k || t q) (W.setCell ⟨Hb, i * 16 + k, none⟩ (.bool true)) := by
  obtain ⟨hs, h1, h2, h3, h4⟩ := h
  have h16 := g.len _ (List.getElem_mem hi)
  have h8 := g.n8
  refine ⟨_, heap_setCell_same W Hb _ hs _ _ h1, by simpa using h2, fun j hj => ?_, fun i' k' hi' hk' ha => ?_⟩
  · rw [Array.getElem?_setIfInBounds]
    by_cases e : i * 16 + k = j
    · rw [if_pos e, if_pos (by omega)]
      exact ⟨true, rfl⟩
    · rw [if_neg e]
      exact h3 j hj
  · have h16' := g.len _ (List.getElem_mem hi')
    rw [Array.getElem?_setIfInBounds]
    by_cases e : i * 16 + k = i' * 16 + k'
    · have e1 : i = i' := by omega
      subst e1
      have e2 : k = k' := by omega
      subst e2
      rw [if_pos rfl, if_pos (by omega)]
      simp
    · rw [if_neg e, h4 i' k' hi' hk' ha]
      have : (offL l i' + k' == offL l i + k) = false := by
        simp only [beq_eq_false_iff_ne, ne_eq]
        intro e2
        obtain ⟨e3, e4⟩ := off_inj hi' hk' hi hk e2
        subst e3; subst e4
        exact e rfl
      simp only [this, Bool.false_or]
end Go.Proofs.Ytniolkjeblocaaa
namespace Go.Proofs.Ytniolkjeblocaaa
open Go.RowKit
def listB {α : Type} (p : α → α → Bool) (a b : List α) : Bool := (a.length == b.length) && (a.zip b).all (fun x => p x.1 x.2)
theorem listB_len {α : Type} {p : α → α → Bool} {a b : List α} (h : a.length ≠ b.length) : listB p a b = false := by
  unfold listB
  rw [show (a.length == b.length) = false by simpa using h]
  rfl
theorem zip_take {α : Type} {p : α → α → Bool} {a b : List α} {i : Nat} (ha : i < a.length) (hb : i < b.length) (h : ((a.take i).zip (b.take i)).all (fun x => p x.1 x.2) = true) :
    ((a.take (i + 1)).zip (b.take (i + 1))).all (fun x => p x.1 x.2) = p a[i] b[i] := by
  rw [List.take_succ_eq_append_getElem ha, List.take_succ_eq_append_getElem hb, List.zip_append (by simp; omega), List.all_append, h]
  simp
theorem zip_no {α : Type} {p : α → α → Bool} {a b : List α} {i : Nat} (ha : i < a.length) (hb : i < b.length) (h : p a[i] b[i] = false) : listB p a b = false := by
  unfold listB
  have : (a.zip b).all (fun x => p x.1 x.2) = false := by
    rw [List.all_eq_false]
    exact ⟨(a.zip b)[i]'(by simp; omega), List.getElem_mem _, by rw [List.getElem_zip]; simp [h]⟩
  rw [this, Bool.and_false]
end Go.Proofs.Ytniolkjeblocaaa
namespace Go.Proofs.Ytniolkjeblocaaa
open Go.ChangeShapes Go.WideShapes Go.ChangeAt Go.RowKit Go.Deep Go.Joins
section
variable {H : Type} {enc : TypeId × Value → H} {W : World} {base : Nat} {spare : Nat → Bool} {held : Bool}
theorem bulk_pos (d : DataW H) : 1 ≤ Rows.uptoBulk d := by
  rcases d with l | _ | _ | _ | _ | _ | _ | _
  · cases l <;> simp [Rows.uptoBulk]
  all_goals simp [Rows.uptoBulk]
theorem bulk_len : ∀ l : List (DataW H), l.length ≤ Rows.uptoBulkAll l
  | [] => Nat.le_refl _
  | x :: r => by
    have h1 := bulk_pos x
    have h2 := bulk_len r
    simp only [Rows.uptoBulkAll, List.length_cons]
    omega
/-- a slice is no longer than what it reads is of bulk -/
theorem slice_bulk {t e : TypeId} {fuel n cap : Nat} {A : Option Addr} {y : DataW H × List MemPlace} (ht : Try.prog.underlying t = some (.slice e)) (h : DataW.trod enc Try.prog W base spare held fuel t [.slice A n cap] = some y) : n ≤ Rows.uptoBulk y.1 := by
  rcases open_slice ht h with ⟨h1, _⟩ | ⟨a, len, cap', m, _, D, Pl, hcs, _, _, _, _, hy, _⟩
  · simp only [List.cons.injEq, and_true] at h1
    cases h1
    exact Nat.zero_le _
  · simp only [List.cons.injEq, and_true] at hcs
    cases hcs
    rw [show y.1 = .slice ((List.range n).map D) ((List.range (m - n)).map fun j => D (n + j)) by rw [hy]]
    have h1 := bulk_len ((List.range n).map D)
    rw [List.length_map, List.length_range] at h1
    simp only [Rows.uptoBulk]
    omega
/-- a row that came in, opened: what its elements are, and of which data -/
theorem open_rowb {α : Type} {t e : TypeId} {sz : Nat} (P : World → Nat → Nat → α → Prop) (ok : α → DataW H → Prop) {W : World} {base : Nat} {spare : Nat → Bool} {held : Bool} {c : Value} {fuel : Nat} {y : DataW H × List MemPlace}
    (ht : Try.prog.underlying t = some (.slice e)) (hsz : Try.prog.cellsOf e = sz) (hpos : 0 < sz)
    (hel : ∀ (n b off : Nat) (cs : List Value) (y : DataW H × List MemPlace), (∀ j, j < sz → W.cell? ⟨b, off + j, none⟩ = cs[j]?) → cs.length = sz → DataW.trod enc Try.prog W base spare held n e cs = some y → (∀ k ∈ y.1.weights Try.prog e, k ≤ reachBytes) → ∃ x, ok x y.1 ∧ P W b off x)
    (h : DataW.trod enc Try.prog W base spare held fuel t [c] = some y) (hz : ∀ k ∈ y.1.weights Try.prog t, k ≤ reachBytes) :
    ∃ (A : Option Addr) (cap : Nat) (l : List α) (ds : List (DataW H)), c = .slice A l.length cap ∧ RowOf sz P W c l ∧ ds.length = l.length ∧ (∀ (i : Nat) (h : i < l.length) (h' : i < ds.length), ok l[i] ds[i]) ∧ l.length ≤ cap ∧ cap ≤ maxLen ∧ Rows.uptoBulkAll ds ≤ Rows.uptoBulk y.1 := by
  rcases open_slice ht h with ⟨h1, _⟩ | ⟨a, len, cap, m, n, D, Pl, hcs, _, hl, hm, hmm, hy, hat⟩
  · simp only [List.cons.injEq, and_true] at h1
    subst h1
    exact ⟨none, 0, [], [], rfl, .inl ⟨rfl, .inl rfl⟩, rfl, fun i h => by simp at h, Nat.le_refl _, by unfold maxLen; omega, Nat.zero_le _⟩
  · simp only [List.cons.injEq, and_true] at hcs
    subst hcs
    have hlm : len ≤ m := by rw [hmm]; split <;> omega
    have hy1 : y.1 = .slice ((List.range len).map D) ((List.range (m - len)).map fun j => D (len + j)) := by rw [hy]
    rw [hy1] at hz
    simp only [DataW.weights, ht, List.length_map, List.length_range, List.mem_cons, List.mem_append] at hz
    have hbulk : Rows.uptoBulkAll ((List.range len).map D) ≤ Rows.uptoBulk y.1 := by
      rw [hy1]
      simp only [Rows.uptoBulk]
      omega
    by_cases h0 : 0 < len
    · obtain ⟨b, off, spot⟩ := a
      have hspot : spot = none ∧ b < W.heap.size := by
        obtain ⟨cs', hc, ht⟩ := hat 0 (by omega)
        rw [hsz] at hc
        obtain ⟨_, hcl, hca⟩ := World.cells?_some hc
        have k0 := hca 0 hpos
        have hl0 : cs'[0]? = some (cs'[0]'(by omega)) := List.getElem?_eq_getElem (by omega)
        rw [hl0] at k0
        have hb := World.block_lt_of_cell? W _ k0
        refine ⟨by simpa [Addr.add] using World.cell?_spot k0, ?_⟩
        revert hb
        unfold Addr.add
        (repeat' split) <;> simp
      obtain ⟨rfl, hb⟩ := hspot
      have cells : ∀ i, i < len → ∃ x, ok x (D i) ∧ P W b (off + i * sz) x := fun i hi => by
        obtain ⟨cs', hc, ht⟩ := hat i (by omega)
        rw [hsz] at hc
        obtain ⟨_, hcl, hca⟩ := World.cells?_some hc
        refine hel n b (off + i * sz) cs' _ (fun j hj => ?_) hcl ht (fun k hk => hz k (.inr (.inl (weightsAll_mem (List.mem_map.2 ⟨i, List.mem_range.2 hi, rfl⟩) k hk))))
        have k := hca j hj
        rwa [add_add, add_plain, ← Nat.add_assoc] at k
      obtain ⟨f, hf⟩ : ∃ f : Nat → α, ∀ i, i < len → ok (f i) (D i) ∧ P W b (off + i * sz) (f i) :=
        ⟨fun i => if hi : i < len then Classical.choose (cells i hi) else Classical.choose (cells 0 h0), fun i hi => by
          simp only [dif_pos hi]
          exact Classical.choose_spec (cells i hi)⟩
      refine ⟨some ⟨b, off, none⟩, cap, (List.range len).map f, (List.range len).map D, by simp, .inr ⟨by simp; exact h0, b, off, cap, by simp, hb, fun i hi => ?_⟩, by simp, fun i h h' => ?_, by simpa using hl, hm, hbulk⟩
      · rw [List.getElem_map, List.getElem_range]
        exact (hf i (by simpa using hi)).2
      · rw [List.getElem_map, List.getElem_map, List.getElem_range]
        exact (hf i (by simpa using h)).1
    · obtain rfl : len = 0 := by omega
      exact ⟨_, _, [], [], rfl, .inl ⟨rfl, .inr ⟨_, _, rfl⟩⟩, rfl, fun i h => by simp at h, hl, hm, Nat.zero_le _⟩
end
end Go.Proofs.Ytniolkjeblocaaa
namespace Go.Proofs.Ytniolkjeblocaaa
open Go.RowKit
set_option maxRecDepth 100000 in
set_option maxHeartbeats 8000000 in
theorem refStrings_any (xs ys : List ByteArray) (A A' : Option Addr) (n n' c c' : Nat) (w : World) (hn : xs.length = n) (hn' : ys.length = n') (h9 : n ≤ 9223372036854775807) (hS : Strs w (.slice A n c) xs) (hS' : Strs w (.slice A' n' c') ys) :
    Calls Try.prog 14 #[.slice A n c, .slice A' n' c'] w fun e w' => e = .returned (.bool (decide (xs = ys))) ∧ Below w.heap.size w w' := by
  have HN := Lib.hid (show xs.length ≤ n ∧ n ≤ xs.length by omega)
  have HN' := Lib.hid (show ys.length ≤ n' ∧ n' ≤ ys.length by omega)
  have HS := Lib.hid hS
  have HS' := Lib.hid hS'
  have n1 : (n : Int) ≤ 9223372036854775807 := by omega
  obtain ⟨V, hV⟩ : ∃ V, decide (xs = ys) = V := ⟨_, rfl⟩
  have HE := Lib.hid hV
  rw [hV]
  clear hV hS hS' hn hn' h9
  go_enter Try.func14, Try.ntmps14
  by_cases hl : n = n'
  case neg =>
    have t : ((n : Int) == (n' : Int)) = false := by simp; omega
    have HV := Lib.hid (show V = false by
      rw [← HE.out]
      exact decide_eq_false fun e => by
        subst e
        have := HN.out
        have := HN'.out
        omega)
    go_wp2_with fail
    go_ret
    exact ⟨by rw [HV.out]; rfl, Below.refl _ _⟩
  subst hl
  go_wp2_with fail
  go_loopw [5] (fun iv wr => ∃ i : Nat, i ≤ n ∧ iv = .int .i64 i ∧ xs.take i = ys.take i ∧ Below w.heap.size w wr) (fun iv _ => n - (intOf iv).toNat)
  case atStart => exact ⟨0, Nat.zero_le _, rfl, by simp, Below.refl _ _⟩
  case round =>
    obtain ⟨i, hi, rfl, hs, hb⟩ := hrel
    have HT := Lib.hid hs
    have HB := Lib.hid hb
    clear hs
    by_cases hlt : i < n
    · have hm : i < xs.length := by have := HN.out; omega
      have hk : i < ys.length := by have := HN'.out; omega
      obtain ⟨b1, off, hA, hbl, e0⟩ := RowOf.at_ (Strs.next HS.out hb) hm
      obtain ⟨b2, off2, hA2, hbl2, e2⟩ := RowOf.at_ (Strs.next HS'.out hb) hk
      subst hA hA2
      simp only [Nat.mul_one] at e0 e2
      have HNX := Lib.hid (show xs[i] = ys[i] → xs.take (i + 1) = ys.take (i + 1) from fun h => by
        rw [List.take_succ_eq_append_getElem hm, List.take_succ_eq_append_getElem hk, HT.out, h])
      have HNO := Lib.hid (show xs[i] ≠ ys[i] → V = false from fun h => by rw [← HE.out]; exact decide_eq_false (fun e => h (by subst e; rfl)))
      obtain ⟨x, hx⟩ : ∃ x, xs[i] = x := ⟨_, rfl⟩
      obtain ⟨y, hy⟩ : ∃ y, ys[i] = y := ⟨_, rfl⟩
      rw [hx] at e0 HNX HNO
      rw [hy] at e2 HNX HNO
      have hk0 : (0 : Int) ≤ (i : Int) := Int.natCast_nonneg _
      have hk1 : (i : Int) < (n : Int) := by omega
      have HLT := Lib.hid hlt
      clear hx hy hm hk hlt hb
      go_upto_region 6 with fail
      cases hq : x == y with
      | true =>
        have h1 : (x.toList == y.toList) = true := by rw [← beq_toListBytes]; exact hq
        have HZ := Lib.hid (HNX.out ((jba_beq _ _).1 hq))
        clear hq
        go_quiet (fail)
        go_wp2_with fail
        go_roundw
        case rel => exact ⟨i + 1, HLT.out, by go_num, HZ.out, below_drewN HB.out _⟩
        case measure => have := HLT.out; simp [intOf]; omega
      | false =>
        have h1 : (x.toList == y.toList) = false := by rw [← beq_toListBytes]; exact hq
        have HZ := Lib.hid (HNO.out (fun e => by rw [e, jba_refl] at hq; cases hq))
        clear hq
        go_quiet (fail)
        go_wp2_with fail
        go_ret
        exact ⟨by rw [HZ.out]; rfl, below_drewN HB.out _⟩
    · have hd : decide ((i : Int) < (n : Int)) = false := by simp; omega
      have HV := Lib.hid (show V = true by
        rw [← HE.out]
        have h := HT.out
        rw [List.take_of_length_le (by have := HN.out; omega), List.take_of_length_le (by have := HN'.out; omega)] at h
        exact decide_eq_true h)
      go_wp2_with fail
      go_ret
      exact ⟨by rw [HV.out]; rfl, HB.out⟩
end Go.Proofs.Ytniolkjeblocaaa
