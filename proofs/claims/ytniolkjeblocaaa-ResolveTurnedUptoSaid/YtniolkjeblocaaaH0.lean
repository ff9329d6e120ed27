/- What the texts of package resolve stand on, of the packages ir and pick (part 1). -/
import Derived.Test.YtniolkjeblocaaaProg
import Derived.Test.YtniolkjeblocaaaRows
import Derived.Below
import Derived.BigQuiet
import Derived.CallsIn
import Derived.Deep.AppendLies
import Derived.Deep.Cut
import Derived.Deep.CutRange
import Derived.Deep.DeepHandedRow
import Derived.Deep.Fields
import Derived.Deep.LoopGhost
import Derived.Deep.QuietTactic
import Derived.Deep.RegionHeld
import Derived.Deep.RegionHeld3
import Derived.Deep.Slices
import Derived.DeepKeys4
import Derived.Laws.AppendOwnNone
import Derived.Laws.Bits64b
import Derived.Laws.OwnMore
import Derived.Laws.ResultCell
import Derived.Laws.Rows
import Derived.Laws.Shifts
import Derived.Lib.Hide
import Derived.Lib.LaidTab
import Derived.Lib.SmallJoins
import Derived.Lib.UnsafeStr
import Derived.LoopIn
import Derived.LoopNIn
import Derived.LoopTactic
import Derived.Maps.AppendAt
import Derived.Maps.Own
import Derived.Maps.OwnIn
import Derived.Maps.OwnSet
import Derived.Maps.Views
import Derived.OpenShut
import Derived.OrdersHeld
import Derived.OrdersIn
import Derived.Outline
import Derived.OwnWalk
import Derived.OwnWalkIn
import Derived.ProofKit
import Derived.RangeFuncBound
import Derived.RangeFuncBox
import Derived.RangeFuncCalls
import Derived.RangeFuncLeaves
import Derived.RangeFuncNested
import Derived.RegionTactic
import Derived.Shelf.Abstract
import Derived.Shelf.RegionOpen
import Derived.ShutString
import Derived.SizedLaws
import Derived.Sort.BigQuietIn
import Derived.StringKeys
import Derived.TacticsIn
import Derived.TacticsInMore
import Derived.WalkKit
import Derived.WalkLawsBesides
import Derived.WalkMore
import Derived.WalkSpells
namespace Go.Proofs.Ytniolkjeblocaaa.M
/-- a page: its place, what may be done with it, its bytes -/
structure Pg where
  a : Int
  p : Int
  d : ByteArray
def okPerm (p : Int) : Bool := decide (0 ≤ p ∧ p ≤ 7)
def okPg (x : Pg) : Bool := decide (x.a % 256 = 0) && (okPerm x.p && decide (x.d.size = 256))
/-- right memory -/
structure Right (m : List Pg) : Prop where
  len : m.length ≤ 64
  ok : ∀ x ∈ m, okPg x = true
  up : m.Pairwise (fun x y => x.a < y.a)
  ge : ∀ x ∈ m, 0 ≤ x.a
  le : ∀ x ∈ m, x.a ≤ 18446744073709551615
theorem Right.size {m : List Pg} (h : Right m) {i : Nat} (hi : i < m.length) : m[i].d.size = 256 := by
  have := h.ok _ (List.getElem_mem hi)
  simp [okPg] at this; exact this.2.2
/-- how many pages stand below x -/
def low (m : List Pg) (x : Int) : Nat := m.countP (fun q => decide (q.a < x))
/-- is there one at x? -/
def there (m : List Pg) (x : Int) : Bool := m.any (fun q => q.a == x)
/-- a row of places in one page -/
structure Str where
  pg : Int
  f : Int
  n : Int
/-- n places from a on, page by page -/
def strs (a n : Int) : List Str :=
  if _h : n ≤ 0 then [] else
    ⟨a - a % 256, a % 256, min n (256 - a % 256)⟩ :: strs (a + min n (256 - a % 256)) (n - min n (256 - a % 256))
termination_by n.toNat
decreasing_by omega
/-- what a row is, wherever it came -/
structure Str.Ok (s : Str) : Prop where
  f0 : 0 ≤ s.f
  n1 : 1 ≤ s.n
  fn : s.f + s.n ≤ 256
  pg0 : 0 ≤ s.pg
  pg1 : s.pg ≤ 18446744073709551360
  md : s.pg % 256 = 0
end Go.Proofs.Ytniolkjeblocaaa.M
namespace Go.Proofs.Ytniolkjeblocaaa.M
/-- the bytes of the page at x -/
def dataAt (m : List Pg) (x : Int) : ByteArray := (m[low m x]?.map Pg.d).getD .empty
/-- the byte at a place -/
def byteAt (m : List Pg) (t : Int) : UInt8 := (dataAt m (t - t % 256)).data.toList.getD (t % 256).toNat 0
/-- n bytes from a on -/
def bytesOf (m : List Pg) (a : Int) : Nat → List UInt8
  | 0 => []
  | n + 1 => byteAt m a :: bytesOf m (a + 1) n
end Go.Proofs.Ytniolkjeblocaaa.M
namespace Go.Proofs.Ytniolkjeblocaaa
open Go.RowKit
theorem bthen {w W w' : World} (h : Below w.heap.size w W) (hb : Below W.heap.size W w') : Below w.heap.size w w' := h.trans (hb.mono h.size)
theorem balloc {w W : World} (h : Below w.heap.size w W) (o : Obj) : Below w.heap.size w (W.alloc o) := h.alloc h.size o
end Go.Proofs.Ytniolkjeblocaaa
namespace Go.Proofs.Ytniolkjeblocaaa
open Go.RowKit
theorem bcell {W w1 : World} (hb : Below W.heap.size W w1) : (∀ b o, b < W.heap.size → w1.cell? ⟨b, o, none⟩ = W.cell? ⟨b, o, none⟩) ∧ (∀ b o, b < W.heap.size → w1.frozen? ⟨b, o, none⟩ = W.frozen? ⟨b, o, none⟩) :=
  ⟨fun b o h => hb.cell (p := ⟨b, o, none⟩) h, fun b o h => hb.frozen (p := ⟨b, o, none⟩) h⟩
/-- pages that lie from a place on -/
def PagesIn (W : World) (b off : Nat) (m : List M.Pg) : Prop :=
  b < W.heap.size ∧ ∀ (i : Nat) (h : i < m.length), W.cell? ⟨b, off + i * 3, none⟩ = some (.int .u64 m[i].a) ∧ W.cell? ⟨b, off + i * 3 + 1, none⟩ = some (.int .i64 m[i].p) ∧ W.cell? ⟨b, off + i * 3 + 2, none⟩ = some (.string m[i].d)
theorem PagesIn.next {W W' : World} {b off : Nat} {m : List M.Pg} (h : PagesIn W b off m) (hb : Below W.heap.size W W') : PagesIn W' b off m := by
  refine ⟨Nat.lt_of_lt_of_le h.1 hb.size, fun i hi => ?_⟩
  obtain ⟨h0, h1, h2⟩ := h.2 i hi
  have hc := (bcell hb).1
  exact ⟨(hc _ _ h.1).trans h0, (hc _ _ h.1).trans h1, (hc _ _ h.1).trans h2⟩
/-- a slice of pages -/
def Pages (W : World) (v : Value) (m : List M.Pg) : Prop :=
  (m = [] ∧ (v = .slice none 0 0 ∨ ∃ a cap, v = .slice (some a) 0 cap)) ∨ (0 < m.length ∧ ∃ b off cap, v = .slice (some ⟨b, off, none⟩) m.length cap ∧ PagesIn W b off m)
theorem Pages.next {W W' : World} {v : Value} {m : List M.Pg} (h : Pages W v m) (hb : Below W.heap.size W W') : Pages W' v m := by
  rcases h with h | ⟨h1, b, off, cap, rfl, h2⟩
  · exact .inl h
  · exact .inr ⟨h1, b, off, cap, rfl, h2.next hb⟩
theorem Pages.slice {W : World} {v : Value} {m : List M.Pg} (h : Pages W v m) : ∃ A cap, v = .slice A m.length cap := by
  rcases h with ⟨rfl, rfl | ⟨a, cap, rfl⟩⟩ | ⟨_, b, off, cap, rfl, _⟩ <;> exact ⟨_, _, rfl⟩
end Go.Proofs.Ytniolkjeblocaaa
namespace Go.Proofs.Ytniolkjeblocaaa
open Go.RowKit
/-- a world in which all that lay in w lies as it lay -/
structure Past (w : World) where
  W : World
  h : Below w.heap.size w W
instance (w : World) : Inhabited (Past w) := ⟨⟨w, Below.refl _ _⟩⟩
theorem Past.cell {w : World} {b o : Nat} {v : Value} (hb : b < w.heap.size) (h : w.cell? ⟨b, o, none⟩ = some v) (p : Past w) : p.W.cell? ⟨b, o, none⟩ = some v :=
  (p.h.cell (p := ⟨b, o, none⟩) hb).trans h
end Go.Proofs.Ytniolkjeblocaaa
namespace Go.Proofs.Ytniolkjeblocaaa
open Go.RowKit
/-- is the page at i right, and above the one ahead of it? -/
def okAt (m : List M.Pg) (i : Nat) (h : i < m.length) : Bool := M.okPg m[i] && (decide (i = 0) || decide (m[i - 1].a < m[i].a))
def rightB (m : List M.Pg) : Bool := decide (m.length ≤ 64 ∧ ∀ i (h : i < m.length), okAt m i h = true)
theorem Right.of {m : List M.Pg} (h : rightB m = true) (h0 : ∀ x ∈ m, 0 ≤ x.a) (h1 : ∀ x ∈ m, x.a ≤ 18446744073709551615) : M.Right m := by
  simp only [rightB, decide_eq_true_eq] at h
  obtain ⟨hl, ho⟩ := h
  have ho1 : ∀ i (h : i < m.length), M.okPg m[i] = true := fun i h => by have := ho i h; simp [okAt] at this; exact this.1
  have ho2 : ∀ i (h : i + 1 < m.length), m[i].a < m[i + 1].a := fun i h => by have := ho (i + 1) h; simp [okAt] at this; exact this.2
  refine ⟨hl, fun x hx => ?_, ?_, h0, h1⟩
  · obtain ⟨i, hi, rfl⟩ := List.getElem_of_mem hx
    exact ho1 i hi
  · rw [List.pairwise_iff_getElem]
    intro i j hi hj hij
    induction j with
    | zero => omega
    | succ j ih =>
      by_cases e : i = j
      · subst e; exact ho2 i hj
      · have := ih (by omega) (by omega); have := ho2 j hj; omega
end Go.Proofs.Ytniolkjeblocaaa
namespace Go.Proofs.Ytniolkjeblocaaa
open Go.RowKit
/-- block g is just these cells of type t, none of them frozen -/
def Whole (W : World) (g : Nat) (t : TypeId) (cs : Array Value) : Prop := W.heap[g]? = some (.cells cs t (0, 0))
theorem Whole.lt {W : World} {g : Nat} {t : TypeId} {cs : Array Value} (h : Whole W g t cs) : g < W.heap.size := (Array.getElem?_eq_some_iff.1 h).1
theorem Whole.cell {W : World} {g : Nat} {t : TypeId} {cs : Array Value} (h : Whole W g t cs) (i : Nat) : W.cell? ⟨g, i, none⟩ = cs[i]? := cell_of_row W g i cs t (0, 0) h
theorem Whole.put {W : World} {g : Nat} {t : TypeId} {cs : Array Value} (h : Whole W g t cs) (i : Nat) (u : Value) : Whole (W.setCell ⟨g, i, none⟩ u) g t (cs.setIfInBounds i u) := by
  unfold Whole at h ⊢
  simp [World.setCell, Array.getElem?_modify, h]
end Go.Proofs.Ytniolkjeblocaaa
namespace Go.Proofs.Ytniolkjeblocaaa
open Go.ChangeShapes Go.WideShapes Go.ChangeAt Go.RowKit Go.Deep Go.Joins
theorem gLaidOut : laidOutB Try.prog = true := by kernel_rfl
theorem own : ownKnob Try.prog.godebug = none := by kernel_rfl
section
variable {H : Type} {enc : TypeId × Value → H} {P : Program} {w : World} {base : Nat} {spare : Nat → Bool} {held : Bool}
/-- a struct of one-cell fields, read: each field's cell with its own reading -/
theorem row_of {t : TypeId} {fs : Array Field} {fuel : Nat} {cs : List Value} {x : DataW H × List MemPlace} (ht : P.underlying t = some (.struct fs)) (hone : oneCellFields P fs = true) (hC : P.cellsOf t = fs.size)
    (h : DataW.trod enc P w base spare held fuel t cs = some x) :
    ∃ (ys : List (DataW H × List MemPlace)) (n : Nat), x.1 = .agg (ys.map (·.1)) ∧ ys.length = fs.size ∧ cs.length = fs.size ∧
      ∀ (j : Nat) (f : Field), fs[j]? = some f → ∃ c y, cs[j]? = some c ∧ ys[j]? = some y ∧ DataW.trod enc P w base spare held n f.type [c] = some y := by
  obtain ⟨ys, n, _, hx, hlen, hyl, hf⟩ := DataW.trod_struct ht h
  refine ⟨ys, n, by rw [hx], hyl, hlen.trans hC, fun j f hj => ?_⟩
  obtain ⟨ho, hk⟩ := hone_of hone j f hj
  have hjl : j < fs.size := (Array.getElem?_eq_some_iff.1 hj).1
  have h1 := hf j f hj
  rw [ho, hk] at h1
  have hcl : j < cs.length := by omega
  have hone' : (cs.drop j).take 1 = [cs[j]] := by
    rw [List.drop_eq_getElem_cons hcl]
    rfl
  rw [hone'] at h1
  exact ⟨_, _, List.getElem?_eq_getElem hcl, List.getElem?_eq_getElem (by omega), h1.trans (List.getElem?_eq_getElem (by omega))⟩
end
section
variable {H : Type} {enc : TypeId × Value → H}
/-- the arguments read behind the call as they read before -/
theorem trodAll_below {W W' : World} (bel : Below W.heap.size W W') : ∀ (ts : List TypeId) (vs : List Value) (ds : List (DataW H)) (p : List MemPlace),
    (∀ t ∈ ts, Try.prog.readableRec t = true ∧ t < Try.prog.types.size) → DataW.TrodAll enc Try.prog W 0 (fun _ => true) true ts vs ds p → (∀ x ∈ p, x.block < W.heap.size) →
    DataW.TrodAll enc Try.prog W' 0 (fun b => decide (b < W.heap.size)) true ts vs ds p := by
  intro ts
  induction ts with
  | nil =>
    intro vs ds p _ h _
    obtain ⟨rfl, rfl, rfl⟩ := trodAll_nil h
    exact trodAll_mk0
  | cons t ts ih =>
    intro vs ds p ht h hp
    obtain ⟨v, vs', d, ds', p1, p2, rfl, rfl, rfl, h1, h2⟩ := trodAll_cons h
    have ht1 := ht t (by simp)
    exact trodAll_cons_mk (Below.trod gLaidOut ht1.1 ht1.2 h1 bel (fun x hx => hp x (by simp [hx]))) (ih vs' ds' p2 (fun t ht' => ht t (by simp [ht'])) h2 (fun x hx => hp x (by simp [hx])))
/-- the row's last step, of every law -/
theorem law_post {f : Func} {s : ChangeSpec} {W W' : World} {args : Array Value} {ds gs : List (DataW H)} {before : List MemPlace} (hv : s.vars = []) (hr : f.resultTypes = #[4])
    (ht : ∀ t ∈ f.params.toList, Try.prog.readableRec t = true ∧ t < Try.prog.types.size)
    (hW : DataW.Whole enc Try.prog f.params.toList s.vars false W args.toList ds gs before) (bel : Below W.heap.size W W')
    (h1 : (s.fn H (ds ++ gs)).results = [.lit (.bool true)]) (h2 : (s.fn H (ds ++ gs)).args = ds) (h3 : (s.fn H (ds ++ gs)).vars = []) :
    s.post enc Try.prog f false true false false W args (.bool true) W' := by
  have hlt : ∀ p ∈ before, p.block < W.heap.size := fun p hp => hW.lt p hp
  have hW' := hW
  obtain ⟨p, q, hA, hV, rfl, _, _⟩ := hW
  refine ⟨ds, gs, p ++ q, [], p, [], hW', ?_, ?_, ?_, bel.frame _, fun h => by cases h⟩
  · rw [h1, hr]
    exact trodAll_mk1 (shut_bool Try.underlying4 _)
  · rw [h2]
    exact trodAll_below bel _ _ _ _ ht hA (fun x hx => hlt x (by simp [hx]))
  · rw [h3, hv]
    rfl
end
end Go.Proofs.Ytniolkjeblocaaa
namespace Go.Proofs.Ytniolkjeblocaaa
open Go.RowKit
/-- a row of ints -/
def Ints (W : World) (v : Value) (l : List Int) : Prop :=
  (l = [] ∧ (v = .slice none 0 0 ∨ ∃ a cap, v = .slice (some a) 0 cap)) ∨ (0 < l.length ∧ ∃ b off cap, v = .slice (some ⟨b, off, none⟩) l.length cap ∧ b < W.heap.size ∧ ∀ (i : Nat) (h : i < l.length), W.cell? ⟨b, off + i, none⟩ = some (.int .i64 l[i]))
theorem Ints.next {W W' : World} {v : Value} {l : List Int} (h : Ints W v l) (hb : Below W.heap.size W W') : Ints W' v l := by
  rcases h with h | ⟨h0, b, off, cap, rfl, h1, h2⟩
  · exact .inl h
  · exact .inr ⟨h0, b, off, cap, rfl, Nat.lt_of_lt_of_le h1 hb.size, fun i hi => (World.cell?_of_block (hb.block b h1)).trans (h2 i hi)⟩
theorem Ints.slice {W : World} {v : Value} {l : List Int} (h : Ints W v l) : ∃ A cap, v = .slice A l.length cap := by
  rcases h with ⟨rfl, rfl | ⟨a, cap, rfl⟩⟩ | ⟨_, b, off, cap, rfl, _⟩
  · exact ⟨_, _, rfl⟩
  · exact ⟨_, _, rfl⟩
  · exact ⟨_, _, rfl⟩
theorem Ints.len {W : World} {A : Option Addr} {n cap : Nat} {l : List Int} (h : Ints W (.slice A n cap) l) : l.length = n := by
  obtain ⟨A', c', e⟩ := h.slice
  exact (Value.slice.inj e).2.1.symm
theorem Ints.at_ {W : World} {A : Option Addr} {n cap : Nat} {l : List Int} (h : Ints W (.slice A n cap) l) {i : Nat} (hi : i < l.length) : ∃ b off, A = some ⟨b, off, none⟩ ∧ W.cell? ⟨b, off + i, none⟩ = some (.int .i64 l[i]) := by
  rcases h with ⟨rfl, -⟩ | ⟨_, b, off, c, e, _, h2⟩
  · simp at hi
  · exact ⟨b, off, (Value.slice.inj e).1, h2 i hi⟩
/-- all of them 0 to n less 1 -/
def amongB (n : Int) (l : List Int) : Bool := l.all (fun v => decide (0 ≤ v) && decide (v < n))
end Go.Proofs.Ytniolkjeblocaaa
namespace Go.Proofs.Ytniolkjeblocaaa
open Go.RowKit
def intRow (l : List Int) : List Value := l.map (fun v => Value.int .i64 v)
/-- a row of the call's own that holds ints -/
def OwnsI (W : World) (base : Nat) (v : Value) (l : List Int) : Prop := W.ownsRow base 3 1 v l.length (intRow l)
theorem OwnsI.ints {W : World} {base : Nat} {v : Value} {l : List Int} (h : OwnsI W base v l) : Ints W v l := by
  have h' : W.ownsRow base 3 1 v l.length (intRow l) := h
  by_cases hn : 0 < l.length
  · obtain ⟨g, cap, rfl, _, hg⟩ := h'.form hn
    refine .inr ⟨hn, g, 0, cap, rfl, hg, fun i hi => ?_⟩
    rw [Nat.zero_add, h'.cellAt i (by omega)]
    simp [intRow, hi]
  · obtain rfl : l = [] := List.eq_nil_of_length_eq_zero (by omega)
    refine .inl ⟨rfl, ?_⟩
    obtain ⟨_, ⟨rfl, _⟩ | ⟨g, cap, cur, rfl, _⟩⟩ := h'
    · exact .inl rfl
    · exact .inr ⟨_, _, rfl⟩
theorem int_add (b off j : Nat) : (⟨b, off, none⟩ : Addr).add j = ⟨b, off + j, none⟩ := by unfold Addr.add; split <;> simp_all
end Go.Proofs.Ytniolkjeblocaaa
namespace Go.Proofs.Ytniolkjeblocaaa
open Go.RowKit
/-- an instruction -/
structure In where
  o : Int
  a : Int
  b : Int
  k : Int
  s : ByteArray
  l : List Int
/-- a block's end -/
structure Tm where
  k : Int
  a : Int
  t : Int
  l : List Int
  e : Int
  m : List Int
/-- a block -/
structure Bk where
  p : Int
  i : List In
  e : Tm
/-- a function -/
structure Fn where
  s : ByteArray
  b : Int
  p : Int
  l : List Bk
/-- a global -/
structure Gl where
  s : ByteArray
  b : Int
  h : Bool
  i : Int
/-- a row of things that lie one behind another, each in so many cells -/
def RowOf {α : Type} (sz : Nat) (P : World → Nat → Nat → α → Prop) (W : World) (v : Value) (l : List α) : Prop :=
  (l = [] ∧ (v = .slice none 0 0 ∨ ∃ a cap, v = .slice (some a) 0 cap)) ∨ (0 < l.length ∧ ∃ b off cap, v = .slice (some ⟨b, off, none⟩) l.length cap ∧ b < W.heap.size ∧ ∀ (i : Nat) (h : i < l.length), P W b (off + i * sz) l[i])
theorem RowOf.next {α : Type} {sz : Nat} {P : World → Nat → Nat → α → Prop} (hP : ∀ (W W' : World) (b off : Nat) (x : α), b < W.heap.size → Below W.heap.size W W' → P W b off x → P W' b off x)
    {W W' : World} {v : Value} {l : List α} (h : RowOf sz P W v l) (hb : Below W.heap.size W W') : RowOf sz P W' v l := by
  rcases h with h | ⟨h0, b, off, cap, rfl, h1, h2⟩
  · exact .inl h
  · exact .inr ⟨h0, b, off, cap, rfl, Nat.lt_of_lt_of_le h1 hb.size, fun i hi => hP _ _ _ _ _ h1 hb (h2 i hi)⟩
theorem RowOf.slice {α : Type} {sz : Nat} {P : World → Nat → Nat → α → Prop} {W : World} {v : Value} {l : List α} (h : RowOf sz P W v l) : ∃ A cap, v = .slice A l.length cap := by
  rcases h with ⟨rfl, rfl | ⟨a, cap, rfl⟩⟩ | ⟨_, b, off, cap, rfl, _⟩
  · exact ⟨_, _, rfl⟩
  · exact ⟨_, _, rfl⟩
  · exact ⟨_, _, rfl⟩
theorem RowOf.len {α : Type} {sz : Nat} {P : World → Nat → Nat → α → Prop} {W : World} {A : Option Addr} {n cap : Nat} {l : List α} (h : RowOf sz P W (.slice A n cap) l) : l.length = n := by
  obtain ⟨A', c', e⟩ := h.slice
  exact (Value.slice.inj e).2.1.symm
theorem RowOf.at_ {α : Type} {sz : Nat} {P : World → Nat → Nat → α → Prop} {W : World} {A : Option Addr} {n cap : Nat} {l : List α} (h : RowOf sz P W (.slice A n cap) l) {i : Nat} (hi : i < l.length) :
    ∃ b off, A = some ⟨b, off, none⟩ ∧ b < W.heap.size ∧ P W b (off + i * sz) l[i] := by
  rcases h with ⟨rfl, -⟩ | ⟨_, b, off, c, e, h1, h2⟩
  · simp at hi
  · exact ⟨b, off, (Value.slice.inj e).1, h1, h2 i hi⟩
theorem cellNext {W W' : World} {b : Nat} (hb : b < W.heap.size) (h : Below W.heap.size W W') (o : Nat) : W'.cell? ⟨b, o, none⟩ = W.cell? ⟨b, o, none⟩ := World.cell?_of_block (h.block b hb)
/-- an instruction that lies in six cells -/
def InAt (W : World) (b off : Nat) (i : In) : Prop :=
  W.cell? ⟨b, off, none⟩ = some (.int .i64 i.o) ∧ W.cell? ⟨b, off + 1, none⟩ = some (.int .i64 i.a) ∧ W.cell? ⟨b, off + 2, none⟩ = some (.int .i64 i.b) ∧ W.cell? ⟨b, off + 3, none⟩ = some (.int .u64 i.k) ∧ W.cell? ⟨b, off + 4, none⟩ = some (.string i.s) ∧
    ∃ A cap, W.cell? ⟨b, off + 5, none⟩ = some (.slice A i.l.length cap) ∧ Ints W (.slice A i.l.length cap) i.l
theorem InAt.next (W W' : World) (b off : Nat) (x : In) (hb : b < W.heap.size) (h : Below W.heap.size W W') (hx : InAt W b off x) : InAt W' b off x := by
  obtain ⟨h0, h1, h2, h3, h4, A, cap, h5, h6⟩ := hx
  exact ⟨(cellNext hb h _).trans h0, (cellNext hb h _).trans h1, (cellNext hb h _).trans h2, (cellNext hb h _).trans h3, (cellNext hb h _).trans h4, A, cap, (cellNext hb h _).trans h5, h6.next h⟩
/-- a row of instructions -/
def Insts : World → Value → List In → Prop := RowOf 6 InAt
theorem Insts.next {W W' : World} {v : Value} {l : List In} (h : Insts W v l) (hb : Below W.heap.size W W') : Insts W' v l := RowOf.next InAt.next h hb
/-- a block that lies in eight cells -/
def BkAt (W : World) (b off : Nat) (x : Bk) : Prop :=
  W.cell? ⟨b, off, none⟩ = some (.int .i64 x.p) ∧ (∃ A cap, W.cell? ⟨b, off + 1, none⟩ = some (.slice A x.i.length cap) ∧ Insts W (.slice A x.i.length cap) x.i) ∧
    W.cell? ⟨b, off + 2, none⟩ = some (.int .i64 x.e.k) ∧ W.cell? ⟨b, off + 3, none⟩ = some (.int .i64 x.e.a) ∧ W.cell? ⟨b, off + 4, none⟩ = some (.int .i64 x.e.t) ∧
    (∃ A cap, W.cell? ⟨b, off + 5, none⟩ = some (.slice A x.e.l.length cap) ∧ Ints W (.slice A x.e.l.length cap) x.e.l) ∧ W.cell? ⟨b, off + 6, none⟩ = some (.int .i64 x.e.e) ∧
    (∃ A cap, W.cell? ⟨b, off + 7, none⟩ = some (.slice A x.e.m.length cap) ∧ Ints W (.slice A x.e.m.length cap) x.e.m)
theorem BkAt.next (W W' : World) (b off : Nat) (x : Bk) (hb : b < W.heap.size) (h : Below W.heap.size W W') (hx : BkAt W b off x) : BkAt W' b off x := by
  obtain ⟨h0, ⟨A, c, h1, g1⟩, h2, h3, h4, ⟨A5, c5, h5, g5⟩, h6, A7, c7, h7, g7⟩ := hx
  exact ⟨(cellNext hb h _).trans h0, ⟨A, c, (cellNext hb h _).trans h1, g1.next h⟩, (cellNext hb h _).trans h2, (cellNext hb h _).trans h3, (cellNext hb h _).trans h4, ⟨A5, c5, (cellNext hb h _).trans h5, g5.next h⟩, (cellNext hb h _).trans h6, A7, c7, (cellNext hb h _).trans h7, g7.next h⟩
/-- a row of blocks -/
def Blocks : World → Value → List Bk → Prop := RowOf 8 BkAt
theorem Blocks.next {W W' : World} {v : Value} {l : List Bk} (h : Blocks W v l) (hb : Below W.heap.size W W') : Blocks W' v l := RowOf.next BkAt.next h hb
/-- a function that lies in four cells -/
def FnAt (W : World) (b off : Nat) (x : Fn) : Prop :=
  W.cell? ⟨b, off, none⟩ = some (.string x.s) ∧ W.cell? ⟨b, off + 1, none⟩ = some (.int .i64 x.b) ∧ W.cell? ⟨b, off + 2, none⟩ = some (.int .i64 x.p) ∧
    ∃ A cap, W.cell? ⟨b, off + 3, none⟩ = some (.slice A x.l.length cap) ∧ Blocks W (.slice A x.l.length cap) x.l
theorem FnAt.next (W W' : World) (b off : Nat) (x : Fn) (hb : b < W.heap.size) (h : Below W.heap.size W W') (hx : FnAt W b off x) : FnAt W' b off x := by
  obtain ⟨h0, h1, h2, A, c, h3, g3⟩ := hx
  exact ⟨(cellNext hb h _).trans h0, (cellNext hb h _).trans h1, (cellNext hb h _).trans h2, A, c, (cellNext hb h _).trans h3, g3.next h⟩
/-- a row of functions -/
def Funcs : World → Value → List Fn → Prop := RowOf 4 FnAt
theorem Funcs.next {W W' : World} {v : Value} {l : List Fn} (h : Funcs W v l) (hb : Below W.heap.size W W') : Funcs W' v l := RowOf.next FnAt.next h hb
/-- a global that lies in four cells -/
def GlAt (W : World) (b off : Nat) (x : Gl) : Prop :=
  W.cell? ⟨b, off, none⟩ = some (.string x.s) ∧ W.cell? ⟨b, off + 1, none⟩ = some (.int .i64 x.b) ∧ W.cell? ⟨b, off + 2, none⟩ = some (.bool x.h) ∧ W.cell? ⟨b, off + 3, none⟩ = some (.int .u64 x.i)
theorem GlAt.next (W W' : World) (b off : Nat) (x : Gl) (hb : b < W.heap.size) (h : Below W.heap.size W W') (hx : GlAt W b off x) : GlAt W' b off x := by
  obtain ⟨h0, h1, h2, h3⟩ := hx
  exact ⟨(cellNext hb h _).trans h0, (cellNext hb h _).trans h1, (cellNext hb h _).trans h2, (cellNext hb h _).trans h3⟩
/-- a row of globals -/
def Globs : World → Value → List Gl → Prop := RowOf 4 GlAt
theorem Globs.next {W W' : World} {v : Value} {l : List Gl} (h : Globs W v l) (hb : Below W.heap.size W W') : Globs W' v l := RowOf.next GlAt.next h hb
/-- may a function or a global have that name? -/
def nameB (s : ByteArray) : Bool := decide (1 ≤ (s.size : Int)) && decide ((s.size : Int) ≤ 16)
/-- has an instruction of that operation a name? -/
def hasB (o : Int) : Bool := o == 12 || o == 13 || o == 14
/-- what an instruction uses -/
def usesL (op a b : Int) (args : List Int) : List Int :=
  if 2 ≤ op ∧ op ≤ 11 then [a, b] else if op = 13 ∨ op = 16 then [a] else if op = 14 then args else []
def usesI (i : In) : List Int := usesL i.o i.a i.b i.l
/-- does it use A, and B? -/
def aB (o : Int) : Bool := (decide (2 ≤ o) && decide (o ≤ 11)) || o == 13 || o == 16
def bB (o : Int) : Bool := decide (2 ≤ o) && decide (o ≤ 11)
/-- is an instruction right among n values? -/
def instB (n : Int) (i : In) : Bool :=
  decide (1 ≤ i.o) && decide (i.o ≤ 16) && decide (i.l.length ≤ 6) && amongB n (usesI i) && (aB i.o || i.a == 0) && (bB i.o || i.b == 0) && (i.o == 1 || i.k == 0) && (i.o == 14 || decide (i.l = [])) &&
    (if hasB i.o then nameB i.s else i.s == ByteArray.empty)
/-- its instructions, the first one among n values -/
def instsB : Int → List In → Bool
  | _, [] => true
  | n, i :: l => instB n i && instsB (n + 1) l
/-- may a block go to one of these, with so many values, with these? -/
def goesB (all : List Bk) (n : Int) (tt : Int) (l : List Int) : Bool :=
  decide (0 ≤ tt) && decide (tt < all.length) && (match all[tt.toNat]? with | some b => (l.length : Int) == b.p | none => false) && amongB n l
/-- is a block's end right? -/
def endB (all : List Bk) (n : Int) (t : Tm) : Bool :=
  if t.k = 1 then goesB all n t.t t.l && t.a == 0 && t.e == 0 && decide (t.m = [])
  else if t.k = 2 then amongB n [t.a] && goesB all n t.t t.l && goesB all n t.e t.m
  else if t.k = 3 then amongB n [t.a] && t.t == 0 && decide (t.l = []) && t.e == 0 && decide (t.m = [])
  else false
def blockB (all : List Bk) (b : Bk) : Bool :=
  decide (0 ≤ b.p) && decide (b.p ≤ 6) && decide (b.i.length ≤ 32) && endB all (b.p + b.i.length) b.e && instsB b.p b.i
/-- is a function right? -/
def funcB (f : Fn) : Bool :=
  nameB f.s && (decide (1 ≤ f.b) && decide (f.b ≤ 3)) && (decide (0 ≤ f.p) && decide (f.p ≤ 6)) && decide (f.l.length ≤ 16) &&
    (match f.l with | [] => !(f.b == 1) | b :: _ => b.p == f.p && f.l.all (blockB f.l))
end Go.Proofs.Ytniolkjeblocaaa
namespace Go.Proofs.Ytniolkjeblocaaa
open Go.RowKit
theorem drewN_below' (w : World) (n : Nat) : Below w.heap.size w (w.drewN n) := ⟨rfl, rfl, rfl, Nat.le_refl _, fun _ _ => rfl⟩
theorem jba_beq (x y : ByteArray) : (x == y) = true ↔ x = y := by
  rw [beq_toListBytes, beq_iff_eq, ByteArray.toList_eq, ByteArray.toList_eq]
  constructor
  · intro h
    obtain ⟨x⟩ := x
    obtain ⟨y⟩ := y
    congr 1
    exact Array.toList_inj.1 h
  · rintro rfl; rfl
theorem jba_refl (x : ByteArray) : (x == x) = true := (jba_beq x x).2 rfl
end Go.Proofs.Ytniolkjeblocaaa
namespace Go.Proofs.Ytniolkjeblocaaa
open Go.RowKit
/-- a module -/
structure Md where
  f : List Fn
  g : List Gl
def globB (g : Gl) : Bool := nameB g.s && (decide (1 ≤ g.b) && decide (g.b ≤ 3)) && (g.h || (g.i == 0 && !(g.b == 1)))
def aloneB (m : Md) : Bool := m.f.all funcB && m.g.all globB
def namesM (m : Md) : List ByteArray := m.f.map (·.s) ++ m.g.map (·.s)
def insF (f : Fn) : List In := (f.l.map (·.i)).flatten
def insM (m : Md) : List In := (m.f.map insF).flatten
/-- an instruction that names what there isn't -/
def noneI (m : Md) (i : In) : Bool := (i.o == 14 && !(m.f.any fun f => f.s == i.s)) || ((i.o == 12 || i.o == 13) && !(m.g.any fun g => g.s == i.s))
/-- an instruction that hands on another number of values than is asked for -/
def oddI (m : Md) (i : In) : Bool := i.o == 14 && (match m.f.find? (fun f => f.s == i.s) with | some f => !(f.p == i.l.length) | none => false)
def foundE (m : Md) : Int := if (insM m).any (noneI m) then 8 else if (insM m).any (oddI m) then 1 else 0
def checkE (m : Md) : Int := if 16 < m.f.length ∨ 16 < m.g.length then 4 else if aloneB m = false then 10 else if ¬ (namesM m).Nodup then 9 else foundE m
/-- an instruction, with how many values are ahead of it, and the slice of its values -/
structure It where
  n : Int
  i : In
  v : Value
def ItAt (W : World) (b off : Nat) (x : It) : Prop :=
  W.cell? ⟨b, off, none⟩ = some (.int .i64 x.i.o) ∧ W.cell? ⟨b, off + 1, none⟩ = some (.int .i64 x.i.a) ∧ W.cell? ⟨b, off + 2, none⟩ = some (.int .i64 x.i.b) ∧ W.cell? ⟨b, off + 3, none⟩ = some (.int .u64 x.i.k) ∧ W.cell? ⟨b, off + 4, none⟩ = some (.string x.i.s) ∧
    W.cell? ⟨b, off + 5, none⟩ = some x.v ∧ (∃ A cap, x.v = .slice A x.i.l.length cap) ∧ Ints W x.v x.i.l
theorem ItAt.next (W W' : World) (b off : Nat) (x : It) (hb : b < W.heap.size) (h : Below W.heap.size W W') (hx : ItAt W b off x) : ItAt W' b off x := by
  obtain ⟨h0, h1, h2, h3, h4, h5, h6, h7⟩ := hx
  exact ⟨(cellNext hb h _).trans h0, (cellNext hb h _).trans h1, (cellNext hb h _).trans h2, (cellNext hb h _).trans h3, (cellNext hb h _).trans h4, (cellNext hb h _).trans h5, h6, h7.next h⟩
def Its : World → Value → List It → Prop := RowOf 6 ItAt
theorem Its.next {W W' : World} {v : Value} {l : List It} (h : Its W v l) (hb : Below W.heap.size W W') : Its W' v l := RowOf.next ItAt.next h hb
/-- the blocks' instructions, each as it is handed on -/
def BlkIts (W : World) (v : Value) (l : List Bk) (ts : List (List It)) : Prop :=
  Blocks W v l ∧ ts.length = l.length ∧ ∀ (k : Nat) (h : k < l.length) (h' : k < ts.length), ∃ b off cap A c, v = .slice (some ⟨b, off, none⟩) l.length cap ∧ b < W.heap.size ∧ BkAt W b (off + k * 8) l[k] ∧ W.cell? ⟨b, off + k * 8 + 1, none⟩ = some (.slice A l[k].i.length c) ∧
    Its W (.slice A l[k].i.length c) ts[k] ∧ ts[k].map (·.i) = l[k].i ∧ ∀ (j : Nat) (hj : j < ts[k].length), ts[k][j].n = wrap64 (l[k].p + j)
theorem BlkIts.next {W W' : World} {v : Value} {l : List Bk} {ts : List (List It)} (h : BlkIts W v l ts) (hb : Below W.heap.size W W') : BlkIts W' v l ts := by
  refine ⟨h.1.next hb, h.2.1, fun k hk hk' => ?_⟩
  obtain ⟨b, off, cap, A, c, e, hbl, h1, h2, h3, h4⟩ := h.2.2 k hk hk'
  exact ⟨b, off, cap, A, c, e, Nat.lt_of_lt_of_le hbl hb.size, BkAt.next _ _ _ _ _ hbl hb h1, (cellNext hbl hb _).trans h2, h3.next hb, h4⟩
theorem Its.all {W : World} {v : Value} {t : List It} (h : Its W v t) : ∀ x ∈ t, (∃ A cap, x.v = .slice A x.i.l.length cap) ∧ Ints W x.v x.i.l := by
  intro x hx
  obtain ⟨j, hj, rfl⟩ := List.getElem_of_mem hx
  rcases h with ⟨rfl, -⟩ | ⟨_, _, _, _, _, _, h⟩
  · simp at hj
  · exact (h j hj).2.2.2.2.2.2
theorem BlkIts.all {W : World} {v : Value} {l : List Bk} {ts : List (List It)} (h : BlkIts W v l ts) : ∀ x ∈ ts.flatten, (∃ A cap, x.v = .slice A x.i.l.length cap) ∧ Ints W x.v x.i.l := by
  intro x hx
  obtain ⟨t, ht, hxt⟩ := List.mem_flatten.1 hx
  obtain ⟨k, hk, rfl⟩ := List.getElem_of_mem ht
  obtain ⟨_, _, _, _, _, _, _, _, _, g, _⟩ := h.2.2 k (by rw [← h.2.1]; exact hk) hk
  exact g.all x hxt
end Go.Proofs.Ytniolkjeblocaaa
namespace Go.Proofs.Ytniolkjeblocaaa
open Go.ChangeShapes Go.WideShapes Go.ChangeAt Go.RowKit Go.Deep Go.Joins
section
variable {H : Type} {enc : TypeId × Value → H}
/-- a row that came in, opened: whatever its elements are -/
theorem open_row {α : Type} {t e : TypeId} {sz : Nat} (P : World → Nat → Nat → α → Prop) (ok : α → Prop) {W : World} {base : Nat} {spare : Nat → Bool} {held : Bool} {c : Value} {fuel : Nat} {y : DataW H × List MemPlace}
    (ht : Try.prog.underlying t = some (.slice e)) (hsz : Try.prog.cellsOf e = sz) (hpos : 0 < sz)
    (hel : ∀ (n b off : Nat) (cs : List Value) (y : DataW H × List MemPlace), (∀ j, j < sz → W.cell? ⟨b, off + j, none⟩ = cs[j]?) → cs.length = sz → DataW.trod enc Try.prog W base spare held n e cs = some y → ∃ x, ok x ∧ P W b off x)
    (h : DataW.trod enc Try.prog W base spare held fuel t [c] = some y) :
    ∃ (A : Option Addr) (cap : Nat) (l : List α), c = .slice A l.length cap ∧ RowOf sz P W c l ∧ (∀ x ∈ l, ok x) ∧ l.length ≤ cap ∧ cap ≤ maxLen := by
  rcases open_slice ht h with ⟨h1, _⟩ | ⟨a, len, cap, m, n, D, Pl, hcs, _, hl, hm, hmm, _, hat⟩
  · simp only [List.cons.injEq, and_true] at h1
    subst h1
    exact ⟨none, 0, [], rfl, .inl ⟨rfl, .inl rfl⟩, by simp, Nat.le_refl _, by unfold maxLen; omega⟩
  · simp only [List.cons.injEq, and_true] at hcs
    subst hcs
    have hlm : len ≤ m := by rw [hmm]; split <;> omega
    by_cases h0 : 0 < len
    · obtain ⟨b, off, spot⟩ := a
      have hspot : spot = none ∧ b < W.heap.size := by
        obtain ⟨cs', hc, ht⟩ := hat 0 (by omega)
        rw [hsz] at hc
        obtain ⟨_, hcl, hca⟩ := World.cells?_some hc
        have k0 := hca 0 hpos
        have hl0 : cs'[0]? = some (cs'[0]'(by omega)) := List.getElem?_eq_getElem (by omega)
        rw [hl0] at k0
        have hb := World.block_lt_of_cell? W _ k0
        refine ⟨by simpa [Addr.add] using World.cell?_spot k0, ?_⟩
        revert hb
        unfold Addr.add
        (repeat' split) <;> simp
      obtain ⟨rfl, hb⟩ := hspot
      have cells : ∀ i, i < len → ∃ x, ok x ∧ P W b (off + i * sz) x := fun i hi => by
        obtain ⟨cs', hc, ht⟩ := hat i (by omega)
        rw [hsz] at hc
        obtain ⟨_, hcl, hca⟩ := World.cells?_some hc
        refine hel n b (off + i * sz) cs' _ (fun j hj => ?_) hcl ht
        have k := hca j hj
        rwa [add_add, add_plain, ← Nat.add_assoc] at k
      obtain ⟨f, hf⟩ : ∃ f : Nat → α, ∀ i, i < len → ok (f i) ∧ P W b (off + i * sz) (f i) :=
        ⟨fun i => if hi : i < len then Classical.choose (cells i hi) else Classical.choose (cells 0 h0), fun i hi => by
          simp only [dif_pos hi]
          exact Classical.choose_spec (cells i hi)⟩
      refine ⟨some ⟨b, off, none⟩, cap, (List.range len).map f, by simp, .inr ⟨by simp; exact h0, b, off, cap, by simp, hb, fun i hi => ?_⟩, fun x hx => ?_, by simpa using hl, hm⟩
      · rw [List.getElem_map, List.getElem_range]
        exact (hf i (by simpa using hi)).2
      · obtain ⟨i, hi, rfl⟩ := List.mem_map.1 hx
        exact (hf i (List.mem_range.1 hi)).1
    · obtain rfl : len = 0 := by omega
      exact ⟨_, _, [], rfl, .inl ⟨rfl, .inr ⟨_, _, rfl⟩⟩, by simp, hl, hm⟩
end
end Go.Proofs.Ytniolkjeblocaaa
namespace Go.Proofs.Ytniolkjeblocaaa
open Go.RowKit Go.Shelf
/-- what lay below B0, and each block of a block or of an instruction, lies as it lay -/
structure KeepB (B0 : Nat) (W W' : World) : Prop where
  low : Below B0 W W'
  same : ∀ (k : Nat) (cs : Array Value) (t : TypeId) (f : Nat × Nat), (t = 105 ∨ t = 107) → W.heap[k]? = some (.cells cs t f) → W'.heap[k]? = some (.cells cs t f)
theorem KeepB.trans {B0 : Nat} {A B C : World} (h : KeepB B0 A B) (k : KeepB B0 B C) : KeepB B0 A C := ⟨h.low.trans k.low, fun i cs t f ht hi => k.same i cs t f ht (h.same i cs t f ht hi)⟩
theorem KeepB.below {B0 : Nat} {W W' : World} (hB : B0 ≤ W.heap.size) (h : Below W.heap.size W W') : KeepB B0 W W' := ⟨h.mono hB, fun i _ _ _ _ hi => (h.block i (Array.getElem?_eq_some_iff.1 hi).1).trans hi⟩
theorem below_grown {B0 : Nat} {W W' : World} {row : Option Nat} (h : W.grownBy W' row) (hB : B0 ≤ W.heap.size) (hr : ∀ r, row = some r → B0 ≤ r) : Below B0 W W' :=
  ⟨h.os, h.tape, h.output, h.size, fun b hb => h.block b (Nat.lt_of_lt_of_le hb hB) (fun e => by have := hr b e.symm; omega)⟩
theorem KeepB.grown {B0 : Nat} {W W' : World} {row : Option Nat} (h : W.grownBy W' row) (hB : B0 ≤ W.heap.size) (hr : ∀ r, row = some r → B0 ≤ r ∧ ∀ cs t f, (t = 105 ∨ t = 107) → W.heap[r]? ≠ some (.cells cs t f)) : KeepB B0 W W' :=
  ⟨below_grown h hB (fun r e => (hr r e).1), fun i cs t f ht hi => (h.block i (Array.getElem?_eq_some_iff.1 hi).1 (fun e => (hr i e.symm).2 cs t f ht hi)).trans hi⟩
end Go.Proofs.Ytniolkjeblocaaa
namespace Go.Proofs.Ytniolkjeblocaaa
open Go.RowKit
def icells (i : In) (v : Value) : Array Value := #[.int .i64 i.o, .int .i64 i.a, .int .i64 i.b, .int .u64 i.k, .string i.s, v]
/-- an instruction in a block of its own -/
def InBox (W : World) (B : Nat) (i : In) (v : Value) : Prop := Whole W B 107 (icells i v)
theorem InBox.new (W : World) (i : In) (v : Value) : InBox (W.alloc (.cells (icells i v) 107)) W.heap.size i v := heap_alloc_new W _
theorem InBox.next {W W' : World} {B : Nat} {i : In} {v : Value} (h : InBox W B i v) (hb : Below W.heap.size W W') : InBox W' B i v := (hb.block B h.lt).trans h
theorem InBox.cells {W : World} {B : Nat} {i : In} {v : Value} (h : InBox W B i v) : W.cell? ⟨B, 0, none⟩ = some (.int .i64 i.o) ∧ W.cell? ⟨B, 1, none⟩ = some (.int .i64 i.a) ∧ W.cell? ⟨B, 2, none⟩ = some (.int .i64 i.b) ∧ W.cell? ⟨B, 3, none⟩ = some (.int .u64 i.k) ∧ W.cell? ⟨B, 4, none⟩ = some (.string i.s) ∧ W.cell? ⟨B, 5, none⟩ = some v :=
  ⟨Whole.cell h 0, Whole.cell h 1, Whole.cell h 2, Whole.cell h 3, Whole.cell h 4, Whole.cell h 5⟩
theorem InBox.other {W : World} {B : Nat} {i : In} {v : Value} (h : InBox W B i v) (p : Addr) (u : Value) (hp : B ≠ p.block) : InBox (W.setCell p u) B i v := (Below.heap_setCell W p u B hp).trans h
theorem InBox.row {W : World} {B : Nat} {k : In} {v : Value} (h : InBox W B k v) (k' : In) (v' : Value) : InBox (W.setRow B (icells k' v')) B k' v' := by
  unfold InBox Whole at h ⊢
  simp [World.setRow, Array.getElem?_modify, h]
theorem OwnsI.put {W : World} {base b i : Nat} {v u : Value} {l : List Int} (h : OwnsI W base v l) (hb : b < base) : OwnsI (W.setCell ⟨b, i, none⟩ u) base v l := by
  refine World.ownsRow.kept (row := some b) (show W.ownsRow base 3 1 v l.length (intRow l) from h) ⟨rfl, rfl, rfl, by simp [World.setCell], fun k _ hk => Below.heap_setCell _ _ _ _ (fun e => hk (by simp [e]))⟩ ?_
  rcases h.2 with ⟨rfl, _⟩ | ⟨g, cap, cur, rfl, hg, _⟩
  · exact .inl rfl
  · refine .inr (fun e => ?_)
    have : g = b := Option.some.inj e
    omega
theorem OwnsI.row {W : World} {base b : Nat} {v : Value} {l : List Int} {cs : Array Value} (h : OwnsI W base v l) (hb : b < base) : OwnsI (W.setRow b cs) base v l := by
  refine World.ownsRow.kept (row := some b) (show W.ownsRow base 3 1 v l.length (intRow l) from h) ⟨rfl, rfl, rfl, by simp [World.setRow], fun k _ hk => by simp [World.setRow, Array.getElem?_modify, show ¬ b = k from fun e => hk (by rw [e])]⟩ ?_
  rcases h.2 with ⟨rfl, _⟩ | ⟨g, cap, cur, rfl, hg, _⟩
  · exact .inl rfl
  · refine .inr (fun e => ?_)
    have : g = b := Option.some.inj e
    omega
theorem OwnsI.above {W : World} {base n c ub uo : Nat} {l : List Int} (h : OwnsI W base (.slice (some ⟨ub, uo, none⟩) n c) l) (hl : 0 < l.length) : base ≤ ub := by
  have h' : W.ownsRow base 3 1 _ l.length (intRow l) := h
  obtain ⟨g, cap, e, hg, _⟩ := h'.form hl
  cases e
  exact hg
end Go.Proofs.Ytniolkjeblocaaa
namespace Go.Proofs.Ytniolkjeblocaaa
open Go.RowKit
theorem InBox.drew {W : World} {B : Nat} {i : In} {v : Value} (h : InBox W B i v) : InBox W.drew B i v := h
theorem Ints.drew {W : World} {v : Value} {l : List Int} (h : Ints W v l) : Ints W.drew v l := h
theorem below_re {n : Nat} {w X Y : World} (h : Below n w X) (h1 : Y.os = X.os) (h2 : Y.tape = X.tape) (h3 : Y.output = X.output) (h4 : Y.heap = X.heap) : Below n w Y := by
  refine ⟨h1.trans h.os, h2.trans h.tape, h3.trans h.output, by rw [h4]; exact h.size, fun b hb => by rw [h4]; exact h.block b hb⟩
end Go.Proofs.Ytniolkjeblocaaa
namespace Go.Proofs.Ytniolkjeblocaaa
open Go.RowKit Go.Shelf
attribute [local go_sem] Oper.semAt_some
/-- lengths that a machine can hold -/
def InOk (i : In) : Prop := i.s.size < 9223372036854775808 ∧ i.l.length ≤ 9223372036854775807
def BkOk (b : Bk) : Prop := b.i.length ≤ 9223372036854775807 ∧ b.e.l.length ≤ 9223372036854775807 ∧ b.e.m.length ≤ 9223372036854775807 ∧ ∀ i ∈ b.i, InOk i
def FnOk (f : Fn) : Prop := f.s.size < 9223372036854775808 ∧ f.l.length ≤ 9223372036854775807 ∧ ∀ b ∈ f.l, BkOk b
def GlOk (g : Gl) : Prop := g.s.size < 9223372036854775808
/-- an instruction in a block of its own -/
def BoxedI (W : World) (B : Nat) (x : It) : Prop := W.heap[B]? = some (.cells #[.int .i64 x.i.o, .int .i64 x.i.a, .int .i64 x.i.b, .int .u64 x.i.k, .string x.i.s, x.v] 107 (0, 0))
theorem BoxedI.new (W : World) (x : It) : BoxedI (W.alloc (.cells #[.int .i64 x.i.o, .int .i64 x.i.a, .int .i64 x.i.b, .int .u64 x.i.k, .string x.i.s, x.v] 107)) W.heap.size x := heap_alloc_new W _
theorem BoxedI.lt {W : World} {B : Nat} {x : It} (h : BoxedI W B x) : B < W.heap.size := (Array.getElem?_eq_some_iff.1 h).1
theorem BoxedI.cells {W : World} {B : Nat} {x : It} (h : BoxedI W B x) : W.cell? ⟨B, 0, none⟩ = some (.int .i64 x.i.o) ∧ W.cell? ⟨B, 1, none⟩ = some (.int .i64 x.i.a) ∧ W.cell? ⟨B, 2, none⟩ = some (.int .i64 x.i.b) ∧ W.cell? ⟨B, 3, none⟩ = some (.int .u64 x.i.k) ∧ W.cell? ⟨B, 4, none⟩ = some (.string x.i.s) ∧ W.cell? ⟨B, 5, none⟩ = some x.v := by
  refine ⟨?_, ?_, ?_, ?_, ?_, ?_⟩ <;> (unfold World.cell?; rw [show W.heap[B]? = _ from h]; rfl)
theorem BoxedI.below {W W' : World} {B : Nat} {x : It} (h : BoxedI W B x) (hb : Below W.heap.size W W') : BoxedI W' B x := (hb.block B h.lt).trans h
end Go.Proofs.Ytniolkjeblocaaa
namespace Go.Proofs.Ytniolkjeblocaaa
open Go.RowKit Go.Shelf
attribute [local go_sem] Oper.semAt_some
def strRow (l : List ByteArray) : List Value := l.map Value.string
/-- a row of strings that a call owns -/
def OwnsN (W : World) (base : Nat) (v : Value) (l : List ByteArray) : Prop := W.ownsRow base 9 1 v l.length (strRow l)
def Strs : World → Value → List ByteArray → Prop := RowOf 1 (fun W b off x => W.cell? ⟨b, off, none⟩ = some (.string x))
theorem Strs.next {W W' : World} {v : Value} {l : List ByteArray} (h : Strs W v l) (hb : Below W.heap.size W W') : Strs W' v l := RowOf.next (P := fun W b off x => W.cell? ⟨b, off, none⟩ = some (.string x)) (fun _ _ _ _ _ hbl hb hx => (cellNext hbl hb _).trans hx) h hb
theorem OwnsN.strs {W : World} {base : Nat} {v : Value} {l : List ByteArray} (h : OwnsN W base v l) : Strs W v l := by
  have h' : W.ownsRow base 9 1 v l.length (strRow l) := h
  by_cases hl : 0 < l.length
  · obtain ⟨g, cap, e, hg, hlt⟩ := h'.form hl
    subst e
    refine .inr ⟨hl, g, 0, cap, rfl, hlt, fun i hi => ?_⟩
    have := h'.cellAt i (by rw [Nat.mul_one]; exact hi)
    rw [Nat.zero_add, Nat.mul_one]
    show W.cell? ⟨g, i, none⟩ = _
    rw [this]
    simp [strRow, hi]
  · have hl0 : l = [] := by cases l <;> simp_all
    subst hl0
    rcases h'.2 with ⟨rfl, _⟩ | ⟨g, cap, cur, rfl, _⟩
    · exact .inl ⟨rfl, .inl rfl⟩
    · exact .inl ⟨rfl, .inr ⟨_, _, rfl⟩⟩
theorem str_info : (Try.prog.info? 9).map (fun i => (i.zero, i.size, i.bytes)) = some (some (.string ⟨#[]⟩), 1, 16) := by kernel_rfl
theorem OwnsN.form {W : World} {base : Nat} {v : Value} {l : List ByteArray} (h : OwnsN W base v l) : ∃ A cap, v = .slice A l.length cap := by
  have h' : W.ownsRow base 9 1 v l.length (strRow l) := h
  rcases h'.2 with ⟨rfl, h0⟩ | ⟨g, cap, cur, rfl, _⟩
  · have : l = [] := by
      cases l with
      | nil => rfl
      | cons x l => simp at h0
    subst this
    exact ⟨_, _, rfl⟩
  · exact ⟨_, _, rfl⟩
theorem OwnsN.block {W : World} {base : Nat} {v : Value} {l : List ByteArray} (h : OwnsN W base v l) : ∀ r, v.ownBlock = some r → base ≤ r ∧ ∃ cs, W.heap[r]? = some (.cells cs 9 (0, 0)) := by
  have h' : W.ownsRow base 9 1 v l.length (strRow l) := h
  intro r e
  rcases h'.2 with ⟨rfl, _⟩ | ⟨g, cap, cur, rfl, hb, hg, _⟩
  · cases e
  · obtain rfl : g = r := by simpa [Value.ownBlock] using e
    exact ⟨hb, _, hg⟩
theorem keeps_grown {B : Nat} {W W' : World} {row : Option Nat} (hg : W.grownBy W' row) (hr : ∀ r, row = some r → ∃ cs t f, W.heap[r]? = some (Obj.cells cs t f)) : KeepsFrom B W W' :=
  ⟨hg.size, fun k o _ hk ho => (hg.block k (Array.getElem?_eq_some_iff.1 hk).1 (fun e => by
    obtain ⟨cs, t, f, h⟩ := hr k e.symm
    rw [h] at hk
    cases hk
    cases ho)).trans hk⟩
end Go.Proofs.Ytniolkjeblocaaa
namespace Go.Proofs.Ytniolkjeblocaaa
open Go.RowKit
/-- a module in memory -/
def MdAt (W : World) (vf vg : Value) (m : Md) : Prop := Funcs W vf m.f ∧ Globs W vg m.g
def MdOk (m : Md) : Prop := (∀ f ∈ m.f, FnOk f) ∧ (∀ g ∈ m.g, GlOk g) ∧ m.f.length ≤ 9223372036854775807 ∧ m.g.length ≤ 9223372036854775807
theorem MdAt.next {W W' : World} {vf vg : Value} {m : Md} (h : MdAt W vf vg m) (hb : Below W.heap.size W W') : MdAt W' vf vg m := ⟨h.1.next hb, h.2.next hb⟩
end Go.Proofs.Ytniolkjeblocaaa
namespace Go.Proofs.Ytniolkjeblocaaa
open Go.RowKit
def slit (s : ByteArray) : Lit := .string s.data.toList
theorem slit_inj {s t : ByteArray} (h : slit s = slit t) : s = t := by
  obtain ⟨s⟩ := s
  obtain ⟨t⟩ := t
  congr 1
  exact Array.toList_inj.1 (Lit.string.inj h)
theorem slit_key (s : ByteArray) : WideAt.IsKeyLit (slit s) := trivial
theorem skeyed : Maps.Keyed Try.prog 9 := Maps.string_keyed Try.underlying9
theorem skey_of {s : ByteArray} (h : s.size < 9223372036854775808) : keyOf Try.prog 9 (.string s) = some (slit s) := WideMaps.keyOf_string_mk Try.underlying9 (by unfold maxLen; omega)
end Go.Proofs.Ytniolkjeblocaaa
namespace Go.Proofs.Ytniolkjeblocaaa
open Go.RowKit Go.Shelf Go.Maps
attribute [local go_sem] Oper.semAt_some
/-- the marks of the loops that ended -/
def Marks (B : Nat) (W : World) : List Deferred → Prop
  | [] => True
  | d :: ds => (∃ D, d = { target := .collected D, args := #[] } ∧ B ≤ D ∧ W.heap[D]? = some (.deferred (some [])) ∧ ∀ d' ∈ ds, d'.target ≠ .collected D) ∧ Marks B W ds
theorem Marks.kept {B : Nat} {W W' : World} : ∀ {ds : List Deferred}, Marks B W ds → (∀ D, (∃ d ∈ ds, d.target = .collected D) → W.heap[D]? = some (.deferred (some [])) → W'.heap[D]? = some (.deferred (some []))) → Marks B W' ds
  | [], _, _ => trivial
  | d :: ds, ⟨⟨D, h1, h2, h3, h4⟩, h⟩, hk => ⟨⟨D, h1, h2, hk D ⟨d, by simp, by rw [h1]⟩ h3, h4⟩, h.kept fun D' ⟨d', hd', e⟩ => hk D' ⟨d', by simp [hd'], e⟩⟩
theorem Marks.lt {B : Nat} {W : World} : ∀ {ds : List Deferred}, Marks B W ds → ∀ d ∈ ds, ∃ D, d.target = .collected D ∧ D < W.heap.size
  | [], _, d, hd => by simp at hd
  | d0 :: ds, ⟨⟨D, h1, h2, h3, h4⟩, h⟩, d, hd => by
    rcases List.mem_cons.1 hd with rfl | hd
    · exact ⟨D, by rw [h1], (Array.getElem?_eq_some_iff.1 h3).1⟩
    · exact h.lt d hd
end Go.Proofs.Ytniolkjeblocaaa
namespace Go.Proofs.Ytniolkjeblocaaa
open Go.RowKit
theorem below_drewN {n : Nat} {w W : World} (h : Below n w W) (k : Nat) : Below n w (W.drewN k) := below_re h rfl rfl rfl rfl
end Go.Proofs.Ytniolkjeblocaaa
namespace Go.Proofs.Ytniolkjeblocaaa
open Go.ChangeShapes Go.WideShapes Go.ChangeAt Go.RowKit Go.Deep Go.Joins
theorem cellsInt : Try.prog.cellsOf 3 = 1 := by kernel_rfl
theorem cellsInst : Try.prog.cellsOf 107 = 6 := by kernel_rfl
theorem cellsTerm : Try.prog.cellsOf 103 = 6 := by kernel_rfl
theorem cellsBlock : Try.prog.cellsOf 105 = 8 := by kernel_rfl
theorem cellsFunc : Try.prog.cellsOf 57 = 4 := by kernel_rfl
theorem cellsGlob : Try.prog.cellsOf 60 = 4 := by kernel_rfl
theorem cellsModule : Try.prog.cellsOf 25 = 2 := by kernel_rfl
theorem cellsInsts : Try.prog.cellsOf 100 = 1 := by kernel_rfl
theorem maxLen_is : maxLen = 9223372036854775807 := rfl
section
variable {H : Type} {enc : TypeId × Value → H} {W : World} {base : Nat} {spare : Nat → Bool} {held : Bool}
theorem open_ints {c : Value} {fuel : Nat} {y : DataW H × List MemPlace} (h : DataW.trod enc Try.prog W base spare held fuel 101 [c] = some y) :
    ∃ (A : Option Addr) (cap : Nat) (l : List Int), c = .slice A l.length cap ∧ Ints W c l ∧ l.length ≤ 9223372036854775807 := by
  obtain ⟨A, cap, l, rfl, hr, -, h1, h2⟩ := open_row (α := Int) (sz := 1) (fun W b off x => W.cell? ⟨b, off, none⟩ = some (.int .i64 x)) (fun _ => True) Try.underlying101 cellsInt (by omega) (fun n b off cs y hc hl ht => by
    match cs, hl with
    | [c], _ =>
      obtain ⟨x, e, -, -⟩ := DataW.trod_int Try.underlying3 ht
      simp only [List.cons.injEq, and_true] at e
      subst e
      exact ⟨x, trivial, by simpa using hc 0 (by omega)⟩) h
  refine ⟨A, cap, l, rfl, ?_, by rw [maxLen_is] at h2; omega⟩
  rcases hr with hr | ⟨h0, b, off, c, e, hb, hat⟩
  · exact .inl hr
  · exact .inr ⟨h0, b, off, c, e, hb, fun i hi => by simpa using hat i hi⟩
end
end Go.Proofs.Ytniolkjeblocaaa
namespace Go.Proofs.Ytniolkjeblocaaa
open Go.RowKit
/-- the cells of a row of functions -/
def RowCells (w : World) (k : List Fn) (ys : List Value) : Prop :=
  ys.length = k.length * 4 ∧ ∀ (i : Nat) (h : i < k.length), ∃ A cap, ys[i * 4]? = some (.string k[i].s) ∧ ys[i * 4 + 1]? = some (.int .i64 k[i].b) ∧ ys[i * 4 + 2]? = some (.int .i64 k[i].p) ∧ ys[i * 4 + 3]? = some (.slice A k[i].l.length cap) ∧ Blocks w (.slice A k[i].l.length cap) k[i].l
theorem RowCells.next {w w' : World} {k : List Fn} {ys : List Value} (h : RowCells w k ys) (hb : Below w.heap.size w w') : RowCells w' k ys :=
  ⟨h.1, fun i hi => by obtain ⟨A, c, h0, h1, h2, h3, h4⟩ := h.2 i hi; exact ⟨A, c, h0, h1, h2, h3, h4.next hb⟩⟩
theorem RowCells.append {w : World} {k1 k2 : List Fn} {y1 y2 : List Value} (h1 : RowCells w k1 y1) (h2 : RowCells w k2 y2) : RowCells w (k1 ++ k2) (y1 ++ y2) := by
  refine ⟨by rw [List.length_append, List.length_append, h1.1, h2.1]; omega, fun i hi => ?_⟩
  rw [List.length_append] at hi
  by_cases h : i < k1.length
  · obtain ⟨A, c, g0, g1, g2, g3, g4⟩ := h1.2 i h
    have e := h1.1
    rw [List.getElem_append_left h, List.getElem?_append_left (by omega), List.getElem?_append_left (by omega), List.getElem?_append_left (by omega), List.getElem?_append_left (by omega)]
    exact ⟨A, c, g0, g1, g2, g3, g4⟩
  · obtain ⟨A, c, g0, g1, g2, g3, g4⟩ := h2.2 (i - k1.length) (by omega)
    have e := h1.1
    rw [List.getElem_append_right (by omega), List.getElem?_append_right (by omega), List.getElem?_append_right (by omega), List.getElem?_append_right (by omega), List.getElem?_append_right (by omega)]
    have q : ∀ j, i * 4 + j - y1.length = (i - k1.length) * 4 + j := fun j => by omega
    have q0 : i * 4 - y1.length = (i - k1.length) * 4 := by omega
    rw [q0, q, q, q]
    exact ⟨A, c, g0, g1, g2, g3, g4⟩
end Go.Proofs.Ytniolkjeblocaaa
namespace Go.Proofs.Ytniolkjeblocaaa
open Go.RowKit
def defP (h : Bool) (b : Int) : Bool := h && !(b == 1)
def wantP (h : Bool) (b : Int) : Bool := !h && b == 2
def selF (p : Bool → Int → Bool) (l : List Fn) : List ByteArray := (l.filter fun x => p (decide (0 < x.l.length)) x.b).map (·.s)
def selG (p : Bool → Int → Bool) (l : List Gl) : List ByteArray := (l.filter fun x => p x.h x.b).map (·.s)
end Go.Proofs.Ytniolkjeblocaaa
namespace Go.Proofs.Ytniolkjeblocaaa
open Go.RowKit
def selM (p : Bool → Int → Bool) (m : Md) : List ByteArray := selF p m.f ++ selG p m.g
end Go.Proofs.Ytniolkjeblocaaa
namespace Go.Proofs.Ytniolkjeblocaaa
open Go.ChangeShapes Go.WideShapes Go.ChangeAt Go.RowKit Go.Deep Go.Joins
/-- lengths that a machine can hold, ranges, and room for a copy -/
def InW (i : In) : Prop := InOk i ∧ (0 ≤ i.k ∧ i.k ≤ 18446744073709551615) ∧ i.l.length * 8 ≤ 140737488355328
def BkW (b : Bk) : Prop := BkOk b ∧ ∀ i ∈ b.i, InW i
def FnW (f : Fn) : Prop := FnOk f ∧ ∀ b ∈ f.l, BkW b
def GlW (g : Gl) : Prop := GlOk g ∧ (0 ≤ g.i ∧ g.i ≤ 18446744073709551615)
def MdW (m : Md) : Prop := (∀ f ∈ m.f, FnW f) ∧ ∀ g ∈ m.g, GlW g
section
variable {H : Type} {enc : TypeId × Value → H} {W : World} {base : Nat} {spare : Nat → Bool} {held : Bool}
theorem weightsAll_mem {P : Program} {e : TypeId} : ∀ {l : List (DataW H)} {d : DataW H}, d ∈ l → ∀ k ∈ d.weights P e, k ∈ DataW.weightsAll P e l
  | x :: l, d, hd, k, hk => by
    rw [DataW.weightsAll]
    rcases List.mem_cons.1 hd with rfl | h
    · exact List.mem_append_left _ hk
    · exact List.mem_append_right _ (weightsAll_mem h k hk)
/-- a row that came in, opened: whatever its elements are, with their weights -/
theorem open_roww {α : Type} {t e : TypeId} {sz : Nat} (P : World → Nat → Nat → α → Prop) (ok : α → Prop) {W : World} {base : Nat} {spare : Nat → Bool} {held : Bool} {c : Value} {fuel : Nat} {y : DataW H × List MemPlace}
    (ht : Try.prog.underlying t = some (.slice e)) (hsz : Try.prog.cellsOf e = sz) (hpos : 0 < sz)
    (hel : ∀ (n b off : Nat) (cs : List Value) (y : DataW H × List MemPlace), (∀ j, j < sz → W.cell? ⟨b, off + j, none⟩ = cs[j]?) → cs.length = sz → DataW.trod enc Try.prog W base spare held n e cs = some y → (∀ k ∈ y.1.weights Try.prog e, k ≤ reachBytes) → ∃ x, ok x ∧ P W b off x)
    (h : DataW.trod enc Try.prog W base spare held fuel t [c] = some y) (hz : ∀ k ∈ y.1.weights Try.prog t, k ≤ reachBytes) :
    ∃ (A : Option Addr) (cap : Nat) (l : List α), c = .slice A l.length cap ∧ RowOf sz P W c l ∧ (∀ x ∈ l, ok x) ∧ l.length ≤ cap ∧ cap ≤ maxLen ∧ l.length * Try.prog.bytesOf e ≤ 140737488351232 := by
  rcases open_slice ht h with ⟨h1, _⟩ | ⟨a, len, cap, m, n, D, Pl, hcs, _, hl, hm, hmm, hy, hat⟩
  · simp only [List.cons.injEq, and_true] at h1
    subst h1
    exact ⟨none, 0, [], rfl, .inl ⟨rfl, .inl rfl⟩, by simp, Nat.le_refl _, by unfold maxLen; omega, by simp⟩
  · simp only [List.cons.injEq, and_true] at hcs
    subst hcs
    have hlm : len ≤ m := by rw [hmm]; split <;> omega
    have hy1 : y.1 = .slice ((List.range len).map D) ((List.range (m - len)).map fun j => D (len + j)) := by rw [hy]
    rw [hy1] at hz
    simp only [DataW.weights, ht, List.length_map, List.length_range, List.mem_cons, List.mem_append] at hz
    have hroom : len * Try.prog.bytesOf e ≤ 140737488351232 := by
      have h1 := hz _ (.inl rfl)
      have h3 : reachBytes = 140737488351232 := rfl
      rw [h3] at h1
      exact Nat.le_trans (Nat.mul_le_mul_right _ (Nat.le_add_right len (m - len))) h1
    by_cases h0 : 0 < len
    · obtain ⟨b, off, spot⟩ := a
      have hspot : spot = none ∧ b < W.heap.size := by
        obtain ⟨cs', hc, ht⟩ := hat 0 (by omega)
        rw [hsz] at hc
        obtain ⟨_, hcl, hca⟩ := World.cells?_some hc
        have k0 := hca 0 hpos
        have hl0 : cs'[0]? = some (cs'[0]'(by omega)) := List.getElem?_eq_getElem (by omega)
        rw [hl0] at k0
        have hb := World.block_lt_of_cell? W _ k0
        refine ⟨by simpa [Addr.add] using World.cell?_spot k0, ?_⟩
        revert hb
        unfold Addr.add
        (repeat' split) <;> simp
      obtain ⟨rfl, hb⟩ := hspot
      have cells : ∀ i, i < len → ∃ x, ok x ∧ P W b (off + i * sz) x := fun i hi => by
        obtain ⟨cs', hc, ht⟩ := hat i (by omega)
        rw [hsz] at hc
        obtain ⟨_, hcl, hca⟩ := World.cells?_some hc
        refine hel n b (off + i * sz) cs' _ (fun j hj => ?_) hcl ht (fun k hk => hz k (.inr (.inl (weightsAll_mem (List.mem_map.2 ⟨i, List.mem_range.2 hi, rfl⟩) k hk))))
        have k := hca j hj
        rwa [add_add, add_plain, ← Nat.add_assoc] at k
      obtain ⟨f, hf⟩ : ∃ f : Nat → α, ∀ i, i < len → ok (f i) ∧ P W b (off + i * sz) (f i) :=
        ⟨fun i => if hi : i < len then Classical.choose (cells i hi) else Classical.choose (cells 0 h0), fun i hi => by
          simp only [dif_pos hi]
          exact Classical.choose_spec (cells i hi)⟩
      refine ⟨some ⟨b, off, none⟩, cap, (List.range len).map f, by simp, .inr ⟨by simp; exact h0, b, off, cap, by simp, hb, fun i hi => ?_⟩, fun x hx => ?_, by simpa using hl, hm, by simpa using hroom⟩
      · rw [List.getElem_map, List.getElem_range]
        exact (hf i (by simpa using hi)).2
      · obtain ⟨i, hi, rfl⟩ := List.mem_map.1 hx
        exact (hf i (List.mem_range.1 hi)).1
    · obtain rfl : len = 0 := by omega
      exact ⟨_, _, [], rfl, .inl ⟨rfl, .inr ⟨_, _, rfl⟩⟩, by simp, hl, hm, by simp⟩
theorem openw_ints {c : Value} {fuel : Nat} {y : DataW H × List MemPlace} (h : DataW.trod enc Try.prog W base spare held fuel 101 [c] = some y) (hz : ∀ k ∈ y.1.weights Try.prog 101, k ≤ reachBytes) :
    ∃ (A : Option Addr) (cap : Nat) (l : List Int), c = .slice A l.length cap ∧ Ints W c l ∧ l.length ≤ 9223372036854775807 ∧ l.length * 8 ≤ 140737488355328 := by
  obtain ⟨A, cap, l, rfl, hr, -, h1, h2, h3⟩ := open_roww (α := Int) (sz := 1) (fun W b off x => W.cell? ⟨b, off, none⟩ = some (.int .i64 x)) (fun _ => True) Try.underlying101 cellsInt (by omega) (fun n b off cs y hc hl ht _ => by
    match cs, hl with
    | [c], _ =>
      obtain ⟨x, e, -, -⟩ := DataW.trod_int Try.underlying3 ht
      simp only [List.cons.injEq, and_true] at e
      subst e
      exact ⟨x, trivial, by simpa using hc 0 (by omega)⟩) h hz
  rw [show Try.prog.bytesOf 3 = 8 by kernel_rfl] at h3
  refine ⟨A, cap, l, rfl, ?_, by rw [maxLen_is] at h2; omega, by omega⟩
  rcases hr with hr | ⟨h0, b, off, c, e, hb, hat⟩
  · exact .inl hr
  · exact .inr ⟨h0, b, off, c, e, hb, fun i hi => by simpa using hat i hi⟩
theorem openw_inst (n b off : Nat) (cs : List Value) (y : DataW H × List MemPlace) (hc : ∀ j, j < 6 → W.cell? ⟨b, off + j, none⟩ = cs[j]?) (_hl : cs.length = 6) (ht : DataW.trod enc Try.prog W base spare held n 107 cs = some y) (hz : ∀ k ∈ y.1.weights Try.prog 107, k ≤ reachBytes) : ∃ x, InW x ∧ InAt W b off x := by
  obtain ⟨ys, q, hd, _, _, hg⟩ := row_of Try.underlying107 (by kernel_rfl) cellsInst ht
  obtain ⟨c0, y0, g0, _, r0⟩ := hg 0 _ rfl
  obtain ⟨c1, y1, g1, _, r1⟩ := hg 1 _ rfl
  obtain ⟨c2, y2, g2, _, r2⟩ := hg 2 _ rfl
  obtain ⟨c3, y3, g3, _, r3⟩ := hg 3 _ rfl
  obtain ⟨c4, y4, g4, _, r4⟩ := hg 4 _ rfl
  obtain ⟨c5, y5, g5, hy5, r5⟩ := hg 5 _ rfl
  obtain ⟨z0, e0, _, _⟩ := DataW.trod_int Try.underlying3 r0
  obtain ⟨z1, e1, _, _⟩ := DataW.trod_int Try.underlying3 r1
  obtain ⟨z2, e2, _, _⟩ := DataW.trod_int Try.underlying3 r2
  obtain ⟨z3, e3, _, w3⟩ := DataW.trod_int Try.underlying58 r3
  obtain ⟨z4, e4, _, w4⟩ := DataW.trod_string Try.underlying9 r4
  obtain ⟨A, cap, l, rfl, hi, hl9, hl8⟩ := openw_ints r5 (fun k hk => hz k (by
      have hq : (ys.map (·.1))[5]? = some y5.1 := by rw [List.getElem?_map, hy5]; rfl
      (try simp only at hd)
      rw [hd]
      simp only [DataW.weights, Try.underlying107]
      exact DataW.weights_mem_each (j := 5) rfl hq _ hk))
  simp only [List.cons.injEq, and_true] at e0 e1 e2 e3 e4
  subst e0 e1 e2 e3 e4
  exact ⟨⟨z0, z1, z2, z3, z4, l⟩, ⟨⟨by have := w4; rw [maxLen_is] at this; simp only; omega, hl9⟩, bounds_u64 w3, hl8⟩, (hc 0 (by omega)).trans g0, (hc 1 (by omega)).trans g1, (hc 2 (by omega)).trans g2, (hc 3 (by omega)).trans g3, (hc 4 (by omega)).trans g4, A, cap, (hc 5 (by omega)).trans g5, hi⟩
theorem openw_insts {c : Value} {fuel : Nat} {y : DataW H × List MemPlace} (h : DataW.trod enc Try.prog W base spare held fuel 100 [c] = some y) (hz : ∀ k ∈ y.1.weights Try.prog 100, k ≤ reachBytes) :
    ∃ (A : Option Addr) (cap : Nat) (l : List In), c = .slice A l.length cap ∧ Insts W c l ∧ (∀ x ∈ l, InW x) ∧ l.length ≤ 9223372036854775807 := by
  obtain ⟨A, cap, l, rfl, hr, ho, h1, h2, -⟩ := open_roww InAt InW Try.underlying100 cellsInst (by omega) openw_inst h hz
  exact ⟨A, cap, l, rfl, hr, ho, by rw [maxLen_is] at h2; omega⟩
set_option maxRecDepth 100000 in
theorem openw_blk (n : Nat) (cs : List Value) (y : DataW H × List MemPlace) (hl : cs.length = 8) (ht : DataW.trod enc Try.prog W base spare held n 105 cs = some y) (hz : ∀ k ∈ y.1.weights Try.prog 105, k ≤ reachBytes) :
    ∃ (x : Bk) (A A5 A7 : Option Addr) (c c5 c7 : Nat), BkW x ∧ cs = [.int .i64 x.p, .slice A x.i.length c, .int .i64 x.e.k, .int .i64 x.e.a, .int .i64 x.e.t, .slice A5 x.e.l.length c5, .int .i64 x.e.e, .slice A7 x.e.m.length c7] ∧
      Insts W (.slice A x.i.length c) x.i ∧ Ints W (.slice A5 x.e.l.length c5) x.e.l ∧ Ints W (.slice A7 x.e.m.length c7) x.e.m := by
  match cs, hl with
  | [b0, b1, b2, b3, b4, b5, b6, b7], _ =>
    obtain ⟨ys, m, _, hd, _, hyl, hf⟩ := DataW.trod_struct Try.underlying105 ht
    have f0 : DataW.trod enc Try.prog W base spare held m 3 (List.take (Try.prog.cellsOf 3) (List.drop 0 [b0, b1, b2, b3, b4, b5, b6, b7])) = ys[0]? := hf 0 _ rfl
    have f1 : DataW.trod enc Try.prog W base spare held m 100 (List.take (Try.prog.cellsOf 100) (List.drop 1 [b0, b1, b2, b3, b4, b5, b6, b7])) = ys[1]? := hf 1 _ rfl
    have f2 : DataW.trod enc Try.prog W base spare held m 103 (List.take (Try.prog.cellsOf 103) (List.drop 2 [b0, b1, b2, b3, b4, b5, b6, b7])) = ys[2]? := hf 2 _ rfl
    rw [cellsInt] at f0
    rw [cellsInsts] at f1
    rw [cellsTerm] at f2
    simp only [List.drop_zero, List.drop_succ_cons, List.take_succ_cons, List.take_zero] at f0 f1 f2
    have hyl' : ys.length = 3 := hyl
    rw [List.getElem?_eq_getElem (by omega)] at f0 f1 f2
    obtain ⟨z0, e0, _, _⟩ := DataW.trod_int Try.underlying3 f0
    obtain ⟨A, c, l, rfl, hI, hok, h9⟩ := openw_insts f1 (fun k hk => hz k (by
      have hq : (ys.map (·.1))[1]? = some (ys[1]'(by omega)).1 := by rw [List.getElem?_map, List.getElem?_eq_getElem (by omega)]; rfl
      have hd1 := congrArg Prod.fst hd
      simp only at hd1
      rw [hd1]
      simp only [DataW.weights, Try.underlying105]
      exact DataW.weights_mem_each (j := 1) rfl hq _ hk))
    obtain ⟨_, q, _, _, _, hg⟩ := row_of Try.underlying103 (by kernel_rfl) cellsTerm f2
    obtain ⟨c0, y0, g0, _, r0⟩ := hg 0 _ rfl
    obtain ⟨c1, y1, g1, _, r1⟩ := hg 1 _ rfl
    obtain ⟨c2, y2, g2, _, r2⟩ := hg 2 _ rfl
    obtain ⟨c3, y3, g3, _, r3⟩ := hg 3 _ rfl
    obtain ⟨c4, y4, g4, _, r4⟩ := hg 4 _ rfl
    obtain ⟨c5, y5, g5, _, r5⟩ := hg 5 _ rfl
    obtain rfl : b2 = c0 := Option.some.inj g0
    obtain rfl : b3 = c1 := Option.some.inj g1
    obtain rfl : b4 = c2 := Option.some.inj g2
    obtain rfl : b5 = c3 := Option.some.inj g3
    obtain rfl : b6 = c4 := Option.some.inj g4
    obtain rfl : b7 = c5 := Option.some.inj g5
    obtain ⟨t0, k0, _, _⟩ := DataW.trod_int Try.underlying3 r0
    obtain ⟨t1, k1, _, _⟩ := DataW.trod_int Try.underlying3 r1
    obtain ⟨t2, k2, _, _⟩ := DataW.trod_int Try.underlying3 r2
    obtain ⟨A5, c5, l5, rfl, h5, h59⟩ := open_ints r3
    obtain ⟨t4, k4, _, _⟩ := DataW.trod_int Try.underlying3 r4
    obtain ⟨A7, c7, l7, rfl, h7, h79⟩ := open_ints r5
    simp only [List.cons.injEq, and_true] at e0 k0 k1 k2 k4
    subst e0 k0 k1 k2 k4
    exact ⟨⟨z0, l, ⟨t0, t1, t2, l5, t4, l7⟩⟩, A, A5, A7, c, c5, c7, ⟨⟨h9, h59, h79, fun i hi => (hok i hi).1⟩, hok⟩, rfl, hI, h5, h7⟩
theorem openw_block (n b off : Nat) (cs : List Value) (y : DataW H × List MemPlace) (hc : ∀ j, j < 8 → W.cell? ⟨b, off + j, none⟩ = cs[j]?) (hl : cs.length = 8) (ht : DataW.trod enc Try.prog W base spare held n 105 cs = some y) (hz : ∀ k ∈ y.1.weights Try.prog 105, k ≤ reachBytes) : ∃ x, BkW x ∧ BkAt W b off x := by
  obtain ⟨x, A, A5, A7, c, c5, c7, ok, rfl, h1, h5, h7⟩ := openw_blk n cs y hl ht hz
  exact ⟨x, ok, hc 0 (by omega), ⟨A, c, hc 1 (by omega), h1⟩, hc 2 (by omega), hc 3 (by omega), hc 4 (by omega), ⟨A5, c5, hc 5 (by omega), h5⟩, hc 6 (by omega), A7, c7, hc 7 (by omega), h7⟩
theorem openw_blocks {c : Value} {fuel : Nat} {y : DataW H × List MemPlace} (h : DataW.trod enc Try.prog W base spare held fuel 55 [c] = some y) (hz : ∀ k ∈ y.1.weights Try.prog 55, k ≤ reachBytes) :
    ∃ (A : Option Addr) (cap : Nat) (l : List Bk), c = .slice A l.length cap ∧ Blocks W c l ∧ (∀ x ∈ l, BkW x) ∧ l.length ≤ 9223372036854775807 := by
  obtain ⟨A, cap, l, rfl, hr, ho, h1, h2, -⟩ := open_roww BkAt BkW Try.underlying55 cellsBlock (by omega) openw_block h hz
  exact ⟨A, cap, l, rfl, hr, ho, by rw [maxLen_is] at h2; omega⟩
theorem openw_fnc (n : Nat) (cs : List Value) (y : DataW H × List MemPlace) (hl : cs.length = 4) (ht : DataW.trod enc Try.prog W base spare held n 57 cs = some y) (hz : ∀ k ∈ y.1.weights Try.prog 57, k ≤ reachBytes) :
    ∃ (x : Fn) (A : Option Addr) (c : Nat), FnW x ∧ cs = [.string x.s, .int .i64 x.b, .int .i64 x.p, .slice A x.l.length c] ∧ Blocks W (.slice A x.l.length c) x.l := by
  match cs, hl with
  | [b0, b1, b2, b3], _ =>
    obtain ⟨ys, q, hd, _, _, hg⟩ := row_of Try.underlying57 (by kernel_rfl) cellsFunc ht
    obtain ⟨c0, y0, g0, _, r0⟩ := hg 0 _ rfl
    obtain ⟨c1, y1, g1, _, r1⟩ := hg 1 _ rfl
    obtain ⟨c2, y2, g2, _, r2⟩ := hg 2 _ rfl
    obtain ⟨c3, y3, g3, hy3, r3⟩ := hg 3 _ rfl
    obtain rfl : b0 = c0 := Option.some.inj g0
    obtain rfl : b1 = c1 := Option.some.inj g1
    obtain rfl : b2 = c2 := Option.some.inj g2
    obtain rfl : b3 = c3 := Option.some.inj g3
    obtain ⟨z0, e0, _, w0⟩ := DataW.trod_string Try.underlying9 r0
    obtain ⟨z1, e1, _, _⟩ := DataW.trod_int Try.underlying3 r1
    obtain ⟨z2, e2, _, _⟩ := DataW.trod_int Try.underlying3 r2
    obtain ⟨A, c, l, rfl, hB, hok, h9⟩ := openw_blocks r3 (fun k hk => hz k (by
      have hq : (ys.map (·.1))[3]? = some y3.1 := by rw [List.getElem?_map, hy3]; rfl
      (try simp only at hd)
      rw [hd]
      simp only [DataW.weights, Try.underlying57]
      exact DataW.weights_mem_each (j := 3) rfl hq _ hk))
    simp only [List.cons.injEq, and_true] at e0 e1 e2
    subst e0 e1 e2
    exact ⟨⟨z0, z1, z2, l⟩, A, c, ⟨⟨by have := w0; rw [maxLen_is] at this; simp only; omega, h9, fun b hb => (hok b hb).1⟩, hok⟩, rfl, hB⟩
theorem openw_func_at (n b off : Nat) (cs : List Value) (y : DataW H × List MemPlace) (hc : ∀ j, j < 4 → W.cell? ⟨b, off + j, none⟩ = cs[j]?) (hl : cs.length = 4) (ht : DataW.trod enc Try.prog W base spare held n 57 cs = some y) (hz : ∀ k ∈ y.1.weights Try.prog 57, k ≤ reachBytes) : ∃ x, FnW x ∧ FnAt W b off x := by
  obtain ⟨x, A, c, ok, rfl, h1⟩ := openw_fnc n cs y hl ht hz
  exact ⟨x, ok, hc 0 (by omega), hc 1 (by omega), hc 2 (by omega), A, c, hc 3 (by omega), h1⟩
theorem openw_glob_at (n b off : Nat) (cs : List Value) (y : DataW H × List MemPlace) (hc : ∀ j, j < 4 → W.cell? ⟨b, off + j, none⟩ = cs[j]?) (_hl : cs.length = 4) (ht : DataW.trod enc Try.prog W base spare held n 60 cs = some y) (_hz : ∀ k ∈ y.1.weights Try.prog 60, k ≤ reachBytes) : ∃ x, GlW x ∧ GlAt W b off x := by
  obtain ⟨ys, q, _, _, _, hg⟩ := row_of Try.underlying60 (by kernel_rfl) cellsGlob ht
  obtain ⟨c0, y0, g0, _, r0⟩ := hg 0 _ rfl
  obtain ⟨c1, y1, g1, _, r1⟩ := hg 1 _ rfl
  obtain ⟨c2, y2, g2, _, r2⟩ := hg 2 _ rfl
  obtain ⟨c3, y3, g3, _, r3⟩ := hg 3 _ rfl
  obtain ⟨z0, e0, _, w0⟩ := DataW.trod_string Try.underlying9 r0
  obtain ⟨z1, e1, _, _⟩ := DataW.trod_int Try.underlying3 r1
  obtain ⟨z2, e2, _⟩ := DataW.trod_bool Try.underlying4 r2
  obtain ⟨z3, e3, _, w3⟩ := DataW.trod_int Try.underlying58 r3
  simp only [List.cons.injEq, and_true] at e0 e1 e2 e3
  subst e0 e1 e2 e3
  exact ⟨⟨z0, z1, z2, z3⟩, ⟨by have := w0; rw [maxLen_is] at this; show z0.size < _; omega, bounds_u64 w3⟩, (hc 0 (by omega)).trans g0, (hc 1 (by omega)).trans g1, (hc 2 (by omega)).trans g2, (hc 3 (by omega)).trans g3⟩
theorem openw_mod (n : Nat) (cs : List Value) (y : DataW H × List MemPlace) (hl : cs.length = 2) (ht : DataW.trod enc Try.prog W base spare held n 25 cs = some y) (hz : ∀ k ∈ y.1.weights Try.prog 25, k ≤ reachBytes) :
    ∃ (m : Md) (F G : Option Addr) (cf cg : Nat), (MdOk m ∧ MdW m) ∧ cs = [.slice F m.f.length cf, .slice G m.g.length cg] ∧ MdAt W (.slice F m.f.length cf) (.slice G m.g.length cg) m := by
  match cs, hl with
  | [b0, b1], _ =>
    obtain ⟨ys, q, hd, _, _, hg⟩ := row_of Try.underlying25 (by kernel_rfl) cellsModule ht
    obtain ⟨c0, y0, g0, hy0, r0⟩ := hg 0 _ rfl
    obtain ⟨c1, y1, g1, hy1, r1⟩ := hg 1 _ rfl
    obtain rfl : b0 = c0 := Option.some.inj g0
    obtain rfl : b1 = c1 := Option.some.inj g1
    obtain ⟨A, cap, l, rfl, hr, ho, h1, h2, -⟩ := open_roww FnAt FnW Try.underlying22 cellsFunc (by omega) openw_func_at r0 (fun k hk => hz k (by
      have hq : (ys.map (·.1))[0]? = some y0.1 := by rw [List.getElem?_map, hy0]; rfl
      (try simp only at hd)
      rw [hd]
      simp only [DataW.weights, Try.underlying25]
      exact DataW.weights_mem_each (j := 0) rfl hq _ hk))
    obtain ⟨A', cap', l', rfl, hr', ho', h1', h2', -⟩ := open_roww GlAt GlW Try.underlying23 cellsGlob (by omega) openw_glob_at r1 (fun k hk => hz k (by
      have hq : (ys.map (·.1))[1]? = some y1.1 := by rw [List.getElem?_map, hy1]; rfl
      (try simp only at hd)
      rw [hd]
      simp only [DataW.weights, Try.underlying25]
      exact DataW.weights_mem_each (j := 1) rfl hq _ hk))
    rw [maxLen_is] at h2 h2'
    exact ⟨⟨l, l'⟩, A, A', cap, cap', ⟨⟨fun f hf => (ho f hf).1, fun g hg => (ho' g hg).1, by simp only; omega, by simp only; omega⟩, ho, ho'⟩, rfl, hr, hr'⟩
end
end Go.Proofs.Ytniolkjeblocaaa
