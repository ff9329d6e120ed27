/- What the texts of package resolve stand on, of the packages ir and pick (part 1). -/
import Derived.Test.YtoglmdadpchhoaaProg
import Derived.Test.YtoglmdadpchhoaaRows
import Derived.Below
import Derived.BigQuiet
import Derived.CallsIn
import Derived.Deep.AppendLies
import Derived.Deep.Cut
import Derived.Deep.CutRange
import Derived.Deep.DeepHandedRow
import Derived.Deep.Fields
import Derived.Deep.LoopGhost
import Derived.Deep.QuietTactic
import Derived.Deep.RegionHeld
import Derived.Deep.RegionHeld3
import Derived.Deep.Slices
import Derived.Laws.AppendOwnNone
import Derived.Laws.Bits64b
import Derived.Laws.MakeOwn
import Derived.Laws.OwnMore
import Derived.Laws.ResultCell
import Derived.Laws.Rows
import Derived.Laws.Shifts
import Derived.Lib.Hide
import Derived.Lib.LaidTab
import Derived.Lib.SmallJoins
import Derived.Lib.UnsafeStr
import Derived.LoopIn
import Derived.LoopNIn
import Derived.LoopTactic
import Derived.Maps.AppendAt
import Derived.Maps.Own
import Derived.Maps.OwnIn
import Derived.Maps.OwnSet
import Derived.Maps.Views
import Derived.OpenShut
import Derived.OrdersHeld
import Derived.OrdersIn
import Derived.Outline
import Derived.OwnWalk
import Derived.OwnWalkIn
import Derived.ProofKit
import Derived.RangeFuncBound
import Derived.RangeFuncBox
import Derived.RangeFuncCalls
import Derived.RangeFuncLeaves
import Derived.RangeFuncNested
import Derived.RegionTactic
import Derived.Shelf.Abstract
import Derived.Shelf.RegionOpen
import Derived.ShutString
import Derived.SizedLaws
import Derived.Sort.BigQuietIn
import Derived.StillTailTactics
import Derived.StringKeys
import Derived.TacticsIn
import Derived.TacticsInMore
import Derived.WalkKit
import Derived.WalkLawsBesides
import Derived.WalkMore
import Derived.WalkSpells
namespace Go.Proofs.Ytoglmdadpchhoaa.M
/-- a page: its place, what may be done with it, its bytes -/
structure Pg where
  a : Int
  p : Int
  d : ByteArray
def okPerm (p : Int) : Bool := decide (0 ≤ p ∧ p ≤ 7)
def okPg (x : Pg) : Bool := decide (x.a % 256 = 0) && (okPerm x.p && decide (x.d.size = 256))
/-- right memory -/
structure Right (m : List Pg) : Prop where
  len : m.length ≤ 64
  ok : ∀ x ∈ m, okPg x = true
  up : m.Pairwise (fun x y => x.a < y.a)
  ge : ∀ x ∈ m, 0 ≤ x.a
  le : ∀ x ∈ m, x.a ≤ 18446744073709551615
theorem Right.size {m : List Pg} (h : Right m) {i : Nat} (hi : i < m.length) : m[i].d.size = 256 := by
  have := h.ok _ (List.getElem_mem hi)
  simp [okPg] at this; exact this.2.2
/-- how many pages stand below x -/
def low (m : List Pg) (x : Int) : Nat := m.countP (fun q => decide (q.a < x))
/-- is there one at x? -/
def there (m : List Pg) (x : Int) : Bool := m.any (fun q => q.a == x)
/-- a row of places in one page -/
structure Str where
  pg : Int
  f : Int
  n : Int
/-- n places from a on, page by page -/
def strs (a n : Int) : List Str :=
  if _h : n ≤ 0 then [] else
    ⟨a - a % 256, a % 256, min n (256 - a % 256)⟩ :: strs (a + min n (256 - a % 256)) (n - min n (256 - a % 256))
termination_by n.toNat
decreasing_by omega
/-- what a row is, wherever it came -/
structure Str.Ok (s : Str) : Prop where
  f0 : 0 ≤ s.f
  n1 : 1 ≤ s.n
  fn : s.f + s.n ≤ 256
  pg0 : 0 ≤ s.pg
  pg1 : s.pg ≤ 18446744073709551360
  md : s.pg % 256 = 0
end Go.Proofs.Ytoglmdadpchhoaa.M
namespace Go.Proofs.Ytoglmdadpchhoaa.M
/-- the bytes of the page at x -/
def dataAt (m : List Pg) (x : Int) : ByteArray := (m[low m x]?.map Pg.d).getD .empty
/-- the byte at a place -/
def byteAt (m : List Pg) (t : Int) : UInt8 := (dataAt m (t - t % 256)).data.toList.getD (t % 256).toNat 0
/-- n bytes from a on -/
def bytesOf (m : List Pg) (a : Int) : Nat → List UInt8
  | 0 => []
  | n + 1 => byteAt m a :: bytesOf m (a + 1) n
end Go.Proofs.Ytoglmdadpchhoaa.M
namespace Go.Proofs.Ytoglmdadpchhoaa
open Go.RowKit
theorem bthen {w W w' : World} (h : Below w.heap.size w W) (hb : Below W.heap.size W w') : Below w.heap.size w w' := h.trans (hb.mono h.size)
theorem balloc {w W : World} (h : Below w.heap.size w W) (o : Obj) : Below w.heap.size w (W.alloc o) := h.alloc h.size o
end Go.Proofs.Ytoglmdadpchhoaa
namespace Go.Proofs.Ytoglmdadpchhoaa
open Go.RowKit
theorem bcell {W w1 : World} (hb : Below W.heap.size W w1) : (∀ b o, b < W.heap.size → w1.cell? ⟨b, o, none⟩ = W.cell? ⟨b, o, none⟩) ∧ (∀ b o, b < W.heap.size → w1.frozen? ⟨b, o, none⟩ = W.frozen? ⟨b, o, none⟩) :=
  ⟨fun b o h => hb.cell (p := ⟨b, o, none⟩) h, fun b o h => hb.frozen (p := ⟨b, o, none⟩) h⟩
/-- pages that lie from a place on -/
def PagesIn (W : World) (b off : Nat) (m : List M.Pg) : Prop :=
  b < W.heap.size ∧ ∀ (i : Nat) (h : i < m.length), W.cell? ⟨b, off + i * 3, none⟩ = some (.int .u64 m[i].a) ∧ W.cell? ⟨b, off + i * 3 + 1, none⟩ = some (.int .i64 m[i].p) ∧ W.cell? ⟨b, off + i * 3 + 2, none⟩ = some (.string m[i].d)
theorem PagesIn.next {W W' : World} {b off : Nat} {m : List M.Pg} (h : PagesIn W b off m) (hb : Below W.heap.size W W') : PagesIn W' b off m := by
  refine ⟨Nat.lt_of_lt_of_le h.1 hb.size, fun i hi => ?_⟩
  obtain ⟨h0, h1, h2⟩ := h.2 i hi
  have hc := (bcell hb).1
  exact ⟨(hc _ _ h.1).trans h0, (hc _ _ h.1).trans h1, (hc _ _ h.1).trans h2⟩
/-- a slice of pages -/
def Pages (W : World) (v : Value) (m : List M.Pg) : Prop :=
  (m = [] ∧ (v = .slice none 0 0 ∨ ∃ a cap, v = .slice (some a) 0 cap)) ∨ (0 < m.length ∧ ∃ b off cap, v = .slice (some ⟨b, off, none⟩) m.length cap ∧ PagesIn W b off m)
theorem Pages.next {W W' : World} {v : Value} {m : List M.Pg} (h : Pages W v m) (hb : Below W.heap.size W W') : Pages W' v m := by
  rcases h with h | ⟨h1, b, off, cap, rfl, h2⟩
  · exact .inl h
  · exact .inr ⟨h1, b, off, cap, rfl, h2.next hb⟩
theorem Pages.slice {W : World} {v : Value} {m : List M.Pg} (h : Pages W v m) : ∃ A cap, v = .slice A m.length cap := by
  rcases h with ⟨rfl, rfl | ⟨a, cap, rfl⟩⟩ | ⟨_, b, off, cap, rfl, _⟩ <;> exact ⟨_, _, rfl⟩
end Go.Proofs.Ytoglmdadpchhoaa
namespace Go.Proofs.Ytoglmdadpchhoaa
open Go.RowKit
/-- a world in which all that lay in w lies as it lay -/
structure Past (w : World) where
  W : World
  h : Below w.heap.size w W
instance (w : World) : Inhabited (Past w) := ⟨⟨w, Below.refl _ _⟩⟩
theorem Past.cell {w : World} {b o : Nat} {v : Value} (hb : b < w.heap.size) (h : w.cell? ⟨b, o, none⟩ = some v) (p : Past w) : p.W.cell? ⟨b, o, none⟩ = some v :=
  (p.h.cell (p := ⟨b, o, none⟩) hb).trans h
end Go.Proofs.Ytoglmdadpchhoaa
namespace Go.Proofs.Ytoglmdadpchhoaa
open Go.RowKit
/-- is the page at i right, and above the one ahead of it? -/
def okAt (m : List M.Pg) (i : Nat) (h : i < m.length) : Bool := M.okPg m[i] && (decide (i = 0) || decide (m[i - 1].a < m[i].a))
def rightB (m : List M.Pg) : Bool := decide (m.length ≤ 64 ∧ ∀ i (h : i < m.length), okAt m i h = true)
theorem Right.of {m : List M.Pg} (h : rightB m = true) (h0 : ∀ x ∈ m, 0 ≤ x.a) (h1 : ∀ x ∈ m, x.a ≤ 18446744073709551615) : M.Right m := by
  simp only [rightB, decide_eq_true_eq] at h
  obtain ⟨hl, ho⟩ := h
  have ho1 : ∀ i (h : i < m.length), M.okPg m[i] = true := fun i h => by have := ho i h; simp [okAt] at this; exact this.1
  have ho2 : ∀ i (h : i + 1 < m.length), m[i].a < m[i + 1].a := fun i h => by have := ho (i + 1) h; simp [okAt] at this; exact this.2
  refine ⟨hl, fun x hx => ?_, ?_, h0, h1⟩
  · obtain ⟨i, hi, rfl⟩ := List.getElem_of_mem hx
    exact ho1 i hi
  · rw [List.pairwise_iff_getElem]
    intro i j hi hj hij
    induction j with
    | zero => omega
    | succ j ih =>
      by_cases e : i = j
      · subst e; exact ho2 i hj
      · have := ih (by omega) (by omega); have := ho2 j hj; omega
end Go.Proofs.Ytoglmdadpchhoaa
namespace Go.Proofs.Ytoglmdadpchhoaa
open Go.RowKit
/-- block g is just these cells of type t, none of them frozen -/
def Whole (W : World) (g : Nat) (t : TypeId) (cs : Array Value) : Prop := W.heap[g]? = some (.cells cs t (0, 0))
theorem Whole.lt {W : World} {g : Nat} {t : TypeId} {cs : Array Value} (h : Whole W g t cs) : g < W.heap.size := (Array.getElem?_eq_some_iff.1 h).1
theorem Whole.cell {W : World} {g : Nat} {t : TypeId} {cs : Array Value} (h : Whole W g t cs) (i : Nat) : W.cell? ⟨g, i, none⟩ = cs[i]? := cell_of_row W g i cs t (0, 0) h
theorem Whole.free {W : World} {g : Nat} {t : TypeId} {cs : Array Value} (h : Whole W g t cs) (i : Nat) : W.frozen? ⟨g, i, none⟩ = false := by
  simp [World.frozen?, show W.heap[g]? = _ from h]
theorem Whole.put {W : World} {g : Nat} {t : TypeId} {cs : Array Value} (h : Whole W g t cs) (i : Nat) (u : Value) : Whole (W.setCell ⟨g, i, none⟩ u) g t (cs.setIfInBounds i u) := by
  unfold Whole at h ⊢
  simp [World.setCell, Array.getElem?_modify, h]
end Go.Proofs.Ytoglmdadpchhoaa
namespace Go.Proofs.Ytoglmdadpchhoaa
open Go.ChangeShapes Go.WideShapes Go.ChangeAt Go.RowKit Go.Deep Go.Joins
theorem gLaidOut : laidOutB Try.prog = true := by kernel_rfl
theorem own : ownKnob Try.prog.godebug = none := by kernel_rfl
section
variable {H : Type} {enc : TypeId × Value → H} {P : Program} {w : World} {base : Nat} {spare : Nat → Bool} {held : Bool}
/-- a struct of one-cell fields, read: each field's cell with its own reading -/
theorem row_of {t : TypeId} {fs : Array Field} {fuel : Nat} {cs : List Value} {x : DataW H × List MemPlace} (ht : P.underlying t = some (.struct fs)) (hone : oneCellFields P fs = true) (hC : P.cellsOf t = fs.size)
    (h : DataW.trod enc P w base spare held fuel t cs = some x) :
    ∃ (ys : List (DataW H × List MemPlace)) (n : Nat), x.1 = .agg (ys.map (·.1)) ∧ ys.length = fs.size ∧ cs.length = fs.size ∧
      ∀ (j : Nat) (f : Field), fs[j]? = some f → ∃ c y, cs[j]? = some c ∧ ys[j]? = some y ∧ DataW.trod enc P w base spare held n f.type [c] = some y := by
  obtain ⟨ys, n, _, hx, hlen, hyl, hf⟩ := DataW.trod_struct ht h
  refine ⟨ys, n, by rw [hx], hyl, hlen.trans hC, fun j f hj => ?_⟩
  obtain ⟨ho, hk⟩ := hone_of hone j f hj
  have hjl : j < fs.size := (Array.getElem?_eq_some_iff.1 hj).1
  have h1 := hf j f hj
  rw [ho, hk] at h1
  have hcl : j < cs.length := by omega
  have hone' : (cs.drop j).take 1 = [cs[j]] := by
    rw [List.drop_eq_getElem_cons hcl]
    rfl
  rw [hone'] at h1
  exact ⟨_, _, List.getElem?_eq_getElem hcl, List.getElem?_eq_getElem (by omega), h1.trans (List.getElem?_eq_getElem (by omega))⟩
end
section
variable {H : Type} {enc : TypeId × Value → H}
/-- the arguments read behind the call as they read before -/
theorem trodAll_below {W W' : World} (bel : Below W.heap.size W W') : ∀ (ts : List TypeId) (vs : List Value) (ds : List (DataW H)) (p : List MemPlace),
    (∀ t ∈ ts, Try.prog.readableRec t = true ∧ t < Try.prog.types.size) → DataW.TrodAll enc Try.prog W 0 (fun _ => true) true ts vs ds p → (∀ x ∈ p, x.block < W.heap.size) →
    DataW.TrodAll enc Try.prog W' 0 (fun b => decide (b < W.heap.size)) true ts vs ds p := by
  intro ts
  induction ts with
  | nil =>
    intro vs ds p _ h _
    obtain ⟨rfl, rfl, rfl⟩ := trodAll_nil h
    exact trodAll_mk0
  | cons t ts ih =>
    intro vs ds p ht h hp
    obtain ⟨v, vs', d, ds', p1, p2, rfl, rfl, rfl, h1, h2⟩ := trodAll_cons h
    have ht1 := ht t (by simp)
    exact trodAll_cons_mk (Below.trod gLaidOut ht1.1 ht1.2 h1 bel (fun x hx => hp x (by simp [hx]))) (ih vs' ds' p2 (fun t ht' => ht t (by simp [ht'])) h2 (fun x hx => hp x (by simp [hx])))
/-- the row's last step, of every law -/
theorem law_post {f : Func} {s : ChangeSpec} {W W' : World} {args : Array Value} {ds gs : List (DataW H)} {before : List MemPlace} (hv : s.vars = []) (hr : f.resultTypes = #[4])
    (ht : ∀ t ∈ f.params.toList, Try.prog.readableRec t = true ∧ t < Try.prog.types.size)
    (hW : DataW.Whole enc Try.prog f.params.toList s.vars false W args.toList ds gs before) (bel : Below W.heap.size W W')
    (h1 : (s.fn H (ds ++ gs)).results = [.lit (.bool true)]) (h2 : (s.fn H (ds ++ gs)).args = ds) (h3 : (s.fn H (ds ++ gs)).vars = []) :
    s.post enc Try.prog f false true false false W args (.bool true) W' := by
  have hlt : ∀ p ∈ before, p.block < W.heap.size := fun p hp => hW.lt p hp
  have hW' := hW
  obtain ⟨p, q, hA, hV, rfl, _, _⟩ := hW
  refine ⟨ds, gs, p ++ q, [], p, [], hW', ?_, ?_, ?_, bel.frame _, fun h => by cases h⟩
  · rw [h1, hr]
    exact trodAll_mk1 (shut_bool Try.underlying4 _)
  · rw [h2]
    exact trodAll_below bel _ _ _ _ ht hA (fun x hx => hlt x (by simp [hx]))
  · rw [h3, hv]
    rfl
end
end Go.Proofs.Ytoglmdadpchhoaa
namespace Go.Proofs.Ytoglmdadpchhoaa
open Go.RowKit
/-- a row of ints -/
def Ints (W : World) (v : Value) (l : List Int) : Prop :=
  (l = [] ∧ (v = .slice none 0 0 ∨ ∃ a cap, v = .slice (some a) 0 cap)) ∨ (0 < l.length ∧ ∃ b off cap, v = .slice (some ⟨b, off, none⟩) l.length cap ∧ b < W.heap.size ∧ ∀ (i : Nat) (h : i < l.length), W.cell? ⟨b, off + i, none⟩ = some (.int .i64 l[i]))
theorem Ints.next {W W' : World} {v : Value} {l : List Int} (h : Ints W v l) (hb : Below W.heap.size W W') : Ints W' v l := by
  rcases h with h | ⟨h0, b, off, cap, rfl, h1, h2⟩
  · exact .inl h
  · exact .inr ⟨h0, b, off, cap, rfl, Nat.lt_of_lt_of_le h1 hb.size, fun i hi => (World.cell?_of_block (hb.block b h1)).trans (h2 i hi)⟩
theorem Ints.slice {W : World} {v : Value} {l : List Int} (h : Ints W v l) : ∃ A cap, v = .slice A l.length cap := by
  rcases h with ⟨rfl, rfl | ⟨a, cap, rfl⟩⟩ | ⟨_, b, off, cap, rfl, _⟩
  · exact ⟨_, _, rfl⟩
  · exact ⟨_, _, rfl⟩
  · exact ⟨_, _, rfl⟩
theorem Ints.len {W : World} {A : Option Addr} {n cap : Nat} {l : List Int} (h : Ints W (.slice A n cap) l) : l.length = n := by
  obtain ⟨A', c', e⟩ := h.slice
  exact (Value.slice.inj e).2.1.symm
theorem Ints.at_ {W : World} {A : Option Addr} {n cap : Nat} {l : List Int} (h : Ints W (.slice A n cap) l) {i : Nat} (hi : i < l.length) : ∃ b off, A = some ⟨b, off, none⟩ ∧ W.cell? ⟨b, off + i, none⟩ = some (.int .i64 l[i]) := by
  rcases h with ⟨rfl, -⟩ | ⟨_, b, off, c, e, _, h2⟩
  · simp at hi
  · exact ⟨b, off, (Value.slice.inj e).1, h2 i hi⟩
theorem hasName_any (op : Int) (w : World) : Calls Try.prog 83 #[.int .i64 op] w fun e w' => e = .returned (.bool (op == 12 || op == 13 || op == 14)) ∧ w = w' := by
  by_cases h1 : op = 12
  · subst h1
    go_enter Try.func83, Try.ntmps83
    go_wp2_with fail
    go_ret
    exact ⟨rfl, rfl⟩
  · have t1 : (op == 12) = false := by simpa using h1
    by_cases h2 : op = 13
    · subst h2
      go_enter Try.func83, Try.ntmps83
      go_wp2_with fail
      go_ret
      exact ⟨rfl, rfl⟩
    · have t2 : (op == 13) = false := by simpa using h2
      rw [t1, t2]
      clear h1 h2
      go_enter Try.func83, Try.ntmps83
      go_wp2_with fail
      go_ret
      exact ⟨by simp, rfl⟩
/-- all of them 0 to n less 1 -/
def amongB (n : Int) (l : List Int) : Bool := l.all (fun v => decide (0 ≤ v) && decide (v < n))
end Go.Proofs.Ytoglmdadpchhoaa
namespace Go.Proofs.Ytoglmdadpchhoaa
open Go.RowKit
def intRow (l : List Int) : List Value := l.map (fun v => Value.int .i64 v)
theorem intRow_length (l : List Int) : (intRow l).length = l.length := by simp [intRow]
theorem intRow_one : ∀ (l : List Int), ∀ u ∈ intRow l, u.oneCell' = true := by
  intro l u hu
  obtain ⟨v, -, rfl⟩ := List.mem_map.1 hu
  rfl
/-- a row of the call's own that holds ints -/
def OwnsI (W : World) (base : Nat) (v : Value) (l : List Int) : Prop := W.ownsRow base 3 1 v l.length (intRow l)
theorem OwnsI.ints {W : World} {base : Nat} {v : Value} {l : List Int} (h : OwnsI W base v l) : Ints W v l := by
  have h' : W.ownsRow base 3 1 v l.length (intRow l) := h
  by_cases hn : 0 < l.length
  · obtain ⟨g, cap, rfl, _, hg⟩ := h'.form hn
    refine .inr ⟨hn, g, 0, cap, rfl, hg, fun i hi => ?_⟩
    rw [Nat.zero_add, h'.cellAt i (by omega)]
    simp [intRow, hi]
  · obtain rfl : l = [] := List.eq_nil_of_length_eq_zero (by omega)
    refine .inl ⟨rfl, ?_⟩
    obtain ⟨_, ⟨rfl, _⟩ | ⟨g, cap, cur, rfl, _⟩⟩ := h'
    · exact .inl rfl
    · exact .inr ⟨_, _, rfl⟩
theorem int_add (b off j : Nat) : (⟨b, off, none⟩ : Addr).add j = ⟨b, off + j, none⟩ := by unfold Addr.add; split <;> simp_all
theorem int_info : (Try.prog.info? 3).map (fun i => (i.zero, i.size, i.bytes)) = some (some (.int .i64 0), 1, 8) := by kernel_rfl
/-- append of a row of ints to one of the call's own -/
theorem wpList_append_ints {w : World} {ops : Array Oper} {rest : List Oper} {o : Oper} {a : Act} {Q : Exit → Act → World → Prop} (hgd : o.guard = none) (s x : Operand)
    (ho : o.op = .call { callee := .builtin .append, args := #[s, x], argTypes := #[60, 60] }) (base : Nat) (v : Value) (m k : List Int) (hs : a.eval s = v) (hown : OwnsI w base v m)
    (u : Value) (hx : a.eval x = u) (hO : Ints w u k) (hn : (m.length + k.length) * 8 ≤ 140737488355328) (hbase : base ≤ w.heap.size)
    (h : ∀ v' w', OwnsI w' base v' (m ++ k) → w.grownBy w' v.ownBlock → wpList Try.prog ops Q rest (a.put o.dst v') w') : wpList Try.prog ops Q (o :: rest) a w := by
  obtain ⟨i0, hi, hz0, hz1, hz2⟩ := info_parts int_info
  have fin : ∀ v' w', w'.ownsRow base 3 1 v' (m.length + k.length) (intRow m ++ intRow k) → w.grownBy w' v.ownBlock → wpList Try.prog ops Q rest (a.put o.dst v') w' := fun v' w' h1 h2 => by
    refine h v' w' ?_ h2
    unfold OwnsI
    rw [List.length_append, show intRow (m ++ k) = intRow m ++ intRow k by simp [intRow]]
    exact h1
  rcases hO with ⟨rfl, rfl | ⟨A, cap, rfl⟩⟩ | ⟨hm0, b, off, cap, rfl, hb, hp⟩
  · exact wpList_append_own_none hgd s x 60 ho base 3 i0 1 Try.underlying60 hi v m.length (intRow m) hs hown hx (h v w (by simpa using hown) ⟨rfl, rfl, rfl, Nat.le_refl _, fun _ _ _ => rfl⟩)
  · exact wpList_append_own w hgd s x 60 ho base 3 i0 (.int .i64 0) 1 8 Try.underlying60 hi hz0 hz1 hz2 rfl (by decide) v m.length (intRow m) hs hown A 0 cap [] hx rfl (fun j u hj => by simp at hj) (fun u hu => by cases hu) (by unfold maxLen; omega) (by simp at hn; omega) hbase (fun v' w' h1 h2 _ => fin v' w' (by simpa [intRow] using h1) h2)
  · exact wpList_append_own w hgd s x 60 ho base 3 i0 (.int .i64 0) 1 8 Try.underlying60 hi hz0 hz1 hz2 rfl (by decide) v m.length (intRow m) hs hown ⟨b, off, none⟩ k.length cap (intRow k) hx (by rw [intRow_length]; omega) (fun j u hj => by
      rw [int_add]
      have hj2 : j < k.length := by have := (List.getElem?_eq_some_iff.1 hj).1; rwa [intRow_length] at this
      rw [hp j hj2, ← hj]
      simp [intRow, hj2]) (intRow_one k) (by unfold maxLen; omega) (by omega) hbase (fun v' w' h1 h2 _ => fin v' w' h1 h2)
/-- a new row of the call's own with these ints -/
def NewInts (l : List Int) (w : World) (e : Ending) (w' : World) : Prop := ∃ v', e = .returned v' ∧ OwnsI w' w.heap.size v' l ∧ Below w.heap.size w w'
set_option maxRecDepth 100000 in
set_option maxHeartbeats 1000000 in
/-- slices.Clone of ints: a new row with the same, or nil -/
theorem iclone_any {l : List Int} {v : Value} {w : World} (hP : Ints w v l) (hn : l.length * 8 ≤ 140737488355328) :
    Calls Try.prog 109 #[v] w (NewInts l w) := by
  have HN := Lib.hid hn
  clear hn
  have q22 : ∀ (W : World) (a : Option Addr) (n c n' c' : Nat), (binOp .eql 60 (.slice a n c) (.slice none n' c')).run Try.prog W = .ok (.bool a.isNone) W := fun W a n c n' c' => Lib.run_eql_slice_nil W _ _ a n c n' c' Try.underlying60
  have O0 := fun W : World => Lib.hid (show OwnsI (W.alloc (.cells #[] 3)) W.heap.size (.slice (some ⟨W.heap.size, 0, none⟩) 0 0) [] from ⟨rfl, .inr ⟨W.heap.size, 0, #[], rfl, Nat.le_refl _, heap_alloc_new _ _, Nat.le_refl _, by unfold maxLen; omega, rfl, rfl⟩⟩)
  rcases hP with ⟨rfl, rfl | ⟨a, cap, rfl⟩⟩ | ⟨h0, b, off, cap, rfl, hb, hp⟩
  · go_enter Try.func109, Try.ntmps109
    go_wp2_with fail
    go_ret
    exact ⟨_, rfl, ⟨rfl, .inl ⟨rfl, rfl⟩⟩, Below.refl _ _⟩
  · go_enter Try.func109, Try.ntmps109
    go_wp2_with fail
    go_ret
    exact ⟨_, rfl, (O0 w).out, balloc (Below.refl _ _) _⟩
  · have HP := Lib.hid (show Ints (w.alloc (.cells #[] 3)) (.slice (some ⟨b, off, none⟩) l.length cap) l from (show Ints w (.slice (some ⟨b, off, none⟩) l.length cap) l from .inr ⟨h0, b, off, cap, rfl, hb, hp⟩).next (balloc (Below.refl _ _) _))
    obtain ⟨n, hn⟩ : ∃ n, l.length = n := ⟨_, rfl⟩
    rw [hn] at HP ⊢
    have HNN := Lib.hid hn
    clear hn hp h0 hb
    have H0 := O0 w
    clear O0
    go_enter Try.func109, Try.ntmps109
    go_wp2_with (at_builtin; refine wpList_append_ints rfl _ _ rfl w.heap.size _ [] l rfl H0.out _ rfl HP.out (by have := HN.out; simpa using this) (by simp) ?_; intro v' w1 hown hgrow)
    have HO := Lib.hid hown
    have HB := Lib.hid ((balloc (Below.refl _ w) _).grown hgrow (by simp) (fun k hk => by cases hk; exact Nat.le_refl _))
    clear hown hgrow
    go_wp2_with fail
    go_ret
    exact ⟨_, rfl, HO.out, HB.out⟩
end Go.Proofs.Ytoglmdadpchhoaa
namespace Go.Proofs.Ytoglmdadpchhoaa
open Go.RowKit
/-- an instruction -/
structure In where
  o : Int
  a : Int
  b : Int
  k : Int
  s : ByteArray
  l : List Int
/-- a block's end -/
structure Tm where
  k : Int
  a : Int
  t : Int
  l : List Int
  e : Int
  m : List Int
/-- a block -/
structure Bk where
  p : Int
  i : List In
  e : Tm
/-- a function -/
structure Fn where
  s : ByteArray
  b : Int
  p : Int
  l : List Bk
/-- a global -/
structure Gl where
  s : ByteArray
  b : Int
  h : Bool
  i : Int
/-- a row of things that lie one behind another, each in so many cells -/
def RowOf {α : Type} (sz : Nat) (P : World → Nat → Nat → α → Prop) (W : World) (v : Value) (l : List α) : Prop :=
  (l = [] ∧ (v = .slice none 0 0 ∨ ∃ a cap, v = .slice (some a) 0 cap)) ∨ (0 < l.length ∧ ∃ b off cap, v = .slice (some ⟨b, off, none⟩) l.length cap ∧ b < W.heap.size ∧ ∀ (i : Nat) (h : i < l.length), P W b (off + i * sz) l[i])
theorem RowOf.next {α : Type} {sz : Nat} {P : World → Nat → Nat → α → Prop} (hP : ∀ (W W' : World) (b off : Nat) (x : α), b < W.heap.size → Below W.heap.size W W' → P W b off x → P W' b off x)
    {W W' : World} {v : Value} {l : List α} (h : RowOf sz P W v l) (hb : Below W.heap.size W W') : RowOf sz P W' v l := by
  rcases h with h | ⟨h0, b, off, cap, rfl, h1, h2⟩
  · exact .inl h
  · exact .inr ⟨h0, b, off, cap, rfl, Nat.lt_of_lt_of_le h1 hb.size, fun i hi => hP _ _ _ _ _ h1 hb (h2 i hi)⟩
theorem RowOf.slice {α : Type} {sz : Nat} {P : World → Nat → Nat → α → Prop} {W : World} {v : Value} {l : List α} (h : RowOf sz P W v l) : ∃ A cap, v = .slice A l.length cap := by
  rcases h with ⟨rfl, rfl | ⟨a, cap, rfl⟩⟩ | ⟨_, b, off, cap, rfl, _⟩
  · exact ⟨_, _, rfl⟩
  · exact ⟨_, _, rfl⟩
  · exact ⟨_, _, rfl⟩
theorem RowOf.len {α : Type} {sz : Nat} {P : World → Nat → Nat → α → Prop} {W : World} {A : Option Addr} {n cap : Nat} {l : List α} (h : RowOf sz P W (.slice A n cap) l) : l.length = n := by
  obtain ⟨A', c', e⟩ := h.slice
  exact (Value.slice.inj e).2.1.symm
theorem RowOf.at_ {α : Type} {sz : Nat} {P : World → Nat → Nat → α → Prop} {W : World} {A : Option Addr} {n cap : Nat} {l : List α} (h : RowOf sz P W (.slice A n cap) l) {i : Nat} (hi : i < l.length) :
    ∃ b off, A = some ⟨b, off, none⟩ ∧ b < W.heap.size ∧ P W b (off + i * sz) l[i] := by
  rcases h with ⟨rfl, -⟩ | ⟨_, b, off, c, e, h1, h2⟩
  · simp at hi
  · exact ⟨b, off, (Value.slice.inj e).1, h1, h2 i hi⟩
theorem cellNext {W W' : World} {b : Nat} (hb : b < W.heap.size) (h : Below W.heap.size W W') (o : Nat) : W'.cell? ⟨b, o, none⟩ = W.cell? ⟨b, o, none⟩ := World.cell?_of_block (h.block b hb)
/-- an instruction that lies in six cells -/
def InAt (W : World) (b off : Nat) (i : In) : Prop :=
  W.cell? ⟨b, off, none⟩ = some (.int .i64 i.o) ∧ W.cell? ⟨b, off + 1, none⟩ = some (.int .i64 i.a) ∧ W.cell? ⟨b, off + 2, none⟩ = some (.int .i64 i.b) ∧ W.cell? ⟨b, off + 3, none⟩ = some (.int .u64 i.k) ∧ W.cell? ⟨b, off + 4, none⟩ = some (.string i.s) ∧
    ∃ A cap, W.cell? ⟨b, off + 5, none⟩ = some (.slice A i.l.length cap) ∧ Ints W (.slice A i.l.length cap) i.l
theorem InAt.next (W W' : World) (b off : Nat) (x : In) (hb : b < W.heap.size) (h : Below W.heap.size W W') (hx : InAt W b off x) : InAt W' b off x := by
  obtain ⟨h0, h1, h2, h3, h4, A, cap, h5, h6⟩ := hx
  exact ⟨(cellNext hb h _).trans h0, (cellNext hb h _).trans h1, (cellNext hb h _).trans h2, (cellNext hb h _).trans h3, (cellNext hb h _).trans h4, A, cap, (cellNext hb h _).trans h5, h6.next h⟩
/-- a row of instructions -/
def Insts : World → Value → List In → Prop := RowOf 6 InAt
theorem Insts.next {W W' : World} {v : Value} {l : List In} (h : Insts W v l) (hb : Below W.heap.size W W') : Insts W' v l := RowOf.next InAt.next h hb
/-- a block that lies in eight cells -/
def BkAt (W : World) (b off : Nat) (x : Bk) : Prop :=
  W.cell? ⟨b, off, none⟩ = some (.int .i64 x.p) ∧ (∃ A cap, W.cell? ⟨b, off + 1, none⟩ = some (.slice A x.i.length cap) ∧ Insts W (.slice A x.i.length cap) x.i) ∧
    W.cell? ⟨b, off + 2, none⟩ = some (.int .i64 x.e.k) ∧ W.cell? ⟨b, off + 3, none⟩ = some (.int .i64 x.e.a) ∧ W.cell? ⟨b, off + 4, none⟩ = some (.int .i64 x.e.t) ∧
    (∃ A cap, W.cell? ⟨b, off + 5, none⟩ = some (.slice A x.e.l.length cap) ∧ Ints W (.slice A x.e.l.length cap) x.e.l) ∧ W.cell? ⟨b, off + 6, none⟩ = some (.int .i64 x.e.e) ∧
    (∃ A cap, W.cell? ⟨b, off + 7, none⟩ = some (.slice A x.e.m.length cap) ∧ Ints W (.slice A x.e.m.length cap) x.e.m)
theorem BkAt.next (W W' : World) (b off : Nat) (x : Bk) (hb : b < W.heap.size) (h : Below W.heap.size W W') (hx : BkAt W b off x) : BkAt W' b off x := by
  obtain ⟨h0, ⟨A, c, h1, g1⟩, h2, h3, h4, ⟨A5, c5, h5, g5⟩, h6, A7, c7, h7, g7⟩ := hx
  exact ⟨(cellNext hb h _).trans h0, ⟨A, c, (cellNext hb h _).trans h1, g1.next h⟩, (cellNext hb h _).trans h2, (cellNext hb h _).trans h3, (cellNext hb h _).trans h4, ⟨A5, c5, (cellNext hb h _).trans h5, g5.next h⟩, (cellNext hb h _).trans h6, A7, c7, (cellNext hb h _).trans h7, g7.next h⟩
/-- a row of blocks -/
def Blocks : World → Value → List Bk → Prop := RowOf 8 BkAt
theorem Blocks.next {W W' : World} {v : Value} {l : List Bk} (h : Blocks W v l) (hb : Below W.heap.size W W') : Blocks W' v l := RowOf.next BkAt.next h hb
/-- a function that lies in four cells -/
def FnAt (W : World) (b off : Nat) (x : Fn) : Prop :=
  W.cell? ⟨b, off, none⟩ = some (.string x.s) ∧ W.cell? ⟨b, off + 1, none⟩ = some (.int .i64 x.b) ∧ W.cell? ⟨b, off + 2, none⟩ = some (.int .i64 x.p) ∧
    ∃ A cap, W.cell? ⟨b, off + 3, none⟩ = some (.slice A x.l.length cap) ∧ Blocks W (.slice A x.l.length cap) x.l
theorem FnAt.next (W W' : World) (b off : Nat) (x : Fn) (hb : b < W.heap.size) (h : Below W.heap.size W W') (hx : FnAt W b off x) : FnAt W' b off x := by
  obtain ⟨h0, h1, h2, A, c, h3, g3⟩ := hx
  exact ⟨(cellNext hb h _).trans h0, (cellNext hb h _).trans h1, (cellNext hb h _).trans h2, A, c, (cellNext hb h _).trans h3, g3.next h⟩
/-- a row of functions -/
def Funcs : World → Value → List Fn → Prop := RowOf 4 FnAt
theorem Funcs.next {W W' : World} {v : Value} {l : List Fn} (h : Funcs W v l) (hb : Below W.heap.size W W') : Funcs W' v l := RowOf.next FnAt.next h hb
/-- a global that lies in four cells -/
def GlAt (W : World) (b off : Nat) (x : Gl) : Prop :=
  W.cell? ⟨b, off, none⟩ = some (.string x.s) ∧ W.cell? ⟨b, off + 1, none⟩ = some (.int .i64 x.b) ∧ W.cell? ⟨b, off + 2, none⟩ = some (.bool x.h) ∧ W.cell? ⟨b, off + 3, none⟩ = some (.int .u64 x.i)
theorem GlAt.next (W W' : World) (b off : Nat) (x : Gl) (hb : b < W.heap.size) (h : Below W.heap.size W W') (hx : GlAt W b off x) : GlAt W' b off x := by
  obtain ⟨h0, h1, h2, h3⟩ := hx
  exact ⟨(cellNext hb h _).trans h0, (cellNext hb h _).trans h1, (cellNext hb h _).trans h2, (cellNext hb h _).trans h3⟩
/-- a row of globals -/
def Globs : World → Value → List Gl → Prop := RowOf 4 GlAt
theorem Globs.next {W W' : World} {v : Value} {l : List Gl} (h : Globs W v l) (hb : Below W.heap.size W W') : Globs W' v l := RowOf.next GlAt.next h hb
/-- may a function or a global have that name? -/
def nameB (s : ByteArray) : Bool := decide (1 ≤ (s.size : Int)) && decide ((s.size : Int) ≤ 16)
/-- has an instruction of that operation a name? -/
def hasB (o : Int) : Bool := o == 12 || o == 13 || o == 14
/-- what an instruction uses -/
def usesL (op a b : Int) (args : List Int) : List Int :=
  if 2 ≤ op ∧ op ≤ 11 then [a, b] else if op = 13 ∨ op = 16 then [a] else if op = 14 then args else []
def usesI (i : In) : List Int := usesL i.o i.a i.b i.l
/-- does it use A, and B? -/
def aB (o : Int) : Bool := (decide (2 ≤ o) && decide (o ≤ 11)) || o == 13 || o == 16
def bB (o : Int) : Bool := decide (2 ≤ o) && decide (o ≤ 11)
/-- is an instruction right among n values? -/
def instB (n : Int) (i : In) : Bool :=
  decide (1 ≤ i.o) && decide (i.o ≤ 16) && decide (i.l.length ≤ 6) && amongB n (usesI i) && (aB i.o || i.a == 0) && (bB i.o || i.b == 0) && (i.o == 1 || i.k == 0) && (i.o == 14 || decide (i.l = [])) &&
    (if hasB i.o then nameB i.s else i.s == ByteArray.empty)
/-- its instructions, the first one among n values -/
def instsB : Int → List In → Bool
  | _, [] => true
  | n, i :: l => instB n i && instsB (n + 1) l
/-- may a block go to one of these, with so many values, with these? -/
def goesB (all : List Bk) (n : Int) (tt : Int) (l : List Int) : Bool :=
  decide (0 ≤ tt) && decide (tt < all.length) && (match all[tt.toNat]? with | some b => (l.length : Int) == b.p | none => false) && amongB n l
/-- is a block's end right? -/
def endB (all : List Bk) (n : Int) (t : Tm) : Bool :=
  if t.k = 1 then goesB all n t.t t.l && t.a == 0 && t.e == 0 && decide (t.m = [])
  else if t.k = 2 then amongB n [t.a] && goesB all n t.t t.l && goesB all n t.e t.m
  else if t.k = 3 then amongB n [t.a] && t.t == 0 && decide (t.l = []) && t.e == 0 && decide (t.m = [])
  else false
def blockB (all : List Bk) (b : Bk) : Bool :=
  decide (0 ≤ b.p) && decide (b.p ≤ 6) && decide (b.i.length ≤ 32) && endB all (b.p + b.i.length) b.e && instsB b.p b.i
/-- is a function right? -/
def funcB (f : Fn) : Bool :=
  nameB f.s && (decide (1 ≤ f.b) && decide (f.b ≤ 3)) && (decide (0 ≤ f.p) && decide (f.p ≤ 6)) && decide (f.l.length ≤ 16) &&
    (match f.l with | [] => !(f.b == 1) | b :: _ => b.p == f.p && f.l.all (blockB f.l))
/-- its instructions' names -/
def insNames (l : List In) : List ByteArray := (l.filter fun i => hasB i.o).map (·.s)
def refsL (f : Fn) : List ByteArray := (f.l.map fun b => insNames b.i).flatten
def sameI (x y : In) : Bool := x.o == y.o && x.a == y.a && x.b == y.b && x.k == y.k && x.s == y.s && decide (x.l = y.l)
end Go.Proofs.Ytoglmdadpchhoaa
namespace Go.Proofs.Ytoglmdadpchhoaa
open Go.RowKit
def shlE (a b : Int) : Int := IntKind.u64.wrap (a * 2 ^ (b % 64).toNat)
def shrE (a b : Int) : Int := a / 2 ^ (b % 64).toNat
def lessE (a b : Int) : Int := if a < b then 1 else 0
def eqE (a b : Int) : Int := if bits BinOp.xor IntKind.u64 a b < 1 then 1 else 0
/-- what an operation gives -/
def reckE (o a b : Int) : Int :=
  if o = 2 then IntKind.u64.wrap (a + b)
  else if o = 3 then IntKind.u64.wrap (a + IntKind.u64.wrap (-b))
  else if o = 4 then IntKind.u64.wrap (a * b)
  else if o = 5 then bits BinOp.and IntKind.u64 a b
  else if o = 6 then bits BinOp.or IntKind.u64 a b
  else if o = 7 then bits BinOp.xor IntKind.u64 a b
  else if o = 8 then shlE a b
  else if o = 9 then shrE a b
  else if o = 10 then lessE a b
  else if o = 11 then eqE a b
  else 0
end Go.Proofs.Ytoglmdadpchhoaa
namespace Go.Proofs.Ytoglmdadpchhoaa
open Go.RowKit
theorem jba_beq (x y : ByteArray) : (x == y) = true ↔ x = y := by
  rw [beq_toListBytes, beq_iff_eq, ByteArray.toList_eq, ByteArray.toList_eq]
  constructor
  · intro h
    obtain ⟨x⟩ := x
    obtain ⟨y⟩ := y
    congr 1
    exact Array.toList_inj.1 h
  · rintro rfl; rfl
theorem jba_refl (x : ByteArray) : (x == x) = true := (jba_beq x x).2 rfl
/-- an instruction as a value -/
def inV (i : In) (v : Value) : Value := .agg #[.int .i64 i.o, .int .i64 i.a, .int .i64 i.b, .int .u64 i.k, .string i.s, v]
end Go.Proofs.Ytoglmdadpchhoaa
namespace Go.Proofs.Ytoglmdadpchhoaa
open Go.RowKit
/-- a module -/
structure Md where
  f : List Fn
  g : List Gl
def globB (g : Gl) : Bool := nameB g.s && (decide (1 ≤ g.b) && decide (g.b ≤ 3)) && (g.h || (g.i == 0 && !(g.b == 1)))
def aloneB (m : Md) : Bool := m.f.all funcB && m.g.all globB
def namesM (m : Md) : List ByteArray := m.f.map (·.s) ++ m.g.map (·.s)
def insF (f : Fn) : List In := (f.l.map (·.i)).flatten
def insM (m : Md) : List In := (m.f.map insF).flatten
/-- an instruction that names what there isn't -/
def noneI (m : Md) (i : In) : Bool := (i.o == 14 && !(m.f.any fun f => f.s == i.s)) || ((i.o == 12 || i.o == 13) && !(m.g.any fun g => g.s == i.s))
/-- an instruction that hands on another number of values than is asked for -/
def oddI (m : Md) (i : In) : Bool := i.o == 14 && (match m.f.find? (fun f => f.s == i.s) with | some f => !(f.p == i.l.length) | none => false)
def foundE (m : Md) : Int := if (insM m).any (noneI m) then 8 else if (insM m).any (oddI m) then 1 else 0
def checkE (m : Md) : Int := if 16 < m.f.length ∨ 16 < m.g.length then 4 else if aloneB m = false then 10 else if ¬ (namesM m).Nodup then 9 else foundE m
/-- an instruction, with how many values are ahead of it, and the slice of its values -/
structure It where
  n : Int
  i : In
  v : Value
def ItAt (W : World) (b off : Nat) (x : It) : Prop :=
  W.cell? ⟨b, off, none⟩ = some (.int .i64 x.i.o) ∧ W.cell? ⟨b, off + 1, none⟩ = some (.int .i64 x.i.a) ∧ W.cell? ⟨b, off + 2, none⟩ = some (.int .i64 x.i.b) ∧ W.cell? ⟨b, off + 3, none⟩ = some (.int .u64 x.i.k) ∧ W.cell? ⟨b, off + 4, none⟩ = some (.string x.i.s) ∧
    W.cell? ⟨b, off + 5, none⟩ = some x.v ∧ (∃ A cap, x.v = .slice A x.i.l.length cap) ∧ Ints W x.v x.i.l
theorem ItAt.next (W W' : World) (b off : Nat) (x : It) (hb : b < W.heap.size) (h : Below W.heap.size W W') (hx : ItAt W b off x) : ItAt W' b off x := by
  obtain ⟨h0, h1, h2, h3, h4, h5, h6, h7⟩ := hx
  exact ⟨(cellNext hb h _).trans h0, (cellNext hb h _).trans h1, (cellNext hb h _).trans h2, (cellNext hb h _).trans h3, (cellNext hb h _).trans h4, (cellNext hb h _).trans h5, h6, h7.next h⟩
def Its : World → Value → List It → Prop := RowOf 6 ItAt
theorem Its.next {W W' : World} {v : Value} {l : List It} (h : Its W v l) (hb : Below W.heap.size W W') : Its W' v l := RowOf.next ItAt.next h hb
theorem its_of {W : World} {v : Value} {l : List In} (p : Int) (h : Insts W v l) : ∃ t : List It, Its W v t ∧ t.map (·.i) = l ∧ ∀ (j : Nat) (hj : j < t.length), t[j].n = wrap64 (p + j) := by
  rcases h with ⟨rfl, h⟩ | ⟨h0, b, off, cap, rfl, h1, h2⟩
  · exact ⟨[], .inl ⟨rfl, h⟩, rfl, fun j hj => by simp at hj⟩
  · have hv : ∀ j, ∃ u : Value, ∀ (hj : j < l.length), W.cell? ⟨b, off + j * 6 + 5, none⟩ = some u ∧ (∃ A cap, u = .slice A l[j].l.length cap) ∧ Ints W u l[j].l := fun j => by
      by_cases hj : j < l.length
      · obtain ⟨_, _, _, _, _, A, c, h5, h6⟩ := h2 j hj
        exact ⟨_, fun _ => ⟨h5, ⟨A, c, rfl⟩, h6⟩⟩
      · exact ⟨.bool false, fun h => absurd h hj⟩
    obtain ⟨u, hu⟩ : ∃ u : Nat → Value, ∀ j, ∀ (hj : j < l.length), W.cell? ⟨b, off + j * 6 + 5, none⟩ = some (u j) ∧ (∃ A cap, u j = .slice A l[j].l.length cap) ∧ Ints W (u j) l[j].l := ⟨fun j => Classical.choose (hv j), fun j => Classical.choose_spec (hv j)⟩
    refine ⟨l.mapIdx (fun j i => ⟨wrap64 (p + j), i, u j⟩), .inr ⟨by simpa using h0, b, off, cap, by simp, h1, fun j hj => ?_⟩, ?_, fun j hj => by simp⟩
    · have hj' : j < l.length := by simpa using hj
      obtain ⟨c0, c1, c2, c3, c4, -⟩ := h2 j hj'
      obtain ⟨c5, c6, c7⟩ := hu j hj'
      rw [List.getElem_mapIdx]
      exact ⟨c0, c1, c2, c3, c4, c5, c6, c7⟩
    · apply List.ext_getElem
      · simp
      · intro j h1 h2
        simp
/-- the blocks' instructions, each as it is handed on -/
def BlkIts (W : World) (v : Value) (l : List Bk) (ts : List (List It)) : Prop :=
  Blocks W v l ∧ ts.length = l.length ∧ ∀ (k : Nat) (h : k < l.length) (h' : k < ts.length), ∃ b off cap A c, v = .slice (some ⟨b, off, none⟩) l.length cap ∧ b < W.heap.size ∧ BkAt W b (off + k * 8) l[k] ∧ W.cell? ⟨b, off + k * 8 + 1, none⟩ = some (.slice A l[k].i.length c) ∧
    Its W (.slice A l[k].i.length c) ts[k] ∧ ts[k].map (·.i) = l[k].i ∧ ∀ (j : Nat) (hj : j < ts[k].length), ts[k][j].n = wrap64 (l[k].p + j)
theorem blkIts_of {W : World} {v : Value} {l : List Bk} (h : Blocks W v l) : ∃ ts, BlkIts W v l ts := by
  have h' := h
  rcases h with ⟨rfl, h⟩ | ⟨h0, b, off, cap, rfl, h1, h2⟩
  · exact ⟨[], h', rfl, fun k hk _ => by simp at hk⟩
  · have hv : ∀ k, ∃ t : List It, ∀ (hk : k < l.length), ∃ A c, W.cell? ⟨b, off + k * 8 + 1, none⟩ = some (.slice A l[k].i.length c) ∧ Its W (.slice A l[k].i.length c) t ∧ t.map (·.i) = l[k].i ∧ ∀ (j : Nat) (hj : j < t.length), t[j].n = wrap64 (l[k].p + j) := fun k => by
      by_cases hk : k < l.length
      · obtain ⟨_, ⟨A, c, g1, g2⟩, _⟩ := h2 k hk
        obtain ⟨t, t1, t2, t3⟩ := its_of l[k].p g2
        exact ⟨t, fun _ => ⟨A, c, g1, t1, t2, t3⟩⟩
      · exact ⟨[], fun h => absurd h hk⟩
    obtain ⟨u, hu⟩ : ∃ u : Nat → List It, ∀ k, ∀ (hk : k < l.length), ∃ A c, W.cell? ⟨b, off + k * 8 + 1, none⟩ = some (.slice A l[k].i.length c) ∧ Its W (.slice A l[k].i.length c) (u k) ∧ (u k).map (·.i) = l[k].i ∧ ∀ (j : Nat) (hj : j < (u k).length), (u k)[j].n = wrap64 (l[k].p + j) := ⟨fun k => Classical.choose (hv k), fun k => Classical.choose_spec (hv k)⟩
    refine ⟨(List.range l.length).map u, h', by simp, fun k hk hk' => ?_⟩
    obtain ⟨A, c, g1, g2, g3, g4⟩ := hu k hk
    rw [List.getElem_map, List.getElem_range]
    exact ⟨b, off, cap, A, c, rfl, h1, h2 k hk, g1, g2, g3, g4⟩
theorem BlkIts.next {W W' : World} {v : Value} {l : List Bk} {ts : List (List It)} (h : BlkIts W v l ts) (hb : Below W.heap.size W W') : BlkIts W' v l ts := by
  refine ⟨h.1.next hb, h.2.1, fun k hk hk' => ?_⟩
  obtain ⟨b, off, cap, A, c, e, hbl, h1, h2, h3, h4⟩ := h.2.2 k hk hk'
  exact ⟨b, off, cap, A, c, e, Nat.lt_of_lt_of_le hbl hb.size, BkAt.next _ _ _ _ _ hbl hb h1, (cellNext hbl hb _).trans h2, h3.next hb, h4⟩
theorem BlkIts.ins {W : World} {v : Value} {l : List Bk} {ts : List (List It)} (h : BlkIts W v l ts) : ts.flatten.map (·.i) = (l.map (·.i)).flatten := by
  rw [List.map_flatten]
  congr 1
  apply List.ext_getElem
  · simpa using h.2.1
  · intro k h1 h2
    have hk : k < l.length := by simpa using h2
    have hk' : k < ts.length := by simpa using h1
    obtain ⟨_, _, _, _, _, _, _, _, _, _, e, _⟩ := h.2.2 k hk hk'
    simpa using e
theorem Its.all {W : World} {v : Value} {t : List It} (h : Its W v t) : ∀ x ∈ t, (∃ A cap, x.v = .slice A x.i.l.length cap) ∧ Ints W x.v x.i.l := by
  intro x hx
  obtain ⟨j, hj, rfl⟩ := List.getElem_of_mem hx
  rcases h with ⟨rfl, -⟩ | ⟨_, _, _, _, _, _, h⟩
  · simp at hj
  · exact (h j hj).2.2.2.2.2.2
theorem BlkIts.all {W : World} {v : Value} {l : List Bk} {ts : List (List It)} (h : BlkIts W v l ts) : ∀ x ∈ ts.flatten, (∃ A cap, x.v = .slice A x.i.l.length cap) ∧ Ints W x.v x.i.l := by
  intro x hx
  obtain ⟨t, ht, hxt⟩ := List.mem_flatten.1 hx
  obtain ⟨k, hk, rfl⟩ := List.getElem_of_mem ht
  obtain ⟨_, _, _, _, _, _, _, _, _, g, _⟩ := h.2.2 k (by rw [← h.2.1]; exact hk) hk
  exact g.all x hxt
end Go.Proofs.Ytoglmdadpchhoaa
namespace Go.Proofs.Ytoglmdadpchhoaa
open Go.RowKit
/-- two boxes of a call -/
theorem boxes2 (w : World) (cs ds : Array Value) (t : TypeId) : Below w.heap.size w ((w.alloc (.cells cs t)).alloc (.cells ds t)) := balloc (balloc (Below.refl _ w) _) _
end Go.Proofs.Ytoglmdadpchhoaa
namespace Go.Proofs.Ytoglmdadpchhoaa
open Go.ChangeShapes Go.WideShapes Go.ChangeAt Go.RowKit Go.Deep Go.Joins
section
variable {H : Type} {enc : TypeId × Value → H}
/-- a row that came in, opened: whatever its elements are -/
theorem open_row {α : Type} {t e : TypeId} {sz : Nat} (P : World → Nat → Nat → α → Prop) (ok : α → Prop) {W : World} {base : Nat} {spare : Nat → Bool} {held : Bool} {c : Value} {fuel : Nat} {y : DataW H × List MemPlace}
    (ht : Try.prog.underlying t = some (.slice e)) (hsz : Try.prog.cellsOf e = sz) (hpos : 0 < sz)
    (hel : ∀ (n b off : Nat) (cs : List Value) (y : DataW H × List MemPlace), (∀ j, j < sz → W.cell? ⟨b, off + j, none⟩ = cs[j]?) → cs.length = sz → DataW.trod enc Try.prog W base spare held n e cs = some y → ∃ x, ok x ∧ P W b off x)
    (h : DataW.trod enc Try.prog W base spare held fuel t [c] = some y) :
    ∃ (A : Option Addr) (cap : Nat) (l : List α), c = .slice A l.length cap ∧ RowOf sz P W c l ∧ (∀ x ∈ l, ok x) ∧ l.length ≤ cap ∧ cap ≤ maxLen := by
  rcases open_slice ht h with ⟨h1, _⟩ | ⟨a, len, cap, m, n, D, Pl, hcs, _, hl, hm, hmm, _, hat⟩
  · simp only [List.cons.injEq, and_true] at h1
    subst h1
    exact ⟨none, 0, [], rfl, .inl ⟨rfl, .inl rfl⟩, by simp, Nat.le_refl _, by unfold maxLen; omega⟩
  · simp only [List.cons.injEq, and_true] at hcs
    subst hcs
    have hlm : len ≤ m := by rw [hmm]; split <;> omega
    by_cases h0 : 0 < len
    · obtain ⟨b, off, spot⟩ := a
      have hspot : spot = none ∧ b < W.heap.size := by
        obtain ⟨cs', hc, ht⟩ := hat 0 (by omega)
        rw [hsz] at hc
        obtain ⟨_, hcl, hca⟩ := World.cells?_some hc
        have k0 := hca 0 hpos
        have hl0 : cs'[0]? = some (cs'[0]'(by omega)) := List.getElem?_eq_getElem (by omega)
        rw [hl0] at k0
        have hb := World.block_lt_of_cell? W _ k0
        refine ⟨by simpa [Addr.add] using World.cell?_spot k0, ?_⟩
        revert hb
        unfold Addr.add
        (repeat' split) <;> simp
      obtain ⟨rfl, hb⟩ := hspot
      have cells : ∀ i, i < len → ∃ x, ok x ∧ P W b (off + i * sz) x := fun i hi => by
        obtain ⟨cs', hc, ht⟩ := hat i (by omega)
        rw [hsz] at hc
        obtain ⟨_, hcl, hca⟩ := World.cells?_some hc
        refine hel n b (off + i * sz) cs' _ (fun j hj => ?_) hcl ht
        have k := hca j hj
        rwa [add_add, add_plain, ← Nat.add_assoc] at k
      obtain ⟨f, hf⟩ : ∃ f : Nat → α, ∀ i, i < len → ok (f i) ∧ P W b (off + i * sz) (f i) :=
        ⟨fun i => if hi : i < len then Classical.choose (cells i hi) else Classical.choose (cells 0 h0), fun i hi => by
          simp only [dif_pos hi]
          exact Classical.choose_spec (cells i hi)⟩
      refine ⟨some ⟨b, off, none⟩, cap, (List.range len).map f, by simp, .inr ⟨by simp; exact h0, b, off, cap, by simp, hb, fun i hi => ?_⟩, fun x hx => ?_, by simpa using hl, hm⟩
      · rw [List.getElem_map, List.getElem_range]
        exact (hf i (by simpa using hi)).2
      · obtain ⟨i, hi, rfl⟩ := List.mem_map.1 hx
        exact (hf i (List.mem_range.1 hi)).1
    · obtain rfl : len = 0 := by omega
      exact ⟨_, _, [], rfl, .inl ⟨rfl, .inr ⟨_, _, rfl⟩⟩, by simp, hl, hm⟩
end
end Go.Proofs.Ytoglmdadpchhoaa
namespace Go.Proofs.Ytoglmdadpchhoaa
open Go.RowKit Go.Shelf
/-- what lay below B0, and each block of a block or of an instruction, lies as it lay -/
structure KeepB (B0 : Nat) (W W' : World) : Prop where
  low : Below B0 W W'
  same : ∀ (k : Nat) (cs : Array Value) (t : TypeId) (f : Nat × Nat), (t = 67 ∨ t = 62) → W.heap[k]? = some (.cells cs t f) → W'.heap[k]? = some (.cells cs t f)
theorem KeepB.trans {B0 : Nat} {A B C : World} (h : KeepB B0 A B) (k : KeepB B0 B C) : KeepB B0 A C := ⟨h.low.trans k.low, fun i cs t f ht hi => k.same i cs t f ht (h.same i cs t f ht hi)⟩
theorem KeepB.below {B0 : Nat} {W W' : World} (hB : B0 ≤ W.heap.size) (h : Below W.heap.size W W') : KeepB B0 W W' := ⟨h.mono hB, fun i _ _ _ _ hi => (h.block i (Array.getElem?_eq_some_iff.1 hi).1).trans hi⟩
theorem below_grown {B0 : Nat} {W W' : World} {row : Option Nat} (h : W.grownBy W' row) (hB : B0 ≤ W.heap.size) (hr : ∀ r, row = some r → B0 ≤ r) : Below B0 W W' :=
  ⟨h.os, h.tape, h.output, h.size, fun b hb => h.block b (Nat.lt_of_lt_of_le hb hB) (fun e => by have := hr b e.symm; omega)⟩
theorem KeepB.grown {B0 : Nat} {W W' : World} {row : Option Nat} (h : W.grownBy W' row) (hB : B0 ≤ W.heap.size) (hr : ∀ r, row = some r → B0 ≤ r ∧ ∀ cs t f, (t = 67 ∨ t = 62) → W.heap[r]? ≠ some (.cells cs t f)) : KeepB B0 W W' :=
  ⟨below_grown h hB (fun r e => (hr r e).1), fun i cs t f ht hi => (h.block i (Array.getElem?_eq_some_iff.1 hi).1 (fun e => (hr i e.symm).2 cs t f ht hi)).trans hi⟩
theorem keepB_b {B0 : Nat} {w : World} (hB : B0 ≤ w.heap.size) (W : World) (l : Nat) (o o' : Obj) (hl : w.heap.size ≤ l) (h : W.heap[l]? = some o) (hc : o.isCells = false) (_ : o.isWalk = false) : KeepB B0 W (W.putObj l o') :=
  KeepB.grown (grownBy_putObj' W l o') (by have := (Array.getElem?_eq_some_iff.1 h).1; omega) (fun r e => by cases e; exact ⟨by omega, fun cs t f _ hr => by rw [h] at hr; cases hr; cases hc⟩)
theorem insts_in (n : Nat) (s : ByteArray) (b p : Int) (v : Value) (w : World) :
    CallsIn Fence.wide n Try.prog 82 #[.agg #[.string s, .int .i64 b, .int .i64 p, v]] w fun e w' => e = .returned (.func (.func 99) #[] #[.pointer (some ⟨w.heap.size, 0, none⟩)]) ∧ w' = w.alloc (.cells #[.string s, .int .i64 b, .int .i64 p, v] 50) := by
  refine callsIn_of_wp Try.func82 rfl trivial ?_ rfl
  simp only [Try.ntmps82, List.size_toArray, List.length_cons, List.length_nil, Nat.reduceAdd, Nat.reduceSub, Array.replicate_succ, Array.replicate_zero, List.push_toArray, List.append_toArray, List.nil_append, List.cons_append]
  gi_wp2
  go_ret
  exact ⟨rfl, by simp⟩
/-- what is handed out -/
def encI (x : It) : Array Value := #[.int .i64 x.n, inV x.i x.v]
set_option maxRecDepth 100000 in
set_option maxHeartbeats 4000000 in
theorem its_in (n : Nat) (hn : 1 ≤ n) (l B na ca : Nat) (C : Option Addr) (bl : List Bk) (ts : List (List It)) (Q : It → Prop) (hQ : ∀ x ∈ ts.flatten, Q x)
    (w0 : World) (hna : bl.length = na) (hn9 : na ≤ 9223372036854775807) (hi9 : ∀ b ∈ bl, b.i.length ≤ 9223372036854775807) (hD : BlkIts w0 (.slice C na ca) bl ts)
    (J Jx : List {x // Q x} → World → Prop) (W : World) (hb0 : Below w0.heap.size w0 W) (hJ : AbidesFrom W.heap.size J)
    (hY : ∀ pre x W1, J pre W1 → pre.length < ts.flatten.length → YieldAt Fence.wide (n - 1) Try.prog l (encI x.1) W1 fun e W' =>
      (e = .returned (.bool true) ∧ J (pre ++ [x]) W' ∧ KeepB w0.heap.size W1 W') ∨ (e = .returned (.bool false) ∧ Jx (pre ++ [x]) W'))
    (hB : W.cell? ⟨B, 3, none⟩ = some (.slice C na ca)) (h0 : J [] W) :
    CallsIn Fence.wide n Try.prog 99 #[.func (.yield l) #[] #[], .pointer (some ⟨B, 0, none⟩)] W fun e W' => (∃ v, e = .returned v) ∧
      ((∃ ys, ys.map Subtype.val = ts.flatten ∧ J ys W') ∨ (∃ pre, (pre.map Subtype.val) <+: ts.flatten ∧ Jx pre W')) := by
  refine callsIn_of_wp Try.func99 rfl trivial ?_ rfl
  simp only [Try.ntmps99, List.size_toArray, List.length_cons, List.length_nil, Nat.reduceAdd, Nat.reduceSub, Array.replicate_succ, Array.replicate_zero, List.push_toArray, List.append_toArray, List.nil_append, List.cons_append]
  have HY := Lib.hid hY
  have HJ := Lib.hid hJ
  have H0 := Lib.hid h0
  have HQ := Lib.hid hQ
  have HD := Lib.hid hD
  have HB0 := Lib.hid hb0
  have HNA := Lib.hid (show bl.length ≤ na ∧ na ≤ bl.length by omega)
  have HI9 := Lib.hid hi9
  have n9 : (na : Int) ≤ 9223372036854775807 := by omega
  clear hY hJ h0 hQ hD hb0 hna hi9 hn9
  gi_wp2
  clear hB
  gi_loopw [10] (fun p wr => ∃ (k : Nat) (pre : List {x // Q x}), k ≤ na ∧ p = .int .i64 k ∧ pre.map Subtype.val = (ts.take k).flatten ∧ J pre wr ∧ Below w0.heap.size w0 wr ∧ W.heap.size ≤ wr.heap.size)
    (fun p _ => na - (intOf p).toNat)
  case atStart => exact ⟨0, [], Nat.zero_le _, rfl, by simp, H0.out, HB0.out, Nat.le_refl _⟩
  case round =>
    obtain ⟨k, pre, hk, rfl, he, hj, hb, hsz⟩ := hrel
    have HE := Lib.hid he
    have HJP := Lib.hid hj
    have HB := Lib.hid hb
    have HSZ := Lib.hid hsz
    clear he hj hb hsz
    by_cases hlt : k < na
    · have hkl : k < bl.length := by have := HNA.out; omega
      have hkt : k < ts.length := by rw [HD.out.2.1]; exact hkl
      obtain ⟨b, off, cap, A, c, hv, hbl, hbk, hci, hits, hmap, hnum⟩ := HD.out.2.2 k hkl hkt
      have hv' := (Value.slice.inj hv).1
      subst hv'
      obtain ⟨c0, -, c2, c3, c4, ⟨A5, z5, c5, -⟩, c6, A7, z7, c7, -⟩ := BkAt.next _ _ _ _ _ hbl HB.out hbk
      have c1 := (cellNext hbl HB.out _).trans hci
      have hk0 : (0 : Int) ≤ (k : Int) := Int.natCast_nonneg _
      have hk1 : (k : Int) < (na : Int) := by omega
      have HLT := Lib.hid hlt
      obtain ⟨m, hm⟩ : ∃ m, bl[k].i.length = m := ⟨_, rfl⟩
      have HI := Lib.hid (show m ≤ 9223372036854775807 from hm ▸ HI9.out bl[k] (List.getElem_mem hkl))
      have HM := Lib.hid (show ts[k].length ≤ m ∧ m ≤ ts[k].length by rw [← hm, ← hmap, List.length_map]; omega)
      have HTK := Lib.hid (show (ts.take (k + 1)).flatten = (ts.take k).flatten ++ ts[k] by rw [List.take_succ_eq_append_getElem hkt, List.flatten_append]; simp)
      have HTF := Lib.hid (show (ts.take (k + 1)).flatten <+: ts.flatten from ⟨(ts.drop (k + 1)).flatten, by rw [← List.flatten_append, List.take_append_drop]⟩)
      have HMEM := Lib.hid (show ∀ x ∈ ts[k], x ∈ ts.flatten from fun x hx => List.mem_flatten.2 ⟨_, List.getElem_mem hkt, hx⟩)
      obtain ⟨t, ht⟩ : ∃ t, ts[k] = t := ⟨_, rfl⟩
      rw [hm] at hits c1
      rw [ht] at hits hnum HM HTK HMEM
      have HITS := Lib.hid hits
      have m9 : (m : Int) ≤ 9223372036854775807 := by have := HI.out; omega
      obtain ⟨P, hP⟩ : ∃ P, bl[k].p = P := ⟨_, rfl⟩
      rw [hP] at hnum c0
      have HNUM := Lib.hid hnum
      obtain ⟨K1, hK1⟩ : ∃ K1, bl[k].e.k = K1 := ⟨_, rfl⟩
      obtain ⟨K2, hK2⟩ : ∃ K1, bl[k].e.a = K1 := ⟨_, rfl⟩
      obtain ⟨K3, hK3⟩ : ∃ K1, bl[k].e.t = K1 := ⟨_, rfl⟩
      obtain ⟨K4, hK4⟩ : ∃ K1, bl[k].e.l.length = K1 := ⟨_, rfl⟩
      obtain ⟨K5, hK5⟩ : ∃ K1, bl[k].e.e = K1 := ⟨_, rfl⟩
      obtain ⟨K6, hK6⟩ : ∃ K1, bl[k].e.m.length = K1 := ⟨_, rfl⟩
      rw [hK1] at c2
      rw [hK2] at c3
      rw [hK3] at c4
      rw [hK4] at c5
      rw [hK5] at c6
      rw [hK6] at c7
      have HIT9 := Lib.hid (show k < ts.length from hkt)
      clear hits hnum hm hP hK1 hK2 hK3 hK4 hK5 hK6 hmap hci hbk hkl hkt ht
      gi_wp2
      have HBK := Lib.hid (heap_alloc_new wr (.cells #[.int .i64 P, .slice A m c, .int .i64 K1, .int .i64 K2, .int .i64 K3, .slice A5 K4 z5, .int .i64 K5, .slice A7 K6 z7] 67))
      have HJ1 := Lib.hid (fun s W1 W' (h1 : J s W1) (hg : W1.grownBy W' none) => HJ.out s W1 W' none h1 hg (fun r e => by cases e))
      have HJPx := Lib.hid (HJ1.out _ _ _ HJP.out (World.grownBy_alloc wr (.cells #[.int .i64 P, .slice A m c, .int .i64 K1, .int .i64 K2, .int .i64 K3, .slice A5 K4 z5, .int .i64 K5, .slice A7 K6 z7] 67) none))
      have HBx := Lib.hid (HB.out.trans ((balloc (Below.refl _ wr) (.cells #[.int .i64 P, .slice A m c, .int .i64 K1, .int .i64 K2, .int .i64 K3, .slice A5 K4 z5, .int .i64 K5, .slice A7 K6 z7] 67)).mono HB.out.size))
      have HSZx := Lib.hid (show W.heap.size ≤ (wr.alloc (.cells #[.int .i64 P, .slice A m c, .int .i64 K1, .int .i64 K2, .int .i64 K3, .slice A5 K4 z5, .int .i64 K5, .slice A7 K6 z7] 67)).heap.size by have := HSZ.out; simp; omega)
      generalize wr.alloc (.cells #[.int .i64 P, .slice A m c, .int .i64 K1, .int .i64 K2, .int .i64 K3, .slice A5 K4 z5, .int .i64 K5, .slice A7 K6 z7] 67) = W1 at *
      generalize wr.heap.size = BB at *
      clear c0 c1 c2 c3 c4 c5 c6 c7
      gi_loopw [17] (fun p wi => ∃ (j : Nat) (pr : List {x // Q x}), j ≤ m ∧ p = .int .i64 j ∧ pr.map Subtype.val = (ts.take k).flatten ++ t.take j ∧ J pr wi ∧ Below w0.heap.size w0 wi ∧ W.heap.size ≤ wi.heap.size ∧ wi.heap[BB]? = some (.cells #[.int .i64 P, .slice A m c, .int .i64 K1, .int .i64 K2, .int .i64 K3, .slice A5 K4 z5, .int .i64 K5, .slice A7 K6 z7] 67 (0, 0)))
        (fun p _ => m - (intOf p).toNat)
      case atStart => exact ⟨0, pre, Nat.zero_le _, rfl, by rw [HE.out]; simp, HJPx.out, HBx.out, HSZx.out, HBK.out⟩
      case round =>
        obtain ⟨j, pr, hj, rfl, he, hjj, hb, hsz, hbk⟩ := hrel
        have HE2 := Lib.hid he
        have HJ2 := Lib.hid hjj
        have HB2 := Lib.hid hb
        have HSZ2 := Lib.hid hsz
        have HBK2 := Lib.hid hbk
        clear he hjj hb hsz hbk
        by_cases hlj : j < m
        · have hjt : j < t.length := by have := HM.out; omega
          have hi := HITS.out
          obtain ⟨b2, off2, hA, hb2, hit⟩ := RowOf.at_ hi hjt
          subst hA
          obtain ⟨g0, g1, g2, g3, g4, g5, ⟨AA, cc, hvv⟩, -⟩ := ItAt.next _ _ _ _ _ hb2 HB2.out hit
          obtain ⟨x, hx⟩ : ∃ x : {x // Q x}, x = ⟨t[j], HQ.out _ (HMEM.out _ (List.getElem_mem hjt))⟩ := ⟨_, rfl⟩
          have HX := Lib.hid (show encI x.1 = #[.int .i64 (wrap64 (P + j)), .agg #[.int .i64 t[j].i.o, .int .i64 t[j].i.a, .int .i64 t[j].i.b, .int .u64 t[j].i.k, .string t[j].i.s, t[j].v]] by rw [hx]; unfold encI inV; rw [HNUM.out j hjt])
          have HE3 := Lib.hid (show (pr ++ [x]).map Subtype.val = (ts.take k).flatten ++ t.take (j + 1) by
            rw [List.map_append, HE2.out, List.take_succ_eq_append_getElem hjt, hx, List.append_assoc]
            rfl)
          have hlen : pr.length < ts.flatten.length := by
            have h1 := congrArg List.length HE3.out
            have h2 := HTF.out.length_le
            rw [HTK.out] at h2
            simp only [List.length_map, List.length_append, List.length_take, List.length_cons, List.length_nil] at h1 h2
            omega
          have HPF := Lib.hid (show (pr ++ [x]).map Subtype.val <+: ts.flatten by
            rw [HE3.out]
            refine List.IsPrefix.trans ?_ HTF.out
            rw [HTK.out]
            exact ⟨t.drop (j + 1), by rw [List.append_assoc, List.take_append_drop]⟩)
          obtain ⟨X0, h0⟩ : ∃ X, t[j].i.o = X := ⟨_, rfl⟩
          obtain ⟨X1, h1⟩ : ∃ X, t[j].i.a = X := ⟨_, rfl⟩
          obtain ⟨X2, h2⟩ : ∃ X, t[j].i.b = X := ⟨_, rfl⟩
          obtain ⟨X3, h3⟩ : ∃ X, t[j].i.k = X := ⟨_, rfl⟩
          obtain ⟨X4, h4⟩ : ∃ X, t[j].i.s = X := ⟨_, rfl⟩
          obtain ⟨nn, hnn⟩ : ∃ X, t[j].i.l.length = X := ⟨_, rfl⟩
          rw [hnn] at hvv
          rw [h0, h1, h2, h3, h4, hvv] at HX
          rw [h0] at g0
          rw [h1] at g1
          rw [h2] at g2
          rw [h3] at g3
          rw [h4] at g4
          rw [hvv] at g5
          have hy0 := HY.out pr x (wr.alloc (.cells #[.int .i64 X0, .int .i64 X1, .int .i64 X2, .int .u64 X3, .string X4, .slice AA nn cc] 62)) (HJ1.out _ _ _ HJ2.out (World.grownBy_alloc _ _ _)) hlen
          rw [HX.out] at hy0
          obtain ⟨fn, tmps, assign, body, hy, hR⟩ := hy0
          have HR := Lib.hid hR
          have i0 : (0 : Int) ≤ (j : Int) := Int.natCast_nonneg _
          have i1 : (j : Int) < (m : Int) := by omega
          have HLJ := Lib.hid hlj
          have hin := balloc (Below.refl _ wr) (.cells #[.int .i64 X0, .int .i64 X1, .int .i64 X2, .int .u64 X3, .string X4, .slice AA nn cc] 62)
          have hbk2 := (hin.block BB (Array.getElem?_eq_some_iff.1 HBK2.out).1).trans HBK2.out
          have q0 := Lib.cell_of_heap hbk2 0
          have hne : BB ≠ wr.heap.size := Nat.ne_of_lt (Array.getElem?_eq_some_iff.1 HBK2.out).1
          simp only [List.getElem?_toArray, List.getElem?_cons_zero] at q0
          clear hin hbk2 hR hlen h0 h1 h2 h3 h4 hnn hvv hx hi hit hlj hjt
          gi_wp2
          refine HR.out.mono ?_
          rintro e W3 (⟨rfl, hJ3, hk3⟩ | ⟨rfl, hJx3⟩)
          · have hin := balloc (Below.refl _ wr) (.cells #[.int .i64 X0, .int .i64 X1, .int .i64 X2, .int .u64 X3, .string X4, .slice AA nn cc] 62)
            have HBK3 := Lib.hid (hk3.same BB _ _ _ (.inl rfl) ((hin.block BB (Array.getElem?_eq_some_iff.1 HBK2.out).1).trans HBK2.out))
            have HJ3 := Lib.hid hJ3
            have HB3 := Lib.hid ((HB2.out.trans (hin.mono HB2.out.size)).trans hk3.low)
            have HSZ3 := Lib.hid (show W.heap.size ≤ W3.heap.size from by
              have h1 := HSZ2.out
              have h2 := hk3.low.size
              simp at h2
              omega)
            clear hJ3 hk3 hin
            gi_wp2
            go_roundw
            case rel => exact ⟨j + 1, pr ++ [x], HLJ.out, by go_num, HE3.out, HJ3.out, HB3.out, HSZ3.out, HBK3.out⟩
            case measure => have := HLJ.out; simp [intOf]; omega
          · gi_wp2
            refine bodyPost_ret (results_none rfl _ _ _) rfl ?_
            exact ⟨⟨_, rfl⟩, .inr ⟨pr ++ [x], HPF.out, hJx3⟩⟩
        · have hd : decide ((j : Int) < (m : Int)) = false := by simp; omega
          have HE4 := Lib.hid (show pr.map Subtype.val = (ts.take (k + 1)).flatten by
            rw [HE2.out, HTK.out, List.take_of_length_le (l := t) (i := j) (by have := HM.out; omega)])
          gi_wp2
          go_roundw
          case rel => exact ⟨k + 1, pr, HLT.out, by go_num, HE4.out, HJ2.out, HB2.out, HSZ2.out⟩
          case measure => have := HLT.out; simp [intOf]; omega
    · have hd : decide ((k : Int) < (na : Int)) = false := by simp; omega
      gi_wp2
      go_end0
      exact ⟨⟨_, rfl⟩, .inl ⟨pre, by have h := HE.out; rw [List.take_of_length_le (by have := HD.out.2.1; have := HNA.out; omega)] at h; exact h, HJP.out⟩⟩
/-- what insts hands back, for a loop over it -/
theorem its_stops (n : Nat) (hn : 1 ≤ n) (B na ca : Nat) (C : Option Addr) (bl : List Bk) (ts : List (List It)) (Q : It → Prop) (hQ : ∀ x ∈ ts.flatten, Q x)
    (w0 w : World) (hna : bl.length = na) (hn9 : na ≤ 9223372036854775807) (hi9 : ∀ b ∈ bl, b.i.length ≤ 9223372036854775807) (hD : BlkIts w0 (.slice C na ca) bl ts)
    (hb0 : Below w0.heap.size w0 w) (hB : w.cell? ⟨B, 3, none⟩ = some (.slice C na ca)) :
    SeqStopsK Fence.wide n Try.prog 99 #[.pointer (some ⟨B, 0, none⟩)] (fun x : {x // Q x} => encI x.1) (KeepB w0.heap.size)
      (fun ys => ys.map Subtype.val = ts.flatten) (fun pre => (pre.map Subtype.val) <+: ts.flatten) ts.flatten.length w := fun l J Jx W hW hJ _ hY h0 =>
  its_in n hn l B na ca C bl ts Q hQ w0 hna hn9 hi9 hD J Jx W (hb0.trans (hW.mono hb0.size)) hJ hY ((hW.cell (p := ⟨B, 3, none⟩) (World.block_lt_of_cell? w _ hB)).trans hB) h0
end Go.Proofs.Ytoglmdadpchhoaa
namespace Go.Proofs.Ytoglmdadpchhoaa
open Go.RowKit
def icells (i : In) (v : Value) : Array Value := #[.int .i64 i.o, .int .i64 i.a, .int .i64 i.b, .int .u64 i.k, .string i.s, v]
/-- an instruction in a block of its own -/
def InBox (W : World) (B : Nat) (i : In) (v : Value) : Prop := Whole W B 62 (icells i v)
theorem InBox.new (W : World) (i : In) (v : Value) : InBox (W.alloc (.cells (icells i v) 62)) W.heap.size i v := heap_alloc_new W _
theorem InBox.next {W W' : World} {B : Nat} {i : In} {v : Value} (h : InBox W B i v) (hb : Below W.heap.size W W') : InBox W' B i v := (hb.block B h.lt).trans h
theorem InBox.cells {W : World} {B : Nat} {i : In} {v : Value} (h : InBox W B i v) : W.cell? ⟨B, 0, none⟩ = some (.int .i64 i.o) ∧ W.cell? ⟨B, 1, none⟩ = some (.int .i64 i.a) ∧ W.cell? ⟨B, 2, none⟩ = some (.int .i64 i.b) ∧ W.cell? ⟨B, 3, none⟩ = some (.int .u64 i.k) ∧ W.cell? ⟨B, 4, none⟩ = some (.string i.s) ∧ W.cell? ⟨B, 5, none⟩ = some v :=
  ⟨Whole.cell h 0, Whole.cell h 1, Whole.cell h 2, Whole.cell h 3, Whole.cell h 4, Whole.cell h 5⟩
theorem InBox.free {W : World} {B : Nat} {i : In} {v : Value} (h : InBox W B i v) (j : Nat) : W.frozen? ⟨B, j, none⟩ = false := Whole.free h j
theorem InBox.other {W : World} {B : Nat} {i : In} {v : Value} (h : InBox W B i v) (p : Addr) (u : Value) (hp : B ≠ p.block) : InBox (W.setCell p u) B i v := (Below.heap_setCell W p u B hp).trans h
theorem InBox.row {W : World} {B : Nat} {k : In} {v : Value} (h : InBox W B k v) (k' : In) (v' : Value) : InBox (W.setRow B (icells k' v')) B k' v' := by
  unfold InBox Whole at h ⊢
  simp [World.setRow, Array.getElem?_modify, h]
theorem OwnsI.put {W : World} {base b i : Nat} {v u : Value} {l : List Int} (h : OwnsI W base v l) (hb : b < base) : OwnsI (W.setCell ⟨b, i, none⟩ u) base v l := by
  refine World.ownsRow.kept (row := some b) (show W.ownsRow base 3 1 v l.length (intRow l) from h) ⟨rfl, rfl, rfl, by simp [World.setCell], fun k _ hk => Below.heap_setCell _ _ _ _ (fun e => hk (by simp [e]))⟩ ?_
  rcases h.2 with ⟨rfl, _⟩ | ⟨g, cap, cur, rfl, hg, _⟩
  · exact .inl rfl
  · refine .inr (fun e => ?_)
    have : g = b := Option.some.inj e
    omega
theorem OwnsI.row {W : World} {base b : Nat} {v : Value} {l : List Int} {cs : Array Value} (h : OwnsI W base v l) (hb : b < base) : OwnsI (W.setRow b cs) base v l := by
  refine World.ownsRow.kept (row := some b) (show W.ownsRow base 3 1 v l.length (intRow l) from h) ⟨rfl, rfl, rfl, by simp [World.setRow], fun k _ hk => by simp [World.setRow, Array.getElem?_modify, show ¬ b = k from fun e => hk (by rw [e])]⟩ ?_
  rcases h.2 with ⟨rfl, _⟩ | ⟨g, cap, cur, rfl, hg, _⟩
  · exact .inl rfl
  · refine .inr (fun e => ?_)
    have : g = b := Option.some.inj e
    omega
theorem OwnsI.above {W : World} {base n c ub uo : Nat} {l : List Int} (h : OwnsI W base (.slice (some ⟨ub, uo, none⟩) n c) l) (hl : 0 < l.length) : base ≤ ub := by
  have h' : W.ownsRow base 3 1 _ l.length (intRow l) := h
  obtain ⟨g, cap, e, hg, _⟩ := h'.form hl
  cases e
  exact hg
end Go.Proofs.Ytoglmdadpchhoaa
