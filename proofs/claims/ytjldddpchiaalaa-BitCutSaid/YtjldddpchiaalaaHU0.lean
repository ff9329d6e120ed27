/- What the texts of package resolve stand on, of the packages ir and pick (part 1). -/
import Derived.Test.YtjldddpchiaalaaProg
import Derived.Test.YtjldddpchiaalaaRows
import Derived.Below
import Derived.BigQuiet
import Derived.CallsIn
import Derived.Deep.AppendLies
import Derived.Deep.AppendSrc
import Derived.Deep.Cut
import Derived.Deep.CutRange
import Derived.Deep.DeepHandedRow
import Derived.Deep.Fields
import Derived.Deep.QuietTactic
import Derived.Deep.RegionHeld
import Derived.Deep.RegionHeld3
import Derived.Deep.RegionWith
import Derived.Deep.Slices
import Derived.IntWalk
import Derived.Laws.AppendOwnNone
import Derived.Laws.Bits64b
import Derived.Laws.BitsAllLaws
import Derived.Laws.BytesArg
import Derived.Laws.Concat
import Derived.Laws.OwnMore
import Derived.Laws.ResultCell
import Derived.Laws.Rows
import Derived.Laws.Shifts
import Derived.Lib.FrozenHead
import Derived.Lib.Hide
import Derived.Lib.LaidTab
import Derived.Lib.OthersKept
import Derived.Lib.SmallJoins
import Derived.Lib.UnsafeStr
import Derived.LoopIn
import Derived.LoopNIn
import Derived.LoopTactic
import Derived.Maps.AppendAt
import Derived.Maps.Own
import Derived.Maps.OwnIn
import Derived.Maps.OwnSet
import Derived.Maps.Views
import Derived.OpenShut
import Derived.OrdersHeld
import Derived.OrdersIn
import Derived.Outline
import Derived.OwnWalk
import Derived.OwnWalkIn
import Derived.ProofKit
import Derived.RangeFuncBound
import Derived.RangeFuncBox
import Derived.RangeFuncCalls
import Derived.RangeFuncLeaves
import Derived.RangeFuncNested
import Derived.RegionTactic
import Derived.Shelf.Abstract
import Derived.Shelf.RegionOpen
import Derived.Shelf.RegionOpenPlain
import Derived.Shelf.Strings.BuilderK
import Derived.ShutString
import Derived.SizedLaws
import Derived.Sort.BigQuietIn
import Derived.StringKeys
import Derived.TacticsIn
import Derived.TacticsInMore
import Derived.WalkKit
import Derived.WalkLawsBesides
import Derived.WalkSpells
namespace Go.Proofs.Ytjldddpchiaalaa.M
/-- a page: its place, what may be done with it, its bytes -/
structure Pg where
  a : Int
  p : Int
  d : ByteArray
def okPerm (p : Int) : Bool := decide (0 ≤ p ∧ p ≤ 7)
def okPg (x : Pg) : Bool := decide (x.a % 256 = 0) && (okPerm x.p && decide (x.d.size = 256))
/-- right memory -/
structure Right (m : List Pg) : Prop where
  len : m.length ≤ 64
  ok : ∀ x ∈ m, okPg x = true
  up : m.Pairwise (fun x y => x.a < y.a)
  ge : ∀ x ∈ m, 0 ≤ x.a
  le : ∀ x ∈ m, x.a ≤ 18446744073709551615
theorem Right.size {m : List Pg} (h : Right m) {i : Nat} (hi : i < m.length) : m[i].d.size = 256 := by
  have := h.ok _ (List.getElem_mem hi)
  simp [okPg] at this; exact this.2.2
/-- how many pages stand below x -/
def low (m : List Pg) (x : Int) : Nat := m.countP (fun q => decide (q.a < x))
/-- is there one at x? -/
def there (m : List Pg) (x : Int) : Bool := m.any (fun q => q.a == x)
/-- a row of places in one page -/
structure Str where
  pg : Int
  f : Int
  n : Int
/-- n places from a on, page by page -/
def strs (a n : Int) : List Str :=
  if _h : n ≤ 0 then [] else
    ⟨a - a % 256, a % 256, min n (256 - a % 256)⟩ :: strs (a + min n (256 - a % 256)) (n - min n (256 - a % 256))
termination_by n.toNat
decreasing_by omega
/-- what a row is, wherever it came -/
structure Str.Ok (s : Str) : Prop where
  f0 : 0 ≤ s.f
  n1 : 1 ≤ s.n
  fn : s.f + s.n ≤ 256
  pg0 : 0 ≤ s.pg
  pg1 : s.pg ≤ 18446744073709551360
  md : s.pg % 256 = 0
end Go.Proofs.Ytjldddpchiaalaa.M
namespace Go.Proofs.Ytjldddpchiaalaa.M
/-- the bytes of the page at x -/
def dataAt (m : List Pg) (x : Int) : ByteArray := (m[low m x]?.map Pg.d).getD .empty
/-- the byte at a place -/
def byteAt (m : List Pg) (t : Int) : UInt8 := (dataAt m (t - t % 256)).data.toList.getD (t % 256).toNat 0
/-- n bytes from a on -/
def bytesOf (m : List Pg) (a : Int) : Nat → List UInt8
  | 0 => []
  | n + 1 => byteAt m a :: bytesOf m (a + 1) n
end Go.Proofs.Ytjldddpchiaalaa.M
namespace Go.Proofs.Ytjldddpchiaalaa
open Go.RowKit
theorem ret_bool {a b : Bool} (h : a = b) : Ending.returned (.bool a) = .returned (.bool b) := by rw [h]
theorem bthen {w W w' : World} (h : Below w.heap.size w W) (hb : Below W.heap.size W w') : Below w.heap.size w w' := h.trans (hb.mono h.size)
theorem balloc {w W : World} (h : Below w.heap.size w W) (o : Obj) : Below w.heap.size w (W.alloc o) := h.alloc h.size o
end Go.Proofs.Ytjldddpchiaalaa
namespace Go.Proofs.Ytjldddpchiaalaa
open Go.RowKit
theorem bcell {W w1 : World} (hb : Below W.heap.size W w1) : (∀ b o, b < W.heap.size → w1.cell? ⟨b, o, none⟩ = W.cell? ⟨b, o, none⟩) ∧ (∀ b o, b < W.heap.size → w1.frozen? ⟨b, o, none⟩ = W.frozen? ⟨b, o, none⟩) :=
  ⟨fun b o h => hb.cell (p := ⟨b, o, none⟩) h, fun b o h => hb.frozen (p := ⟨b, o, none⟩) h⟩
/-- pages that lie from a place on -/
def PagesIn (W : World) (b off : Nat) (m : List M.Pg) : Prop :=
  b < W.heap.size ∧ ∀ (i : Nat) (h : i < m.length), W.cell? ⟨b, off + i * 3, none⟩ = some (.int .u64 m[i].a) ∧ W.cell? ⟨b, off + i * 3 + 1, none⟩ = some (.int .i64 m[i].p) ∧ W.cell? ⟨b, off + i * 3 + 2, none⟩ = some (.string m[i].d)
theorem PagesIn.next {W W' : World} {b off : Nat} {m : List M.Pg} (h : PagesIn W b off m) (hb : Below W.heap.size W W') : PagesIn W' b off m := by
  refine ⟨Nat.lt_of_lt_of_le h.1 hb.size, fun i hi => ?_⟩
  obtain ⟨h0, h1, h2⟩ := h.2 i hi
  have hc := (bcell hb).1
  exact ⟨(hc _ _ h.1).trans h0, (hc _ _ h.1).trans h1, (hc _ _ h.1).trans h2⟩
/-- a slice of pages -/
def Pages (W : World) (v : Value) (m : List M.Pg) : Prop :=
  (m = [] ∧ (v = .slice none 0 0 ∨ ∃ a cap, v = .slice (some a) 0 cap)) ∨ (0 < m.length ∧ ∃ b off cap, v = .slice (some ⟨b, off, none⟩) m.length cap ∧ PagesIn W b off m)
theorem Pages.next {W W' : World} {v : Value} {m : List M.Pg} (h : Pages W v m) (hb : Below W.heap.size W W') : Pages W' v m := by
  rcases h with h | ⟨h1, b, off, cap, rfl, h2⟩
  · exact .inl h
  · exact .inr ⟨h1, b, off, cap, rfl, h2.next hb⟩
theorem Pages.slice {W : World} {v : Value} {m : List M.Pg} (h : Pages W v m) : ∃ A cap, v = .slice A m.length cap := by
  rcases h with ⟨rfl, rfl | ⟨a, cap, rfl⟩⟩ | ⟨_, b, off, cap, rfl, _⟩ <;> exact ⟨_, _, rfl⟩
end Go.Proofs.Ytjldddpchiaalaa
namespace Go.Proofs.Ytjldddpchiaalaa
open Go.RowKit
/-- a world in which all that lay in w lies as it lay -/
structure Past (w : World) where
  W : World
  h : Below w.heap.size w W
instance (w : World) : Inhabited (Past w) := ⟨⟨w, Below.refl _ _⟩⟩
theorem Past.cell {w : World} {b o : Nat} {v : Value} (hb : b < w.heap.size) (h : w.cell? ⟨b, o, none⟩ = some v) (p : Past w) : p.W.cell? ⟨b, o, none⟩ = some v :=
  (p.h.cell (p := ⟨b, o, none⟩) hb).trans h
end Go.Proofs.Ytjldddpchiaalaa
namespace Go.Proofs.Ytjldddpchiaalaa
open Go.RowKit
/-- is the page at i right, and above the one ahead of it? -/
def okAt (m : List M.Pg) (i : Nat) (h : i < m.length) : Bool := M.okPg m[i] && (decide (i = 0) || decide (m[i - 1].a < m[i].a))
def rightB (m : List M.Pg) : Bool := decide (m.length ≤ 64 ∧ ∀ i (h : i < m.length), okAt m i h = true)
theorem Right.of {m : List M.Pg} (h : rightB m = true) (h0 : ∀ x ∈ m, 0 ≤ x.a) (h1 : ∀ x ∈ m, x.a ≤ 18446744073709551615) : M.Right m := by
  simp only [rightB, decide_eq_true_eq] at h
  obtain ⟨hl, ho⟩ := h
  have ho1 : ∀ i (h : i < m.length), M.okPg m[i] = true := fun i h => by have := ho i h; simp [okAt] at this; exact this.1
  have ho2 : ∀ i (h : i + 1 < m.length), m[i].a < m[i + 1].a := fun i h => by have := ho (i + 1) h; simp [okAt] at this; exact this.2
  refine ⟨hl, fun x hx => ?_, ?_, h0, h1⟩
  · obtain ⟨i, hi, rfl⟩ := List.getElem_of_mem hx
    exact ho1 i hi
  · rw [List.pairwise_iff_getElem]
    intro i j hi hj hij
    induction j with
    | zero => omega
    | succ j ih =>
      by_cases e : i = j
      · subst e; exact ho2 i hj
      · have := ih (by omega) (by omega); have := ho2 j hj; omega
end Go.Proofs.Ytjldddpchiaalaa
namespace Go.Proofs.Ytjldddpchiaalaa
open Go.RowKit
/-- block g is just these cells of type t, none of them frozen -/
def Whole (W : World) (g : Nat) (t : TypeId) (cs : Array Value) : Prop := W.heap[g]? = some (.cells cs t (0, 0))
theorem Whole.lt {W : World} {g : Nat} {t : TypeId} {cs : Array Value} (h : Whole W g t cs) : g < W.heap.size := (Array.getElem?_eq_some_iff.1 h).1
theorem Whole.cell {W : World} {g : Nat} {t : TypeId} {cs : Array Value} (h : Whole W g t cs) (i : Nat) : W.cell? ⟨g, i, none⟩ = cs[i]? := cell_of_row W g i cs t (0, 0) h
theorem Whole.free {W : World} {g : Nat} {t : TypeId} {cs : Array Value} (h : Whole W g t cs) (i : Nat) : W.frozen? ⟨g, i, none⟩ = false := by
  simp [World.frozen?, show W.heap[g]? = _ from h]
theorem Whole.put {W : World} {g : Nat} {t : TypeId} {cs : Array Value} (h : Whole W g t cs) (i : Nat) (u : Value) : Whole (W.setCell ⟨g, i, none⟩ u) g t (cs.setIfInBounds i u) := by
  unfold Whole at h ⊢
  simp [World.setCell, Array.getElem?_modify, h]
end Go.Proofs.Ytjldddpchiaalaa
namespace Go.Proofs.Ytjldddpchiaalaa
open Go.ChangeShapes Go.WideShapes Go.ChangeAt Go.RowKit Go.Deep Go.Joins
theorem gLaidOut : laidOutB Try.prog = true := by kernel_rfl
theorem own : ownKnob Try.prog.godebug = none := by kernel_rfl
section
variable {H : Type} {enc : TypeId × Value → H} {P : Program} {w : World} {base : Nat} {spare : Nat → Bool} {held : Bool}
/-- a struct of one-cell fields, read: each field's cell with its own reading -/
theorem row_of {t : TypeId} {fs : Array Field} {fuel : Nat} {cs : List Value} {x : DataW H × List MemPlace} (ht : P.underlying t = some (.struct fs)) (hone : oneCellFields P fs = true) (hC : P.cellsOf t = fs.size)
    (h : DataW.trod enc P w base spare held fuel t cs = some x) :
    ∃ (ys : List (DataW H × List MemPlace)) (n : Nat), x.1 = .agg (ys.map (·.1)) ∧ ys.length = fs.size ∧ cs.length = fs.size ∧
      ∀ (j : Nat) (f : Field), fs[j]? = some f → ∃ c y, cs[j]? = some c ∧ ys[j]? = some y ∧ DataW.trod enc P w base spare held n f.type [c] = some y := by
  obtain ⟨ys, n, _, hx, hlen, hyl, hf⟩ := DataW.trod_struct ht h
  refine ⟨ys, n, by rw [hx], hyl, hlen.trans hC, fun j f hj => ?_⟩
  obtain ⟨ho, hk⟩ := hone_of hone j f hj
  have hjl : j < fs.size := (Array.getElem?_eq_some_iff.1 hj).1
  have h1 := hf j f hj
  rw [ho, hk] at h1
  have hcl : j < cs.length := by omega
  have hone' : (cs.drop j).take 1 = [cs[j]] := by
    rw [List.drop_eq_getElem_cons hcl]
    rfl
  rw [hone'] at h1
  exact ⟨_, _, List.getElem?_eq_getElem hcl, List.getElem?_eq_getElem (by omega), h1.trans (List.getElem?_eq_getElem (by omega))⟩
end
section
variable {H : Type} {enc : TypeId × Value → H}
/-- the arguments read behind the call as they read before -/
theorem trodAll_below {W W' : World} (bel : Below W.heap.size W W') : ∀ (ts : List TypeId) (vs : List Value) (ds : List (DataW H)) (p : List MemPlace),
    (∀ t ∈ ts, Try.prog.readableRec t = true ∧ t < Try.prog.types.size) → DataW.TrodAll enc Try.prog W 0 (fun _ => true) true ts vs ds p → (∀ x ∈ p, x.block < W.heap.size) →
    DataW.TrodAll enc Try.prog W' 0 (fun b => decide (b < W.heap.size)) true ts vs ds p := by
  intro ts
  induction ts with
  | nil =>
    intro vs ds p _ h _
    obtain ⟨rfl, rfl, rfl⟩ := trodAll_nil h
    exact trodAll_mk0
  | cons t ts ih =>
    intro vs ds p ht h hp
    obtain ⟨v, vs', d, ds', p1, p2, rfl, rfl, rfl, h1, h2⟩ := trodAll_cons h
    have ht1 := ht t (by simp)
    exact trodAll_cons_mk (Below.trod gLaidOut ht1.1 ht1.2 h1 bel (fun x hx => hp x (by simp [hx]))) (ih vs' ds' p2 (fun t ht' => ht t (by simp [ht'])) h2 (fun x hx => hp x (by simp [hx])))
/-- the row's last step, of every law -/
theorem law_post {f : Func} {s : ChangeSpec} {W W' : World} {args : Array Value} {ds gs : List (DataW H)} {before : List MemPlace} (hv : s.vars = []) (hr : f.resultTypes = #[4])
    (ht : ∀ t ∈ f.params.toList, Try.prog.readableRec t = true ∧ t < Try.prog.types.size)
    (hW : DataW.Whole enc Try.prog f.params.toList s.vars false W args.toList ds gs before) (bel : Below W.heap.size W W')
    (h1 : (s.fn H (ds ++ gs)).results = [.lit (.bool true)]) (h2 : (s.fn H (ds ++ gs)).args = ds) (h3 : (s.fn H (ds ++ gs)).vars = []) :
    s.post enc Try.prog f false true false false W args (.bool true) W' := by
  have hlt : ∀ p ∈ before, p.block < W.heap.size := fun p hp => hW.lt p hp
  have hW' := hW
  obtain ⟨p, q, hA, hV, rfl, _, _⟩ := hW
  refine ⟨ds, gs, p ++ q, [], p, [], hW', ?_, ?_, ?_, bel.frame _, fun h => by cases h⟩
  · rw [h1, hr]
    exact trodAll_mk1 (shut_bool Try.underlying4 _)
  · rw [h2]
    exact trodAll_below bel _ _ _ _ ht hA (fun x hx => hlt x (by simp [hx]))
  · rw [h3, hv]
    rfl
end
end Go.Proofs.Ytjldddpchiaalaa
namespace Go.Proofs.Ytjldddpchiaalaa
namespace Q
/-- a number's bytes -/
def numL (v : Nat) : List UInt8 := if v < 128 then [UInt8.ofNat v] else UInt8.ofNat (v % 128 + 128) :: numL (v / 128)
termination_by v
decreasing_by omega
theorem numL_lt {v : Nat} (h : v < 128) : numL v = [UInt8.ofNat v] := by rw [numL, if_pos h]
theorem numL_ge {v : Nat} (h : ¬ v < 128) : numL v = UInt8.ofNat (v % 128 + 128) :: numL (v / 128) := by rw [numL, if_neg h]
theorem numL_pos (v : Nat) : 1 ≤ (numL v).length := by
  rw [numL]; split <;> simp
theorem numL_len (k : Nat) : ∀ v, v < 128 ^ (k + 1) → (numL v).length ≤ k + 1 := by
  induction k with
  | zero => intro v h; rw [numL_lt (by simpa using h)]; simp
  | succ k ih =>
    intro v h
    by_cases h1 : v < 128
    · rw [numL_lt h1]; simp
    · rw [numL_ge h1, List.length_cons]
      have := ih (v / 128) (by rw [Nat.div_lt_iff_lt_mul (by omega)]; rw [Nat.pow_succ] at h; exact h)
      omega
/-- the number that is taken, what is left, why not -/
def tn : Nat → List UInt8 → Nat → Nat × List UInt8 × Int
  | 0, _, _ => (0, [], 3)
  | _ + 1, [], _ => (0, [], 2)
  | n + 1, c :: l, v => if 128 ≤ c.toNat then tn n l (v + (c.toNat - 128) * 128 ^ (9 - n)) else if n = 9 ∨ (0 < c.toNat ∧ (n ≠ 0 ∨ c.toNat < 2)) then (v + c.toNat * 128 ^ (9 - n), l, 0) else (0, [], 3)
theorem ofNat_toNat {v : Nat} (h : v < 256) : (UInt8.ofNat v).toNat = v := by
  rw [UInt8.toNat_ofNat']; omega
theorem pow_step {n : Nat} (h : n + 1 ≤ 9) : 128 ^ (9 - n) = 128 * 128 ^ (9 - (n + 1)) := by
  rw [show 9 - n = (9 - (n + 1)) + 1 by omega, Nat.pow_succ, Nat.mul_comm]
theorem split_mul (v P : Nat) : v % 128 * P + v / 128 * (128 * P) = v * P := by
  rw [← Nat.mul_assoc, ← Nat.add_mul]
  congr 1
  omega
theorem tn_num : ∀ n v acc more, n ≤ 9 → v * 128 ^ (9 - n) < 18446744073709551616 → n = 9 ∨ 0 < v → tn (n + 1) (numL v ++ more) acc = (acc + v * 128 ^ (9 - n), more, 0) := by
  intro n
  induction n with
  | zero =>
    intro v acc more _ h h0
    have h1 : v = 1 := by omega
    subst h1
    rw [numL_lt (by omega)]
    simp [tn]
  | succ n ih =>
    intro v acc more hn h h0
    by_cases hv : v < 128
    · rw [numL_lt hv]
      simp only [List.cons_append, List.nil_append, tn]
      rw [ofNat_toNat (by omega), if_neg (by omega), if_pos (by omega)]
    · rw [numL_ge hv]
      simp only [List.cons_append]
      rw [tn, ofNat_toNat (by omega), if_pos (by omega), Nat.add_sub_cancel]
      have hp := pow_step hn
      obtain ⟨P, hP⟩ : ∃ P, 128 ^ (9 - (n + 1)) = P := ⟨_, rfl⟩
      rw [hP] at h hp ⊢
      have hs := split_mul v P
      rw [ih (v / 128) _ more (by omega) (by rw [hp]; omega) (by omega), hp, Nat.add_assoc, hs]
theorem tn_bound : ∀ n l acc r rest, n ≤ 9 → acc < 128 ^ (9 - n) → tn (n + 1) l acc = (r, rest, 0) → r < 18446744073709551616 := by
  intro n
  induction n with
  | zero =>
    intro l acc r rest _ ha h
    cases l with
    | nil => simp [tn] at h
    | cons c l =>
      simp only [tn] at h
      split at h
      · simp at h
      · split at h
        · have := (Prod.mk.inj h).1
          omega
        · simp at h
  | succ n ih =>
    intro l acc r rest hn ha h
    cases l with
    | nil => simp [tn] at h
    | cons c l =>
      rw [tn] at h
      have hp := pow_step hn
      have hc := c.toNat_lt
      split at h
      · refine ih l _ r rest (by omega) ?_ h
        rw [hp]
        have : (c.toNat - 128) * 128 ^ (9 - (n + 1)) ≤ 127 * 128 ^ (9 - (n + 1)) := Nat.mul_le_mul_right _ (by omega)
        omega
      · split at h
        · have h1 := (Prod.mk.inj h).1
          have : c.toNat * 128 ^ (9 - (n + 1)) ≤ 127 * 128 ^ (9 - (n + 1)) := Nat.mul_le_mul_right _ (by omega)
          have h9 : 128 ^ (9 - n) ≤ 128 ^ 9 := Nat.pow_le_pow_right (by omega) (by omega)
          rw [hp] at h9
          omega
        · simp at h
theorem tn_back : ∀ n l acc r rest, n ≤ 9 → tn (n + 1) l acc = (r, rest, 0) → ∃ v, r = acc + v * 128 ^ (9 - n) ∧ l = numL v ++ rest ∧ (n = 9 ∨ 0 < v) := by
  intro n
  induction n with
  | zero =>
    intro l acc r rest _ h
    cases l with
    | nil => simp [tn] at h
    | cons c l =>
      rw [tn] at h
      split at h
      · simp [tn] at h
      · split at h
        · obtain ⟨h1, h2⟩ := Prod.mk.inj h
          obtain ⟨h2, -⟩ := Prod.mk.inj h2
          refine ⟨c.toNat, h1.symm, ?_, .inr (by omega)⟩
          rw [numL_lt (by omega), h2]
          simp
        · simp at h
  | succ n ih =>
    intro l acc r rest hn h
    cases l with
    | nil => simp [tn] at h
    | cons c l =>
      rw [tn] at h
      have hp := pow_step hn
      have hc := c.toNat_lt
      split at h
      · obtain ⟨v, h1, h2, h3⟩ := ih l _ r rest (by omega) h
        have h0 : 0 < v := by omega
        refine ⟨v * 128 + (c.toNat - 128), ?_, ?_, .inr (by omega)⟩
        · rw [h1, hp, Nat.add_mul, Nat.mul_assoc]
          omega
        · rw [numL_ge (by omega), h2, show (v * 128 + (c.toNat - 128)) / 128 = v by omega, show (v * 128 + (c.toNat - 128)) % 128 + 128 = c.toNat by omega]
          simp
      · split at h
        · obtain ⟨h1, h2⟩ := Prod.mk.inj h
          obtain ⟨h2, -⟩ := Prod.mk.inj h2
          refine ⟨c.toNat, h1.symm, ?_, by omega⟩
          rw [numL_lt (by omega), h2]
          simp
        · simp at h
/-- what was written is taken -/
theorem take_num (v : Nat) (more : List UInt8) (h : v < 18446744073709551616) : tn 10 (numL v ++ more) 0 = (v, more, 0) := by
  rw [tn_num 9 v 0 more (by omega) (by simpa using h) (.inl rfl)]
  simp
theorem take_back {l rest : List UInt8} {r : Nat} (h : tn 10 l 0 = (r, rest, 0)) : r < 18446744073709551616 ∧ l = numL r ++ rest := by
  obtain ⟨v, h1, h2, -⟩ := tn_back 9 l 0 r rest (by omega) h
  have : r = v := by simpa using h1
  subst this
  exact ⟨tn_bound 9 l 0 r rest (by omega) (by simp) h, h2⟩
theorem numL_ten {v : Nat} (h : v < 18446744073709551616) : (numL v).length ≤ 10 := numL_len 9 v (by omega)
/-- the number of bytes, what is left, why not: of any bytes -/
def tkV (s : ByteArray) : Nat := (tn 10 s.data.toList 0).1
def tkR (s : ByteArray) : ByteArray := ⟨(tn 10 s.data.toList 0).2.1.toArray⟩
def tkE (s : ByteArray) : Int := (tn 10 s.data.toList 0).2.2
end Q
end Go.Proofs.Ytjldddpchiaalaa
namespace Go.Proofs.Ytjldddpchiaalaa
open Go.RowKit
namespace Q
/-- a file that holds these bytes -/
def Fl (W : World) (B b : Nat) (l : List UInt8) : Prop := Lib.IsBuilder 47 5 B b (Lib.byteCells l) W
/-- .. and has been written to -/
def Fu (W : World) (B b : Nat) (l : List UInt8) : Prop := Lib.BuilderAt 47 5 B b (.pointer (some ⟨b, 0, none⟩)) (Lib.byteCells l) W
theorem Fu.fl {W : World} {B b : Nat} {l : List UInt8} (h : Fu W B b l) : Fl W B b l := .inr h
theorem flInfo : ∃ j, Try.prog.info? 45 = some j ∧ j.size ≠ 0 := by
  have h : (Try.prog.info? 45).any (fun j => j.size != 0) = true := by kernel_rfl
  cases hi : Try.prog.info? 45 with
  | none => rw [hi] at h; cases h
  | some j => rw [hi] at h; exact ⟨j, rfl, by simpa using h⟩
theorem byteInfo : ∃ i0 : TypeInfo, Try.prog.info? 5 = some i0 ∧ i0.zero = some (.int .u8 0) ∧ i0.size = 1 ∧ i0.bytes = 1 := info_parts (by kernel_rfl)
set_option maxRecDepth 100000 in
set_option maxHeartbeats 1000000 in
/-- copyCheck of a file: it holds its own address behind it -/
theorem fcheck_any (B b : Nat) (l : List UInt8) (w : World) (h : Fl w B b l) : Calls Try.prog 51 #[.pointer (some ⟨b, 0, none⟩)] w fun e w' => e = .returned (.tuple #[]) ∧ Fu w' B b l ∧ Below B w w' ∧ Lib.OthersKept 5 (some b) w w' := by
  obtain ⟨j, hj, hjs⟩ := flInfo
  rcases h with h | h
  · have h0 := h.cell0
    have hsh := h.shape
    have hfz := h.frozen0
    have HR := Lib.hid (And.intro (h.used (.pointer (some ⟨b, 0, none⟩))) ((Below.refl B w).setCell (p := ⟨b, 0, none⟩) h.1 (.pointer (some ⟨b, 0, none⟩))))
    clear h
    go_enter Try.func51, Try.ntmps51
    go_wp2
    rw [Lib.run_to_unsafe w ⟨b, 0, none⟩ Try.underlying42 Try.underlying129 hj hjs hsh (Nat.zero_lt_succ 1)]
    simp only [Result.andThen]
    rw [Oper.upon_value]
    go_wp2
    rw [run_callFunc_extern Try.func74 (by kernel_rfl) (by kernel_rfl) (by kernel_rfl) (e := Extern.AbiNoEscape.same) (by kernel_rfl), Lib.run_noEscape]
    simp only [Result.andThen]
    rw [Oper.upon_value]
    go_wp2
    rw [Lib.run_from_unsafe w ⟨b, 0, none⟩ Try.underlying129 Try.underlying42 hj hsh (by kernel_rfl)]
    simp only [Result.andThen]
    rw [Oper.upon_value]
    go_wp2
    go_end0
    exact ⟨rfl, HR.out.1, HR.out.2, (Lib.OthersKept.refl _ _ w).setCell ⟨b, 0, none⟩ rfl _⟩
  · have h0 := h.cell0
    have HR := Lib.hid h
    clear h
    go_enter Try.func51, Try.ntmps51
    go_wp2
    rw [Lib.run_neq_ptr_same w _ Try.underlying42 hj]
    go_wp2
    go_end0
    exact ⟨rfl, HR.out, Below.refl B _, Lib.OthersKept.refl _ _ _⟩
/-- a written file's parts -/
theorem Fu.parts {W : World} {B b : Nat} {l : List UInt8} (h : Fu W B b l) : B ≤ b ∧ ∃ v, W.heap[b]? = some (.cells #[.pointer (some ⟨b, 0, none⟩), v] 47 (0, 0)) ∧ W.ownsRow B 5 1 v (Lib.byteCells l).length (Lib.byteCells l) ∧ v.ownBlock ≠ some b := h
theorem Fu.lt {W : World} {B b : Nat} {l : List UInt8} (h : Fu W B b l) : b < W.heap.size := by
  obtain ⟨-, v, hb, -⟩ := h.parts
  exact (Array.getElem?_eq_some_iff.1 hb).1
theorem Fl.lt {W : World} {B b : Nat} {l : List UInt8} (h : Fl W B b l) : b < W.heap.size := by
  rcases h with ⟨-, v, hb, -⟩ | ⟨-, v, hb, -⟩ <;> exact (Array.getElem?_eq_some_iff.1 hb).1
theorem Fl.new (W : World) : Fl (W.alloc (.cells #[.pointer none, .slice none 0 0] 47)) W.heap.size W.heap.size [] := Lib.fresh_isBuilder _ _ W
set_option maxRecDepth 100000 in
set_option maxHeartbeats 2000000 in
theorem fbyte_any (B b : Nat) (l : List UInt8) (c : UInt8) (w : World) (h : Fl w B b l) (hlen : l.length + 1 ≤ 140737488355328) (hBw : B ≤ w.heap.size) :
    Calls Try.prog 45 #[.pointer (some ⟨b, 0, none⟩), .int .u8 c.toNat] w fun e w' => e = .returned .nilIface ∧ Fu w' B b (l ++ [c]) ∧ Below B w w' ∧ Lib.OthersKept 5 (some b) w w' := by
  obtain ⟨i0, hi, hz0, hz1, hz2⟩ := byteInfo
  have HC := Lib.hid (fcheck_any B b l w h)
  have hl : (Lib.byteCells l).length = l.length := Lib.byteCells_length l
  have HBW := Lib.hid hBw
  clear h hBw
  go_enter Try.func45, Try.ntmps45
  go_wp2_with fail
  refine HC.out.mono ?_
  rintro e w1 ⟨rfl, h1, hb1, hk1⟩
  have HK1 := Lib.hid hk1
  clear hk1
  obtain ⟨hB, v, hbk, hown, hne⟩ := h1.parts
  have HLT := Lib.hid h1.lt
  have HB1 := Lib.hid hb1
  have hsz : B ≤ w1.heap.size := Nat.le_trans HBW.out hb1.size
  have c0 : w1.cell? ⟨b, 0, none⟩ = some (.pointer (some ⟨b, 0, none⟩)) := by rw [Lib.cell_of_heap hbk]; rfl
  have c1 : w1.cell? ⟨b, 1, none⟩ = some v := by rw [Lib.cell_of_heap hbk]; rfl
  have HBK := Lib.hid hbk
  have HNE := Lib.hid hne
  have HH := Lib.hid hown
  rw [hl] at hown
  clear h1 hb1 hbk hne
  go_wp2_with (at_builtin; refine wpList_append_own _ rfl _ _ 43 rfl B 5 i0 (.int .u8 0) 1 1 Try.underlying43 hi hz0 hz1 hz2 rfl (by decide) _ _ _ rfl (hown.alloc _) ⟨w1.heap.size, 0, none⟩ 1 1 [.int .u8 c.toNat] rfl rfl ?c1 ?c2 ?c3 ?c4 ?c5 ?_)
  case c1 =>
    intro j u hj
    cases j with
    | zero => simp at hj; subst hj; simp [Addr.add]
    | succ j => simp at hj
  case c2 => intro u hu; simp at hu; subst hu; rfl
  case c3 => unfold maxLen; omega
  case c4 => omega
  case c5 => simp; omega
  intro v' w2 hown' hgrow _
  have hlt := HLT.out
  have hb2 : w2.heap[b]? = some (.cells #[.pointer (some ⟨b, 0, none⟩), v] 47 (0, 0)) := by
    rw [hgrow.block b (by simp; omega) (fun e => HNE.out e.symm), Lib.alloc_old w1 _ b hlt]
    exact HBK.out
  have d0 : w2.cell? ⟨b, 0, none⟩ = some (.pointer (some ⟨b, 0, none⟩)) := by rw [Lib.cell_of_heap hb2]; rfl
  have d1 : w2.cell? ⟨b, 1, none⟩ = some v := by rw [Lib.cell_of_heap hb2]; rfl
  have f1 : w2.frozen? ⟨b, 1, none⟩ = false := Lib.frozen_of_heap hb2 1
  obtain ⟨g, cap, rfl⟩ : ∃ g cap, v' = .slice (some ⟨g, 0, none⟩) (l.length + 1) cap := by
    rcases hown'.2 with ⟨_, h0⟩ | ⟨g, cap, cur, hv, _⟩
    · omega
    · exact ⟨g, cap, hv⟩
  have HR := Lib.hid (show Fu (w2.setCell ⟨b, 1, none⟩ (.slice (some ⟨g, 0, none⟩) (l.length + 1) cap)) B b (l ++ [c]) from by
    refine Lib.BuilderAt.put (T := 47) (e := 5) hB hb2 (bs' := Lib.byteCells (l ++ [c])) ?_ (by decide)
    rw [Lib.byteCells_append]
    have h := hown'
    rw [show (Lib.byteCells l ++ Lib.byteCells [c]).length = l.length + 1 by simp [Lib.byteCells]]
    exact h)
  have HR2 := Lib.hid (((HB1.out.alloc hsz (.cells #[.int .u8 c.toNat] 5)).grown hgrow (by simp; omega) (fun k hk => (HH.out.lt k hk).1)).setCell (p := ⟨b, 1, none⟩) hB (.slice (some ⟨g, 0, none⟩) (l.length + 1) cap))
  have HK2 := Lib.hid (((HK1.out.alloc (.cells #[.int .u8 c.toNat] 5)).grown hgrow (Lib.ownsRowF_kind (World.ownsRowF_of (HH.out.alloc _)))).setCell ⟨b, 1, none⟩ rfl (.slice (some ⟨g, 0, none⟩) (l.length + 1) cap))
  clear hown hown' hgrow hb2
  go_wp2_with fail
  go_ret
  exact ⟨rfl, HR.out, HR2.out, HK2.out⟩
end Q
end Go.Proofs.Ytjldddpchiaalaa
namespace Go.Proofs.Ytjldddpchiaalaa
open Go.RowKit
namespace Q
set_option maxRecDepth 100000 in
set_option maxHeartbeats 2000000 in
theorem fstr_any (B b : Nat) (l : List UInt8) (s : ByteArray) (w : World) (h : Fl w B b l) (hlen : l.length + s.size ≤ 140737488355328) (hBw : B ≤ w.heap.size) :
    Calls Try.prog 32 #[.pointer (some ⟨b, 0, none⟩), .string s] w fun e w' => e = .returned (.tuple #[.int .i64 s.size, .nilIface]) ∧ Fu w' B b (l ++ s.data.toList) ∧ Below B w w' ∧ Lib.OthersKept 5 (some b) w w' := by
  obtain ⟨i0, hi, hz0, hz1, hz2⟩ := byteInfo
  have HC := Lib.hid (fcheck_any B b l w h)
  have hl : (Lib.byteCells l).length = l.length := Lib.byteCells_length l
  have HBW := Lib.hid hBw
  clear h hBw
  go_enter Try.func32, Try.ntmps32
  go_wp2_with fail
  refine HC.out.mono ?_
  rintro e w1 ⟨rfl, h1, hb1, hk1⟩
  have HK1 := Lib.hid hk1
  clear hk1
  obtain ⟨hB, v, hbk, hown, hne⟩ := h1.parts
  have HLT := Lib.hid h1.lt
  have HB1 := Lib.hid hb1
  have hsz : B ≤ w1.heap.size := Nat.le_trans HBW.out hb1.size
  have c0 : w1.cell? ⟨b, 0, none⟩ = some (.pointer (some ⟨b, 0, none⟩)) := by rw [Lib.cell_of_heap hbk]; rfl
  have c1 : w1.cell? ⟨b, 1, none⟩ = some v := by rw [Lib.cell_of_heap hbk]; rfl
  have HBK := Lib.hid hbk
  have HNE := Lib.hid hne
  have HH := Lib.hid hown
  rw [hl] at hown
  clear h1 hb1 hbk hne
  go_wp2_with (at_builtin; refine Lib.wpList_append_own_string _ rfl _ _ 43 9 rfl B 5 i0 Try.underlying43 Try.underlying9 hi hz0 hz1 hz2 _ _ _ rfl hown s rfl ?c3 ?c4 ?c5 ?_)
  case c3 => unfold maxLen; omega
  case c4 => omega
  case c5 => omega
  intro v' w2 hown' hgrow _
  have hlt := HLT.out
  have hb2 : w2.heap[b]? = some (.cells #[.pointer (some ⟨b, 0, none⟩), v] 47 (0, 0)) := by
    rw [hgrow.block b hlt (fun e => HNE.out e.symm)]
    exact HBK.out
  have d0 : w2.cell? ⟨b, 0, none⟩ = some (.pointer (some ⟨b, 0, none⟩)) := by rw [Lib.cell_of_heap hb2]; rfl
  have d1 : w2.cell? ⟨b, 1, none⟩ = some v := by rw [Lib.cell_of_heap hb2]; rfl
  have f1 : w2.frozen? ⟨b, 1, none⟩ = false := Lib.frozen_of_heap hb2 1
  obtain ⟨ao, n', cap, rfl⟩ : ∃ ao n' cap, v' = .slice ao n' cap := by
    rcases hown'.2 with ⟨hv, _⟩ | ⟨g, cap, cur, hv, _⟩
    · exact ⟨_, _, _, hv⟩
    · exact ⟨_, _, _, hv⟩
  have HR := Lib.hid (show Fu (w2.setCell ⟨b, 1, none⟩ (.slice ao n' cap)) B b (l ++ s.data.toList) from by
    refine Lib.BuilderAt.put (T := 47) (e := 5) hB hb2 (bs' := Lib.byteCells (l ++ s.data.toList)) ?_ (by decide)
    rw [Lib.byteCells_append]
    have h := hown'
    rw [show (Lib.byteCells l ++ Lib.byteCells s.data.toList).length = l.length + s.size by simp [Lib.byteCells]]
    exact h)
  have HR2 := Lib.hid ((HB1.out.grown hgrow (by omega) (fun k hk => (HH.out.lt k hk).1)).setCell (p := ⟨b, 1, none⟩) hB (.slice ao n' cap))
  have HK2 := Lib.hid ((HK1.out.grown hgrow (Lib.ownsRowF_kind (World.ownsRowF_of HH.out))).setCell ⟨b, 1, none⟩ rfl (.slice ao n' cap))
  clear hown hown' hgrow hb2
  go_wp2_with fail
  go_ret2
  exact ⟨rfl, HR.out, HR2.out, HK2.out⟩
theorem Fl.cell1 {W : World} {B b : Nat} {l : List UInt8} (h : Fl W B b l) : ∃ A cap, W.cell? ⟨b, 1, none⟩ = some (.slice A l.length cap) := by
  have hl : (Lib.byteCells l).length = l.length := Lib.byteCells_length l
  rcases h with ⟨-, v, hb, hown, -⟩ | ⟨-, v, hb, hown, -⟩
  all_goals
    rw [hl] at hown
    rcases hown.2 with ⟨hv, h0⟩ | ⟨g, cap, cur, hv, _⟩
    · exact ⟨none, 0, by rw [Lib.cell_of_heap hb, hv, h0]; rfl⟩
    · exact ⟨_, cap, by rw [Lib.cell_of_heap hb, hv]; rfl⟩
theorem flen_any (B b : Nat) (l : List UInt8) (w : World) (h : Fl w B b l) : Calls Try.prog 16 #[.pointer (some ⟨b, 0, none⟩)] w fun e w' => e = .returned (.int .i64 l.length) ∧ w = w' := by
  obtain ⟨A, cap, c1⟩ := h.cell1
  clear h
  go_enter Try.func16, Try.ntmps16
  go_wp2_with fail
  go_ret
  exact ⟨rfl, rfl⟩
theorem Fl.parts {W : World} {B b : Nat} {l : List UInt8} (h : Fl W B b l) : ∃ p, B ≤ b ∧ ∃ v, W.heap[b]? = some (.cells #[p, v] 47 (0, 0)) ∧ W.ownsRow B 5 1 v (Lib.byteCells l).length (Lib.byteCells l) ∧ v.ownBlock ≠ some b := by
  rcases h with h | h
  · exact ⟨_, h⟩
  · exact ⟨_, h⟩
set_option maxRecDepth 100000 in
set_option maxHeartbeats 2000000 in
theorem fstringl_any (B b : Nat) (l : List UInt8) (w : World) (h : Fl w B b l) (h0 : l ≠ []) :
    Calls Try.prog 17 #[.pointer (some ⟨b, 0, none⟩)] w fun e w' => e = .returned (.string ⟨l.toArray⟩) ∧ Below B w w' := by
  obtain ⟨p, hB, v, hbk, hown, hne⟩ := h.parts
  have hl0 : l.length ≠ 0 := by simpa using h0
  rw [Lib.byteCells_length] at hown
  obtain ⟨g, cap, cur, rfl, hbg, hg, hnc, hcm, hcs, htake⟩ : ∃ g cap cur, v = .slice (some ⟨g, 0, none⟩) l.length cap ∧ B ≤ g ∧ w.heap[g]? = some (.cells cur 5 (0, 0)) ∧ l.length ≤ cap ∧ cap ≤ maxLen ∧ cur.size = cap * 1 ∧ cur.toList.take (l.length * 1) = Lib.byteCells l := by
    rcases hown.2 with ⟨_, hz⟩ | ⟨g, cap, cur, hv, r⟩
    · exact absurd hz hl0
    · exact ⟨g, cap, cur, hv, r⟩
  have c1 : w.drew.cell? ⟨b, 1, none⟩ = some (.slice (some ⟨g, 0, none⟩) l.length cap) := by
    have : w.drew.heap[b]? = some (.cells #[p, .slice (some ⟨g, 0, none⟩) l.length cap] 47 (0, 0)) := hbk
    rw [Lib.cell_of_heap this]; rfl
  have hSD : (Builtin.unsafeSliceData_ #[43] 94 #[.slice (some ⟨g, 0, none⟩) l.length cap]).run Try.prog w.drew = .ok (.pointer (some ⟨g, 0, none⟩)) w.drew :=
    Lib.run_unsafeSliceData_row _ _ _ _ _ _ (by omega)
  have hUS : (Builtin.unsafeString_ #[94, 3] 9 #[.pointer (some ⟨g, 0, none⟩), .int .i64 l.length]).run Try.prog w.drew = .ok (.string ⟨l.toArray⟩) (w.drew.freeze ⟨g, 0, none⟩ l.length) := by
    refine Lib.run_unsafeString_row w.drew 94 3 9 5 Try.underlying94 (by kernel_rfl) g cur.size (by have hg' : w.drew.heap[g]? = some (.cells cur 5 (0, 0)) := hg; simp [World.shape?, hg']) l h0 (by omega) (by unfold maxLen at hcm; omega) ?_
    intro j x hx
    exact hown.cells (g := g) rfl j (.int .u8 x.toNat) (by simp [Lib.byteCells, hx])
  have HR := Lib.hid (Lib.below_freeze (Below.drew (Below.refl B w)) (p := ⟨g, 0, none⟩) hbg l.length)
  clear h hbk hown hne htake hg hcs hcm hnc
  have mixed : Try.prog.follows .mixedOrders = true := by kernel_rfl
  go_enter Try.func17, Try.ntmps17
  go_wp2
  go_region_o
  all_goals (go_wp2; go_ret; exact ⟨rfl, HR.out⟩)
end Q
end Go.Proofs.Ytjldddpchiaalaa
namespace Go.Proofs.Ytjldddpchiaalaa
namespace Q
theorem b_low (c : Nat) (h : c < 256) : bits BinOp.andNot IntKind.u8 (c : Int) 128 = ((c % 128 : Nat) : Int) := by
  rw [show (128 : Int) = ((128 : Nat) : Int) from rfl, u8_andNot_nat c 128 h (by omega)]
  rw [show 255 - 128 = 2 ^ 7 - 1 by omega, Nat.and_two_pow_sub_one_eq_mod]
theorem and_top : ∀ c : Fin 256, c.val &&& 128 = if 128 ≤ c.val then 128 else 0 := by decide +kernel
theorem or_top : ∀ c : Fin 256, c.val ||| 128 = c.val % 128 + 128 := by decide +kernel
theorem b_top (c : Nat) (h : c < 256) : bits BinOp.and IntKind.u8 (c : Int) 128 = if 128 ≤ c then 128 else 0 := by
  rw [show (128 : Int) = ((128 : Nat) : Int) from rfl, u8_and_nat c 128 h (by omega), and_top ⟨c, h⟩]
  simp only
  split <;> simp
theorem b_set (c : Nat) (h : c < 256) : bits BinOp.or IntKind.u8 (c : Int) 128 = ((c % 128 + 128 : Nat) : Int) := by
  rw [show (128 : Int) = ((128 : Nat) : Int) from rfl, u8_or_nat c 128 h (by omega), or_top ⟨c, h⟩]
theorem or_seven (acc c i : Nat) (ha : acc < 128 ^ i) (hi : i ≤ 9) (hc : c < 128) (h : i ≤ 8 ∨ c < 2) :
    bits BinOp.or IntKind.u64 (acc : Int) (IntKind.u64.wrap ((c : Int) * 2 ^ (7 * i))) = ((acc + c * 128 ^ i : Nat) : Int) := by
  have hp9 : (128 : Nat) ^ i ≤ 128 ^ 9 := Nat.pow_le_pow_right (by omega) hi
  have hb : c * 128 ^ i < 18446744073709551616 := by
    rcases h with h | h
    · have hp : (128 : Nat) ^ i ≤ 128 ^ 8 := Nat.pow_le_pow_right (by omega) h
      have : c * 128 ^ i ≤ 127 * 128 ^ 8 := Nat.mul_le_mul (by omega) hp
      omega
    · have : c * 128 ^ i ≤ 1 * 128 ^ 9 := Nat.mul_le_mul (by omega) hp9
      omega
  have ep : (2 : Nat) ^ (7 * i) = 128 ^ i := by rw [Nat.pow_mul]
  have e2 : (c : Int) * 2 ^ (7 * i) = ((c * 128 ^ i : Nat) : Int) := by rw [← ep, Int.natCast_mul, Int.natCast_pow]; rfl
  have e3 : IntKind.u64.wrap ((c * 128 ^ i : Nat) : Int) = ((c * 128 ^ i : Nat) : Int) := by rw [IntKind.wrap_u64]; omega
  rw [e2, e3, bits_or_u64_nat acc (c * 128 ^ i) (by omega) hb]
  have e4 : acc ||| c * 128 ^ i = c * 128 ^ i + acc := by
    rw [← ep, Nat.or_comm, Nat.mul_comm c]
    exact (Nat.two_pow_add_eq_or_of_lt (by rw [ep]; exact ha) c).symm
  rw [e4, Nat.add_comm]
end Q
end Go.Proofs.Ytjldddpchiaalaa
namespace Go.Proofs.Ytjldddpchiaalaa
open Go.RowKit
namespace Q
/-- may a number's last byte be that? -/
def meB (i c : Nat) : Bool := decide (i = 0 ∨ (0 < c ∧ (i ≠ 9 ∨ c < 2)))
theorem mayEnd_any (i c : Nat) (w : World) : Calls Try.prog 22 #[.int .i64 i, .int .u8 c] w fun e w' => e = .returned (.bool (meB i c)) ∧ w = w' := by
  by_cases h0 : i = 0
  · subst h0
    have HE := Lib.hid (show meB 0 c = true by simp [meB])
    go_enter Try.func22, Try.ntmps22
    go_wp2_with fail
    go_ret
    exact ⟨ret_bool HE.out.symm, rfl⟩
  · have e0 : ((i : Int) == 0) = false := by simp; omega
    by_cases h9 : i = 9
    · subst h9
      obtain ⟨q, hq⟩ : ∃ q, decide (0 < c) = q := ⟨_, rfl⟩
      obtain ⟨r, hr⟩ : ∃ q, decide ((c : Int) < 2) = q := ⟨_, rfl⟩
      have HE := Lib.hid (show meB 9 c = (q && r) by rw [← hq, ← hr]; unfold meB; rw [← Bool.decide_and]; apply decide_eq_decide.2; omega)
      clear h0 e0
      cases q
      · clear hr
        go_enter Try.func22, Try.ntmps22
        go_wp2_with fail
        go_ret
        exact ⟨ret_bool (by rw [HE.out]; rfl), rfl⟩
      · go_enter Try.func22, Try.ntmps22
        go_wp2_with fail
        go_ret
        exact ⟨ret_bool (by rw [HE.out]; rfl), rfl⟩
    · have e9 : ((i : Int) == 9) = false := by simp; omega
      have HE := Lib.hid (show meB i c = decide (0 < c) by unfold meB; apply decide_eq_decide.2; omega)
      clear h0 h9
      go_enter Try.func22, Try.ntmps22
      go_wp2_with fail
      go_ret
      exact ⟨ret_bool HE.out.symm, rfl⟩
theorem drop_ext (s : ByteArray) (k : Nat) : (⟨(s.data.toList.drop k).toArray⟩ : ByteArray) = s.extract k s.size := by
  apply ByteArray.ext
  apply Array.toList_inj.1
  rw [ByteArray.data_extract, Array.toList_extract, List.extract_eq_take_drop, List.take_of_length_le]
  rw [List.length_drop]
  exact Nat.le_refl _
set_option maxRecDepth 100000 in
set_option maxHeartbeats 2000000 in
theorem takeNum_any (s : ByteArray) (w : World) (hs : s.size < 9223372036854775808) :
    Calls Try.prog 11 #[.string s] w fun e w' => e = .returned (.tuple #[.int .u64 (tkV s), .string (tkR s), .int .i64 (tkE s)]) ∧ Below w.heap.size w w' := by
  obtain ⟨z, hz⟩ : ∃ z, s.size = z := ⟨_, rfl⟩
  by_cases h10 : (10 : Int) < (z : Int)
  · skip
    go_enter Try.func11, Try.ntmps11
    go_wp2_with fail
    go_loop [5, 11] (fun v i => ∃ k acc : Nat, ∃ x : Int, k ≤ 10 ∧ i = .int .i64 k ∧ v = .int .u64 x ∧ (k ≤ 9 → x = acc) ∧ acc < 128 ^ k ∧ tn (10 - k) (s.data.toList.drop k) acc = tn 10 s.data.toList 0) (fun _ i => 10 - (intOf i).toNat)
    case atStart => exact ⟨0, 0, 0, Nat.zero_le _, rfl, rfl, fun _ => rfl, by simp, rfl⟩
    case round =>
      obtain ⟨k, acc, x, hk, rfl, rfl, hx, ha, ht⟩ := hrel
      have HX := Lib.hid hx
      have HA := Lib.hid ha
      have HT := Lib.hid ht
      clear hx ha ht
      by_cases hlt : k < 10
      · have hks : k < s.size := by omega
        have HLT := Lib.hid hlt
        have hk9 : k ≤ 9 := by omega
        have i0 : (0 : Int) ≤ (k : Int) := by omega
        have i1 : (k : Int) < (10 : Int) := by omega
        have i2 : (k : Int) < (z : Int) := by omega
        have hdrop : s.data.toList.drop k = s[k] :: s.data.toList.drop (k + 1) := List.drop_eq_getElem_cons (by simpa using hks)
        obtain ⟨c, hc⟩ : ∃ c, s[k].toNat = c := ⟨_, rfl⟩
        have hc8 : c < 256 := by rw [← hc]; exact s[k].toNat_lt
        have HS := Lib.hid (show tn (10 - k) (s.data.toList.drop k) acc = if 128 ≤ c then tn (10 - (k + 1)) (s.data.toList.drop (k + 1)) (acc + (c - 128) * 128 ^ k) else if meB k c = true then (acc + c * 128 ^ k, s.data.toList.drop (k + 1), 0) else (0, [], 3) by
          rw [hdrop, show 10 - k = (9 - k) + 1 by omega, tn, hc, show 9 - (9 - k) = k by omega, show 10 - (k + 1) = 9 - k by omega]
          unfold meB
          simp only [decide_eq_true_eq]
          congr 1
          have : (9 - k = 9 ∨ 0 < c ∧ (9 - k ≠ 0 ∨ c < 2)) ↔ (k = 0 ∨ 0 < c ∧ (k ≠ 9 ∨ c < 2)) := by omega
          simp only [this])
        have w7 : IntKind.i64.wrap (7 * (k : Int)) = 7 * (k : Int) := IntWalk.i64_in _ (by omega)
        have w70 : (0 : Int) ≤ 7 * (k : Int) := by omega
        have wt : (7 * (k : Int)).toNat = 7 * k := by omega
        have wl : bits BinOp.andNot IntKind.u8 (c : Int) 128 = ((c % 128 : Nat) : Int) := b_low c hc8
        have HO := Lib.hid (fun (h : k ≤ 8 ∨ c % 128 < 2) => or_seven acc (c % 128) k HA.out hk9 (by omega) h)
        obtain ⟨d, hd⟩ : ∃ d, c % 128 = d := ⟨_, rfl⟩
        rw [hd] at wl HO
        have wd : IntKind.u64.wrap (d : Int) = d := by rw [IntKind.wrap_u64]; omega
        have HK9 := Lib.hid hk9
        clear hdrop hk9 hlt
        by_cases hc1 : 128 ≤ c
        · have wb : bits BinOp.and IntKind.u8 (c : Int) 128 = 128 := by rw [b_top c hc8, if_pos hc1]
          rw [if_pos hc1] at HS
          have hcd : c - 128 = d := by omega
          rw [hcd] at HS
          have HC1 := Lib.hid hc1
          have HD := Lib.hid (show d < 128 by omega)
          clear hc1 hc8 hd hcd
          go_wp2_with fail
          go_round
          case rel =>
            refine ⟨k + 1, acc + d * 128 ^ k, _, HLT.out, by go_num, rfl, fun h => ?_, ?_, ?_⟩
            · rw [HX.out HK9.out, HO.out (.inl (by omega))]
            · have h1 := HA.out
              have h2 := HD.out
              have h3 : d * 128 ^ k ≤ 127 * 128 ^ k := Nat.mul_le_mul_right _ (by omega)
              rw [Nat.pow_succ]
              omega
            · rw [← HS.out, HT.out]
          case measure => have := HLT.out; simp [intOf]; omega
        · have wb : bits BinOp.and IntKind.u8 (c : Int) 128 = 0 := by rw [b_top c hc8, if_neg hc1]
          rw [if_neg hc1] at HS
          have hcd : c = d := by omega
          subst hcd
          have HM := Lib.hid (fun W => mayEnd_any k c W)
          cases hme : meB k c with
          | true =>
            rw [hme] at HM HS
            have hcc : k ≤ 8 ∨ c < 2 := by unfold meB at hme; have := of_decide_eq_true hme; have := HK9.out; omega
            have hst : k + 1 ≤ s.size := hks
            have i3 : (k : Int) + 1 ≤ (z : Int) := by omega
            have w1 : IntKind.i64.wrap ((k : Int) + 1) = (k : Int) + 1 := IntWalk.i64_in _ (by omega)
            have HE := Lib.hid (show (tkV s : Int) = (acc + c * 128 ^ k : Nat) ∧ tkR s = s.extract (k + 1) z ∧ tkE s = 0 by
              unfold tkV tkR tkE
              rw [← HT.out, HS.out, if_pos rfl]
              exact ⟨rfl, by rw [drop_ext, hz], rfl⟩)
            have HV := Lib.hid (HO.out hcc)
            clear hme hc1 hc8 hcc
            go_wp2_with fail
            refine (HM.out _).mono ?_
            rintro e w' ⟨rfl, rfl⟩
            go_wp2_with fail
            have mixed : Try.prog.follows .mixedOrders = true := by kernel_rfl
            go_region_o
            all_goals
              go_wp2_with fail
              go_ret3
              refine ⟨?_, Below.drew (Below.refl _ _)⟩
              rw [HE.out.1, HE.out.2.1, HE.out.2.2, HX.out HK9.out]
              first | rfl | (rw [HV.out]; rfl)
          | false =>
            rw [hme] at HM HS
            have HE := Lib.hid (show tkV s = 0 ∧ tkR s = ⟨#[]⟩ ∧ tkE s = 3 by
              unfold tkV tkR tkE
              rw [← HT.out, HS.out, if_neg (by decide)]
              exact ⟨rfl, rfl, rfl⟩)
            clear hme hc1 hc8
            go_wp2_with fail
            refine (HM.out _).mono ?_
            rintro e w' ⟨rfl, rfl⟩
            go_wp2_with fail
            go_ret3
            exact ⟨by rw [HE.out.1, HE.out.2.1, HE.out.2.2]; rfl, Below.refl _ _⟩
      · obtain rfl : k = 10 := by omega
        have HE := Lib.hid (show tkV s = 0 ∧ tkR s = ⟨#[]⟩ ∧ tkE s = 3 by
          unfold tkV tkR tkE
          rw [← HT.out]
          exact ⟨rfl, rfl, rfl⟩)
        have e1 : decide ((z : Int) < 10) = false := decide_eq_false (by omega)
        go_wp2_with fail
        go_ret3
        exact ⟨by rw [HE.out.1, HE.out.2.1, HE.out.2.2]; rfl, Below.refl _ _⟩
  · skip
    go_enter Try.func11, Try.ntmps11
    go_wp2_with fail
    go_loop [5, 11] (fun v i => ∃ k acc : Nat, ∃ x : Int, k ≤ z ∧ i = .int .i64 k ∧ v = .int .u64 x ∧ (k ≤ 9 → x = acc) ∧ acc < 128 ^ k ∧ tn (10 - k) (s.data.toList.drop k) acc = tn 10 s.data.toList 0) (fun _ i => z - (intOf i).toNat)
    case atStart => exact ⟨0, 0, 0, Nat.zero_le _, rfl, rfl, fun _ => rfl, by simp, rfl⟩
    case round =>
      obtain ⟨k, acc, x, hk, rfl, rfl, hx, ha, ht⟩ := hrel
      have HX := Lib.hid hx
      have HA := Lib.hid ha
      have HT := Lib.hid ht
      clear hx ha ht
      by_cases hlt : k < z
      · have hks : k < s.size := by omega
        have HLT := Lib.hid hlt
        have hk9 : k ≤ 9 := by omega
        have i0 : (0 : Int) ≤ (k : Int) := by omega
        have i1 : (k : Int) < (z : Int) := by omega
        have i2 : (k : Int) < (z : Int) := by omega
        have hdrop : s.data.toList.drop k = s[k] :: s.data.toList.drop (k + 1) := List.drop_eq_getElem_cons (by simpa using hks)
        obtain ⟨c, hc⟩ : ∃ c, s[k].toNat = c := ⟨_, rfl⟩
        have hc8 : c < 256 := by rw [← hc]; exact s[k].toNat_lt
        have HS := Lib.hid (show tn (10 - k) (s.data.toList.drop k) acc = if 128 ≤ c then tn (10 - (k + 1)) (s.data.toList.drop (k + 1)) (acc + (c - 128) * 128 ^ k) else if meB k c = true then (acc + c * 128 ^ k, s.data.toList.drop (k + 1), 0) else (0, [], 3) by
          rw [hdrop, show 10 - k = (9 - k) + 1 by omega, tn, hc, show 9 - (9 - k) = k by omega, show 10 - (k + 1) = 9 - k by omega]
          unfold meB
          simp only [decide_eq_true_eq]
          congr 1
          have : (9 - k = 9 ∨ 0 < c ∧ (9 - k ≠ 0 ∨ c < 2)) ↔ (k = 0 ∨ 0 < c ∧ (k ≠ 9 ∨ c < 2)) := by omega
          simp only [this])
        have w7 : IntKind.i64.wrap (7 * (k : Int)) = 7 * (k : Int) := IntWalk.i64_in _ (by omega)
        have w70 : (0 : Int) ≤ 7 * (k : Int) := by omega
        have wt : (7 * (k : Int)).toNat = 7 * k := by omega
        have wl : bits BinOp.andNot IntKind.u8 (c : Int) 128 = ((c % 128 : Nat) : Int) := b_low c hc8
        have HO := Lib.hid (fun (h : k ≤ 8 ∨ c % 128 < 2) => or_seven acc (c % 128) k HA.out hk9 (by omega) h)
        obtain ⟨d, hd⟩ : ∃ d, c % 128 = d := ⟨_, rfl⟩
        rw [hd] at wl HO
        have wd : IntKind.u64.wrap (d : Int) = d := by rw [IntKind.wrap_u64]; omega
        have HK9 := Lib.hid hk9
        clear hdrop hk9 hlt
        by_cases hc1 : 128 ≤ c
        · have wb : bits BinOp.and IntKind.u8 (c : Int) 128 = 128 := by rw [b_top c hc8, if_pos hc1]
          rw [if_pos hc1] at HS
          have hcd : c - 128 = d := by omega
          rw [hcd] at HS
          have HC1 := Lib.hid hc1
          have HD := Lib.hid (show d < 128 by omega)
          clear hc1 hc8 hd hcd
          go_wp2_with fail
          go_round
          case rel =>
            refine ⟨k + 1, acc + d * 128 ^ k, _, HLT.out, by go_num, rfl, fun h => ?_, ?_, ?_⟩
            · rw [HX.out HK9.out, HO.out (.inl (by omega))]
            · have h1 := HA.out
              have h2 := HD.out
              have h3 : d * 128 ^ k ≤ 127 * 128 ^ k := Nat.mul_le_mul_right _ (by omega)
              rw [Nat.pow_succ]
              omega
            · rw [← HS.out, HT.out]
          case measure => have := HLT.out; simp [intOf]; omega
        · have wb : bits BinOp.and IntKind.u8 (c : Int) 128 = 0 := by rw [b_top c hc8, if_neg hc1]
          rw [if_neg hc1] at HS
          have hcd : c = d := by omega
          subst hcd
          have HM := Lib.hid (fun W => mayEnd_any k c W)
          cases hme : meB k c with
          | true =>
            rw [hme] at HM HS
            have hcc : k ≤ 8 ∨ c < 2 := by unfold meB at hme; have := of_decide_eq_true hme; have := HK9.out; omega
            have hst : k + 1 ≤ s.size := hks
            have i3 : (k : Int) + 1 ≤ (z : Int) := by omega
            have w1 : IntKind.i64.wrap ((k : Int) + 1) = (k : Int) + 1 := IntWalk.i64_in _ (by omega)
            have HE := Lib.hid (show (tkV s : Int) = (acc + c * 128 ^ k : Nat) ∧ tkR s = s.extract (k + 1) z ∧ tkE s = 0 by
              unfold tkV tkR tkE
              rw [← HT.out, HS.out, if_pos rfl]
              exact ⟨rfl, by rw [drop_ext, hz], rfl⟩)
            have HV := Lib.hid (HO.out hcc)
            clear hme hc1 hc8 hcc
            go_wp2_with fail
            refine (HM.out _).mono ?_
            rintro e w' ⟨rfl, rfl⟩
            go_wp2_with fail
            have mixed : Try.prog.follows .mixedOrders = true := by kernel_rfl
            go_region_o
            all_goals
              go_wp2_with fail
              go_ret3
              refine ⟨?_, Below.drew (Below.refl _ _)⟩
              rw [HE.out.1, HE.out.2.1, HE.out.2.2, HX.out HK9.out]
              first | rfl | (rw [HV.out]; rfl)
          | false =>
            rw [hme] at HM HS
            have HE := Lib.hid (show tkV s = 0 ∧ tkR s = ⟨#[]⟩ ∧ tkE s = 3 by
              unfold tkV tkR tkE
              rw [← HT.out, HS.out, if_neg (by decide)]
              exact ⟨rfl, rfl, rfl⟩)
            clear hme hc1 hc8
            go_wp2_with fail
            refine (HM.out _).mono ?_
            rintro e w' ⟨rfl, rfl⟩
            go_wp2_with fail
            go_ret3
            exact ⟨by rw [HE.out.1, HE.out.2.1, HE.out.2.2]; rfl, Below.refl _ _⟩
      · obtain rfl : k = z := by omega
        by_cases h9 : k < 10
        · have HE := Lib.hid (show tkV s = 0 ∧ tkR s = ⟨#[]⟩ ∧ tkE s = 2 by
            unfold tkV tkR tkE
            rw [← HT.out, List.drop_eq_nil_of_le (by simp; omega), show 10 - k = (9 - k) + 1 by omega]
            exact ⟨rfl, rfl, rfl⟩)
          have e1 : decide ((k : Int) < 10) = true := decide_eq_true (by omega)
          go_wp2_with fail
          go_ret3
          exact ⟨by rw [HE.out.1, HE.out.2.1, HE.out.2.2]; rfl, Below.refl _ _⟩
        · have HE := Lib.hid (show tkV s = 0 ∧ tkR s = ⟨#[]⟩ ∧ tkE s = 3 by
            unfold tkV tkR tkE
            rw [← HT.out, show 10 - k = 0 by omega]
            exact ⟨rfl, rfl, rfl⟩)
          have e1 : decide ((k : Int) < 10) = false := decide_eq_false (by omega)
          go_wp2_with fail
          go_ret3
          exact ⟨by rw [HE.out.1, HE.out.2.1, HE.out.2.2]; rfl, Below.refl _ _⟩
end Q
end Go.Proofs.Ytjldddpchiaalaa
namespace Go.Proofs.Ytjldddpchiaalaa
open Go.RowKit
namespace Q
/-- numbers that lie in a row -/
def Nums (W : World) (bs : Nat) (vs : List Nat) : Prop := ∃ cs fz, W.heap[bs]? = some (.cells cs 35 fz) ∧ ∀ (i : Nat) (h : i < vs.length), cs[i]? = some (.int .u64 vs[i])
theorem Nums.kept {W W' : World} {B b bs : Nat} {vs : List Nat} {l : List UInt8} (h : Nums W bs vs) (hf : Fl W B b l) (hk : Lib.OthersKept 5 (some b) W W') : Nums W' bs vs := by
  obtain ⟨cs, fz, h1, h2⟩ := h
  refine ⟨cs, fz, hk bs _ h1 (fun e => ?_) (fun c f e => by cases e), h2⟩
  have e2 : bs = b := Option.some.inj e
  subst e2
  rcases hf with ⟨-, v, hb, -⟩ | ⟨-, v, hb, -⟩ <;> (rw [h1] at hb; cases hb)
theorem Nums.cell {W : World} {bs : Nat} {vs : List Nat} (h : Nums W bs vs) {i : Nat} (hi : i < vs.length) : W.cell? ⟨bs, i, none⟩ = some (.int .u64 vs[i]) := by
  obtain ⟨cs, fz, h1, h2⟩ := h
  rw [Lib.cell_of_heap h1]; exact h2 i hi
theorem Nums.lt {W : World} {bs : Nat} {vs : List Nat} (h : Nums W bs vs) : bs < W.heap.size := by
  obtain ⟨cs, fz, h1, -⟩ := h
  exact (Array.getElem?_eq_some_iff.1 h1).1
/-- the bytes of numbers in a row -/
def numsQ (vs : List Nat) : List UInt8 := vs.flatMap numL
theorem numsQ_snoc (vs : List Nat) (i : Nat) (h : i < vs.length) : numsQ (vs.take (i + 1)) = numsQ (vs.take i) ++ numL vs[i] := by
  unfold numsQ
  rw [List.take_succ_eq_append_getElem h, List.flatMap_append]
  simp
theorem numsQ_length : ∀ vs : List Nat, (∀ v ∈ vs, v < 18446744073709551616) → (numsQ vs).length ≤ 10 * vs.length
  | [], _ => by simp [numsQ]
  | v :: vs, h => by
    have h1 := numsQ_length vs (fun x hx => h x (by simp [hx]))
    have h2 := numL_ten (h v (by simp))
    unfold numsQ at h1 ⊢
    rw [List.flatMap_cons, List.length_append, List.length_cons]
    omega
set_option maxRecDepth 100000 in
set_option maxHeartbeats 4000000 in
theorem numbers_any (B b bs cap : Nat) (l : List UInt8) (vs : List Nat) (w : World) (h : Fl w B b l) (hv : Nums w bs vs) (h8 : vs.length ≤ 100) (h64 : ∀ v ∈ vs, v < 18446744073709551616) (hl : l.length ≤ 100000000) (hB : B ≤ w.heap.size) :
    Calls Try.prog 23 #[.pointer (some ⟨b, 0, none⟩), .slice (some ⟨bs, 0, none⟩) vs.length cap] w fun e w' => e = .returned (.tuple #[]) ∧ Fl w' B b (l ++ numsQ vs) ∧ Below B w w' ∧ Lib.OthersKept 5 (some b) w w' := by
  have HF := Lib.hid h
  have HV := Lib.hid hv
  have H64 := Lib.hid h64
  have HL := Lib.hid hl
  have HB := Lib.hid hB
  obtain ⟨nv, hnv⟩ : ∃ n, vs.length = n := ⟨_, rfl⟩
  have HNV := Lib.hid hnv
  have n8 : (nv : Int) ≤ 100 := by omega
  rw [hnv]
  clear h hv h64 hl hB hnv h8
  go_enter Try.func23, Try.ntmps23
  go_wp2_with fail
  go_loopw [8] (fun iv wr => ∃ i : Nat, i ≤ nv ∧ iv = .int .i64 i ∧ Fl wr B b (l ++ numsQ (vs.take i)) ∧ Below B w wr ∧ Lib.OthersKept 5 (some b) w wr) (fun iv _ => nv - (intOf iv).toNat)
  case atStart => exact ⟨0, Nat.zero_le _, rfl, by simpa [numsQ] using HF.out, Below.refl _ _, Lib.OthersKept.refl _ _ _⟩
  case round =>
    obtain ⟨i, hi, rfl, hf, hb, hk⟩ := hrel
    have HFI := Lib.hid hf
    have HBI := Lib.hid hb
    have HKI := Lib.hid hk
    clear hf hb hk
    by_cases hlt : i < nv
    · have hil : i < vs.length := by have := HNV.out; omega
      have HVI := Lib.hid (HV.out.kept HF.out HKI.out)
      have hc := HVI.out.cell hil
      have hv64 := H64.out vs[i] (List.getElem_mem hil)
      have HSN := Lib.hid (numsQ_snoc vs i hil)
      have hnl : (numsQ (vs.take i)).length ≤ 10 * i := by
        have := numsQ_length (vs.take i) (fun x hx => H64.out x (List.mem_of_mem_take hx))
        rw [List.length_take, Nat.min_eq_left (by omega)] at this
        exact this
      have HNL := Lib.hid (show (l ++ numsQ (vs.take i)).length ≤ 100001000 by
        rw [List.length_append]
        have := HL.out
        omega)
      obtain ⟨v, hvv⟩ : ∃ v, vs[i] = v := ⟨_, rfl⟩
      rw [hvv] at hc hv64 HSN
      obtain ⟨pre, hpre⟩ : ∃ p, l ++ numsQ (vs.take i) = p := ⟨_, rfl⟩
      have HPRE := Lib.hid hpre
      rw [hpre] at HFI HNL
      have HIL := Lib.hid hlt
      have i0 : (0 : Int) ≤ (i : Int) := by omega
      have i1 : (i : Int) < (nv : Int) := by omega
      have HV6 := Lib.hid hv64
      have HTEN := Lib.hid (numL_ten hv64)
      clear hil hvv hpre hnl hv64
      go_wp2_with fail
      go_loopw [5] (fun jv wr2 => ∃ (x : Nat) (q : List UInt8), x < 18446744073709551616 ∧ jv = .int .u64 x ∧ q ++ numL x = pre ++ numL v ∧ Fl wr2 B b q ∧ Below B w wr2 ∧ Lib.OthersKept 5 (some b) w wr2) (fun jv _ => (intOf jv).toNat)
      case atStart => exact ⟨v, pre, HV6.out, rfl, rfl, HFI.out, HBI.out, HKI.out⟩
      case round =>
        obtain ⟨x, q, hx, rfl, hq, hf2, hb2, hk2⟩ := hrel
        have HF2 := Lib.hid hf2
        have HB2 := Lib.hid hb2
        have HK2 := Lib.hid hk2
        have HQ := Lib.hid hq
        have hql : q.length ≤ 100001010 := by
          have h1 := congrArg List.length hq
          rw [List.length_append, List.length_append] at h1
          have h2 := HNL.out
          have h3 := HTEN.out
          omega
        clear hf2 hb2 hk2 hc hq
        by_cases hx1 : x < 128
        · have e1 : decide ((128 : Int) ≤ (x : Int)) = false := decide_eq_false (by omega)
          have w8 : IntKind.u8.wrap (x : Int) = (x : Int) := by rw [IntKind.wrap_u8']; omega
          have HFB := Lib.hid (fbyte_any B b q (UInt8.ofNat x) wr HF2.out (by omega) (Nat.le_trans HB.out HB2.out.size))
          rw [ofNat_toNat (by omega)] at HFB
          have hqe := HQ.out
          rw [numL_lt hx1] at hqe
          have HQ := Lib.hid hqe
          clear hqe hx1
          go_wp2_with fail
          refine HFB.out.mono ?_
          rintro e w2 ⟨rfl, hf3, hb3, hk3⟩
          rw [HQ.out, ← HPRE.out, List.append_assoc, ← HSN.out] at hf3
          have HF3 := Lib.hid hf3.fl
          have HB3 := Lib.hid (HB2.out.trans hb3)
          have HK3 := Lib.hid (HK2.out.trans hk3)
          clear hf3 hb3 hk3
          go_wp2_with fail
          go_roundw
          case rel => exact ⟨i + 1, HIL.out, by go_num, HF3.out, HB3.out, HK3.out⟩
          case measure => have := HIL.out; simp [intOf]; omega
        · have e1 : decide ((128 : Int) ≤ (x : Int)) = true := decide_eq_true (by omega)
          have w8 : IntKind.u8.wrap (x : Int) = ((x % 256 : Nat) : Int) := by rw [IntKind.wrap_u8']; omega
          have wb : bits BinOp.or IntKind.u8 ((x % 256 : Nat) : Int) 128 = ((x % 128 + 128 : Nat) : Int) := by
            rw [b_set _ (by omega), show x % 256 % 128 = x % 128 by omega]
          have HFB := Lib.hid (fbyte_any B b q (UInt8.ofNat (x % 128 + 128)) wr HF2.out (by omega) (Nat.le_trans HB.out HB2.out.size))
          rw [ofNat_toNat (by omega)] at HFB
          have hqe := HQ.out
          rw [numL_ge hx1] at hqe
          have HQ := Lib.hid hqe
          obtain ⟨y, hy⟩ : ∃ y, x / 128 = y := ⟨_, rfl⟩
          rw [hy] at HQ
          have HX := Lib.hid (show y < x ∧ y < 18446744073709551616 by omega)
          have hsh : (x : Int) / 128 = (y : Int) := by omega
          obtain ⟨p, hp⟩ : ∃ p, x % 256 = p := ⟨_, rfl⟩
          obtain ⟨r, hr⟩ : ∃ r, x % 128 + 128 = r := ⟨_, rfl⟩
          rw [hp] at w8 wb
          rw [hr] at wb HFB HQ
          clear hqe hx1 hp hr hy hx
          go_wp2_with fail
          refine HFB.out.mono ?_
          rintro e w2 ⟨rfl, hf3, hb3, hk3⟩
          have HF3 := Lib.hid hf3.fl
          have HB3 := Lib.hid (HB2.out.trans hb3)
          have HK3 := Lib.hid (HK2.out.trans hk3)
          clear hf3 hb3 hk3
          go_wp2_with fail
          go_roundw
          case rel => exact ⟨y, _, HX.out.2, by go_num, by rw [← HQ.out]; simp, HF3.out, HB3.out, HK3.out⟩
          case measure => have := HX.out.1; simp [intOf]; omega
    · have HF3 := Lib.hid (show Fl wr B b (l ++ numsQ vs) by
        have h := HFI.out
        rw [List.take_of_length_le (by have := HNV.out; omega)] at h
        exact h)
      go_wp2_with fail
      go_end0
      exact ⟨rfl, HF3.out, HBI.out, HKI.out⟩
end Q
end Go.Proofs.Ytjldddpchiaalaa
namespace Go.Proofs.Ytjldddpchiaalaa
open Go.RowKit
namespace Q
theorem Nums.new (W : World) (vs : List Nat) : Nums (W.alloc (.cells (vs.map fun v : Nat => Value.int .u64 (v : Int)).toArray 35)) W.heap.size vs :=
  ⟨_, _, heap_alloc_new _ _, fun i hi => by simp [hi]⟩
theorem Fl.alloc {W : World} {B b : Nat} {l : List UInt8} (h : Fl W B b l) (o : Obj) : Fl (W.alloc o) B b l := by
  have hlt := h.lt
  rcases h with ⟨h1, v, hb, hown, hne⟩ | ⟨h1, v, hb, hown, hne⟩
  · exact .inl ⟨h1, v, by rw [Lib.alloc_old W o b hlt]; exact hb, hown.alloc o, hne⟩
  · exact .inr ⟨h1, v, by rw [Lib.alloc_old W o b hlt]; exact hb, hown.alloc o, hne⟩
/-- a file's frame: what was below B, and what isn't the file's or bytes, is as it was -/
structure Keep (B b : Nat) (w w' : World) : Prop where
  below : Below B w w'
  kept : Lib.OthersKept 5 (some b) w w'
theorem Keep.refl (B b : Nat) (w : World) : Keep B b w w := ⟨Below.refl _ _, Lib.OthersKept.refl _ _ _⟩
theorem Keep.alloc {B b : Nat} {w w' : World} (h : Keep B b w w') (hB : B ≤ w'.heap.size) (o : Obj) : Keep B b w (w'.alloc o) := ⟨h.below.alloc hB o, h.kept.alloc o⟩
theorem Keep.trans {B b : Nat} {w w' w2 : World} (h : Keep B b w w') (g : Keep B b w' w2) : Keep B b w w2 := ⟨h.below.trans g.below, h.kept.trans g.kept⟩
/-- where a file stands: its bytes, its frame -/
structure Lies (B b : Nat) (w : World) (l : List UInt8) (W : World) : Prop where
  f : Fl W B b l
  k : Keep B b w W
  s : B ≤ W.heap.size
theorem Lies.alloc {B b : Nat} {w W : World} {l : List UInt8} (h : Lies B b w l W) (o : Obj) : Lies B b w l (W.alloc o) := ⟨h.f.alloc o, h.k.alloc h.s o, by have := h.s; simp; omega⟩
theorem nums_put (B b : Nat) (l : List UInt8) (vs : List Nat) (w W : World) (h : Lies B b w l W) (h8 : vs.length ≤ 100) (h64 : ∀ v ∈ vs, v < 18446744073709551616) (hl : l.length ≤ 100000000) :
    Calls Try.prog 23 #[.pointer (some ⟨b, 0, none⟩), .slice (some ⟨W.heap.size, 0, none⟩) vs.length vs.length] (W.alloc (.cells (vs.map fun v : Nat => Value.int .u64 (v : Int)).toArray 35)) fun e w' => e = .returned (.tuple #[]) ∧ Lies B b w (l ++ numsQ vs) w' := by
  have h2 := h.alloc (.cells (vs.map fun v : Nat => Value.int .u64 (v : Int)).toArray 35)
  refine (numbers_any B b _ _ l vs _ h2.f (Nums.new W vs) h8 h64 hl h2.s).mono ?_
  rintro e w' ⟨rfl, g1, g2, g3⟩
  exact ⟨rfl, g1, h2.k.trans ⟨g2, g3⟩, Nat.le_trans h2.s g2.size⟩
/-- a number's bytes, as a string -/
def numS (v : Nat) : ByteArray := ⟨(numL v).toArray⟩
theorem numS_size (v : Nat) : (numS v).size = (numL v).length := by
  show (numL v).toArray.size = _
  simp
set_option maxRecDepth 100000 in
set_option maxHeartbeats 1000000 in
theorem num_any (v : Nat) (hv : v < 18446744073709551616) (w : World) : Calls Try.prog 12 #[.int .u64 v] w fun e w' => e = .returned (.string (numS v)) ∧ Below w.heap.size w w' := by
  obtain ⟨W, hW⟩ : ∃ W, w.alloc (.cells #[.pointer none, .slice none 0 0] 47) = W := ⟨_, rfl⟩
  obtain ⟨B, hB⟩ : ∃ B, w.heap.size = B := ⟨_, rfl⟩
  have h0 : Lies B B w [] W := by
    rw [← hW, ← hB]
    exact ⟨Fl.new w, (Keep.refl w.heap.size w.heap.size w).alloc (Nat.le_refl _) _, by rw [World.size_alloc]; exact Nat.le_succ _⟩
  have h1 : ∀ x ∈ [v], x < 18446744073709551616 := fun x hx => by
    rw [List.mem_singleton] at hx
    rw [hx]
    exact hv
  have h2 : [v].length ≤ 100 := by rw [List.length_singleton]; decide
  have h3 : ([] : List UInt8).length ≤ 100000000 := Nat.zero_le _
  have hc : Calls Try.prog 23 #[.pointer (some ⟨B, 0, none⟩), .slice (some ⟨W.heap.size, 0, none⟩) 1 1] (W.alloc (.cells #[.int .u64 v] 35)) fun e w' => e = .returned (.tuple #[]) ∧ Lies B B w (numL v) w' := by
    have h := nums_put B B [] [v] w W h0 h2 h1 h3
    rw [show [] ++ numsQ [v] = numL v by simp [numsQ]] at h
    exact h
  have HP := Lib.hid (show numL v ≠ [] by intro h; have := numL_pos v; rw [h] at this; simp at this)
  have HBB := Lib.hid hB
  clear hv h0 h1 h2 h3
  go_enter Try.func12, Try.ntmps12
  go_upto_region 2 with fail
  try rw [hW, hB]
  clear hW hB
  go_wp2_with fail
  refine hc.mono ?_
  rintro e w1 ⟨rfl, hL⟩
  have HL := Lib.hid hL
  have HS := Lib.hid (fstringl_any B B (numL v) w1 hL.f HP.out)
  clear hL hc
  go_wp2_with fail
  refine HS.out.mono ?_
  rintro e w2 ⟨rfl, hb⟩
  have HB := Lib.hid (HL.out.k.below.trans hb)
  clear hb
  go_wp2_with fail
  go_ret
  exact ⟨rfl, HBB.out ▸ HB.out⟩
end Q
end Go.Proofs.Ytjldddpchiaalaa
