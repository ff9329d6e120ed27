/- Plain facts of memory in pages: pages, where one stands, stretches of places, bytes and numbers. Nothing of the program. Plain facts of bytes and numbers, the lowest byte first; what stands at places of memory; memory with bytes laid into it. Nothing of the program. Walks of the small functions of package page: what each call comes to, for every argument. Where the page at a place stands in memory: slices of pages, the comparison, the search by halves, find. Exits through many blocks, one at a time. Nothing of the program. The search by halves among pages, and find. A region that draws its order, whose operations only read and whose callees may lay blocks of their own, walked once: the class of worlds is all that keep what lay when the region began. Right: is memory right? grants: is there a page at a place, and does it grant perm? number: the number of bytes, the lowest first; lowest: the lowest bytes of a number. A block that is known whole; lowest: the lowest bytes of a number. A region that draws its order, in a round of a range over a function: walked by the laws that hold outside of rounds. What every law's row wants besides its walk: arguments that read as they read before. -/
import Derived.Test.YtcfniagmnkngfaaProg
import Derived.WalkKit
import Derived.WalkLawsBesides
import Derived.Lib.Hide
import Derived.Below
import Derived.Outline
import Derived.LoopTactic
import Derived.Deep.QuietTactic
import Derived.BigQuiet
import Derived.Laws.Rows
import Derived.Laws.Shifts
import Derived.Laws.Bits64b
import Derived.OwnWalk
import Derived.Laws.OwnMore
import Derived.Lib.UnsafeStr
import Derived.OrdersIn
import Derived.OrdersHeld
import Derived.Deep.RegionHeld
import Derived.CallsIn
import Derived.RangeFuncCalls
import Derived.TacticsIn
import Derived.Test.YtcfniagmnkngfaaRows
import Derived.ProofKit
import Derived.OpenShut
import Derived.ShutString
import Derived.Deep.DeepHandedRow
import Derived.Deep.Fields
import Derived.Lib.LaidTab
import Derived.Lib.SmallJoins
import Derived.Deep.Slices
namespace Go.Proofs.Ytcfniagmnkngfaa.M

/-- a page: its place, what may be done with it, its bytes -/
structure Pg where
  a : Int
  p : Int
  d : ByteArray

def okPerm (p : Int) : Bool := decide (0 ≤ p ∧ p ≤ 7)
def okPg (x : Pg) : Bool := decide (x.a % 256 = 0) && (okPerm x.p && decide (x.d.size = 256))

/-- right memory -/
structure Right (m : List Pg) : Prop where
  len : m.length ≤ 64
  ok : ∀ x ∈ m, okPg x = true
  up : m.Pairwise (fun x y => x.a < y.a)
  ge : ∀ x ∈ m, 0 ≤ x.a
  le : ∀ x ∈ m, x.a ≤ 18446744073709551615

theorem Right.at_lt {m : List Pg} (h : Right m) {i j : Nat} (hij : i < j) (hj : j < m.length) : m[i].a < m[j].a :=
  List.pairwise_iff_getElem.1 h.up i j (by omega) hj hij
theorem Right.at_le {m : List Pg} (h : Right m) {i j : Nat} (hij : i ≤ j) (hj : j < m.length) : m[i].a ≤ m[j].a := by
  rcases Nat.lt_or_eq_of_le hij with h1 | rfl
  · exact Int.le_of_lt (h.at_lt h1 hj)
  · exact Int.le_refl _
theorem Right.at_mod {m : List Pg} (h : Right m) {i : Nat} (hi : i < m.length) : m[i].a % 256 = 0 := by
  have := h.ok _ (List.getElem_mem hi)
  simp [okPg] at this; exact this.1
theorem Right.size {m : List Pg} (h : Right m) {i : Nat} (hi : i < m.length) : m[i].d.size = 256 := by
  have := h.ok _ (List.getElem_mem hi)
  simp [okPg] at this; exact this.2.2
theorem Right.perm {m : List Pg} (h : Right m) {i : Nat} (hi : i < m.length) : 0 ≤ m[i].p ∧ m[i].p ≤ 7 := by
  have := h.ok _ (List.getElem_mem hi)
  simp [okPg, okPerm] at this; exact this.2.1

/-- how many pages stand below x -/
def low (m : List Pg) (x : Int) : Nat := m.countP (fun q => decide (q.a < x))
theorem low_le (m : List Pg) (x : Int) : low m x ≤ m.length := List.countP_le_length
/-- is there one at x? -/
def there (m : List Pg) (x : Int) : Bool := m.any (fun q => q.a == x)

theorem low_cons (q : Pg) (m : List Pg) (x : Int) : low (q :: m) x = low m x + (if q.a < x then 1 else 0) := by
  unfold low; rw [List.countP_cons]; simp

theorem low_zero {m : List Pg} {x : Int} (h : ∀ q ∈ m, x ≤ q.a) : low m x = 0 := by
  unfold low; rw [List.countP_eq_zero]; intro q hq; have := h q hq; simp; omega

theorem lt_low {m : List Pg} (hu : m.Pairwise (fun x y => x.a < y.a)) (x : Int) : ∀ {i : Nat} (hi : i < m.length), (m[i].a < x ↔ i < low m x) := by
  induction m with
  | nil => intro i hi; simp at hi
  | cons q m ih =>
    rw [List.pairwise_cons] at hu
    intro i hi
    rw [low_cons]
    by_cases hq : q.a < x
    · rw [if_pos hq]
      cases i with
      | zero => simp [hq]
      | succ i =>
        have := ih hu.2 (i := i) (by simpa using hi)
        simp only [List.getElem_cons_succ]; omega
    · rw [if_neg hq, low_zero (fun r hr => by have := hu.1 r hr; omega)]
      cases i with
      | zero => simp; omega
      | succ i =>
        have := hu.1 (m[i]'(by simpa using hi)) (List.getElem_mem _)
        simp only [List.getElem_cons_succ]; omega

theorem there_iff {m : List Pg} (hu : m.Pairwise (fun x y => x.a < y.a)) (x : Int) : there m x = true ↔ ∃ h : low m x < m.length, m[low m x].a = x := by
  unfold there
  rw [List.any_eq_true]
  constructor
  · rintro ⟨q, hq, he⟩
    simp at he
    obtain ⟨i, hi, rfl⟩ := List.getElem_of_mem hq
    have h1 : ¬ i < low m x := fun h => by have := (lt_low hu x hi).2 h; omega
    have h2 : ¬ low m x < i := fun h => by
      have h3 : ¬ low m x < low m x := Nat.lt_irrefl _
      have := List.pairwise_iff_getElem.1 hu (low m x) i (by omega) hi h
      exact h3 ((lt_low hu x (by omega)).1 (by omega))
    obtain rfl : i = low m x := by omega
    exact ⟨hi, he⟩
  · rintro ⟨h, he⟩
    exact ⟨_, List.getElem_mem h, by simp [he]⟩

/-- a row of places in one page -/
structure Str where
  pg : Int
  f : Int
  n : Int

/-- n places from a on, page by page -/
def strs (a n : Int) : List Str :=
  if _h : n ≤ 0 then [] else
    ⟨a - a % 256, a % 256, min n (256 - a % 256)⟩ :: strs (a + min n (256 - a % 256)) (n - min n (256 - a % 256))
termination_by n.toNat
decreasing_by omega

theorem strs_nil {a n : Int} (h : n ≤ 0) : strs a n = [] := by unfold strs; rw [dif_pos h]
theorem strs_cons {a n : Int} (h : 0 < n) : strs a n = ⟨a - a % 256, a % 256, min n (256 - a % 256)⟩ :: strs (a + min n (256 - a % 256)) (n - min n (256 - a % 256)) := by
  conv => lhs; unfold strs
  rw [dif_neg (by omega)]

/-- what a row is, wherever it came -/
structure Str.Ok (s : Str) : Prop where
  f0 : 0 ≤ s.f
  n1 : 1 ≤ s.n
  fn : s.f + s.n ≤ 256
  pg0 : 0 ≤ s.pg
  pg1 : s.pg ≤ 18446744073709551360
  md : s.pg % 256 = 0

theorem strs_ok {a n : Int} (a0 : 0 ≤ a) (h : a + n ≤ 18446744073709551616) : ∀ s ∈ strs a n, s.Ok ∧ a ≤ s.pg + s.f ∧ s.pg + s.f + s.n ≤ a + n := by
  by_cases hn : n ≤ 0
  · rw [strs_nil hn]; intro s hs; cases hs
  · rw [strs_cons (by omega)]
    intro s hs
    rw [List.mem_cons] at hs
    rcases hs with rfl | hs
    · refine ⟨⟨?_, ?_, ?_, ?_, ?_, ?_⟩, ?_, ?_⟩ <;> simp only <;> omega
    · have := strs_ok (a := a + min n (256 - a % 256)) (n := n - min n (256 - a % 256)) (by omega) (by omega) s hs
      exact ⟨this.1, by omega, by omega⟩
termination_by n.toNat
decreasing_by omega

/-- every place has its row -/
theorem strs_has {a n : Int} (a0 : 0 ≤ a) : ∀ t, a ≤ t → t < a + n → ∃ s ∈ strs a n, s.pg = t - t % 256 ∧ s.pg + s.f ≤ t ∧ t < s.pg + s.f + s.n := by
  intro t h1 h2
  rw [strs_cons (by omega)]
  by_cases h : t < a + min n (256 - a % 256)
  · refine ⟨_, List.mem_cons_self, ?_, ?_, ?_⟩ <;> simp only <;> omega
  · obtain ⟨s, hs, h3⟩ := strs_has (a := a + min n (256 - a % 256)) (n := n - min n (256 - a % 256)) (by omega) t (by omega) (by omega)
    exact ⟨s, by simp [hs], h3⟩
termination_by n.toNat
decreasing_by omega

theorem strs_len {a n : Int} : (strs a n).length ≤ n.toNat := by
  by_cases hn : n ≤ 0
  · rw [strs_nil hn]; simp
  · rw [strs_cons (by omega), List.length_cons]
    have := strs_len (a := a + min n (256 - a % 256)) (n := n - min n (256 - a % 256))
    omega
termination_by n.toNat
decreasing_by omega
end Go.Proofs.Ytcfniagmnkngfaa.M

namespace Go.Proofs.Ytcfniagmnkngfaa.M

/-- the number of bytes, the lowest first -/
def num : List UInt8 → Int
  | [] => 0
  | b :: l => (b.toNat : Int) + 256 * num l

theorem num_nonneg : ∀ l, 0 ≤ num l
  | [] => by simp [num]
  | b :: l => by have := num_nonneg l; simp only [num]; omega
theorem num_lt : ∀ l, num l < 256 ^ l.length
  | [] => by simp [num]
  | b :: l => by
    have := num_lt l
    have hb := b.toNat_lt
    simp only [num, List.length_cons, Int.pow_succ]
    omega
theorem num_snoc : ∀ (l : List UInt8) (b : UInt8), num (l ++ [b]) = num l + (b.toNat : Int) * 256 ^ l.length
  | [], b => by simp [num]
  | c :: l, b => by
    have := num_snoc l b
    simp only [num, List.cons_append, List.length_cons, Int.pow_succ, this]
    rw [Int.mul_add]
    have : 256 * ((b.toNat : Int) * 256 ^ l.length) = (b.toNat : Int) * (256 ^ l.length * 256) := by
      rw [← Int.mul_assoc, Int.mul_comm 256, Int.mul_assoc, Int.mul_comm (256 ^ l.length)]
    omega

/-- the lowest n bytes of v -/
def lowest (v : Nat) : Nat → List UInt8
  | 0 => []
  | n + 1 => UInt8.ofNat (v % 256) :: lowest (v / 256) n
theorem lowest_length : ∀ (n v : Nat), (lowest v n).length = n
  | 0, _ => rfl
  | n + 1, v => by simp [lowest, lowest_length n]
theorem num_lowest : ∀ (n v : Nat), num (lowest v n) = ((v % 256 ^ n : Nat) : Int)
  | 0, v => by simp [lowest, num, Nat.mod_one]
  | n + 1, v => by
    have := num_lowest n (v / 256)
    simp only [lowest, num, this]
    have h1 : (UInt8.ofNat (v % 256)).toNat = v % 256 := by simp
    rw [h1]
    have h2 : v % 256 ^ (n + 1) = v % 256 + 256 * (v / 256 % 256 ^ n) := by
      rw [Nat.pow_succ, Nat.mul_comm, Nat.mod_mul]
    omega
theorem lowest_snoc : ∀ (n v : Nat), lowest v (n + 1) = lowest v n ++ [UInt8.ofNat (v / 256 ^ n % 256)]
  | 0, v => by simp [lowest]
  | n + 1, v => by
    rw [lowest, lowest_snoc n (v / 256), lowest]
    simp [Nat.pow_succ, Nat.div_div_eq_div_mul, Nat.mul_comm]

/-- the page at x -/
def pageAt (m : List Pg) (x : Int) : Option Pg := if there m x then m[low m x]? else none
/-- the bytes of the page at x -/
def dataAt (m : List Pg) (x : Int) : ByteArray := (m[low m x]?.map Pg.d).getD .empty
/-- the bytes of a row -/
def rowBytes (m : List Pg) (s : Str) : List UInt8 := ((dataAt m s.pg).data.toList.drop s.f.toNat).take s.n.toNat
/-- the byte at a place -/
def byteAt (m : List Pg) (t : Int) : UInt8 := (dataAt m (t - t % 256)).data.toList.getD (t % 256).toNat 0
/-- n bytes from a on -/
def bytesOf (m : List Pg) (a : Int) : Nat → List UInt8
  | 0 => []
  | n + 1 => byteAt m a :: bytesOf m (a + 1) n
theorem bytesOf_length (m : List Pg) : ∀ (n : Nat) (a : Int), (bytesOf m a n).length = n
  | 0, _ => rfl
  | n + 1, a => by simp [bytesOf, bytesOf_length m n]
theorem bytesOf_add (m : List Pg) : ∀ (j k : Nat) (a : Int), bytesOf m a (j + k) = bytesOf m a j ++ bytesOf m (a + j) k
  | 0, k, a => by simp [bytesOf]
  | j + 1, k, a => by
    have := bytesOf_add m j k (a + 1)
    rw [show j + 1 + k = (j + k) + 1 by omega]
    simp only [bytesOf, List.cons_append, this]
    rw [show a + 1 + (j : Int) = a + ((j + 1 : Nat) : Int) by omega]
theorem bytesOf_get (m : List Pg) : ∀ (n : Nat) (a : Int) (i : Nat), i < n → (bytesOf m a n)[i]? = some (byteAt m (a + i))
  | 0, _, _, h => by omega
  | n + 1, a, 0, _ => by simp [bytesOf]
  | n + 1, a, i + 1, h => by
    simp only [bytesOf, List.getElem?_cons_succ]
    rw [bytesOf_get m n (a + 1) i (by omega)]
    congr 2; omega

/-- within one page -/
theorem bytesOf_page (m : List Pg) (a : Int) (n : Nat) (h : a % 256 + n ≤ 256) (hs : (dataAt m (a - a % 256)).size = 256) :
    bytesOf m a n = ((dataAt m (a - a % 256)).data.toList.drop (a % 256).toNat).take n := by
  apply List.ext_getElem?
  intro i
  by_cases hi : i < n
  · rw [bytesOf_get m n a i hi, List.getElem?_take_of_lt hi, List.getElem?_drop]
    unfold byteAt
    rw [show a + (i : Int) - (a + i) % 256 = a - a % 256 by omega, show ((a + (i : Int)) % 256).toNat = (a % 256).toNat + i by omega]
    rw [List.getD_eq_getElem?_getD, List.getElem?_eq_getElem (by simp at hs ⊢; omega)]
    simp
  · rw [List.getElem?_eq_none (by rw [bytesOf_length]; omega), List.getElem?_eq_none (by simp; omega)]

/-- the bytes of all rows are those of all places -/
theorem rows_bytes (m : List Pg) {a n : Int} (a0 : 0 ≤ a) (h : ∀ s ∈ strs a n, (dataAt m s.pg).size = 256) : (strs a n).flatMap (rowBytes m) = bytesOf m a n.toNat := by
  by_cases hn : n ≤ 0
  · rw [strs_nil hn, show n.toNat = 0 by omega]; rfl
  · have hc := strs_cons (a := a) (n := n) (by omega)
    rw [hc] at h
    rw [hc, List.flatMap_cons, rows_bytes m (by omega) (fun s hs => h s (List.mem_cons_of_mem _ hs))]
    have h0 := h _ List.mem_cons_self
    simp only at h0
    have h1 : rowBytes m ⟨a - a % 256, a % 256, min n (256 - a % 256)⟩ = bytesOf m a (min n (256 - a % 256)).toNat := by
      rw [bytesOf_page m a _ (by omega) h0]; rfl
    rw [h1, show n.toNat = (min n (256 - a % 256)).toNat + (n - min n (256 - a % 256)).toNat by omega, bytesOf_add]
    congr 2; omega
termination_by n.toNat
decreasing_by omega
end Go.Proofs.Ytcfniagmnkngfaa.M

namespace Go.Proofs.Ytcfniagmnkngfaa
open Go.RowKit
theorem ret_int {k : IntKind} {a b : Int} (h : a = b) : Ending.returned (.int k a) = .returned (.int k b) := by rw [h]
theorem ret_bool {a b : Bool} (h : a = b) : Ending.returned (.bool a) = .returned (.bool b) := by rw [h]
theorem bthen {w W w' : World} (h : Below w.heap.size w W) (hb : Below W.heap.size W w') : Below w.heap.size w w' := h.trans (hb.mono h.size)
theorem balloc {w W : World} (h : Below w.heap.size w W) (o : Obj) : Below w.heap.size w (W.alloc o) := h.alloc h.size o

/-- is one of n places from a on beyond the last one? -/
def beyondB (a n : Int) : Bool := decide (0 < n ∧ 18446744073709551615 < a + (n - 1))
end Go.Proofs.Ytcfniagmnkngfaa

namespace Go.Proofs.Ytcfniagmnkngfaa
open Go.RowKit

theorem bcell {W w1 : World} (hb : Below W.heap.size W w1) : (∀ b o, b < W.heap.size → w1.cell? ⟨b, o, none⟩ = W.cell? ⟨b, o, none⟩) ∧ (∀ b o, b < W.heap.size → w1.frozen? ⟨b, o, none⟩ = W.frozen? ⟨b, o, none⟩) :=
  ⟨fun b o h => hb.cell (p := ⟨b, o, none⟩) h, fun b o h => hb.frozen (p := ⟨b, o, none⟩) h⟩

/-- pages that lie from a place on -/
def PagesIn (W : World) (b off : Nat) (m : List M.Pg) : Prop :=
  b < W.heap.size ∧ ∀ (i : Nat) (h : i < m.length), W.cell? ⟨b, off + i * 3, none⟩ = some (.int .u64 m[i].a) ∧ W.cell? ⟨b, off + i * 3 + 1, none⟩ = some (.int .i64 m[i].p) ∧ W.cell? ⟨b, off + i * 3 + 2, none⟩ = some (.string m[i].d)
theorem PagesIn.next {W W' : World} {b off : Nat} {m : List M.Pg} (h : PagesIn W b off m) (hb : Below W.heap.size W W') : PagesIn W' b off m := by
  refine ⟨Nat.lt_of_lt_of_le h.1 hb.size, fun i hi => ?_⟩
  obtain ⟨h0, h1, h2⟩ := h.2 i hi
  have hc := (bcell hb).1
  exact ⟨(hc _ _ h.1).trans h0, (hc _ _ h.1).trans h1, (hc _ _ h.1).trans h2⟩
/-- a slice of pages -/
def Pages (W : World) (v : Value) (m : List M.Pg) : Prop :=
  (m = [] ∧ (v = .slice none 0 0 ∨ ∃ a cap, v = .slice (some a) 0 cap)) ∨ (0 < m.length ∧ ∃ b off cap, v = .slice (some ⟨b, off, none⟩) m.length cap ∧ PagesIn W b off m)
theorem Pages.next {W W' : World} {v : Value} {m : List M.Pg} (h : Pages W v m) (hb : Below W.heap.size W W') : Pages W' v m := by
  rcases h with h | ⟨h1, b, off, cap, rfl, h2⟩
  · exact .inl h
  · exact .inr ⟨h1, b, off, cap, rfl, h2.next hb⟩
theorem Pages.slice {W : World} {v : Value} {m : List M.Pg} (h : Pages W v m) : ∃ A cap, v = .slice A m.length cap := by
  rcases h with ⟨rfl, rfl | ⟨a, cap, rfl⟩⟩ | ⟨_, b, off, cap, rfl, _⟩ <;> exact ⟨_, _, rfl⟩


def cmpI (x y : Int) : Int := if x < y then -1 else if y < x then 1 else 0

end Go.Proofs.Ytcfniagmnkngfaa

namespace Go.Proofs.Ytcfniagmnkngfaa
open Go.RowKit

theorem xt_exit {n : Nat} {K : Act → World → Prop} {Q : Exit → Act → World → Prop} {a : Act} {w : World} (h : Q (.exit n) a w) : Exit.then K Q (.exit n) a w := h
theorem xt_ret {K : Act → World → Prop} {Q : Exit → Act → World → Prop} {a : Act} {w : World} (h : Q .ret a w) : Exit.then K Q .ret a w := h
theorem xt_norm {K : Act → World → Prop} {Q : Exit → Act → World → Prop} {a : Act} {w : World} (h : K a w) : Exit.then K Q .normal a w := h
theorem xb_norm {n : Nat} {Q : Exit → Act → World → Prop} {a : Act} {w : World} (h : Q .normal a w) : Exit.inBlock n Q .normal a w := h
theorem xb_ret {n : Nat} {Q : Exit → Act → World → Prop} {a : Act} {w : World} (h : Q .ret a w) : Exit.inBlock n Q .ret a w := h
theorem xb_hit {n : Nat} {Q : Exit → Act → World → Prop} {a : Act} {w : World} (h : Q .normal a w) : Exit.inBlock n Q (.exit n) a w := by
  show (if n = n then Q .normal a w else Q (.exit n) a w)
  rw [if_pos rfl]; exact h
theorem xb_skip {m n : Nat} {Q : Exit → Act → World → Prop} {a : Act} {w : World} (hn : (m == n) = false) (h : Q (.exit m) a w) : Exit.inBlock n Q (.exit m) a w := by
  show (if m = n then Q .normal a w else Q (.exit m) a w)
  rw [if_neg (by simpa using hn)]; exact h
end Go.Proofs.Ytcfniagmnkngfaa

namespace Go.Proofs.Ytcfniagmnkngfaa
open Go.RowKit

theorem cmpI_lt {x y : Int} (h : x < y) : cmpI x y = -1 := by simp [cmpI, h]
theorem cmpI_ge {x y : Int} (h : ¬ x < y) : 0 ≤ cmpI x y := by simp only [cmpI, if_neg h]; split <;> omega
theorem cmpI_eq {x y : Int} : (cmpI x y == 0) = (x == y) := by rw [Bool.eq_iff_iff]; simp [cmpI]; split <;> (try split) <;> simp <;> omega



end Go.Proofs.Ytcfniagmnkngfaa

namespace Go.Proofs.Ytcfniagmnkngfaa
open Go.RowKit

/-- a world in which all that lay in w lies as it lay -/
structure Past (w : World) where
  W : World
  h : Below w.heap.size w W

instance (w : World) : Inhabited (Past w) := ⟨⟨w, Below.refl _ _⟩⟩

theorem wp_region_past {P : Program} {id : Nat} {Q : Exit → Act → World → Prop} {a : Act} {w : World} {l : List Oper} (hm : P.follows .mixedOrders = true) (hB : Region.lexB .any l.toArray = true)
    (h : wpQuiet P l.toArray (fun w' => ∃ p : Past w, w' = p.W) (fun a' => ∀ w', (∃ p : Past w, w' = p.W) → Q .normal a' w') l a) : (Code.region id l.toArray true).wp P Q a w :=
  wp_region_quiet (C := fun w' => ∃ p : Past w, w' = p.W) hm hB ⟨⟨w.drew, (Below.refl _ w).drew⟩, rfl⟩ (by simpa using h)

theorem Past.cell {w : World} {b o : Nat} {v : Value} (hb : b < w.heap.size) (h : w.cell? ⟨b, o, none⟩ = some v) (p : Past w) : p.W.cell? ⟨b, o, none⟩ = some v :=
  (p.h.cell (p := ⟨b, o, none⟩) hb).trans h

theorem past_of {P : Program} {f : FuncId} {args : Array Value} {w : World} {p : Past w} {v : Value}
    (h : Calls P f args p.W fun e w' => e = .returned v ∧ Below p.W.heap.size p.W w') : Calls P f args p.W fun e w'' => e = .returned v ∧ ∃ q : Past w, w'' = q.W :=
  h.mono fun _ w'' ⟨he, hb⟩ => ⟨he, ⟨w'', bthen p.h hb⟩, rfl⟩
end Go.Proofs.Ytcfniagmnkngfaa

namespace Go.Proofs.Ytcfniagmnkngfaa
open Go.RowKit


theorem page_new (w : World) (a p : Int) (d : ByteArray) (t : TypeId) : (w.alloc (.cells #[.int .u64 a, .int .i64 p, .string d] t)).cell? ⟨w.heap.size, 0, none⟩ = some (.int .u64 a) ∧
    (w.alloc (.cells #[.int .u64 a, .int .i64 p, .string d] t)).cell? ⟨w.heap.size, 1, none⟩ = some (.int .i64 p) ∧ (w.alloc (.cells #[.int .u64 a, .int .i64 p, .string d] t)).cell? ⟨w.heap.size, 2, none⟩ = some (.string d) := by
  have h := heap_alloc_new w (.cells #[.int .u64 a, .int .i64 p, .string d] t)
  refine ⟨?_, ?_, ?_⟩ <;> (unfold World.cell?; rw [h]; rfl)
/-- is the page at i right, and above the one ahead of it? -/
def okAt (m : List M.Pg) (i : Nat) (h : i < m.length) : Bool := M.okPg m[i] && (decide (i = 0) || decide (m[i - 1].a < m[i].a))
def rightB (m : List M.Pg) : Bool := decide (m.length ≤ 64 ∧ ∀ i (h : i < m.length), okAt m i h = true)

theorem right_no {m : List M.Pg} {i : Nat} (h : i < m.length) (hf : okAt m i h = false) : rightB m = false := by
  simp only [rightB, decide_eq_false_iff_not]
  rintro ⟨_, h2⟩
  rw [h2 i h] at hf; cases hf


theorem Right.of {m : List M.Pg} (h : rightB m = true) (h0 : ∀ x ∈ m, 0 ≤ x.a) (h1 : ∀ x ∈ m, x.a ≤ 18446744073709551615) : M.Right m := by
  simp only [rightB, decide_eq_true_eq] at h
  obtain ⟨hl, ho⟩ := h
  have ho1 : ∀ i (h : i < m.length), M.okPg m[i] = true := fun i h => by have := ho i h; simp [okAt] at this; exact this.1
  have ho2 : ∀ i (h : i + 1 < m.length), m[i].a < m[i + 1].a := fun i h => by have := ho (i + 1) h; simp [okAt] at this; exact this.2
  refine ⟨hl, fun x hx => ?_, ?_, h0, h1⟩
  · obtain ⟨i, hi, rfl⟩ := List.getElem_of_mem hx
    exact ho1 i hi
  · rw [List.pairwise_iff_getElem]
    intro i j hi hj hij
    induction j with
    | zero => omega
    | succ j ih =>
      by_cases e : i = j
      · subst e; exact ho2 i hj
      · have := ih (by omega) (by omega); have := ho2 j hj; omega
theorem Right.rb {m : List M.Pg} (h : M.Right m) : rightB m = true := by
  simp only [rightB, decide_eq_true_eq]
  refine ⟨h.len, fun i hi => ?_⟩
  unfold okAt
  rw [h.ok _ (List.getElem_mem hi)]
  by_cases e : i = 0
  · simp [e]
  · have := h.at_lt (i := i - 1) (j := i) (by omega) hi
    simp [this]

end Go.Proofs.Ytcfniagmnkngfaa

namespace Go.Proofs.Ytcfniagmnkngfaa
open Go.RowKit

/-- has p all bits of perm? -/
def okBits (p perm : Int) : Bool := bits BinOp.and IntKind.i64 p perm == perm
/-- is there a page at x, and does it grant perm? -/
def grantB (m : List M.Pg) (x perm : Int) : Bool := M.there m x && (match m[M.low m x]? with | some q => okBits q.p perm | none => false)

end Go.Proofs.Ytcfniagmnkngfaa

namespace Go.Proofs.Ytcfniagmnkngfaa
open Go.RowKit

theorem pow256 (k : Nat) : 2 ^ (8 * k) = 256 ^ k := by rw [Nat.pow_mul]
/-- one byte more, above all the others -/
theorem or_byte (v : Int) (b k : Nat) (v0 : 0 ≤ v) (v1 : v < 256 ^ k) (hb : b < 256) (hk : k < 8) :
    bits BinOp.or IntKind.u64 v (IntKind.u64.wrap (IntKind.u64.wrap (b : Int) * 2 ^ (8 * k))) = v + (b : Int) * 256 ^ k := by
  obtain ⟨n, rfl⟩ := Int.eq_ofNat_of_zero_le v0
  have hp : (256 : Nat) ^ k ≤ 256 ^ 7 := Nat.pow_le_pow_right (by omega) (by omega)
  have hbp : b * 256 ^ k ≤ 255 * 256 ^ 7 := Nat.mul_le_mul (by omega) hp
  have hv : n < 256 ^ k := Int.ofNat_lt.1 (by rw [Int.natCast_pow]; exact v1)
  have e1 : IntKind.u64.wrap (b : Int) = b := by rw [IntKind.wrap_u64]; omega
  have e2 : (b : Int) * 2 ^ (8 * k) = ((b * 256 ^ k : Nat) : Int) := by rw [← pow256, Int.natCast_mul, Int.natCast_pow]; rfl
  have e3 : IntKind.u64.wrap ((b * 256 ^ k : Nat) : Int) = ((b * 256 ^ k : Nat) : Int) := by rw [IntKind.wrap_u64]; omega
  rw [e1, e2, e3, bits_or_u64_nat n (b * 256 ^ k) (by omega) (by omega)]
  have e4 : n ||| b * 256 ^ k = b * 256 ^ k + n := by
    rw [← pow256, Nat.or_comm, Nat.mul_comm b]
    exact (Nat.two_pow_add_eq_or_of_lt (by rw [pow256]; exact hv) b).symm
  rw [e4, Int.natCast_add, Int.natCast_mul, Int.natCast_pow]
  exact Int.add_comm _ _
theorem take_snoc (s : ByteArray) (k : Nat) (h : k < s.size) : s.data.toList.take (k + 1) = s.data.toList.take k ++ [s[k]] := by
  rw [List.take_succ_eq_append_getElem (by simpa using h)]; rfl

end Go.Proofs.Ytcfniagmnkngfaa

namespace Go.Proofs.Ytcfniagmnkngfaa
open Go.RowKit

/-- block g is just these cells of type t, none of them frozen -/
def Whole (W : World) (g : Nat) (t : TypeId) (cs : Array Value) : Prop := W.heap[g]? = some (.cells cs t (0, 0))
theorem Whole.lt {W : World} {g : Nat} {t : TypeId} {cs : Array Value} (h : Whole W g t cs) : g < W.heap.size := (Array.getElem?_eq_some_iff.1 h).1
theorem Whole.cell {W : World} {g : Nat} {t : TypeId} {cs : Array Value} (h : Whole W g t cs) (i : Nat) : W.cell? ⟨g, i, none⟩ = cs[i]? := cell_of_row W g i cs t (0, 0) h
theorem Whole.free {W : World} {g : Nat} {t : TypeId} {cs : Array Value} (h : Whole W g t cs) (i : Nat) : W.frozen? ⟨g, i, none⟩ = false := by
  simp [World.frozen?, show W.heap[g]? = _ from h]
theorem Whole.put {W : World} {g : Nat} {t : TypeId} {cs : Array Value} (h : Whole W g t cs) (i : Nat) (u : Value) : Whole (W.setCell ⟨g, i, none⟩ u) g t (cs.setIfInBounds i u) := by
  unfold Whole at h ⊢
  simp [World.setCell, Array.getElem?_modify, h]
theorem Whole.of_full {W : World} {base g n : Nat} {t : TypeId} {size : Nat} {xs : List Value} (h : W.ownsRow base t size (.slice (some ⟨g, 0, none⟩) n n) n xs) : Whole W g t xs.toArray := by
  rcases h.2 with ⟨e, _⟩ | ⟨g', cap, cur, e, _, hb, _, _, hs, hx⟩
  · cases e
  · cases e
    rw [List.take_of_length_le (by simp [hs])] at hx
    unfold Whole
    rw [hb, ← hx]

theorem byteCells_snoc (l : List UInt8) (b : UInt8) : Lib.byteCells (l ++ [b]) = Lib.byteCells l ++ [.int .u8 b.toNat] := by simp [Lib.byteCells]

theorem made_nought (n : Nat) : (madeCells (Value.int .u8 0).cells (n * 1)).toList = List.replicate n (Value.int .u8 0) := by
  apply List.ext_getElem
  · simp [madeCells]
  · intro i h1 h2
    simp [madeCells, Value.cells, Nat.mod_one]

end Go.Proofs.Ytcfniagmnkngfaa

namespace Go.Proofs.Ytcfniagmnkngfaa
open Go.RowKit

/-- the post of a region that ends as it should, or not at all -/
def Calm (Q : Exit → Act → World → Prop) (e : Exit) (a : Act) (w : World) : Prop := e = .normal ∧ Q .normal a w

theorem rowsIn_of {l n : Nat} {P : Program} {row : String} {args : Array Value} {w : World} {R : Value → World → Prop} (h : Rows P row args w R) : RowsIn (Fence.wide.inRound l) n P row args w R := fun c cs _ =>
  let ⟨v, w', r, s⟩ := h c cs
  ⟨v, w', r, by exact stepsIn_wide.2 s⟩

theorem opIn_of {l n : Nat} {P : Program} {o : Oper} {a : Act} {w : World} {K K' : Act → World → Prop} {Q : Exit → Act → World → Prop} (hd : ∀ c, o.op ≠ .defer c) (hK : ∀ a w, K' a w → K a w)
    (h : o.wp P a w K' (Calm Q)) : o.wpIn (Fence.wide.inRound l) n P a w K Q := by
  refine ⟨fun _ _ => trivial, ?_⟩
  show o.uponIn _ n P a K Q ((Oper.semAt (some l) a.eval o).run P w)
  rw [Oper.semAt_some _ _ _ hd]
  unfold Oper.wp at h
  generalize (execOp a.eval o).run P w = r at *
  cases r with
  | ok x w' =>
    cases x <;> simp only [Oper.upon] at h <;> simp only [Oper.uponIn]
    case value => exact hK _ _ h
    case skip => exact hK _ _ h
    case defer => exact hK _ _ h
    case enter =>
      refine ⟨fun h' => (by cases h'), CallsIn.inRound l (callsIn_wide.2 (h.mono fun e w'' he => ?_))⟩
      cases e with
      | returned v => exact hK _ _ he
      | panicked c => exact nomatch he.1
      | outgrown => obtain ⟨_, _, h1, _⟩ := he; cases h1
    case row => exact ⟨fun h' => (by cases h'), rowsIn_of (h.mono fun _ _ he => hK _ _ he)⟩
  | halt x w' =>
    cases x <;> simp only [Oper.upon] at h <;> simp only [Oper.uponIn]
    case panic => exact nomatch h.1

theorem wpOpIn_of {l n : Nat} {P : Program} {ops : Array Oper} {Q : Exit → Act → World → Prop} {i : Nat} {a : Act} {w : World} {K K' : Act → World → Prop} (hd : ∀ o ∈ ops, ∀ c, o.op ≠ .defer c) (hK : ∀ a w, K' a w → K a w)
    (h : wpOp P ops (Calm Q) i K' a w) : wpOpIn (Fence.wide.inRound l) n P ops Q i K a w := by
  unfold wpOp at h
  unfold wpOpIn
  split
  · rename_i ho
    simp only [ho] at h
    exact hK _ _ h
  · rename_i o ho
    simp only [ho] at h
    split
    · rename_i hw
      simp only [hw, if_true] at h
      rcases h with h | ⟨_, _, _, h1, _⟩
      · exact opIn_of (hd o (Array.mem_of_getElem? ho)) hK h
      · cases h1
    · rename_i hw
      simp only [hw] at h
      exact ⟨fun _ _ => trivial, hK _ _ h⟩

theorem wpAnyIn_of {l n : Nat} {P : Program} {md : Region.Mode} {ops : Array Oper} {Q : Exit → Act → World → Prop} (hd : ∀ o ∈ ops, ∀ c, o.op ≠ .defer c) : ∀ (fuel : Nat) (listed : Array Bool) (a : Act) (w : World),
    wpAny P md ops (Calm Q) fuel listed a w → wpAnyIn (Fence.wide.inRound l) n P md ops Q fuel listed a w
  | 0, _, _, _, h => ⟨h.1, h.2.2⟩
  | fuel + 1, _, _, _, h => ⟨fun h0 => (h.1 h0).2, fun i hi => wpOpIn_of hd (fun a' w' h' => wpAnyIn_of hd fuel _ a' w' h') (h.2 i hi)⟩

/-- a region that draws, in a round: by a condition S that holds in all worlds on its way -/
theorem round_held {l n id : Nat} {P : Program} {ops : Array Oper} {Q : Exit → Act → World → Prop} {S : World → Prop} {a : Act} {w : World} (hm : P.follows .mixedOrders = true) (hd : ∀ o ∈ ops, ∀ c, o.op ≠ .defer c) (hS : S w.drew)
    (h : S w.drew → wpAnyH P .any ops (Calm Q) S ops.size (Array.replicate ops.size false) a w.drew) : (Code.region id ops true).wpIn (Fence.wide.inRound l) n P Q a w :=
  wpIn_region_any hm (wpAnyIn_of hd _ _ _ _ (wpAny_of_held _ _ _ _ (h hS)))

/-- .. and where its operations only read, and its callees may lay blocks of their own -/
theorem round_past {l n id : Nat} {P : Program} {Q : Exit → Act → World → Prop} {a : Act} {w : World} {ops : List Oper} (hm : P.follows .mixedOrders = true) (hd : ∀ o ∈ ops.toArray, ∀ c, o.op ≠ .defer c) (hB : Region.lexB .any ops.toArray = true)
    (h : wpQuiet P ops.toArray (fun w' => ∃ p : Past w, w' = p.W) (fun a' => ∀ w', (∃ p : Past w, w' = p.W) → Q .normal a' w') ops a) : (Code.region id ops.toArray true).wpIn (Fence.wide.inRound l) n P Q a w := by
  have hB' := hB
  simp only [Region.lexB, Bool.and_eq_true] at hB
  refine wpIn_region_any hm (wpAnyIn_of hd _ _ _ _ (wpAny_of_quiet (C := fun w' => ∃ p : Past w, w' = p.W) (Q := fun a' => ∀ w', (∃ p : Past w, w' = p.W) → Q .normal a' w') (fun _ w' hw' h => ⟨rfl, h w' hw'⟩) _ _ _ _ ⟨⟨w.drew, (Below.refl _ w).drew⟩, rfl⟩ ?_))
  have := wpAnyQ_lex (C := fun w' => ∃ p : Past w, w' = p.W) (md := .any) hB.1 ops 0 (Array.replicate ops.toArray.size false) a (by simp) (by simpa using hB.2) h
  simpa using this
end Go.Proofs.Ytcfniagmnkngfaa

namespace Go.Proofs.Ytcfniagmnkngfaa
open Go.ChangeShapes Go.WideShapes Go.ChangeAt Go.RowKit Go.Deep Go.Joins

theorem gLaidOut : laidOutB Try.prog = true := by kernel_rfl
theorem own : ownKnob Try.prog.godebug = none := by kernel_rfl

section
variable {H : Type} {enc : TypeId × Value → H} {P : Program} {w : World} {base : Nat} {spare : Nat → Bool} {held : Bool}
/-- a struct of one-cell fields, read: each field's cell with its own reading -/
theorem row_of {t : TypeId} {fs : Array Field} {fuel : Nat} {cs : List Value} {x : DataW H × List MemPlace} (ht : P.underlying t = some (.struct fs)) (hone : oneCellFields P fs = true) (hC : P.cellsOf t = fs.size)
    (h : DataW.trod enc P w base spare held fuel t cs = some x) :
    ∃ (ys : List (DataW H × List MemPlace)) (n : Nat), x.1 = .agg (ys.map (·.1)) ∧ ys.length = fs.size ∧ cs.length = fs.size ∧
      ∀ (j : Nat) (f : Field), fs[j]? = some f → ∃ c y, cs[j]? = some c ∧ ys[j]? = some y ∧ DataW.trod enc P w base spare held n f.type [c] = some y := by
  obtain ⟨ys, n, _, hx, hlen, hyl, hf⟩ := DataW.trod_struct ht h
  refine ⟨ys, n, by rw [hx], hyl, hlen.trans hC, fun j f hj => ?_⟩
  obtain ⟨ho, hk⟩ := hone_of hone j f hj
  have hjl : j < fs.size := (Array.getElem?_eq_some_iff.1 hj).1
  have h1 := hf j f hj
  rw [ho, hk] at h1
  have hcl : j < cs.length := by omega
  have hone' : (cs.drop j).take 1 = [cs[j]] := by
    rw [List.drop_eq_getElem_cons hcl]
    rfl
  rw [hone'] at h1
  exact ⟨_, _, List.getElem?_eq_getElem hcl, List.getElem?_eq_getElem (by omega), h1.trans (List.getElem?_eq_getElem (by omega))⟩
end

section
variable {H : Type} {enc : TypeId × Value → H}
/-- the arguments read behind the call as they read before -/
theorem trodAll_below {W W' : World} (bel : Below W.heap.size W W') : ∀ (ts : List TypeId) (vs : List Value) (ds : List (DataW H)) (p : List MemPlace),
    (∀ t ∈ ts, Try.prog.readableRec t = true ∧ t < Try.prog.types.size) → DataW.TrodAll enc Try.prog W 0 (fun _ => true) true ts vs ds p → (∀ x ∈ p, x.block < W.heap.size) →
    DataW.TrodAll enc Try.prog W' 0 (fun b => decide (b < W.heap.size)) true ts vs ds p := by
  intro ts
  induction ts with
  | nil =>
    intro vs ds p _ h _
    obtain ⟨rfl, rfl, rfl⟩ := trodAll_nil h
    exact trodAll_mk0
  | cons t ts ih =>
    intro vs ds p ht h hp
    obtain ⟨v, vs', d, ds', p1, p2, rfl, rfl, rfl, h1, h2⟩ := trodAll_cons h
    have ht1 := ht t (by simp)
    exact trodAll_cons_mk (Below.trod gLaidOut ht1.1 ht1.2 h1 bel (fun x hx => hp x (by simp [hx]))) (ih vs' ds' p2 (fun t ht' => ht t (by simp [ht'])) h2 (fun x hx => hp x (by simp [hx])))
/-- the row's last step, of every law -/
theorem law_post {f : Func} {s : ChangeSpec} {W W' : World} {args : Array Value} {ds gs : List (DataW H)} {before : List MemPlace} (hv : s.vars = []) (hr : f.resultTypes = #[4])
    (ht : ∀ t ∈ f.params.toList, Try.prog.readableRec t = true ∧ t < Try.prog.types.size)
    (hW : DataW.Whole enc Try.prog f.params.toList s.vars false W args.toList ds gs before) (bel : Below W.heap.size W W')
    (h1 : (s.fn H (ds ++ gs)).results = [.lit (.bool true)]) (h2 : (s.fn H (ds ++ gs)).args = ds) (h3 : (s.fn H (ds ++ gs)).vars = []) :
    s.post enc Try.prog f false true false false W args (.bool true) W' := by
  have hlt : ∀ p ∈ before, p.block < W.heap.size := fun p hp => hW.lt p hp
  have hW' := hW
  obtain ⟨p, q, hA, hV, rfl, _, _⟩ := hW
  refine ⟨ds, gs, p ++ q, [], p, [], hW', ?_, ?_, ?_, bel.frame _, fun h => by cases h⟩
  · rw [h1, hr]
    exact trodAll_mk1 (shut_bool Try.underlying4 _)
  · rw [h2]
    exact trodAll_below bel _ _ _ _ ht hA (fun x hx => hlt x (by simp [hx]))
  · rw [h3, hv]
    rfl
end
end Go.Proofs.Ytcfniagmnkngfaa
