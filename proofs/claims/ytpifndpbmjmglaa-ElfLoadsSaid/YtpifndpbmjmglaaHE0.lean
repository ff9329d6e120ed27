/- What the texts of package resolve stand on, of the packages ir and pick (part 1). -/
import Derived.Test.YtpifndpbmjmglaaProg
import Derived.Test.YtpifndpbmjmglaaRows
import Derived.Below
import Derived.BigQuiet
import Derived.CallsIn
import Derived.ChangeKeysEq
import Derived.Deep.AppendLies
import Derived.Deep.AppendSrc
import Derived.Deep.Cut
import Derived.Deep.CutRange
import Derived.Deep.DeepHandedRow
import Derived.Deep.Fields
import Derived.Deep.MidRow
import Derived.Deep.QuietTactic
import Derived.Deep.RegionHeld
import Derived.Deep.RegionHeld3
import Derived.Deep.RegionWith
import Derived.Deep.Slices
import Derived.DeepKeys4
import Derived.IntWalk
import Derived.Laws.AppendOwnNone
import Derived.Laws.Bits64b
import Derived.Laws.BitsAllLaws
import Derived.Laws.IdiomStrings
import Derived.Laws.OwnMore
import Derived.Laws.Rows
import Derived.Laws.Shifts
import Derived.Laws.StructEq
import Derived.Laws.Tables
import Derived.Lib.AppendZerosOnto
import Derived.Lib.FrozenHead
import Derived.Lib.Hide
import Derived.Lib.LaidTab
import Derived.Lib.LazyBuf
import Derived.Lib.OthersKept
import Derived.Lib.SliceRun
import Derived.Lib.SmallJoins
import Derived.Lib.UnsafeStr
import Derived.Lib.Walk
import Derived.LoopIn
import Derived.LoopNIn
import Derived.LoopTactic
import Derived.Maps.Own
import Derived.Maps.OwnIn
import Derived.Maps.Views
import Derived.OpenShut
import Derived.OrdersHeld
import Derived.OrdersIn
import Derived.Outline
import Derived.OwnWalk
import Derived.OwnWalkIn
import Derived.ProofKit
import Derived.RangeFuncBound
import Derived.RangeFuncBox
import Derived.RangeFuncCalls
import Derived.RangeFuncLeaves
import Derived.RangeFuncNested
import Derived.RegionTactic
import Derived.Shelf.Abstract
import Derived.Shelf.RegionOpen
import Derived.ShutString
import Derived.SizedLaws
import Derived.Sort.BigQuietIn
import Derived.StillTailTactics
import Derived.TacticsIn
import Derived.TacticsInMore
import Derived.WalkKit
import Derived.WalkLawsBesides
import Derived.WalkSpells
namespace Go.Proofs.Ytpifndpbmjmglaa.M
/-- a page: its place, what may be done with it, its bytes -/
structure Pg where
  a : Int
  p : Int
  d : ByteArray
def okPerm (p : Int) : Bool := decide (0 ≤ p ∧ p ≤ 7)
def okPg (x : Pg) : Bool := decide (x.a % 256 = 0) && (okPerm x.p && decide (x.d.size = 256))
/-- right memory -/
structure Right (m : List Pg) : Prop where
  len : m.length ≤ 64
  ok : ∀ x ∈ m, okPg x = true
  up : m.Pairwise (fun x y => x.a < y.a)
  ge : ∀ x ∈ m, 0 ≤ x.a
  le : ∀ x ∈ m, x.a ≤ 18446744073709551615
theorem Right.at_lt {m : List Pg} (h : Right m) {i j : Nat} (hij : i < j) (hj : j < m.length) : m[i].a < m[j].a :=
  List.pairwise_iff_getElem.1 h.up i j (by omega) hj hij
theorem Right.at_mod {m : List Pg} (h : Right m) {i : Nat} (hi : i < m.length) : m[i].a % 256 = 0 := by
  have := h.ok _ (List.getElem_mem hi)
  simp [okPg] at this; exact this.1
theorem Right.size {m : List Pg} (h : Right m) {i : Nat} (hi : i < m.length) : m[i].d.size = 256 := by
  have := h.ok _ (List.getElem_mem hi)
  simp [okPg] at this; exact this.2.2
theorem Right.perm {m : List Pg} (h : Right m) {i : Nat} (hi : i < m.length) : 0 ≤ m[i].p ∧ m[i].p ≤ 7 := by
  have := h.ok _ (List.getElem_mem hi)
  simp [okPg, okPerm] at this; exact this.2.1
/-- how many pages stand below x -/
def low (m : List Pg) (x : Int) : Nat := m.countP (fun q => decide (q.a < x))
theorem low_le (m : List Pg) (x : Int) : low m x ≤ m.length := List.countP_le_length
/-- is there one at x? -/
def there (m : List Pg) (x : Int) : Bool := m.any (fun q => q.a == x)
theorem low_cons (q : Pg) (m : List Pg) (x : Int) : low (q :: m) x = low m x + (if q.a < x then 1 else 0) := by
  unfold low; rw [List.countP_cons]; simp
theorem low_zero {m : List Pg} {x : Int} (h : ∀ q ∈ m, x ≤ q.a) : low m x = 0 := by
  unfold low; rw [List.countP_eq_zero]; intro q hq; have := h q hq; simp; omega
theorem lt_low {m : List Pg} (hu : m.Pairwise (fun x y => x.a < y.a)) (x : Int) : ∀ {i : Nat} (hi : i < m.length), (m[i].a < x ↔ i < low m x) := by
  induction m with
  | nil => intro i hi; simp at hi
  | cons q m ih =>
    rw [List.pairwise_cons] at hu
    intro i hi
    rw [low_cons]
    by_cases hq : q.a < x
    · rw [if_pos hq]
      cases i with
      | zero => simp [hq]
      | succ i =>
        have := ih hu.2 (i := i) (by simpa using hi)
        simp only [List.getElem_cons_succ]; omega
    · rw [if_neg hq, low_zero (fun r hr => by have := hu.1 r hr; omega)]
      cases i with
      | zero => simp; omega
      | succ i =>
        have := hu.1 (m[i]'(by simpa using hi)) (List.getElem_mem _)
        simp only [List.getElem_cons_succ]; omega
theorem there_iff {m : List Pg} (hu : m.Pairwise (fun x y => x.a < y.a)) (x : Int) : there m x = true ↔ ∃ h : low m x < m.length, m[low m x].a = x := by
  unfold there
  rw [List.any_eq_true]
  constructor
  · rintro ⟨q, hq, he⟩
    simp at he
    obtain ⟨i, hi, rfl⟩ := List.getElem_of_mem hq
    have h1 : ¬ i < low m x := fun h => by have := (lt_low hu x hi).2 h; omega
    have h2 : ¬ low m x < i := fun h => by
      have h3 : ¬ low m x < low m x := Nat.lt_irrefl _
      have := List.pairwise_iff_getElem.1 hu (low m x) i (by omega) hi h
      exact h3 ((lt_low hu x (by omega)).1 (by omega))
    obtain rfl : i = low m x := by omega
    exact ⟨hi, he⟩
  · rintro ⟨h, he⟩
    exact ⟨_, List.getElem_mem h, by simp [he]⟩
/-- a row of places in one page -/
structure Str where
  pg : Int
  f : Int
  n : Int
/-- n places from a on, page by page -/
def strs (a n : Int) : List Str :=
  if _h : n ≤ 0 then [] else
    ⟨a - a % 256, a % 256, min n (256 - a % 256)⟩ :: strs (a + min n (256 - a % 256)) (n - min n (256 - a % 256))
termination_by n.toNat
decreasing_by omega
theorem strs_nil {a n : Int} (h : n ≤ 0) : strs a n = [] := by unfold strs; rw [dif_pos h]
theorem strs_cons {a n : Int} (h : 0 < n) : strs a n = ⟨a - a % 256, a % 256, min n (256 - a % 256)⟩ :: strs (a + min n (256 - a % 256)) (n - min n (256 - a % 256)) := by
  conv => lhs; unfold strs
  rw [dif_neg (by omega)]
/-- what a row is, wherever it came -/
structure Str.Ok (s : Str) : Prop where
  f0 : 0 ≤ s.f
  n1 : 1 ≤ s.n
  fn : s.f + s.n ≤ 256
  pg0 : 0 ≤ s.pg
  pg1 : s.pg ≤ 18446744073709551360
  md : s.pg % 256 = 0
theorem strs_ok {a n : Int} (a0 : 0 ≤ a) (h : a + n ≤ 18446744073709551616) : ∀ s ∈ strs a n, s.Ok ∧ a ≤ s.pg + s.f ∧ s.pg + s.f + s.n ≤ a + n := by
  by_cases hn : n ≤ 0
  · rw [strs_nil hn]; intro s hs; cases hs
  · rw [strs_cons (by omega)]
    intro s hs
    rw [List.mem_cons] at hs
    rcases hs with rfl | hs
    · refine ⟨⟨?_, ?_, ?_, ?_, ?_, ?_⟩, ?_, ?_⟩ <;> simp only <;> omega
    · have := strs_ok (a := a + min n (256 - a % 256)) (n := n - min n (256 - a % 256)) (by omega) (by omega) s hs
      exact ⟨this.1, by omega, by omega⟩
termination_by n.toNat
decreasing_by omega
/-- every place has its row -/
theorem strs_has {a n : Int} (a0 : 0 ≤ a) : ∀ t, a ≤ t → t < a + n → ∃ s ∈ strs a n, s.pg = t - t % 256 ∧ s.pg + s.f ≤ t ∧ t < s.pg + s.f + s.n := by
  intro t h1 h2
  rw [strs_cons (by omega)]
  by_cases h : t < a + min n (256 - a % 256)
  · refine ⟨_, List.mem_cons_self, ?_, ?_, ?_⟩ <;> simp only <;> omega
  · obtain ⟨s, hs, h3⟩ := strs_has (a := a + min n (256 - a % 256)) (n := n - min n (256 - a % 256)) (by omega) t (by omega) (by omega)
    exact ⟨s, by simp [hs], h3⟩
termination_by n.toNat
decreasing_by omega
theorem strs_len {a n : Int} : (strs a n).length ≤ n.toNat := by
  by_cases hn : n ≤ 0
  · rw [strs_nil hn]; simp
  · rw [strs_cons (by omega), List.length_cons]
    have := strs_len (a := a + min n (256 - a % 256)) (n := n - min n (256 - a % 256))
    omega
termination_by n.toNat
decreasing_by omega
end Go.Proofs.Ytpifndpbmjmglaa.M
namespace Go.Proofs.Ytpifndpbmjmglaa.M
/-- the number of bytes, the lowest first -/
def num : List UInt8 → Int
  | [] => 0
  | b :: l => (b.toNat : Int) + 256 * num l
/-- the lowest n bytes of v -/
def lowest (v : Nat) : Nat → List UInt8
  | 0 => []
  | n + 1 => UInt8.ofNat (v % 256) :: lowest (v / 256) n
theorem lowest_length : ∀ (n v : Nat), (lowest v n).length = n
  | 0, _ => rfl
  | n + 1, v => by simp [lowest, lowest_length n]
theorem lowest_snoc : ∀ (n v : Nat), lowest v (n + 1) = lowest v n ++ [UInt8.ofNat (v / 256 ^ n % 256)]
  | 0, v => by simp [lowest]
  | n + 1, v => by
    rw [lowest, lowest_snoc n (v / 256), lowest]
    simp [Nat.pow_succ, Nat.div_div_eq_div_mul, Nat.mul_comm]
/-- the bytes of the page at x -/
def dataAt (m : List Pg) (x : Int) : ByteArray := (m[low m x]?.map Pg.d).getD .empty
/-- the byte at a place -/
def byteAt (m : List Pg) (t : Int) : UInt8 := (dataAt m (t - t % 256)).data.toList.getD (t % 256).toNat 0
/-- n bytes from a on -/
def bytesOf (m : List Pg) (a : Int) : Nat → List UInt8
  | 0 => []
  | n + 1 => byteAt m a :: bytesOf m (a + 1) n
end Go.Proofs.Ytpifndpbmjmglaa.M
namespace Go.Proofs.Ytpifndpbmjmglaa
open Go.RowKit
theorem ret_int {k : IntKind} {a b : Int} (h : a = b) : Ending.returned (.int k a) = .returned (.int k b) := by rw [h]
theorem ret_bool {a b : Bool} (h : a = b) : Ending.returned (.bool a) = .returned (.bool b) := by rw [h]
theorem bthen {w W w' : World} (h : Below w.heap.size w W) (hb : Below W.heap.size W w') : Below w.heap.size w w' := h.trans (hb.mono h.size)
theorem balloc {w W : World} (h : Below w.heap.size w W) (o : Obj) : Below w.heap.size w (W.alloc o) := h.alloc h.size o
theorem perm_any (p : Int) (w : World) : Calls Try.prog 47 #[.int .i64 p] w fun e w' => e = .returned (.bool (M.okPerm p)) ∧ w = w' := by
  go_enter Try.func47, Try.ntmps47
  go_wp2
  all_goals go_ret
  all_goals exact ⟨ret_bool (by rw [Bool.eq_iff_iff]; simp [M.okPerm]; omega), rfl⟩
theorem page_any (a p : Int) (d : ByteArray) (a0 : 0 ≤ a) (w : World) :
    Calls Try.prog 58 #[.agg #[.int .u64 a, .int .i64 p, .string d]] w fun e w' => e = .returned (.bool (M.okPg ⟨a, p, d⟩)) ∧ Below w.heap.size w w' := by
  by_cases h1 : a % 256 = 0
  · have t1 : ((a % 256 == 0) : Bool) = true := by simp [h1]
    cases h2 : M.okPerm p
    · have HP := Lib.hid (fun W => (perm_any p W).mono fun e w' h => (by rw [h2] at h; exact h : e = .returned (.bool false) ∧ W = w'))
      have HE := Lib.hid (show M.okPg ⟨a, p, d⟩ = false by simp [M.okPg, h2])
      clear h2 h1
      go_enter Try.func58, Try.ntmps58
      go_wp2_with (go_at_call 47; refine (HP.out _).mono ?_; rintro e w' ⟨rfl, rfl⟩)
      all_goals go_ret
      all_goals exact ⟨ret_bool HE.out.symm, balloc (Below.refl _ _) _⟩
    · have HP := Lib.hid (fun W => (perm_any p W).mono fun e w' h => (by rw [h2] at h; exact h : e = .returned (.bool true) ∧ W = w'))
      have HE := Lib.hid (show M.okPg ⟨a, p, d⟩ = ((d.size : Int) == 256) by rw [Bool.eq_iff_iff]; simp [M.okPg, h2, h1]; omega)
      clear h2 h1
      go_enter Try.func58, Try.ntmps58
      go_wp2_with (go_at_call 47; refine (HP.out _).mono ?_; rintro e w' ⟨rfl, rfl⟩)
      all_goals go_ret
      all_goals exact ⟨ret_bool HE.out.symm, balloc (Below.refl _ _) _⟩
  · have t1 : ((a % 256 == 0) : Bool) = false := by simp [h1]
    have HE := Lib.hid (show M.okPg ⟨a, p, d⟩ = false by simp [M.okPg, h1])
    clear h1
    go_enter Try.func58, Try.ntmps58
    go_wp2_with fail
    all_goals go_ret
    all_goals exact ⟨ret_bool HE.out.symm, balloc (Below.refl _ _) _⟩
/-- is one of n places from a on beyond the last one? -/
def beyondB (a n : Int) : Bool := decide (0 < n ∧ 18446744073709551615 < a + (n - 1))
theorem beyond_any (a n : Int) (a0 : 0 ≤ a) (a1 : a ≤ 18446744073709551615) (n1 : n ≤ 9223372036854775807) (w : World) :
    Calls Try.prog 48 #[.int .u64 a, .int .i64 n] w fun e w' => e = .returned (.bool (beyondB a n)) ∧ w = w' := by
  by_cases h : 0 < n
  · go_enter Try.func48, Try.ntmps48
    go_wp2_with fail
    all_goals go_ret
    all_goals exact ⟨ret_bool (by rw [Bool.eq_iff_iff]; simp [beyondB]; omega), rfl⟩
  · have t1 : decide (0 < n) = false := by simp; omega
    go_enter Try.func48, Try.ntmps48
    go_wp2_with fail
    all_goals go_ret
    all_goals exact ⟨ret_bool (by rw [Bool.eq_iff_iff]; simp [beyondB]; omega), rfl⟩
end Go.Proofs.Ytpifndpbmjmglaa
namespace Go.Proofs.Ytpifndpbmjmglaa
open Go.RowKit
theorem bcell {W w1 : World} (hb : Below W.heap.size W w1) : (∀ b o, b < W.heap.size → w1.cell? ⟨b, o, none⟩ = W.cell? ⟨b, o, none⟩) ∧ (∀ b o, b < W.heap.size → w1.frozen? ⟨b, o, none⟩ = W.frozen? ⟨b, o, none⟩) :=
  ⟨fun b o h => hb.cell (p := ⟨b, o, none⟩) h, fun b o h => hb.frozen (p := ⟨b, o, none⟩) h⟩
/-- pages that lie from a place on -/
def PagesIn (W : World) (b off : Nat) (m : List M.Pg) : Prop :=
  b < W.heap.size ∧ ∀ (i : Nat) (h : i < m.length), W.cell? ⟨b, off + i * 3, none⟩ = some (.int .u64 m[i].a) ∧ W.cell? ⟨b, off + i * 3 + 1, none⟩ = some (.int .i64 m[i].p) ∧ W.cell? ⟨b, off + i * 3 + 2, none⟩ = some (.string m[i].d)
theorem PagesIn.next {W W' : World} {b off : Nat} {m : List M.Pg} (h : PagesIn W b off m) (hb : Below W.heap.size W W') : PagesIn W' b off m := by
  refine ⟨Nat.lt_of_lt_of_le h.1 hb.size, fun i hi => ?_⟩
  obtain ⟨h0, h1, h2⟩ := h.2 i hi
  have hc := (bcell hb).1
  exact ⟨(hc _ _ h.1).trans h0, (hc _ _ h.1).trans h1, (hc _ _ h.1).trans h2⟩
/-- a slice of pages -/
def Pages (W : World) (v : Value) (m : List M.Pg) : Prop :=
  (m = [] ∧ (v = .slice none 0 0 ∨ ∃ a cap, v = .slice (some a) 0 cap)) ∨ (0 < m.length ∧ ∃ b off cap, v = .slice (some ⟨b, off, none⟩) m.length cap ∧ PagesIn W b off m)
theorem Pages.next {W W' : World} {v : Value} {m : List M.Pg} (h : Pages W v m) (hb : Below W.heap.size W W') : Pages W' v m := by
  rcases h with h | ⟨h1, b, off, cap, rfl, h2⟩
  · exact .inl h
  · exact .inr ⟨h1, b, off, cap, rfl, h2.next hb⟩
theorem Pages.slice {W : World} {v : Value} {m : List M.Pg} (h : Pages W v m) : ∃ A cap, v = .slice A m.length cap := by
  rcases h with ⟨rfl, rfl | ⟨a, cap, rfl⟩⟩ | ⟨_, b, off, cap, rfl, _⟩ <;> exact ⟨_, _, rfl⟩
theorem nan_any (x : Int) (w : World) : Calls Try.prog 59 #[.int .u64 x] w fun e w' => e = .returned (.bool false) ∧ w = w' := by
  go_enter Try.func59, Try.ntmps59
  go_wp2
  all_goals go_ret
  all_goals exact ⟨ret_bool (by simp), rfl⟩
def cmpI (x y : Int) : Int := if x < y then -1 else if y < x then 1 else 0
theorem cmp_any (x y : Int) (w : World) : Calls Try.prog 52 #[.int .u64 x, .int .u64 y] w fun e w' => e = .returned (.int .i64 (cmpI x y)) ∧ w = w' := by
  go_enter Try.func52, Try.ntmps52
  go_wp2_with (go_at_call 59; refine (nan_any _ _).mono ?_; rintro e w' ⟨rfl, rfl⟩)
  all_goals go_ret
  all_goals exact ⟨ret_int (by simp [cmpI]; try omega), rfl⟩
theorem cmpp_any (a p : Int) (d : ByteArray) (x : Int) (w : World) : Calls Try.prog 51 #[.agg #[.int .u64 a, .int .i64 p, .string d], .int .u64 x] w fun e w' => e = .returned (.int .i64 (cmpI a x)) ∧ Below w.heap.size w w' := by
  go_enter Try.func51, Try.ntmps51
  go_wp2_with (go_at_call 52; refine (cmp_any _ _ _).mono ?_; rintro e w' ⟨rfl, rfl⟩)
  go_ret
  exact ⟨rfl, balloc (Below.refl _ _) _⟩
end Go.Proofs.Ytpifndpbmjmglaa
namespace Go.Proofs.Ytpifndpbmjmglaa
open Go.RowKit
theorem cmpI_lt {x y : Int} (h : x < y) : cmpI x y = -1 := by simp [cmpI, h]
theorem cmpI_ge {x y : Int} (h : ¬ x < y) : 0 ≤ cmpI x y := by simp only [cmpI, if_neg h]; split <;> omega
theorem cmpI_eq {x y : Int} : (cmpI x y == 0) = (x == y) := by rw [Bool.eq_iff_iff]; simp [cmpI]; split <;> (try split) <;> simp <;> omega
set_option maxHeartbeats 1000000 in
theorem search_none (A : Option Addr) (cap : Nat) (x : Int) (w : World) :
    Calls Try.prog 50 #[.slice A 0 cap, .int .u64 x, .func (.func 51) #[] #[]] w fun e w' => e = .returned (.tuple #[.int .i64 0, .bool false]) ∧ Below w.heap.size w w' := by
  go_enter Try.func50, Try.ntmps50
  go_wp2_with fail
  go_loop [9, 10] (fun i j => i = .int .i64 0 ∧ j = .int .i64 0) (fun _ _ => 0)
  case atStart => exact ⟨rfl, rfl⟩
  case round =>
    obtain ⟨rfl, rfl⟩ := hrel
    go_wp2_with fail
    go_ret2
    exact ⟨rfl, Below.refl _ _⟩
set_option maxHeartbeats 2000000 in
theorem search_some (m : List M.Pg) (b off cap : Nat) (x : Int) (w : World) (hl : m.length ≤ 1000000) (hu : m.Pairwise (fun x y => x.a < y.a)) (hP : PagesIn w b off m) :
    Calls Try.prog 50 #[.slice (some ⟨b, off, none⟩) m.length cap, .int .u64 x, .func (.func 51) #[] #[]] w fun e w' => e = .returned (.tuple #[.int .i64 (M.low m x), .bool (M.there m x)]) ∧ Below w.heap.size w w' := by
  have HL := Lib.hid (fun i hi => M.lt_low hu x (i := i) hi)
  have HT := Lib.hid (M.there_iff hu x)
  have HP := Lib.hid hP
  have HB0 := Lib.hid hP.1
  have hlow := M.low_le m x
  obtain ⟨n, hn⟩ : ∃ n, m.length = n := ⟨_, rfl⟩
  obtain ⟨t, ht⟩ : ∃ t, M.low m x = t := ⟨_, rfl⟩
  rw [hn] at hl
  rw [ht, hn] at hlow
  have HN := Lib.hid hn
  have HTT := Lib.hid ht
  rw [hn, ht]
  clear hu hP hn ht
  go_enter Try.func50, Try.ntmps50
  go_wp2_with fail
  go_loopw [9, 10] (fun i j wr => ∃ i' j' : Nat, i = .int .i64 i' ∧ j = .int .i64 j' ∧ i' ≤ t ∧ t ≤ j' ∧ j' ≤ n ∧ Below w.heap.size w wr) (fun i j _ => (intOf j).toNat - (intOf i).toNat)
  case atStart => exact ⟨0, n, rfl, rfl, by omega, by omega, by omega, Below.refl _ _⟩
  case round =>
    obtain ⟨i, j, rfl, rfl, h1, h2, h3, hb⟩ := hrel
    by_cases hij : i < j
    · have hm : (i + j) / 2 < m.length := by rw [HN.out]; omega
      obtain ⟨e0, e1, e2⟩ := (HP.out.next hb).2 ((i + j) / 2) hm
      have HK := Lib.hid (HL.out _ hm)
      obtain ⟨pa, hpa⟩ : ∃ pa, m[(i + j) / 2].a = pa := ⟨_, rfl⟩
      obtain ⟨pp, hpp⟩ : ∃ pa, m[(i + j) / 2].p = pa := ⟨_, rfl⟩
      obtain ⟨pd, hpd⟩ : ∃ pa, m[(i + j) / 2].d = pa := ⟨_, rfl⟩
      rw [hpa] at e0 HK
      rw [hpp] at e1
      rw [hpd] at e2
      clear hpa hpp hpd
      have HB := Lib.hid hb
      clear hb hm
      have hs : (((i : Int) + (j : Int)).toNat : Nat) >>> 1 = (i + j) / 2 := by
        rw [Nat.shiftRight_eq_div_pow]; omega
      have hcast : ((i : Int) + (j : Int)) / 2 = (((i + j) / 2 : Nat) : Int) := by omega
      have HC := Lib.hid hcast
      clear hcast
      go_wp2_with fail
      refine (cmpp_any _ _ _ _ _).mono ?_
      rintro e w1 ⟨rfl, hb1⟩
      have HB1 := Lib.hid hb1
      clear hb1
      by_cases hx : pa < x
      · rw [cmpI_lt hx]
        have hk := HK.out.1 hx
        rw [HTT.out] at hk
        clear hx
        go_wp2_with fail
        go_roundw
        case rel => exact ⟨(i + j) / 2 + 1, j, by rw [HC.out]; go_num, rfl, by omega, h2, h3, bthen HB.out HB1.out⟩
        case measure => simp [intOf]; omega
      · have hg := cmpI_ge hx
        obtain ⟨c, hc⟩ : ∃ c, cmpI pa x = c := ⟨_, rfl⟩
        rw [hc] at hg ⊢
        have hk : ¬ ((i + j) / 2 < M.low m x) := fun h => hx (HK.out.2 h)
        rw [HTT.out] at hk
        clear hx hc
        have hcz : decide (c < 0) = false := by simp; omega
        go_wp2_with fail
        go_roundw
        case rel => exact ⟨i, (i + j) / 2, rfl, by rw [HC.out], h1, by omega, by omega, bthen HB.out HB1.out⟩
        case measure => simp [intOf]; omega
    · obtain rfl : i = t := by omega
      by_cases hin : i < n
      · have hm : i < m.length := by rw [HN.out]; omega
        obtain ⟨e0, e1, e2⟩ := (HP.out.next hb).2 i hm
        have HTH := Lib.hid (show M.there m x = (m[i].a == x) by
          rw [Bool.eq_iff_iff, HT.out]
          have h := HTT.out
          constructor
          · rintro ⟨h1, h2⟩
            simp only [h] at h2
            simp [h2]
          · intro h3
            simp at h3
            exact ⟨by rw [h]; exact hm, by simp only [h]; exact h3⟩)
        obtain ⟨pa, hpa⟩ : ∃ pa, m[i].a = pa := ⟨_, rfl⟩
        obtain ⟨pp, hpp⟩ : ∃ pa, m[i].p = pa := ⟨_, rfl⟩
        obtain ⟨pd, hpd⟩ : ∃ pa, m[i].d = pa := ⟨_, rfl⟩
        rw [hpa] at e0 HTH
        rw [hpp] at e1
        rw [hpd] at e2
        clear hpa hpp hpd
        have HB := Lib.hid hb
        clear hb hm
        have HE := Lib.hid (cmpI_eq (x := pa) (y := x))
        obtain ⟨c, hc⟩ : ∃ c, cmpI pa x = c := ⟨_, rfl⟩
        have HCP := Lib.hid (cmpp_any pa pp pd x wr)
        rw [hc] at HE HCP
        clear hc
        go_wp2_with fail
        refine HCP.out.mono ?_
        rintro e w1 ⟨rfl, hb1⟩
        have HB1 := Lib.hid hb1
        clear hb1
        go_wp2_with fail
        go_ret2
        exact ⟨by rw [HTH.out, ← HE.out]; rfl, bthen HB.out HB1.out⟩
      · have hth : M.there m x = false := by
          cases h : M.there m x
          · rfl
          · obtain ⟨h1, _⟩ := HT.out.1 h
            rw [HTT.out, HN.out] at h1
            omega
        have HTH := Lib.hid hth
        have HB := Lib.hid hb
        clear hth hb
        have hnlt : decide ((i : Int) < (n : Int)) = false := by simp; omega
        go_wp2_with fail
        go_ret2
        exact ⟨by rw [HTH.out]; rfl, HB.out⟩
/-- where the page at x stands, or would stand, and whether it is there -/
theorem find_any {m : List M.Pg} {v : Value} (x : Int) {w : World} (hP : Pages w v m) (hl : m.length ≤ 1000000) (hu : m.Pairwise (fun x y => x.a < y.a)) :
    Calls Try.prog 38 #[v, .int .u64 x] w fun e w' => e = .returned (.tuple #[.int .i64 (M.low m x), .bool (M.there m x)]) ∧ Below w.heap.size w w' := by
  have HC := Lib.hid (show Calls Try.prog 50 #[v, .int .u64 x, .func (.func 51) #[] #[]] w fun e w' => e = .returned (.tuple #[.int .i64 (M.low m x), .bool (M.there m x)]) ∧ Below w.heap.size w w' by
    rcases hP with ⟨rfl, rfl | ⟨a, cap, rfl⟩⟩ | ⟨_, b, off, cap, rfl, h⟩
    · exact search_none _ _ x w
    · exact search_none _ _ x w
    · exact search_some m b off cap x w hl hu h)
  clear hP hl hu
  obtain ⟨t, ht⟩ : ∃ t, M.low m x = t := ⟨_, rfl⟩
  obtain ⟨q, hq⟩ : ∃ q, M.there m x = q := ⟨_, rfl⟩
  rw [ht, hq] at HC ⊢
  clear ht hq
  go_enter Try.func38, Try.ntmps38
  go_wp2_with fail
  refine HC.out.mono ?_
  rintro e w1 ⟨rfl, hb1⟩
  have HB1 := Lib.hid hb1
  clear hb1
  go_wp2_with fail
  go_ret2
  exact ⟨rfl, HB1.out⟩
end Go.Proofs.Ytpifndpbmjmglaa
namespace Go.Proofs.Ytpifndpbmjmglaa
open Go.RowKit
/-- a world in which all that lay in w lies as it lay -/
structure Past (w : World) where
  W : World
  h : Below w.heap.size w W
instance (w : World) : Inhabited (Past w) := ⟨⟨w, Below.refl _ _⟩⟩
theorem wp_region_past {P : Program} {id : Nat} {Q : Exit → Act → World → Prop} {a : Act} {w : World} {l : List Oper} (hm : P.follows .mixedOrders = true) (hB : Region.lexB .any l.toArray = true)
    (h : wpQuiet P l.toArray (fun w' => ∃ p : Past w, w' = p.W) (fun a' => ∀ w', (∃ p : Past w, w' = p.W) → Q .normal a' w') l a) : (Code.region id l.toArray true).wp P Q a w :=
  wp_region_quiet (C := fun w' => ∃ p : Past w, w' = p.W) hm hB ⟨⟨w.drew, (Below.refl _ w).drew⟩, rfl⟩ (by simpa using h)
theorem Past.cell {w : World} {b o : Nat} {v : Value} (hb : b < w.heap.size) (h : w.cell? ⟨b, o, none⟩ = some v) (p : Past w) : p.W.cell? ⟨b, o, none⟩ = some v :=
  (p.h.cell (p := ⟨b, o, none⟩) hb).trans h
theorem past_of {P : Program} {f : FuncId} {args : Array Value} {w : World} {p : Past w} {v : Value}
    (h : Calls P f args p.W fun e w' => e = .returned v ∧ Below p.W.heap.size p.W w') : Calls P f args p.W fun e w'' => e = .returned v ∧ ∃ q : Past w, w'' = q.W :=
  h.mono fun _ w'' ⟨he, hb⟩ => ⟨he, ⟨w'', bthen p.h hb⟩, rfl⟩
end Go.Proofs.Ytpifndpbmjmglaa
namespace Go.Proofs.Ytpifndpbmjmglaa
open Go.RowKit
set_option maxHeartbeats 1000000 in
theorem right_long (A : Option Addr) (n cap : Nat) (w : World) (hn : 64 < n) (hm : n ≤ 9223372036854775807) :
    Calls Try.prog 46 #[.slice A n cap] w fun e w' => e = .returned (.bool false) ∧ Below w.heap.size w w' := by
  go_enter Try.func46, Try.ntmps46
  go_wp2_with fail
  go_ret
  exact ⟨rfl, Below.refl _ _⟩
set_option maxHeartbeats 1000000 in
theorem right_none (A : Option Addr) (cap : Nat) (w : World) :
    Calls Try.prog 46 #[.slice A 0 cap] w fun e w' => e = .returned (.bool true) ∧ Below w.heap.size w w' := by
  go_enter Try.func46, Try.ntmps46
  go_wp2_with fail
  go_loop [10] (fun i => i = .int .i64 0) (fun _ => 0)
  case atStart => rfl
  case round =>
    obtain rfl := hrel
    go_wp2_with fail
    go_ret
    exact ⟨rfl, Below.refl _ _⟩
theorem page_new (w : World) (a p : Int) (d : ByteArray) (t : TypeId) : (w.alloc (.cells #[.int .u64 a, .int .i64 p, .string d] t)).cell? ⟨w.heap.size, 0, none⟩ = some (.int .u64 a) ∧
    (w.alloc (.cells #[.int .u64 a, .int .i64 p, .string d] t)).cell? ⟨w.heap.size, 1, none⟩ = some (.int .i64 p) ∧ (w.alloc (.cells #[.int .u64 a, .int .i64 p, .string d] t)).cell? ⟨w.heap.size, 2, none⟩ = some (.string d) := by
  have h := heap_alloc_new w (.cells #[.int .u64 a, .int .i64 p, .string d] t)
  refine ⟨?_, ?_, ?_⟩ <;> (unfold World.cell?; rw [h]; rfl)
/-- is the page at i right, and above the one ahead of it? -/
def okAt (m : List M.Pg) (i : Nat) (h : i < m.length) : Bool := M.okPg m[i] && (decide (i = 0) || decide (m[i - 1].a < m[i].a))
def rightB (m : List M.Pg) : Bool := decide (m.length ≤ 64 ∧ ∀ i (h : i < m.length), okAt m i h = true)
theorem right_no {m : List M.Pg} {i : Nat} (h : i < m.length) (hf : okAt m i h = false) : rightB m = false := by
  simp only [rightB, decide_eq_false_iff_not]
  rintro ⟨_, h2⟩
  rw [h2 i h] at hf; cases hf
set_option maxHeartbeats 4000000 in
theorem right_some (m : List M.Pg) (b off cap : Nat) (w : World) (hl : m.length ≤ 64) (h0 : ∀ x ∈ m, 0 ≤ x.a) (hP : PagesIn w b off m) :
    Calls Try.prog 46 #[.slice (some ⟨b, off, none⟩) m.length cap] w fun e w' => e = .returned (.bool (rightB m)) ∧ Below w.heap.size w w' := by
  have HP := Lib.hid hP
  have H0 := Lib.hid h0
  have HL := Lib.hid hl
  obtain ⟨n, hn⟩ : ∃ n, m.length = n := ⟨_, rfl⟩
  rw [hn] at hl ⊢
  have HN := Lib.hid hn
  clear hP hn h0
  have hd64 : decide ((64 : Int) < (n : Int)) = false := by simp; omega
  go_enter Try.func46, Try.ntmps46
  go_wp2_with fail
  go_loopw [10] (fun i wr => ∃ i' : Nat, i = .int .i64 i' ∧ i' ≤ n ∧ (∀ j (h : j < m.length), j < i' → okAt m j h = true) ∧ Below w.heap.size w wr) (fun i _ => n - (intOf i).toNat)
  case atStart => exact ⟨0, rfl, by omega, fun j _ h => by omega, Below.refl _ _⟩
  case round =>
    obtain ⟨i, rfl, h1, h2, hb⟩ := hrel
    have H2 := Lib.hid h2
    have HB := Lib.hid hb
    clear h2 hb
    by_cases hlt : i < n
    · have hm : i < m.length := by rw [HN.out]; omega
      obtain ⟨e0, e1, e2⟩ := (HP.out.next HB.out).2 i hm
      obtain ⟨pa, hpa⟩ : ∃ pa, m[i].a = pa := ⟨_, rfl⟩
      obtain ⟨pp, hpp⟩ : ∃ pa, m[i].p = pa := ⟨_, rfl⟩
      obtain ⟨pd, hpd⟩ : ∃ pa, m[i].d = pa := ⟨_, rfl⟩
      have HO := Lib.hid (show M.okPg m[i] = M.okPg ⟨pa, pp, pd⟩ by rw [← hpa, ← hpp, ← hpd])
      rw [hpa] at e0
      rw [hpp] at e1
      rw [hpd] at e2
      have p0 : 0 ≤ pa := hpa ▸ H0.out _ (List.getElem_mem hm)
      have HPA := Lib.hid hpa
      clear hpa hpp hpd
      cases hok : M.okPg ⟨pa, pp, pd⟩
      · have HC := Lib.hid (fun W => (page_any pa pp pd p0 W).mono fun e w' h => (by rw [hok] at h; exact h : e = .returned (.bool false) ∧ Below W.heap.size W w'))
        rw [hok] at HO
        clear hok
        have HF := Lib.hid (right_no (m := m) hm (by simp [okAt, HO.out]))
        go_wp2_with fail
        have F := Lib.hid (page_new wr pa pp pd 70)
        have BW := Lib.hid (balloc HB.out (.cells #[.int .u64 pa, .int .i64 pp, .string pd] 70))
        have BX := Lib.hid (balloc (Below.refl _ wr) (.cells #[.int .u64 pa, .int .i64 pp, .string pd] 70))
        have HZ := Lib.hid (show wr.heap.size < (wr.alloc (.cells #[.int .u64 pa, .int .i64 pp, .string pd] 70)).heap.size by simp)
        generalize wr.alloc (.cells #[.int .u64 pa, .int .i64 pp, .string pd] 70) = W0 at *
        generalize wr.heap.size = z at *
        have f0 := fun p => Past.cell HZ.out F.out.1 p
        have f1 := fun p => Past.cell HZ.out F.out.2.1 p
        have f2 := fun p => Past.cell HZ.out F.out.2.2 p
        refine wp_region_past (by kernel_rfl) (by kernel_rfl) ?_
        repeat (go_big_quiet_step (first | (go_at_call 58; refine past_of (HC.out _))))
        refine wpQuiet_nil ?_
        rintro _ ⟨⟨W1, hb1⟩, rfl⟩
        clear f0 f1 f2
        have HB1 := Lib.hid (bthen BW.out hb1)
        clear hb1
        go_wp2_with fail
        go_ret
        exact ⟨by rw [HF.out]; rfl, HB1.out⟩
      · have HC := Lib.hid (fun W => (page_any pa pp pd p0 W).mono fun e w' h => (by rw [hok] at h; exact h : e = .returned (.bool true) ∧ Below W.heap.size W w'))
        rw [hok] at HO
        clear hok
        by_cases hi0 : i = 0
        · have hd0 : decide (0 < i) = false := by simp; omega
          have HS := Lib.hid (show okAt m i hm = true by unfold okAt; rw [HO.out]; simp [hi0])
          clear hi0
          go_wp2_with fail
          have F := Lib.hid (page_new wr pa pp pd 70)
          have BW := Lib.hid (balloc HB.out (.cells #[.int .u64 pa, .int .i64 pp, .string pd] 70))
          have BX := Lib.hid (balloc (Below.refl _ wr) (.cells #[.int .u64 pa, .int .i64 pp, .string pd] 70))
          have HZ := Lib.hid (show wr.heap.size < (wr.alloc (.cells #[.int .u64 pa, .int .i64 pp, .string pd] 70)).heap.size by simp)
          generalize wr.alloc (.cells #[.int .u64 pa, .int .i64 pp, .string pd] 70) = W0 at *
          generalize wr.heap.size = z at *
          have f0 := fun p => Past.cell HZ.out F.out.1 p
          have f1 := fun p => Past.cell HZ.out F.out.2.1 p
          have f2 := fun p => Past.cell HZ.out F.out.2.2 p
          refine wp_region_past (by kernel_rfl) (by kernel_rfl) ?_
          repeat (go_big_quiet_step (first | (go_at_call 58; refine past_of (HC.out _))))
          refine wpQuiet_nil ?_
          rintro _ ⟨⟨W1, hb1⟩, rfl⟩
          clear f0 f1 f2
          have HB1 := Lib.hid (bthen BW.out hb1)
          clear hb1
          go_wp2_with fail
          go_roundw
          case rel => exact ⟨i + 1, by go_num, by omega, fun j h hj => by
            by_cases e : j = i
            · subst e; exact HS.out
            · exact H2.out j h (by omega), HB1.out⟩
          case measure => simp [intOf]; omega
        · have hd0 : decide (0 < i) = true := by simp; omega
          have hm1 : i - 1 < m.length := by omega
          have g0 := ((HP.out.next HB.out).2 (i - 1) hm1).1
          obtain ⟨qa, hqa⟩ : ∃ qa, m[i - 1].a = qa := ⟨_, rfl⟩
          rw [hqa] at g0
          have BI := Lib.hid (HP.out.next HB.out).1
          have i1 : IntKind.i64.wrap ((i : Int) - 1) = (i : Int) - 1 := by rw [IntKind.wrap_i64]; omega
          have i2 : (0 : Int) ≤ (i : Int) - 1 := by omega
          have i3 : (i : Int) - 1 < (n : Int) := by omega
          have i4 : ((i : Int) - 1).toNat = i - 1 := by omega
          by_cases hlt2 : qa < pa
          · have hd2 : decide (pa ≤ qa) = false := by simp; omega
            have HS := Lib.hid (show okAt m i hm = true by simp [okAt, HO.out, hqa, HPA.out, hlt2])
            clear hi0 hqa hlt2
            go_wp2_with fail
            have F := Lib.hid (page_new wr pa pp pd 70)
            have BW := Lib.hid (balloc HB.out (.cells #[.int .u64 pa, .int .i64 pp, .string pd] 70))
            have BX := Lib.hid (balloc (Below.refl _ wr) (.cells #[.int .u64 pa, .int .i64 pp, .string pd] 70))
            have HZ := Lib.hid (show wr.heap.size < (wr.alloc (.cells #[.int .u64 pa, .int .i64 pp, .string pd] 70)).heap.size by simp)
            generalize wr.alloc (.cells #[.int .u64 pa, .int .i64 pp, .string pd] 70) = W0 at *
            have g1 := fun p => Past.cell (w := W0) (b := b) (by have := BI.out; have := BX.out.size; omega) (((bcell BX.out).1 _ _ BI.out).trans g0) p
            clear g0
            generalize wr.heap.size = z at *
            have f0 := fun p => Past.cell HZ.out F.out.1 p
            have f1 := fun p => Past.cell HZ.out F.out.2.1 p
            have f2 := fun p => Past.cell HZ.out F.out.2.2 p
            refine wp_region_past (by kernel_rfl) (by kernel_rfl) ?_
            repeat (go_big_quiet_step (first | (go_at_call 58; refine past_of (HC.out _))))
            refine wpQuiet_nil ?_
            rintro _ ⟨⟨W1, hb1⟩, rfl⟩
            clear f0 f1 f2
            have HB1 := Lib.hid (bthen BW.out hb1)
            clear hb1 g1 i1
            go_wp2_with fail
            go_roundw
            case rel => exact ⟨i + 1, by go_num, by omega, fun j h hj => by
              by_cases e : j = i
              · subst e; exact HS.out
              · exact H2.out j h (by omega), HB1.out⟩
            case measure => simp [intOf]; omega
          · have hd2 : decide (pa ≤ qa) = true := by simp; omega
            have HF := Lib.hid (right_no (m := m) hm (by simp [okAt, HO.out, hqa, HPA.out, hlt2, hi0]))
            clear hi0 hqa hlt2
            go_wp2_with fail
            have F := Lib.hid (page_new wr pa pp pd 70)
            have BW := Lib.hid (balloc HB.out (.cells #[.int .u64 pa, .int .i64 pp, .string pd] 70))
            have BX := Lib.hid (balloc (Below.refl _ wr) (.cells #[.int .u64 pa, .int .i64 pp, .string pd] 70))
            have HZ := Lib.hid (show wr.heap.size < (wr.alloc (.cells #[.int .u64 pa, .int .i64 pp, .string pd] 70)).heap.size by simp)
            generalize wr.alloc (.cells #[.int .u64 pa, .int .i64 pp, .string pd] 70) = W0 at *
            have g1 := fun p => Past.cell (w := W0) (b := b) (by have := BI.out; have := BX.out.size; omega) (((bcell BX.out).1 _ _ BI.out).trans g0) p
            clear g0
            generalize wr.heap.size = z at *
            have f0 := fun p => Past.cell HZ.out F.out.1 p
            have f1 := fun p => Past.cell HZ.out F.out.2.1 p
            have f2 := fun p => Past.cell HZ.out F.out.2.2 p
            refine wp_region_past (by kernel_rfl) (by kernel_rfl) ?_
            repeat (go_big_quiet_step (first | (go_at_call 58; refine past_of (HC.out _))))
            refine wpQuiet_nil ?_
            rintro _ ⟨⟨W1, hb1⟩, rfl⟩
            clear f0 f1 f2
            have HB1 := Lib.hid (bthen BW.out hb1)
            clear hb1 g1 i1
            go_wp2_with fail
            go_ret
            exact ⟨by rw [HF.out]; rfl, HB1.out⟩
    · have hnlt : decide ((i : Int) < (n : Int)) = false := by simp; omega
      have HF := Lib.hid (show rightB m = true by
        simp only [rightB, decide_eq_true_eq]
        exact ⟨HL.out, fun j h => H2.out j h (by rw [HN.out] at h; omega)⟩)
      go_wp2_with fail
      go_ret
      exact ⟨by rw [HF.out]; rfl, HB.out⟩
theorem Right.of {m : List M.Pg} (h : rightB m = true) (h0 : ∀ x ∈ m, 0 ≤ x.a) (h1 : ∀ x ∈ m, x.a ≤ 18446744073709551615) : M.Right m := by
  simp only [rightB, decide_eq_true_eq] at h
  obtain ⟨hl, ho⟩ := h
  have ho1 : ∀ i (h : i < m.length), M.okPg m[i] = true := fun i h => by have := ho i h; simp [okAt] at this; exact this.1
  have ho2 : ∀ i (h : i + 1 < m.length), m[i].a < m[i + 1].a := fun i h => by have := ho (i + 1) h; simp [okAt] at this; exact this.2
  refine ⟨hl, fun x hx => ?_, ?_, h0, h1⟩
  · obtain ⟨i, hi, rfl⟩ := List.getElem_of_mem hx
    exact ho1 i hi
  · rw [List.pairwise_iff_getElem]
    intro i j hi hj hij
    induction j with
    | zero => omega
    | succ j ih =>
      by_cases e : i = j
      · subst e; exact ho2 i hj
      · have := ih (by omega) (by omega); have := ho2 j hj; omega
theorem Right.rb {m : List M.Pg} (h : M.Right m) : rightB m = true := by
  simp only [rightB, decide_eq_true_eq]
  refine ⟨h.len, fun i hi => ?_⟩
  unfold okAt
  rw [h.ok _ (List.getElem_mem hi)]
  by_cases e : i = 0
  · simp [e]
  · have := h.at_lt (i := i - 1) (j := i) (by omega) hi
    simp [this]
/-- Right, at every memory -/
theorem right_any {m : List M.Pg} {v : Value} {w : World} (hP : Pages w v m) (hl : m.length ≤ 9223372036854775807) (h0 : ∀ x ∈ m, 0 ≤ x.a) :
    Calls Try.prog 46 #[v] w fun e w' => e = .returned (.bool (rightB m)) ∧ Below w.heap.size w w' := by
  rcases hP with ⟨rfl, h⟩ | ⟨_, b, off, cap, rfl, h⟩
  · obtain ⟨A, cap, rfl⟩ : ∃ A cap, v = .slice A 0 cap := by rcases h with rfl | ⟨a, cap, rfl⟩ <;> exact ⟨_, _, rfl⟩
    exact right_none A cap w
  · by_cases hs : m.length ≤ 64
    · exact right_some m b off cap w hs h0 h
    · refine (right_long _ _ _ w (by omega) hl).mono fun e w' ⟨he, hb⟩ => ⟨?_, hb⟩
      rw [he]
      exact ret_bool (by simp [rightB, hs])
end Go.Proofs.Ytpifndpbmjmglaa
namespace Go.Proofs.Ytpifndpbmjmglaa
open Go.RowKit
/-- has p all bits of perm? -/
def okBits (p perm : Int) : Bool := bits BinOp.and IntKind.i64 p perm == perm
/-- is there a page at x, and does it grant perm? -/
def grantB (m : List M.Pg) (x perm : Int) : Bool := M.there m x && (match m[M.low m x]? with | some q => okBits q.p perm | none => false)
set_option maxHeartbeats 1000000 in
theorem grants_no {m : List M.Pg} {v : Value} {x perm : Int} {w : World} (hP : Pages w v m) (hl : m.length ≤ 1000000) (hu : m.Pairwise (fun x y => x.a < y.a)) (ht : M.there m x = false) :
    Calls Try.prog 64 #[v, .int .u64 x, .int .i64 perm] w fun e w' => e = .returned (.bool false) ∧ Below w.heap.size w w' := by
  have HF := Lib.hid (find_any x hP hl hu)
  rw [ht] at HF
  obtain ⟨t, e⟩ : ∃ t, M.low m x = t := ⟨_, rfl⟩
  rw [e] at HF
  clear hP hu ht hl e
  go_enter Try.func64, Try.ntmps64
  go_wp2_with fail
  refine HF.out.mono ?_
  rintro e w1 ⟨rfl, hb1⟩
  have HB1 := Lib.hid hb1
  clear hb1
  go_wp2_with fail
  go_ret
  exact ⟨rfl, HB1.out⟩
set_option maxHeartbeats 1000000 in
theorem grants_some (m : List M.Pg) (b off cap : Nat) (x perm : Int) (w : World) (hl : m.length ≤ 1000000) (hu : m.Pairwise (fun x y => x.a < y.a)) (hP : PagesIn w b off m) (i : Nat) (hi : i < m.length) (e : M.low m x = i) (ht : M.there m x = true) :
    Calls Try.prog 64 #[.slice (some ⟨b, off, none⟩) m.length cap, .int .u64 x, .int .i64 perm] w fun e w' => e = .returned (.bool (okBits m[i].p perm)) ∧ Below w.heap.size w w' := by
  have HF := Lib.hid (find_any (v := .slice (some ⟨b, off, none⟩) m.length cap) x (w := w) (.inr ⟨by omega, b, off, cap, rfl, hP⟩) hl hu)
  have HP := Lib.hid hP
  rw [e, ht] at HF
  obtain ⟨n, hn⟩ : ∃ n, m.length = n := ⟨_, rfl⟩
  rw [hn] at hl HF ⊢
  have HN := Lib.hid hn
  have hi' : i < n := by omega
  clear hP hn hu ht e
  cases hq : okBits m[i].p perm
  all_goals
    go_enter Try.func64, Try.ntmps64
    go_wp2_with fail
    refine HF.out.mono ?_
    rintro e w1 ⟨rfl, hb1⟩
    obtain ⟨e0, e1, e2⟩ := (HP.out.next hb1).2 i hi
    obtain ⟨pp, hpp⟩ : ∃ pa, m[i].p = pa := ⟨_, rfl⟩
    rw [hpp] at e1 hq
    have HB1 := Lib.hid hb1
    first
      | (have tb : (bits BinOp.and IntKind.i64 pp perm != perm) = true := by simpa [okBits] using hq)
      | (have tb : (bits BinOp.and IntKind.i64 pp perm != perm) = false := by simpa [okBits] using hq)
    clear hb1 e0 e2 hq hpp
    go_wp2_with fail
    go_ret
    exact ⟨rfl, HB1.out⟩
theorem grants_any {m : List M.Pg} {v : Value} (x perm : Int) {w : World} (hP : Pages w v m) (hl : m.length ≤ 1000000) (hu : m.Pairwise (fun x y => x.a < y.a)) :
    Calls Try.prog 64 #[v, .int .u64 x, .int .i64 perm] w fun e w' => e = .returned (.bool (grantB m x perm)) ∧ Below w.heap.size w w' := by
  cases ht : M.there m x
  · have := grants_no (perm := perm) hP hl hu ht
    simpa [grantB, ht] using this
  · obtain ⟨h1, h2⟩ := (M.there_iff hu x).1 ht
    rcases hP with ⟨rfl, _⟩ | ⟨_, b, off, cap, rfl, h⟩
    · simp at h1
    · refine (grants_some m b off cap x perm w hl hu h _ h1 rfl ht).mono fun e w' ⟨he, hb⟩ => ⟨?_, hb⟩
      rw [he]
      exact ret_bool (by simp [grantB, ht, h1])
end Go.Proofs.Ytpifndpbmjmglaa
namespace Go.Proofs.Ytpifndpbmjmglaa
open Go.RowKit
theorem take_snoc (s : ByteArray) (k : Nat) (h : k < s.size) : s.data.toList.take (k + 1) = s.data.toList.take k ++ [s[k]] := by
  rw [List.take_succ_eq_append_getElem (by simpa using h)]; rfl
end Go.Proofs.Ytpifndpbmjmglaa
namespace Go.Proofs.Ytpifndpbmjmglaa
open Go.RowKit
/-- block g is just these cells of type t, none of them frozen -/
def Whole (W : World) (g : Nat) (t : TypeId) (cs : Array Value) : Prop := W.heap[g]? = some (.cells cs t (0, 0))
theorem Whole.lt {W : World} {g : Nat} {t : TypeId} {cs : Array Value} (h : Whole W g t cs) : g < W.heap.size := (Array.getElem?_eq_some_iff.1 h).1
theorem Whole.cell {W : World} {g : Nat} {t : TypeId} {cs : Array Value} (h : Whole W g t cs) (i : Nat) : W.cell? ⟨g, i, none⟩ = cs[i]? := cell_of_row W g i cs t (0, 0) h
theorem Whole.free {W : World} {g : Nat} {t : TypeId} {cs : Array Value} (h : Whole W g t cs) (i : Nat) : W.frozen? ⟨g, i, none⟩ = false := by
  simp [World.frozen?, show W.heap[g]? = _ from h]
theorem Whole.put {W : World} {g : Nat} {t : TypeId} {cs : Array Value} (h : Whole W g t cs) (i : Nat) (u : Value) : Whole (W.setCell ⟨g, i, none⟩ u) g t (cs.setIfInBounds i u) := by
  unfold Whole at h ⊢
  simp [World.setCell, Array.getElem?_modify, h]
theorem Whole.of_full {W : World} {base g n : Nat} {t : TypeId} {size : Nat} {xs : List Value} (h : W.ownsRow base t size (.slice (some ⟨g, 0, none⟩) n n) n xs) : Whole W g t xs.toArray := by
  rcases h.2 with ⟨e, _⟩ | ⟨g', cap, cur, e, _, hb, _, _, hs, hx⟩
  · cases e
  · cases e
    rw [List.take_of_length_le (by simp [hs])] at hx
    unfold Whole
    rw [hb, ← hx]
theorem made_nought (n : Nat) : (madeCells (Value.int .u8 0).cells (n * 1)).toList = List.replicate n (Value.int .u8 0) := by
  apply List.ext_getElem
  · simp [madeCells]
  · intro i h1 h2
    simp [madeCells, Value.cells, Nat.mod_one]
end Go.Proofs.Ytpifndpbmjmglaa
namespace Go.Proofs.Ytpifndpbmjmglaa
open Go.RowKit
/-- the post of a region that ends as it should, or not at all -/
def Calm (Q : Exit → Act → World → Prop) (e : Exit) (a : Act) (w : World) : Prop := e = .normal ∧ Q .normal a w
theorem rowsIn_of {l n : Nat} {P : Program} {row : String} {args : Array Value} {w : World} {R : Value → World → Prop} (h : Rows P row args w R) : RowsIn (Fence.wide.inRound l) n P row args w R := fun c cs _ =>
  let ⟨v, w', r, s⟩ := h c cs
  ⟨v, w', r, by exact stepsIn_wide.2 s⟩
theorem opIn_of {l n : Nat} {P : Program} {o : Oper} {a : Act} {w : World} {K K' : Act → World → Prop} {Q : Exit → Act → World → Prop} (hd : ∀ c, o.op ≠ .defer c) (hK : ∀ a w, K' a w → K a w)
    (h : o.wp P a w K' (Calm Q)) : o.wpIn (Fence.wide.inRound l) n P a w K Q := by
  refine ⟨fun _ _ => trivial, ?_⟩
  show o.uponIn _ n P a K Q ((Oper.semAt (some l) a.eval o).run P w)
  rw [Oper.semAt_some _ _ _ hd]
  unfold Oper.wp at h
  generalize (execOp a.eval o).run P w = r at *
  cases r with
  | ok x w' =>
    cases x <;> simp only [Oper.upon] at h <;> simp only [Oper.uponIn]
    case value => exact hK _ _ h
    case skip => exact hK _ _ h
    case defer => exact hK _ _ h
    case enter =>
      refine ⟨fun h' => (by cases h'), CallsIn.inRound l (callsIn_wide.2 (h.mono fun e w'' he => ?_))⟩
      cases e with
      | returned v => exact hK _ _ he
      | panicked c => exact nomatch he.1
      | outgrown => obtain ⟨_, _, h1, _⟩ := he; cases h1
    case row => exact ⟨fun h' => (by cases h'), rowsIn_of (h.mono fun _ _ he => hK _ _ he)⟩
  | halt x w' =>
    cases x <;> simp only [Oper.upon] at h <;> simp only [Oper.uponIn]
    case panic => exact nomatch h.1
theorem wpOpIn_of {l n : Nat} {P : Program} {ops : Array Oper} {Q : Exit → Act → World → Prop} {i : Nat} {a : Act} {w : World} {K K' : Act → World → Prop} (hd : ∀ o ∈ ops, ∀ c, o.op ≠ .defer c) (hK : ∀ a w, K' a w → K a w)
    (h : wpOp P ops (Calm Q) i K' a w) : wpOpIn (Fence.wide.inRound l) n P ops Q i K a w := by
  unfold wpOp at h
  unfold wpOpIn
  split
  · rename_i ho
    simp only [ho] at h
    exact hK _ _ h
  · rename_i o ho
    simp only [ho] at h
    split
    · rename_i hw
      simp only [hw, if_true] at h
      rcases h with h | ⟨_, _, _, h1, _⟩
      · exact opIn_of (hd o (Array.mem_of_getElem? ho)) hK h
      · cases h1
    · rename_i hw
      simp only [hw] at h
      exact ⟨fun _ _ => trivial, hK _ _ h⟩
theorem wpAnyIn_of {l n : Nat} {P : Program} {md : Region.Mode} {ops : Array Oper} {Q : Exit → Act → World → Prop} (hd : ∀ o ∈ ops, ∀ c, o.op ≠ .defer c) : ∀ (fuel : Nat) (listed : Array Bool) (a : Act) (w : World),
    wpAny P md ops (Calm Q) fuel listed a w → wpAnyIn (Fence.wide.inRound l) n P md ops Q fuel listed a w
  | 0, _, _, _, h => ⟨h.1, h.2.2⟩
  | fuel + 1, _, _, _, h => ⟨fun h0 => (h.1 h0).2, fun i hi => wpOpIn_of hd (fun a' w' h' => wpAnyIn_of hd fuel _ a' w' h') (h.2 i hi)⟩
/-- a region that draws, in a round: by a condition S that holds in all worlds on its way -/
theorem round_held {l n id : Nat} {P : Program} {ops : Array Oper} {Q : Exit → Act → World → Prop} {S : World → Prop} {a : Act} {w : World} (hm : P.follows .mixedOrders = true) (hd : ∀ o ∈ ops, ∀ c, o.op ≠ .defer c) (hS : S w.drew)
    (h : S w.drew → wpAnyH P .any ops (Calm Q) S ops.size (Array.replicate ops.size false) a w.drew) : (Code.region id ops true).wpIn (Fence.wide.inRound l) n P Q a w :=
  wpIn_region_any hm (wpAnyIn_of hd _ _ _ _ (wpAny_of_held _ _ _ _ (h hS)))
end Go.Proofs.Ytpifndpbmjmglaa
namespace Go.Proofs.Ytpifndpbmjmglaa
open Go.ChangeShapes Go.WideShapes Go.ChangeAt Go.RowKit Go.Deep Go.Joins
theorem gLaidOut : laidOutB Try.prog = true := by kernel_rfl
theorem own : ownKnob Try.prog.godebug = none := by kernel_rfl
section
variable {H : Type} {enc : TypeId × Value → H} {P : Program} {w : World} {base : Nat} {spare : Nat → Bool} {held : Bool}
/-- a struct of one-cell fields, read: each field's cell with its own reading -/
theorem row_of {t : TypeId} {fs : Array Field} {fuel : Nat} {cs : List Value} {x : DataW H × List MemPlace} (ht : P.underlying t = some (.struct fs)) (hone : oneCellFields P fs = true) (hC : P.cellsOf t = fs.size)
    (h : DataW.trod enc P w base spare held fuel t cs = some x) :
    ∃ (ys : List (DataW H × List MemPlace)) (n : Nat), x.1 = .agg (ys.map (·.1)) ∧ ys.length = fs.size ∧ cs.length = fs.size ∧
      ∀ (j : Nat) (f : Field), fs[j]? = some f → ∃ c y, cs[j]? = some c ∧ ys[j]? = some y ∧ DataW.trod enc P w base spare held n f.type [c] = some y := by
  obtain ⟨ys, n, _, hx, hlen, hyl, hf⟩ := DataW.trod_struct ht h
  refine ⟨ys, n, by rw [hx], hyl, hlen.trans hC, fun j f hj => ?_⟩
  obtain ⟨ho, hk⟩ := hone_of hone j f hj
  have hjl : j < fs.size := (Array.getElem?_eq_some_iff.1 hj).1
  have h1 := hf j f hj
  rw [ho, hk] at h1
  have hcl : j < cs.length := by omega
  have hone' : (cs.drop j).take 1 = [cs[j]] := by
    rw [List.drop_eq_getElem_cons hcl]
    rfl
  rw [hone'] at h1
  exact ⟨_, _, List.getElem?_eq_getElem hcl, List.getElem?_eq_getElem (by omega), h1.trans (List.getElem?_eq_getElem (by omega))⟩
end
section
variable {H : Type} {enc : TypeId × Value → H}
/-- the arguments read behind the call as they read before -/
theorem trodAll_below {W W' : World} (bel : Below W.heap.size W W') : ∀ (ts : List TypeId) (vs : List Value) (ds : List (DataW H)) (p : List MemPlace),
    (∀ t ∈ ts, Try.prog.readableRec t = true ∧ t < Try.prog.types.size) → DataW.TrodAll enc Try.prog W 0 (fun _ => true) true ts vs ds p → (∀ x ∈ p, x.block < W.heap.size) →
    DataW.TrodAll enc Try.prog W' 0 (fun b => decide (b < W.heap.size)) true ts vs ds p := by
  intro ts
  induction ts with
  | nil =>
    intro vs ds p _ h _
    obtain ⟨rfl, rfl, rfl⟩ := trodAll_nil h
    exact trodAll_mk0
  | cons t ts ih =>
    intro vs ds p ht h hp
    obtain ⟨v, vs', d, ds', p1, p2, rfl, rfl, rfl, h1, h2⟩ := trodAll_cons h
    have ht1 := ht t (by simp)
    exact trodAll_cons_mk (Below.trod gLaidOut ht1.1 ht1.2 h1 bel (fun x hx => hp x (by simp [hx]))) (ih vs' ds' p2 (fun t ht' => ht t (by simp [ht'])) h2 (fun x hx => hp x (by simp [hx])))
/-- the row's last step, of every law -/
theorem law_post {f : Func} {s : ChangeSpec} {W W' : World} {args : Array Value} {ds gs : List (DataW H)} {before : List MemPlace} (hv : s.vars = []) (hr : f.resultTypes = #[4])
    (ht : ∀ t ∈ f.params.toList, Try.prog.readableRec t = true ∧ t < Try.prog.types.size)
    (hW : DataW.Whole enc Try.prog f.params.toList s.vars false W args.toList ds gs before) (bel : Below W.heap.size W W')
    (h1 : (s.fn H (ds ++ gs)).results = [.lit (.bool true)]) (h2 : (s.fn H (ds ++ gs)).args = ds) (h3 : (s.fn H (ds ++ gs)).vars = []) :
    s.post enc Try.prog f false true false false W args (.bool true) W' := by
  have hlt : ∀ p ∈ before, p.block < W.heap.size := fun p hp => hW.lt p hp
  have hW' := hW
  obtain ⟨p, q, hA, hV, rfl, _, _⟩ := hW
  refine ⟨ds, gs, p ++ q, [], p, [], hW', ?_, ?_, ?_, bel.frame _, fun h => by cases h⟩
  · rw [h1, hr]
    exact trodAll_mk1 (shut_bool Try.underlying4 _)
  · rw [h2]
    exact trodAll_below bel _ _ _ _ ht hA (fun x hx => hlt x (by simp [hx]))
  · rw [h3, hv]
    rfl
end
end Go.Proofs.Ytpifndpbmjmglaa
namespace Go.Proofs.Ytpifndpbmjmglaa
open Go.RowKit Go.Shelf
/-- the value of a row of places -/
def encS (s : M.Str) : Value := .agg #[.int .u64 s.pg, .int .i64 s.f, .int .i64 s.n]
/-- each block of a row of places lies as it lay -/
structure KeepS (W W' : World) : Prop where
  size : W.heap.size ≤ W'.heap.size
  same : ∀ (k : Nat) (cs : Array Value) (f : Nat × Nat), W.heap[k]? = some (.cells cs 104 f) → W'.heap[k]? = some (.cells cs 104 f)
theorem KeepS.trans {A B C : World} (h : KeepS A B) (k : KeepS B C) : KeepS A C := ⟨Nat.le_trans h.size k.size, fun i cs f hi => k.same i cs f (h.same i cs f hi)⟩
theorem KeepS.below {W W' : World} (h : Below W.heap.size W W') : KeepS W W' := ⟨h.size, fun i _ _ hi => (h.block i (Array.getElem?_eq_some_iff.1 hi).1).trans hi⟩
theorem KeepS.grown {W W' : World} {row : Option Nat} (h : W.grownBy W' row) (hr : ∀ r, row = some r → ∀ cs f, W.heap[r]? ≠ some (.cells cs 104 f)) : KeepS W W' :=
  ⟨h.size, fun i cs f hi => (h.block i (Array.getElem?_eq_some_iff.1 hi).1 (fun e => hr i e.symm cs f hi)).trans hi⟩
theorem keepS_b {w : World} (W : World) (l : Nat) (o o' : Obj) (_ : w.heap.size ≤ l) (h : W.heap[l]? = some o) (hc : o.isCells = false) (_ : o.isWalk = false) : KeepS W (W.putObj l o') :=
  KeepS.grown (grownBy_putObj' W l o') (fun r e _ _ hr => by cases e; rw [h] at hr; cases hr; cases hc)
theorem stretches_in (n : Nat) (a k : Int) (w : World) :
    CallsIn Fence.wide n Try.prog 55 #[.int .u64 a, .int .i64 k] w fun e w' => e = .returned (.func (.func 63) #[] #[.pointer (some ⟨w.heap.size, 0, none⟩), .pointer (some ⟨w.heap.size + 1, 0, none⟩)]) ∧ w' = (w.alloc (.cells #[.int .u64 a] 22)).alloc (.cells #[.int .i64 k] 3) := by
  refine callsIn_of_wp Try.func55 rfl trivial ?_ rfl
  simp only [Try.ntmps55, List.size_toArray, List.length_cons, List.length_nil, Nat.reduceAdd, Nat.reduceSub, Array.replicate_succ, Array.replicate_zero, List.push_toArray, List.append_toArray, List.nil_append, List.cons_append]
  gi_wp2
  go_ret
  exact ⟨rfl, by simp⟩
set_option maxRecDepth 100000 in
set_option maxHeartbeats 2000000 in
theorem strs_in (n : Nat) (hn : 1 ≤ n) (l Ba Bk : Nat) (a k : Int) (Q : M.Str → Prop) (hQ : ∀ s ∈ M.strs a k, Q s)
    (a0 : 0 ≤ a) (a1 : a ≤ 18446744073709551615) (k1 : k ≤ 9223372036854775807) (hk : a + k ≤ 18446744073709551616)
    (J Jx : List {s // Q s} → World → Prop) (W : World) (hJ : AbidesFrom W.heap.size J)
    (hY : ∀ pre x W1, J pre W1 → pre.length < (M.strs a k).length → YieldAt Fence.wide (n - 1) Try.prog l #[encS x.1] W1 fun e W' =>
      (e = .returned (.bool true) ∧ J (pre ++ [x]) W' ∧ KeepS W1 W') ∨ (e = .returned (.bool false) ∧ Jx (pre ++ [x]) W'))
    (hBa : W.cell? ⟨Ba, 0, none⟩ = some (.int .u64 a)) (hBk : W.cell? ⟨Bk, 0, none⟩ = some (.int .i64 k)) (h0 : J [] W) :
    CallsIn Fence.wide n Try.prog 63 #[.func (.yield l) #[] #[], .pointer (some ⟨Ba, 0, none⟩), .pointer (some ⟨Bk, 0, none⟩)] W fun e W' => (∃ v, e = .returned v) ∧
      ((∃ ys, ys.map Subtype.val = M.strs a k ∧ J ys W') ∨ (∃ pre, (pre.map Subtype.val) <+: M.strs a k ∧ Jx pre W')) := by
  refine callsIn_of_wp Try.func63 rfl trivial ?_ rfl
  simp only [Try.ntmps63, List.size_toArray, List.length_cons, List.length_nil, Nat.reduceAdd, Nat.reduceSub, Array.replicate_succ, Array.replicate_zero, List.push_toArray, List.append_toArray, List.nil_append, List.cons_append]
  have HY := Lib.hid hY
  have HJ := Lib.hid hJ
  have H0 := Lib.hid h0
  have HQ := Lib.hid hQ
  clear hY hJ h0 hQ
  gi_wp2
  gi_big_quiet_th (fail)
  have HJ1 := Lib.hid (fun s W1 W' (h1 : J s W1) (hg : W1.grownBy W' none) => HJ.out s W1 W' none h1 hg (fun r e => by cases e))
  have HD := Lib.hid (HJ1.out _ _ (W.drewN nq) H0.out ⟨rfl, rfl, rfl, Nat.le_refl _, fun _ _ _ => rfl⟩)
  generalize W.drewN nq = W0 at *
  clear hBa hBk
  gi_wp2
  gi_loopw [4, 5] (fun p q wr => ∃ (pre : List {s // Q s}) (pl left : Int), p = .int .u64 pl ∧ q = .int .i64 left ∧ 0 ≤ pl ∧ pl ≤ 18446744073709551615 ∧ left ≤ 9223372036854775807 ∧ (0 < left → pl + left ≤ 18446744073709551616) ∧ pre.map Subtype.val ++ M.strs pl left = M.strs a k ∧ J pre wr)
    (fun _ q _ => (intOf q).toNat)
  case atStart => exact ⟨[], a, k, rfl, rfl, a0, a1, k1, fun _ => hk, by simp, HD.out⟩
  case round =>
    obtain ⟨pre, pl, left, rfl, rfl, p0, p1, l1, hpl, he, hj⟩ := hrel
    have HE := Lib.hid he
    have HJP := Lib.hid hj
    clear he hj
    by_cases hlt : 0 < left
    · have hpl' := hpl hlt
      clear hpl
      have hc := M.strs_cons (a := pl) (n := left) hlt
      have hmem : (⟨pl - pl % 256, pl % 256, min left (256 - pl % 256)⟩ : M.Str) ∈ M.strs a k := by rw [← HE.out, hc]; simp
      have hlen : pre.length < (M.strs a k).length := by rw [← HE.out, hc]; simp
      have HE2 := Lib.hid (show (pre ++ [(⟨_, HQ.out _ hmem⟩ : {s // Q s})]).map Subtype.val ++ M.strs (pl + min left (256 - pl % 256)) (left - min left (256 - pl % 256)) = M.strs a k by
        have h := HE.out
        rw [hc] at h
        simpa using h)
      obtain ⟨x, hx⟩ : ∃ x : {s // Q s}, x = ⟨_, HQ.out _ hmem⟩ := ⟨_, rfl⟩
      have HX := Lib.hid (show encS x.1 = .agg #[.int .u64 (pl - pl % 256), .int .i64 (pl % 256), .int .i64 (min left (256 - pl % 256))] by rw [hx]; rfl)
      rw [← hx] at HE2
      clear hx hmem hc
      have hy0 := HY.out pre x (wr.alloc (.cells #[.int .u64 (pl - pl % 256), .int .i64 (pl % 256), .int .i64 (min left (256 - pl % 256))] 104)) (HJ1.out _ _ _ HJP.out (World.grownBy_alloc _ _ _)) hlen
      rw [HX.out] at hy0
      clear HX
      obtain ⟨q, hq, hq'⟩ : ∃ q, min left (256 - pl % 256) = q ∧ ((q = left ∧ left ≤ 256 - pl % 256) ∨ (q = 256 - pl % 256 ∧ 256 - pl % 256 < left)) := ⟨_, rfl, by omega⟩
      rw [hq] at HE2 hy0
      clear hq
      obtain ⟨fn, tmps, assign, body, hy, hR⟩ := hy0
      have HR := Lib.hid hR
      clear hR hlen
      rcases hq' with ⟨rfl, hq⟩ | ⟨rfl, hq⟩
      · have hmq : min q (256 - pl % 256) = q := by omega
        gi_wp2
        refine HR.out.mono ?_
        rintro e W3 (⟨rfl, hJ3, hk3⟩ | ⟨rfl, hJx3⟩)
        · have hs := hk3.same wr.heap.size #[.int .u64 (pl - pl % 256), .int .i64 (pl % 256), .int .i64 q] (0, 0) (heap_alloc_new _ _)
          have h2 : W3.cell? ⟨wr.heap.size, 2, none⟩ = some (.int .i64 q) := by unfold World.cell?; rw [hs]; rfl
          have HJ3 := Lib.hid hJ3
          clear hJ3 hk3 hs
          have HW := Lib.hid (show 0 ≤ IntKind.u64.wrap (pl + q) ∧ IntKind.u64.wrap (pl + q) ≤ 18446744073709551615 by rw [IntKind.wrap_u64]; omega)
          gi_wp2
          go_roundw
          case rel => exact ⟨pre ++ [x], _, 0, rfl, rfl, HW.out.1, HW.out.2, by omega, fun h => by omega, by rw [M.strs_nil (by omega : (0 : Int) ≤ 0)]; have h := HE2.out; rw [M.strs_nil (by omega : q - q ≤ 0)] at h; exact h, HJ3.out⟩
          case measure => simp [intOf]; omega
        · gi_wp2
          refine bodyPost_ret (results_none rfl _ _ _) rfl ?_
          exact ⟨⟨_, rfl⟩, .inr ⟨pre ++ [x], ⟨_, HE2.out⟩, hJx3⟩⟩
      · have hmq : min left (256 - pl % 256) = 256 - pl % 256 := by omega
        gi_wp2
        refine HR.out.mono ?_
        rintro e W3 (⟨rfl, hJ3, hk3⟩ | ⟨rfl, hJx3⟩)
        · have hs := hk3.same wr.heap.size #[.int .u64 (pl - pl % 256), .int .i64 (pl % 256), .int .i64 (256 - pl % 256)] (0, 0) (heap_alloc_new _ _)
          have h2 : W3.cell? ⟨wr.heap.size, 2, none⟩ = some (.int .i64 (256 - pl % 256)) := by unfold World.cell?; rw [hs]; rfl
          have HJ3 := Lib.hid hJ3
          clear hJ3 hk3 hs
          gi_wp2
          go_roundw
          case rel => exact ⟨pre ++ [x], _, _, rfl, rfl, by omega, by omega, by omega, fun h => by omega, HE2.out, HJ3.out⟩
          case measure => simp [intOf]; omega
        · gi_wp2
          refine bodyPost_ret (results_none rfl _ _ _) rfl ?_
          exact ⟨⟨_, rfl⟩, .inr ⟨pre ++ [x], ⟨_, HE2.out⟩, hJx3⟩⟩
    · have hd : decide (0 < left) = false := by simp; omega
      gi_wp2
      go_end0
      exact ⟨⟨_, rfl⟩, .inl ⟨pre, by have h := HE.out; rw [M.strs_nil (by omega)] at h; simpa using h, HJP.out⟩⟩
/-- what stretches hands back, for a loop over it -/
theorem strs_stops (n : Nat) (hn : 1 ≤ n) (Ba Bk : Nat) (a k : Int) (Q : M.Str → Prop) (hQ : ∀ s ∈ M.strs a k, Q s)
    (a0 : 0 ≤ a) (a1 : a ≤ 18446744073709551615) (k1 : k ≤ 9223372036854775807) (hk : a + k ≤ 18446744073709551616) (w : World) (hBa : Ba < w.heap.size) (hBk : Bk < w.heap.size)
    (ha : w.cell? ⟨Ba, 0, none⟩ = some (.int .u64 a)) (hkk : w.cell? ⟨Bk, 0, none⟩ = some (.int .i64 k)) :
    SeqStopsK Fence.wide n Try.prog 63 #[.pointer (some ⟨Ba, 0, none⟩), .pointer (some ⟨Bk, 0, none⟩)] (fun x : {s // Q s} => #[encS x.1]) KeepS
      (fun ys => ys.map Subtype.val = M.strs a k) (fun pre => (pre.map Subtype.val) <+: M.strs a k) (M.strs a k).length w := fun l J Jx W hW hJ _ hY h0 =>
  strs_in n hn l Ba Bk a k Q hQ a0 a1 k1 hk J Jx W hJ hY ((hW.cell (p := ⟨Ba, 0, none⟩) hBa).trans ha) ((hW.cell (p := ⟨Bk, 0, none⟩) hBk).trans hkk) h0
end Go.Proofs.Ytpifndpbmjmglaa
namespace Go.Proofs.Ytpifndpbmjmglaa
open Go.RowKit Go.Shelf
attribute [local go_sem] Oper.semAt_some
/-- a block that holds a row of places -/
def BoxedS (W : World) (B : Nat) (s : M.Str) : Prop := W.heap[B]? = some (.cells #[.int .u64 s.pg, .int .i64 s.f, .int .i64 s.n] 104 (0, 0))
theorem BoxedS.new (W : World) (s : M.Str) : BoxedS (W.alloc (.cells #[.int .u64 s.pg, .int .i64 s.f, .int .i64 s.n] 104)) W.heap.size s := heap_alloc_new W _
theorem BoxedS.cells {W : World} {B : Nat} {s : M.Str} (h : BoxedS W B s) : W.cell? ⟨B, 0, none⟩ = some (.int .u64 s.pg) ∧ W.cell? ⟨B, 1, none⟩ = some (.int .i64 s.f) ∧ W.cell? ⟨B, 2, none⟩ = some (.int .i64 s.n) := by
  refine ⟨?_, ?_, ?_⟩ <;> (unfold World.cell?; rw [show W.heap[B]? = _ from h]; rfl)
theorem BoxedS.lt {W : World} {B : Nat} {s : M.Str} (h : BoxedS W B s) : B < W.heap.size := (Array.getElem?_eq_some_iff.1 h).1
theorem boxedS_own {B₀ : Nat} (B : Nat) (s : M.Str) : OwnFrom B₀ (fun (_ : Unit) W => BoxedS W B s) := by
  intro _ W W' row h hg hr
  refine (hg.block B h.lt (fun e => ?_)).trans h
  obtain ⟨_, o, ho, hc⟩ := hr B e.symm
  rw [show W.heap[B]? = _ from h] at ho; cases ho; cases hc
theorem keeps_below {W W' : World} (B : Nat) (h : Below W.heap.size W W') : KeepsFrom B W W' := ⟨h.size, fun k _ _ hk _ => (h.block k (Array.getElem?_eq_some_iff.1 hk).1).trans hk⟩
theorem boxed_below {W W' : World} {B : Nat} {t : TypeId} {v : Value} (h : Boxed W B t v) (hb : Below W.heap.size W W') : Boxed W' B t v := (hb.block B h.lt).trans h
set_option maxRecDepth 100000 in
set_option maxHeartbeats 2000000 in
theorem allGrant_in {m : List M.Pg} {v : Value} (a k perm : Int) {w : World} (hP : Pages w v m) (hl : m.length ≤ 1000000) (hu : m.Pairwise (fun x y => x.a < y.a))
    (a0 : 0 ≤ a) (a1 : a ≤ 18446744073709551615) (k1 : k ≤ 9223372036854775807) (hk : a + k ≤ 18446744073709551616) :
    Calls Try.prog 56 #[v, .int .u64 a, .int .i64 k, .int .i64 perm] w fun e W' => e = .returned (.bool ((M.strs a k).all (fun s => grantB m s.pg perm))) ∧ Below w.heap.size w W' := by
  have HB := Lib.hid (show beyondB a k = false by simp [beyondB]; omega)
  have HF := Lib.hid (fun (W : World) (h : Below w.heap.size w W) (x : Int) => grants_any x perm (hP.next h) hl hu)
  obtain ⟨A, cap, hv⟩ := hP.slice
  obtain ⟨nv, hnv⟩ : ∃ nv, m.length = nv := ⟨_, rfl⟩
  rw [hnv] at hv
  subst hv
  clear hP hl hu hnv
  refine (callsIn_wide (n := 3)).1 ?_
  refine callsIn_of_wp_marks Try.func56 rfl trivial ?_ rfl
  simp only [Try.ntmps56, List.size_toArray, List.length_cons, List.length_nil, Nat.reduceAdd, Nat.reduceSub, Array.replicate_succ, Array.replicate_zero, List.push_toArray, List.append_toArray, List.nil_append, List.cons_append]
  gi_wp2_with (fail)
  refine ⟨trivial, ?_⟩
  refine (callsIn_wide.2 (beyond_any a k a0 a1 k1 _)).mono ?_
  rintro e w1 ⟨rfl, rfl⟩
  rw [HB.out]
  gi_wp2_with (fail)
  refine ⟨trivial, ?_⟩
  refine (stretches_in 2 _ _ _).mono ?_
  rintro e w1 ⟨rfl, rfl⟩
  gi_wp2_with (fail)
  have bV := ((((Boxed.new w 28 (.slice A nv cap)).alloc (.cells #[.int .i64 perm] 3)).alloc (.cells #[.bool false] 4)).alloc (.cells #[.int .u64 a] 22)).alloc (.cells #[.int .i64 k] 3)
  have bP := (((Boxed.new (w.alloc (.cells #[.slice A nv cap] 28)) 3 (.int .i64 perm)).alloc (.cells #[.bool false] 4)).alloc (.cells #[.int .u64 a] 22)).alloc (.cells #[.int .i64 k] 3)
  have bR := ((Boxed.new ((w.alloc (.cells #[.slice A nv cap] 28)).alloc (.cells #[.int .i64 perm] 3)) 4 (.bool false)).alloc (.cells #[.int .u64 a] 22)).alloc (.cells #[.int .i64 k] 3)
  have bA := (Boxed.new (((w.alloc (.cells #[.slice A nv cap] 28)).alloc (.cells #[.int .i64 perm] 3)).alloc (.cells #[.bool false] 4)) 22 (.int .u64 a)).alloc (.cells #[.int .i64 k] 3)
  have bK := Boxed.new ((((w.alloc (.cells #[.slice A nv cap] 28)).alloc (.cells #[.int .i64 perm] 3)).alloc (.cells #[.bool false] 4)).alloc (.cells #[.int .u64 a] 22)) 3 (.int .i64 k)
  have hB0 := balloc (balloc (balloc (balloc (balloc (Below.refl _ w) (.cells #[.slice A nv cap] 28)) (.cells #[.int .i64 perm] 3)) (.cells #[.bool false] 4)) (.cells #[.int .u64 a] 22)) (.cells #[.int .i64 k] 3)
  have hsz : (((((w.alloc (.cells #[.slice A nv cap] 28)).alloc (.cells #[.int .i64 perm] 3)).alloc (.cells #[.bool false] 4)).alloc (.cells #[.int .u64 a] 22)).alloc (.cells #[.int .i64 k] 3)).heap.size = w.heap.size + 5 := by simp
  simp only [World.size_alloc] at bP bR bA bK
  generalize (((((w.alloc (.cells #[.slice A nv cap] 28)).alloc (.cells #[.int .i64 perm] 3)).alloc (.cells #[.bool false] 4)).alloc (.cells #[.int .u64 a] 22)).alloc (.cells #[.int .i64 k] 3)) = W0 at *
  refine wpIn_rangeFunc_ownH (α := {s : M.Str // True}) rfl (by omega) (gf := 63) (lb := #[.pointer (some ⟨w.heap.size + 1 + 1 + 1, 0, none⟩), .pointer (some ⟨w.heap.size + 1 + 1 + 1 + 1, 0, none⟩)]) rfl trivial (enters_of Try.func63 (by kernel_rfl) rfl)
    (strs_stops 2 (by omega) (w.heap.size + 1 + 1 + 1) (w.heap.size + 1 + 1 + 1 + 1) a k (fun _ => True) (fun _ _ => trivial) a0 a1 k1 hk W0 (by omega) (by omega) bA.cell bK.cell) KeepS.trans keepS_b (Below.refl _ _) (fun _ => rfl)
    (fun pre W => ((Boxed W w.heap.size 28 (.slice A nv cap) ∧ Boxed W (w.heap.size + 1) 3 (.int .i64 perm)) ∧ Boxed W (w.heap.size + 1 + 1) 4 (.bool false)) ∧ (∀ x ∈ pre, grantB m x.1.pg perm = true) ∧ Below w.heap.size w W)
    (fun c pre W => Boxed W (w.heap.size + 1 + 1) 4 (.bool false) ∧ (c = .ret ∧ ∃ x ∈ pre, grantB m x.1.pg perm = false) ∧ Below w.heap.size w W)
    (OwnFrom.and (OwnFrom.and (OwnFrom.and (Own.from (boxed_own _ _ _) _) (Own.from (boxed_own _ _ _) _)) (Own.from (boxed_own _ _ _) _)) (OwnFrom.and (ownFrom_pure _ _) (ownFrom_below (Nat.le_refl _) (by omega))))
    (fun c => OwnFrom.and (Own.from (boxed_own _ _ _) _) (OwnFrom.and (ownFrom_pure _ _) (ownFrom_below (Nat.le_refl _) (by omega))))
    ⟨⟨⟨bV, bP⟩, bR⟩, by simp, hB0⟩
    (fun x a' W => ∃ Bx, BoxedS W Bx x.1 ∧ a' = { tmps := #[.slice A nv cap, .int .u64 a, .int .i64 k, .int .i64 perm, .pointer (some ⟨w.heap.size, 0, none⟩), undef, undef, .pointer (some ⟨w.heap.size + 1, 0, none⟩), .pointer (some ⟨w.heap.size + 1 + 1, 0, none⟩), .pointer (some ⟨Bx, 0, none⟩), .int .u64 a, .int .i64 k, .bool false, .int .u64 a, .int .i64 k, .func (.func 63) #[] #[.pointer (some ⟨w.heap.size + 1 + 1 + 1, 0, none⟩), .pointer (some ⟨w.heap.size + 1 + 1 + 1 + 1, 0, none⟩)], encS x.1, undef, undef, undef, undef, undef, undef], defers := [] })
    (fun x a' s X Y row hs hg hr => by obtain ⟨Bx, h1, h2⟩ := hs; exact ⟨Bx, boxedS_own Bx x.1 () X Y row h1 hg hr, h2⟩)
    ?assign ?body ?done ?stop
  case assign =>
    rintro l pre x W K ⟨⟨⟨b1, b2⟩, b3⟩, hp, hb⟩ hK
    have HK := Lib.hid hK
    clear hK
    obtain ⟨⟨pg, f, n⟩, hx⟩ := x
    simp only [encS]
    gi_wp2
    exact HK.out _ _ ((KeepsOthers.alloc _ _).from _) (KeepS.below (balloc (Below.refl _ _) _)) ⟨⟨⟨b1.alloc _, b2.alloc _⟩, b3.alloc _⟩, hp, balloc hb _⟩ ⟨W.heap.size, BoxedS.new W ⟨pg, f, n⟩, rfl⟩
  case body =>
    rintro l pre x a' W hl hr ⟨⟨⟨b1, b2⟩, b3⟩, hp, hb⟩ ⟨Bx, bx, rfl⟩ hlen
    have HG := Lib.hid (HF.out W hb x.1.pg)
    have HI := Lib.hid (show ((Boxed W w.heap.size 28 (.slice A nv cap) ∧ Boxed W (w.heap.size + 1) 3 (.int .i64 perm)) ∧ Boxed W (w.heap.size + 1 + 1) 4 (.bool false)) ∧ (∀ x ∈ pre, grantB m x.1.pg perm = true) ∧ Below w.heap.size w W from ⟨⟨⟨b1, b2⟩, b3⟩, hp, hb⟩)
    have c1 := b1.cell
    have c2 := b2.cell
    obtain ⟨c3, -, -⟩ := bx.cells
    have HX := Lib.hid (show encS x.1 = .agg #[.int .u64 x.1.pg, .int .i64 x.1.f, .int .i64 x.1.n] from rfl)
    have HP := Lib.hid (show x ∈ pre ++ [x] by simp)
    clear hp hb b1 b2 b3 bx hr hl hlen
    rw [HX.out]
    obtain ⟨pg, hpg⟩ : ∃ pg, x.1.pg = pg := ⟨_, rfl⟩
    rw [hpg] at HG c3 ⊢
    have HPG := Lib.hid hpg
    clear hpg
    cases hq : grantB m pg perm
    · rw [hq] at HG
      have HQ := Lib.hid hq
      clear hq
      gi_wp2_with (fail)
      refine ⟨trivial, ?_⟩
      refine (CallsIn.inRound l (callsIn_wide.2 HG.out)).mono ?_
      rintro e w1 ⟨rfl, hb1⟩
      have HB1 := Lib.hid hb1
      have f3 := (boxed_below HI.out.1.2 hb1).frozen
      have d3 := (boxed_below HI.out.1.2 hb1).cell
      clear hb1
      gi_wp2_with (fail)
      refine ⟨(keeps_below _ HB1.out).trans ((KeepsOthers.setCell _ _ _).from _), ?_, ⟨rfl, x, HP.out, by rw [HPG.out]; exact HQ.out⟩, ?_⟩
      · exact (boxed_below HI.out.1.2 HB1.out).set _
      · exact (bthen HI.out.2.2 HB1.out).setCell (p := ⟨w.heap.size + 1 + 1, 0, none⟩) (by simp; omega) _
    · rw [hq] at HG
      have HQ := Lib.hid hq
      clear hq
      gi_wp2_with (fail)
      refine ⟨trivial, ?_⟩
      refine (CallsIn.inRound l (callsIn_wide.2 HG.out)).mono ?_
      rintro e w1 ⟨rfl, hb1⟩
      have HB1 := Lib.hid hb1
      clear hb1
      gi_wp2_with (fail)
      refine ⟨keeps_below _ HB1.out, KeepS.below HB1.out, ⟨⟨boxed_below HI.out.1.1.1 HB1.out, boxed_below HI.out.1.1.2 HB1.out⟩, boxed_below HI.out.1.2 HB1.out⟩, fun y hy => ?_, bthen HI.out.2.2 HB1.out⟩
      rcases List.mem_append.1 hy with h | h
      · exact HI.out.2.1 y h
      · obtain rfl : y = x := by simpa using h
        rw [HPG.out]; exact HQ.out
  case done =>
    rintro D ys W hD hys ⟨⟨_, b3⟩, hp, hb⟩ hK
    have f3 := b3.frozen
    have c3 := b3.cell
    gi_wp2_with (fail)
    have hK' := (KeepsOthers.setCell W ⟨w.heap.size + 1 + 1, 0, none⟩ (.bool true)).same D _ hK rfl
    refine ⟨by simp, .inl ⟨_, _, rfl, run_takeDeferred hK', ?_⟩⟩
    have hc := cell_kept (b3.set (.bool true)).cell (grownBy_putObj' _ D (.deferred none)) (fun r e => by cases e; exact ⟨_, hK', rfl⟩)
    refine ⟨.bool true, ?_, ret_bool ?_, (hb.setCell (p := ⟨w.heap.size + 1 + 1, 0, none⟩) (by simp; omega) _).trans (belowK_b (w := w) (Nat.le_refl _) _ D _ _ (by omega) hK' rfl rfl)⟩
    · simp [results, Try.f56, go_sem, hc]
    · symm
      rw [← hys, List.all_eq_true]
      intro s hs
      obtain ⟨y, hy, rfl⟩ := List.mem_map.1 hs
      exact hp y hy
  case stop =>
    rintro D c pre W hD hpre ⟨b3, ⟨rfl, y, hy, hg⟩, hb⟩ hK
    gi_wp2_with (fail)
    refine ⟨by simp, .inl ⟨_, _, rfl, run_takeDeferred hK, ?_⟩⟩
    have hc := cell_kept b3.cell (grownBy_putObj' _ D (.deferred none)) (fun r e => by cases e; exact ⟨_, hK, rfl⟩)
    refine ⟨.bool false, ?_, ret_bool ?_, hb.trans (belowK_b (w := w) (Nat.le_refl _) W D _ _ (by omega) hK rfl rfl)⟩
    · simp [results, Try.f56, go_sem, hc]
    · symm
      rw [List.all_eq_false]
      exact ⟨y.1, hpre.subset (List.mem_map_of_mem hy), by simp [hg]⟩
set_option maxHeartbeats 1000000 in
theorem allGrant_far {m : List M.Pg} {v : Value} (a k perm : Int) {w : World} (hP : Pages w v m) (a0 : 0 ≤ a) (a1 : a ≤ 18446744073709551615) (k1 : k ≤ 9223372036854775807) (h : beyondB a k = true) :
    Calls Try.prog 56 #[v, .int .u64 a, .int .i64 k, .int .i64 perm] w fun e W' => e = .returned (.bool false) ∧ Below w.heap.size w W' := by
  have HB := Lib.hid h
  obtain ⟨A, cap, hv⟩ := hP.slice
  obtain ⟨nv, hnv⟩ : ∃ nv, m.length = nv := ⟨_, rfl⟩
  rw [hnv] at hv
  subst hv
  clear hP hnv h
  refine (callsIn_wide (n := 3)).1 ?_
  refine callsIn_of_wp_marks Try.func56 rfl trivial ?_ rfl
  simp only [Try.ntmps56, List.size_toArray, List.length_cons, List.length_nil, Nat.reduceAdd, Nat.reduceSub, Array.replicate_succ, Array.replicate_zero, List.push_toArray, List.append_toArray, List.nil_append, List.cons_append]
  gi_wp2_with (fail)
  refine ⟨trivial, ?_⟩
  refine (callsIn_wide.2 (beyond_any a k a0 a1 k1 _)).mono ?_
  rintro e w1 ⟨rfl, rfl⟩
  rw [HB.out]
  gi_wp2_with (fail)
  refine ⟨.bool false, ?_, rfl, balloc (balloc (balloc (Below.refl _ _) _) _) _⟩
  simp [results, Try.f56, go_sem]
def allGrantB (m : List M.Pg) (a k perm : Int) : Bool := !beyondB a k && (M.strs a k).all (fun s => grantB m s.pg perm)
theorem allGrant_any {m : List M.Pg} {v : Value} (a k perm : Int) {w : World} (hP : Pages w v m) (hl : m.length ≤ 1000000) (hu : m.Pairwise (fun x y => x.a < y.a))
    (a0 : 0 ≤ a) (a1 : a ≤ 18446744073709551615) (k1 : k ≤ 9223372036854775807) :
    Calls Try.prog 56 #[v, .int .u64 a, .int .i64 k, .int .i64 perm] w fun e W' => e = .returned (.bool (allGrantB m a k perm)) ∧ Below w.heap.size w W' := by
  cases h : beyondB a k
  · have hk : a + k ≤ 18446744073709551616 := by simp [beyondB] at h; omega
    simpa [allGrantB, h] using allGrant_in a k perm hP hl hu a0 a1 k1 hk
  · simpa [allGrantB, h] using allGrant_far a k perm hP a0 a1 k1 h
end Go.Proofs.Ytpifndpbmjmglaa
