/- What ReachNamed stands on, of the reference of layer 5. -/
import Derived.Test.YtoglmdadpchhoaaHY3
import Derived.Below
import Derived.BigQuiet
import Derived.CallsIn
import Derived.Deep.AppendLies
import Derived.Deep.Cut
import Derived.Deep.CutRange
import Derived.Deep.DeepHandedRow
import Derived.Deep.Fields
import Derived.Deep.QuietTactic
import Derived.Deep.RegionHeld
import Derived.Deep.RegionHeld3
import Derived.Deep.Slices
import Derived.Laws.AppendOwnNone
import Derived.Laws.Bits64b
import Derived.Laws.OwnMore
import Derived.Laws.ResultCell
import Derived.Laws.Rows
import Derived.Laws.Shifts
import Derived.Lib.Hide
import Derived.Lib.LaidTab
import Derived.Lib.SmallJoins
import Derived.Lib.UnsafeStr
import Derived.LoopIn
import Derived.LoopNIn
import Derived.LoopTactic
import Derived.Maps.AppendAt
import Derived.Maps.Own
import Derived.Maps.OwnIn
import Derived.Maps.OwnSet
import Derived.Maps.Views
import Derived.OpenShut
import Derived.OrdersHeld
import Derived.OrdersIn
import Derived.Outline
import Derived.OwnWalk
import Derived.OwnWalkIn
import Derived.ProofKit
import Derived.RangeFuncBound
import Derived.RangeFuncBox
import Derived.RangeFuncCalls
import Derived.RangeFuncLeaves
import Derived.RangeFuncNested
import Derived.RegionTactic
import Derived.Shelf.Abstract
import Derived.Shelf.RegionOpen
import Derived.ShutString
import Derived.SizedLaws
import Derived.Sort.BigQuietIn
import Derived.StringKeys
import Derived.TacticsIn
import Derived.TacticsInMore
import Derived.WalkKit
import Derived.WalkLawsBesides
import Derived.WalkSpells
namespace Go.Proofs.Ytoglmdadpchhoaa.M
end Go.Proofs.Ytoglmdadpchhoaa.M
namespace Go.Proofs.Ytoglmdadpchhoaa.M
end Go.Proofs.Ytoglmdadpchhoaa.M
namespace Go.Proofs.Ytoglmdadpchhoaa
open Go.RowKit
instance (w : World) : Inhabited (Past w) := ⟨⟨w, Below.refl _ _⟩⟩
end Go.Proofs.Ytoglmdadpchhoaa
namespace Go.Proofs.Ytoglmdadpchhoaa
open Go.RowKit
theorem own2 (w : World) (X : Obj) (a : Int) : OwnsI ((w.alloc X).alloc (.cells #[.int .i64 a] 3)) w.heap.size (.slice (some ⟨w.heap.size + 1, 0, none⟩) 1 1) [a] :=
  ⟨rfl, .inr ⟨w.heap.size + 1, 1, _, rfl, by omega, by have f := heap_alloc_new (w.alloc X) (.cells #[.int .i64 a] 3); rw [World.size_alloc] at f; exact f, Nat.le_refl _, by unfold maxLen; omega, rfl, rfl⟩⟩
end Go.Proofs.Ytoglmdadpchhoaa
namespace Go.Proofs.Ytoglmdadpchhoaa
open Go.RowKit
theorem usesL_nil {o a b : Int} {l : List Int} (h : ¬ (2 ≤ o ∧ o ≤ 11)) (h1 : o ≠ 13) (h2 : o ≠ 16) (h3 : o ≠ 14) : usesL o a b l = [] := by
  unfold usesL
  rw [if_neg h, if_neg (by omega), if_neg h3]
end Go.Proofs.Ytoglmdadpchhoaa
namespace Go.Proofs.Ytoglmdadpchhoaa
open Go.RowKit
theorem among_one (n x : Int) : amongB n [x] = (decide (0 ≤ x) && decide (x < n)) := by simp [amongB]
end Go.Proofs.Ytoglmdadpchhoaa
namespace Go.Proofs.Ytoglmdadpchhoaa
open Go.RowKit Go.Shelf Go.Maps
attribute [local go_sem] Oper.semAt_some
/-- the error so far -/
def eOf (m : Md) (L : List In) : Int := if L.any (oddI m) = true then 1 else 0
def insT (m : Md) (k : Nat) : List In := ((m.f.take k).map insF).flatten
theorem insT_succ (m : Md) (k : Nat) (h : k < m.f.length) : insT m (k + 1) = insT m k ++ insF m.f[k] := by
  unfold insT
  rw [List.take_succ_eq_append_getElem h, List.map_append, List.flatten_append]
  simp
theorem insT_all (m : Md) (k : Nat) (h : m.f.length ≤ k) : insT m k = insM m := by
  unfold insT insM
  rw [List.take_of_length_le h]
theorem insT_pre (m : Md) (k : Nat) : insT m k <+: insM m := by
  unfold insT insM
  refine ⟨((m.f.drop k).map insF).flatten, ?_⟩
  rw [← List.flatten_append, ← List.map_append, List.take_append_drop]
theorem found_none {m : Md} {L : List In} (hp : L <+: insM m) (h : L.any (noneI m) = true) : foundE m = 8 := by
  unfold foundE
  rw [if_pos]
  obtain ⟨x, hx, h⟩ := List.any_eq_true.1 h
  exact List.any_eq_true.2 ⟨x, hp.subset hx, h⟩
theorem found_some {m : Md} (h : (insM m).any (noneI m) = false) : foundE m = eOf m (insM m) := by
  unfold foundE eOf
  rw [h]
  rfl
theorem none_snoc (m : Md) (L : List In) (i : In) : (L ++ [i]).any (noneI m) = (L.any (noneI m) || noneI m i) := by simp
end Go.Proofs.Ytoglmdadpchhoaa
namespace Go.Proofs.Ytoglmdadpchhoaa
open Go.RowKit Go.Shelf
attribute [local go_sem] Oper.semAt_some
/-- what Refs answers -/
def NewNames (l : List ByteArray) (w : World) (e : Ending) (w' : World) : Prop := ∃ v', e = .returned v' ∧ Strs w' v' l ∧ Below w.heap.size w w'
end Go.Proofs.Ytoglmdadpchhoaa
namespace Go.Proofs.Ytoglmdadpchhoaa
open Go.RowKit
theorem fIdx_mem {l : List ByteArray} {s : ByteArray} (h : s ∈ l) : ∃ i, fIdx l s = some i := by
  cases e : fIdx l s with
  | some i => exact ⟨i, rfl⟩
  | none =>
    have := List.findIdx?_eq_none_iff.1 e s h
    rw [jba_refl] at this
    cases this
end Go.Proofs.Ytoglmdadpchhoaa
namespace Go.Proofs.Ytoglmdadpchhoaa
open Go.RowKit
set_option maxRecDepth 100000 in
set_option maxHeartbeats 1000000 in
theorem refBelow_any (k : Int) (l : List Int) (A : Option Addr) (n cap : Nat) (w : World) (hS : Ints w (.slice A n cap) l) (hn : n ≤ 9223372036854775807) :
    Calls Try.prog 110 #[.slice A n cap, .int .i64 k] w fun e w' => e = .returned (.bool (amongB k l)) ∧ Below w.heap.size w w' := by
  have HN := Lib.hid (show l.length ≤ n ∧ n ≤ l.length by have := hS.len; omega)
  have HS := Lib.hid hS
  have n1 : (n : Int) ≤ 9223372036854775807 := by omega
  clear hS hn
  go_enter Try.func110, Try.ntmps110
  go_wp2_with fail
  go_loopw [5] (fun iv wr => ∃ i : Nat, i ≤ n ∧ iv = .int .i64 i ∧ amongB k (l.take i) = true ∧ w = wr) (fun iv _ => n - (intOf iv).toNat)
  case atStart => exact ⟨0, Nat.zero_le _, rfl, rfl, rfl⟩
  case round =>
    obtain ⟨i, hi, rfl, hs, rfl⟩ := hrel
    have HT := Lib.hid hs
    clear hs
    by_cases hlt : i < n
    · have hm : i < l.length := by have := HN.out; omega
      obtain ⟨b, off, hA, e0⟩ := HS.out.at_ hm
      subst hA
      have HNX := Lib.hid (show amongB k (l.take (i + 1)) = (decide (0 ≤ l[i]) && decide (l[i] < k)) by
        have h := HT.out
        unfold amongB at h ⊢
        rw [List.take_succ_eq_append_getElem hm, List.all_append, h]
        simp)
      have HNO := Lib.hid (show (decide (0 ≤ l[i]) && decide (l[i] < k)) = false → amongB k l = false from fun h => by
        unfold amongB
        rw [List.all_eq_false]
        exact ⟨l[i], List.getElem_mem hm, by simpa using h⟩)
      obtain ⟨x, hx⟩ : ∃ x, l[i] = x := ⟨_, rfl⟩
      rw [hx] at e0 HNX HNO
      have hk0 : (0 : Int) ≤ (i : Int) := Int.natCast_nonneg _
      have hk1 : (i : Int) < (n : Int) := by omega
      have HLT := Lib.hid hlt
      clear hx hm hlt
      by_cases h0 : x < 0
      · have t0 : decide (x < 0) = true := decide_eq_true h0
        have HF := Lib.hid (HNO.out (by simp; omega))
        go_wp2_with fail
        go_ret
        exact ⟨by rw [HF.out]; rfl, Below.refl _ _⟩
      · have t0 : decide (x < 0) = false := decide_eq_false h0
        by_cases h1 : k ≤ x
        · have t1 : decide (k ≤ x) = true := decide_eq_true h1
          have HF := Lib.hid (HNO.out (by simp; omega))
          go_wp2_with fail
          go_ret
          exact ⟨by rw [HF.out]; rfl, Below.refl _ _⟩
        · have t1 : decide (k ≤ x) = false := decide_eq_false h1
          have HF := Lib.hid (show amongB k (l.take (i + 1)) = true by rw [HNX.out]; simp; omega)
          go_wp2_with fail
          go_roundw
          case rel => exact ⟨i + 1, by have := HLT.out; omega, by go_num, HF.out, trivial⟩
          case measure => have := HLT.out; simp [intOf]; omega
    · have hd : decide ((i : Int) < (n : Int)) = false := by simp; omega
      have HF := Lib.hid (show amongB k l = true by
        have h := HT.out
        rwa [List.take_of_length_le (by have := HN.out; omega)] at h)
      go_wp2_with fail
      go_ret
      exact ⟨by rw [HF.out]; rfl, Below.refl _ _⟩
theorem refName_any (s : ByteArray) (w : World) (hs : s.size < 9223372036854775808) : Calls Try.prog 46 #[.string s] w fun e w' => e = .returned (.bool (nameB s)) ∧ w = w' := by
  have HE := Lib.hid (show nameB s = (decide (1 ≤ (s.size : Int)) && decide ((s.size : Int) ≤ 16)) from rfl)
  obtain ⟨z, hz⟩ : ∃ z, s.size = z := ⟨_, rfl⟩
  rw [hz] at HE
  by_cases h1 : 1 ≤ z
  · have t1 : decide (1 ≤ z) = true := decide_eq_true h1
    have t1' : decide ((1 : Int) ≤ (z : Int)) = true := decide_eq_true (by omega)
    rw [t1'] at HE
    by_cases h2 : z ≤ 16
    · have t2 : decide (z ≤ 16) = true := decide_eq_true h2
      have t2' : decide ((z : Int) ≤ 16) = true := decide_eq_true (by omega)
      rw [t2'] at HE
      go_enter Try.func46, Try.ntmps46
      go_wp2_with fail
      go_ret
      exact ⟨by rw [HE.out]; rfl, rfl⟩
    · have t2 : decide (z ≤ 16) = false := decide_eq_false h2
      have t2' : decide ((z : Int) ≤ 16) = false := decide_eq_false (by omega)
      rw [t2'] at HE
      go_enter Try.func46, Try.ntmps46
      go_wp2_with fail
      go_ret
      exact ⟨by rw [HE.out]; rfl, rfl⟩
  · have t1 : decide (1 ≤ z) = false := decide_eq_false h1
    have t1' : decide ((1 : Int) ≤ (z : Int)) = false := decide_eq_false (by omega)
    rw [t1'] at HE
    go_enter Try.func46, Try.ntmps46
    go_wp2_with fail
    go_ret
    exact ⟨by rw [HE.out]; rfl, rfl⟩
theorem refNamed_any (o a b k : Int) (s : ByteArray) (v : Value) (w : World) : Calls Try.prog 48 #[.agg #[.int .i64 o, .int .i64 a, .int .i64 b, .int .u64 k, .string s, v]] w fun e w' => e = .returned (.bool (hasB o)) ∧ Below w.heap.size w w' := by
  have HE := Lib.hid (show hasB o = (o == 12 || o == 13 || o == 14) from rfl)
  cases h12 : (o == 12) with
  | true =>
    rw [h12] at HE
    go_enter Try.func48, Try.ntmps48
    go_wp2_with fail
    go_ret
    exact ⟨by rw [HE.out]; rfl, balloc (Below.refl _ w) _⟩
  | false =>
    cases h13 : (o == 13) with
    | true =>
      rw [h12, h13] at HE
      go_enter Try.func48, Try.ntmps48
      go_wp2_with fail
      go_ret
      exact ⟨by rw [HE.out]; rfl, balloc (Below.refl _ w) _⟩
    | false =>
      rw [h12, h13] at HE
      go_enter Try.func48, Try.ntmps48
      go_wp2_with fail
      go_ret
      exact ⟨by rw [HE.out]; simp, balloc (Below.refl _ w) _⟩
theorem own2i (w : World) (X : Obj) (a b : Int) : OwnsI ((w.alloc X).alloc (.cells #[.int .i64 a, .int .i64 b] 3)) w.heap.size (.slice (some ⟨w.heap.size + 1, 0, none⟩) 2 2) [a, b] :=
  ⟨rfl, .inr ⟨w.heap.size + 1, 2, _, rfl, by omega, by have f := heap_alloc_new (w.alloc X) (.cells #[.int .i64 a, .int .i64 b] 3); rw [World.size_alloc] at f; exact f, Nat.le_refl _, by unfold maxLen; omega, rfl, rfl⟩⟩
theorem own0 (w : World) (X : Obj) : OwnsI ((w.alloc X).alloc (.cells #[] 3)) w.heap.size (.slice (some ⟨w.heap.size + 1, 0, none⟩) 0 0) [] :=
  ⟨rfl, .inr ⟨w.heap.size + 1, 0, #[], rfl, by omega, by have f := heap_alloc_new (w.alloc X) (.cells #[] 3); rw [World.size_alloc] at f; exact f, Nat.le_refl _, by unfold maxLen; omega, rfl, rfl⟩⟩
set_option maxRecDepth 100000 in
set_option maxHeartbeats 2000000 in
/-- the reference's Uses, of every instruction -/
theorem refUses_any (i : In) (A : Option Addr) (cap : Nat) (w : World) (hP : Ints w (.slice A i.l.length cap) i.l) (hn : i.l.length * 8 ≤ 140737488355328) :
    Calls Try.prog 111 #[inV i (.slice A i.l.length cap)] w (NewInts (usesI i) w) := by
  obtain ⟨o, a, b, k, s, l⟩ := i
  unfold inV usesI
  simp only at hP hn ⊢
  obtain ⟨nl, hnl⟩ : ∃ n, l.length = n := ⟨_, rfl⟩
  have HN := Lib.hid (show l.length * 8 ≤ 140737488355328 from hn)
  have HP := Lib.hid (fun (W : World) (hb : Below w.heap.size w W) => hP.next hb)
  rw [hnl] at HP ⊢
  clear hP hn
  by_cases h : 2 ≤ o ∧ o ≤ 11
  · have HE := Lib.hid (show usesL o a b l = [a, b] by unfold usesL; rw [if_pos h])
    have d2 : decide (2 ≤ o) = true := decide_eq_true h.1
    have d11 : decide (o ≤ 11) = true := decide_eq_true h.2
    clear h
    go_enter Try.func111, Try.ntmps111
    go_wp2_with fail
    go_ret
    exact ⟨_, rfl, by rw [HE.out]; exact own2i _ _ _ _, balloc (balloc (Below.refl _ w) _) _⟩
  have hx : (decide (2 ≤ o) = true ∧ decide (o ≤ 11) = false) ∨ decide (2 ≤ o) = false := by
    by_cases h2 : 2 ≤ o
    · exact .inl ⟨decide_eq_true h2, decide_eq_false (by omega)⟩
    · exact .inr (decide_eq_false h2)
  by_cases h13 : o = 13
  · subst h13
    have HE := Lib.hid (show usesL 13 a b l = [a] from rfl)
    clear hx h
    go_enter Try.func111, Try.ntmps111
    go_wp2_with fail
    go_ret
    exact ⟨_, rfl, by rw [HE.out]; exact own2 _ _ _, balloc (balloc (Below.refl _ w) _) _⟩
  by_cases h16 : o = 16
  · subst h16
    have HE := Lib.hid (show usesL 16 a b l = [a] from rfl)
    clear hx h h13
    go_enter Try.func111, Try.ntmps111
    go_wp2_with fail
    go_ret
    exact ⟨_, rfl, by rw [HE.out]; exact own2 _ _ _, balloc (balloc (Below.refl _ w) _) _⟩
  by_cases h14 : o = 14
  · subst h14
    have HE := Lib.hid (show usesL 14 a b l = l from rfl)
    clear hx h h13 h16
    go_enter Try.func111, Try.ntmps111
    go_wp2_with ((
      at_builtin
      refine wpList_append_ints rfl _ _ rfl w.heap.size _ [] l rfl ?own _ rfl ?ints ?len ?base ?_
      case own => exact own0 _ _
      case ints => exact HP.out _ (balloc (balloc (Below.refl _ w) _) _)
      case len => have := HN.out; simpa using this
      case base => simp only [World.size_alloc]; omega
      intro v' w1 hown hgrow))
    have HO := Lib.hid hown
    have HB := Lib.hid ((balloc (balloc (Below.refl _ w) _) _).grown hgrow (by simp only [World.size_alloc]; omega) (fun k hk => by cases hk; show w.heap.size ≤ w.heap.size + 1; omega))
    clear hown hgrow
    go_wp2_with fail
    go_ret
    exact ⟨_, rfl, by rw [HE.out]; exact HO.out, HB.out⟩
  have HE := Lib.hid (usesL_nil (a := a) (b := b) (l := l) h h13 h16 h14)
  have t13 : (o == 13) = false := by simpa using h13
  have t16 : (o == 16) = false := by simpa using h16
  have t14 : (o == 14) = false := by simpa using h14
  clear h h13 h16 h14
  rcases hx with ⟨d2, d11⟩ | d2
  · go_enter Try.func111, Try.ntmps111
    go_wp2_with fail
    go_ret
    exact ⟨_, rfl, by rw [HE.out]; exact ⟨rfl, .inl ⟨rfl, rfl⟩⟩, balloc (Below.refl _ w) _⟩
  · go_enter Try.func111, Try.ntmps111
    go_wp2_with fail
    go_ret
    exact ⟨_, rfl, by rw [HE.out]; exact ⟨rfl, .inl ⟨rfl, rfl⟩⟩, balloc (Below.refl _ w) _⟩
end Go.Proofs.Ytoglmdadpchhoaa

namespace Go.Proofs.Ytoglmdadpchhoaa
open Go.RowKit
theorem instB_is (n o a b k : Int) (s : ByteArray) (l : List Int) : instB n ⟨o, a, b, k, s, l⟩ = (decide (1 ≤ o) && decide (o ≤ 16) && decide (l.length ≤ 6) && amongB n (usesI ⟨o, a, b, k, s, l⟩) && (aB o || a == 0) && (bB o || b == 0) && (o == 1 || k == 0) && (o == 14 || decide (l = [])) && (if hasB o then nameB s else s == ByteArray.empty)) := rfl
theorem ba_empty (s : ByteArray) : (s.toList == (⟨#[]⟩ : ByteArray).toList) = (s == ByteArray.empty) := (beq_toListBytes s _).symm
theorem ba_e0 : (⟨#[]⟩ : ByteArray).toList = [] := by first | rfl | decide | simp | (unfold ByteArray.toList ByteArray.toList.loop; simp)
theorem ba_isEmpty (s : ByteArray) : s.toList.isEmpty = (s == ByteArray.empty) := by
  rw [← ba_empty, ba_e0]; cases s.toList <;> rfl
end Go.Proofs.Ytoglmdadpchhoaa
namespace Go.Proofs.Ytoglmdadpchhoaa
open Go.RowKit
set_option maxRecDepth 100000 in
set_option maxHeartbeats 8000000 in
theorem refInst_out (i : In) (n : Int) (A : Option Addr) (cap : Nat) (w : World) (hS : Ints w (.slice A i.l.length cap) i.l) (hn : i.l.length * 8 ≤ 140737488355328) (hs : i.s.size < 9223372036854775808) (ho : i.o < 1 ∨ 16 < i.o) :
    Calls Try.prog 95 #[inV i (.slice A i.l.length cap), .int .i64 n] w fun e w' => e = .returned (.bool (instB n i)) ∧ Below w.heap.size w w' := by
  have HU := Lib.hid (fun (W : World) (hb : Below w.heap.size w W) => refUses_any i A cap W (hS.next hb) hn)
  have HUL := Lib.hid (show (usesI i).length * 8 ≤ 140737488355328 from by
    unfold usesI usesL
    repeat' split
    all_goals first | exact hn | simp)
  obtain ⟨o, a, b, k, s, l⟩ := i
  have HE := Lib.hid (instB_is n o a b k s l)
  unfold inV at HU ⊢
  simp only at hS hn hs HU HUL ho ⊢
  have HO := Lib.hid (show o < 1 ∨ 16 < o by omega)
  clear ho
  obtain ⟨nl, hnl⟩ : ∃ x, l.length = x := ⟨_, rfl⟩
  have HNL := Lib.hid (show decide (l = []) = decide (nl = 0) by rw [← hnl]; cases l <;> simp)
  have HME := Lib.hid (fun W : World => refName_any s W hs)
  have HNM := Lib.hid (fun W : World => refNamed_any o a b k s (.slice A nl cap) W)
  rw [hnl] at HU HE ⊢
  obtain ⟨U, hU⟩ : ∃ U, usesI ⟨o, a, b, k, s, l⟩ = U := ⟨_, rfl⟩
  rw [hU] at HU HE HUL
  obtain ⟨AM, hAM⟩ : ∃ x, amongB n U = x := ⟨_, rfl⟩
  have HBL := Lib.hid (fun (W : World) (A2 : Option Addr) (m c2 : Nat) (hm : U.length = m) (hI : Ints W (.slice A2 m c2) U) => refBelow_any n U A2 m c2 W hI (by have := HUL.out; omega))
  rw [hAM] at HE HBL
  rw [HNL.out] at HE
  clear hS hn hs hnl hU hAM HNL
  go_enter Try.func95, Try.ntmps95
  go_wp2_with fail
  have HBX := Lib.hid (balloc (Below.refl _ w) (.cells #[.int .i64 o, .int .i64 a, .int .i64 b, .int .u64 k, .string s, .slice A nl cap] 62))
  have HIX := Lib.hid (heap_alloc_new w (.cells #[.int .i64 o, .int .i64 a, .int .i64 b, .int .u64 k, .string s, .slice A nl cap] 62))
  generalize w.alloc (.cells #[.int .i64 o, .int .i64 a, .int .i64 b, .int .u64 k, .string s, .slice A nl cap] 62) = W1 at *
  refine (HU.out _ HBX.out).mono ?_
  rintro r w2 ⟨v', rfl, ho, hb⟩
  have HI2 := Lib.hid ho.ints
  obtain ⟨A2, c2, hv2⟩ := HI2.out.slice
  obtain ⟨nu, hnu⟩ : ∃ x, U.length = x := ⟨_, rfl⟩
  have HNU := Lib.hid (show U.length ≤ nu ∧ nu ≤ U.length by omega)
  have HI3 := Lib.hid (show Ints w2 (.slice A2 nu c2) U by rw [← hnu, ← hv2]; exact HI2.out)
  rw [hnu] at hv2
  subst hv2
  have HB2 := Lib.hid (bthen HBX.out hb)
  have HIX2 := Lib.hid ((hb.block _ (Array.getElem?_eq_some_iff.1 HIX.out).1).trans HIX.out)
  clear ho hb hnu
  go_wp2_with fail
  refine (HBL.out w2 A2 nu c2 (by have := HNU.out; omega) HI3.out).mono ?_
  rintro r w3 ⟨rfl, hb⟩
  have HB3 := Lib.hid (bthen HB2.out hb)
  have hix3 := (hb.block _ (Array.getElem?_eq_some_iff.1 HIX2.out).1).trans HIX2.out
  have c0 := Lib.cell_of_heap hix3 0
  have c1 := Lib.cell_of_heap hix3 1
  have c2 := Lib.cell_of_heap hix3 2
  have c3 := Lib.cell_of_heap hix3 3
  have c4 := Lib.cell_of_heap hix3 4
  have c5 := Lib.cell_of_heap hix3 5
  simp only [List.getElem?_toArray, List.getElem?_cons_zero, List.getElem?_cons_succ] at c0 c1 c2 c3 c4 c5
  have HIX3 := Lib.hid hix3
  clear hb hix3
  by_cases h1 : o < 1
  · have t1 : decide (o < 1) = true := decide_eq_true h1
    have HV := Lib.hid (show instB n ⟨o, a, b, k, s, l⟩ = false by rw [HE.out]; simp [show ¬ 1 ≤ o by omega])
    go_wp2_with fail
    go_ret
    exact ⟨by rw [HV.out]; rfl, HB3.out⟩
  have t1 : decide (o < 1) = false := decide_eq_false h1
  have t2 : decide (16 < o) = true := decide_eq_true (by have := HO.out; omega)
  have HV := Lib.hid (show instB n ⟨o, a, b, k, s, l⟩ = false by rw [HE.out]; simp [show ¬ o ≤ 16 by have := HO.out; omega])
  go_wp2_with fail
  go_ret
  exact ⟨by rw [HV.out]; rfl, HB3.out⟩
end Go.Proofs.Ytoglmdadpchhoaa
namespace Go.Proofs.Ytoglmdadpchhoaa
open Go.RowKit
set_option maxRecDepth 100000 in
set_option maxHeartbeats 8000000 in
theorem refInst_a (i : In) (n : Int) (A : Option Addr) (cap : Nat) (w : World) (hS : Ints w (.slice A i.l.length cap) i.l) (hn : i.l.length * 8 ≤ 140737488355328) (hs : i.s.size < 9223372036854775808) (ho : i.o = 1) :
    Calls Try.prog 95 #[inV i (.slice A i.l.length cap), .int .i64 n] w fun e w' => e = .returned (.bool (instB n i)) ∧ Below w.heap.size w w' := by
  have HU := Lib.hid (fun (W : World) (hb : Below w.heap.size w W) => refUses_any i A cap W (hS.next hb) hn)
  have HUL := Lib.hid (show (usesI i).length * 8 ≤ 140737488355328 from by
    unfold usesI usesL
    repeat' split
    all_goals first | exact hn | simp)
  obtain ⟨o, a, b, k, s, l⟩ := i
  have HE := Lib.hid (instB_is n o a b k s l)
  unfold inV at HU ⊢
  simp only at hS hn hs HU HUL ho ⊢
  have HO := Lib.hid (show o ≤ 1 ∧ 1 ≤ o by omega)
  clear ho
  obtain ⟨nl, hnl⟩ : ∃ x, l.length = x := ⟨_, rfl⟩
  have HNL := Lib.hid (show decide (l = []) = decide (nl = 0) by rw [← hnl]; cases l <;> simp)
  have HME := Lib.hid (fun W : World => refName_any s W hs)
  have HNM := Lib.hid (fun W : World => refNamed_any o a b k s (.slice A nl cap) W)
  rw [hnl] at HU HE ⊢
  obtain ⟨U, hU⟩ : ∃ U, usesI ⟨o, a, b, k, s, l⟩ = U := ⟨_, rfl⟩
  rw [hU] at HU HE HUL
  obtain ⟨AM, hAM⟩ : ∃ x, amongB n U = x := ⟨_, rfl⟩
  have HBL := Lib.hid (fun (W : World) (A2 : Option Addr) (m c2 : Nat) (hm : U.length = m) (hI : Ints W (.slice A2 m c2) U) => refBelow_any n U A2 m c2 W hI (by have := HUL.out; omega))
  rw [hAM] at HE HBL
  rw [HNL.out] at HE
  clear hS hn hs hnl hU hAM HNL
  go_enter Try.func95, Try.ntmps95
  go_wp2_with fail
  have HBX := Lib.hid (balloc (Below.refl _ w) (.cells #[.int .i64 o, .int .i64 a, .int .i64 b, .int .u64 k, .string s, .slice A nl cap] 62))
  have HIX := Lib.hid (heap_alloc_new w (.cells #[.int .i64 o, .int .i64 a, .int .i64 b, .int .u64 k, .string s, .slice A nl cap] 62))
  generalize w.alloc (.cells #[.int .i64 o, .int .i64 a, .int .i64 b, .int .u64 k, .string s, .slice A nl cap] 62) = W1 at *
  refine (HU.out _ HBX.out).mono ?_
  rintro r w2 ⟨v', rfl, ho, hb⟩
  have HI2 := Lib.hid ho.ints
  obtain ⟨A2, c2, hv2⟩ := HI2.out.slice
  obtain ⟨nu, hnu⟩ : ∃ x, U.length = x := ⟨_, rfl⟩
  have HNU := Lib.hid (show U.length ≤ nu ∧ nu ≤ U.length by omega)
  have HI3 := Lib.hid (show Ints w2 (.slice A2 nu c2) U by rw [← hnu, ← hv2]; exact HI2.out)
  rw [hnu] at hv2
  subst hv2
  have HB2 := Lib.hid (bthen HBX.out hb)
  have HIX2 := Lib.hid ((hb.block _ (Array.getElem?_eq_some_iff.1 HIX.out).1).trans HIX.out)
  clear ho hb hnu
  go_wp2_with fail
  refine (HBL.out w2 A2 nu c2 (by have := HNU.out; omega) HI3.out).mono ?_
  rintro r w3 ⟨rfl, hb⟩
  have HB3 := Lib.hid (bthen HB2.out hb)
  have hix3 := (hb.block _ (Array.getElem?_eq_some_iff.1 HIX2.out).1).trans HIX2.out
  have c0 := Lib.cell_of_heap hix3 0
  have c1 := Lib.cell_of_heap hix3 1
  have c2 := Lib.cell_of_heap hix3 2
  have c3 := Lib.cell_of_heap hix3 3
  have c4 := Lib.cell_of_heap hix3 4
  have c5 := Lib.cell_of_heap hix3 5
  simp only [List.getElem?_toArray, List.getElem?_cons_zero, List.getElem?_cons_succ] at c0 c1 c2 c3 c4 c5
  have HIX3 := Lib.hid hix3
  clear hb hix3
  obtain rfl : o = 1 := by have := HO.out; omega
  have t1 : decide ((1 : Int) < 1) = false := rfl
  have t2 : decide ((16 : Int) < 1) = false := rfl
  cases AM with
  | false =>
    have HV := Lib.hid (show instB n ⟨1, a, b, k, s, l⟩ = false by rw [HE.out]; simp)
    go_wp2_with fail
    go_ret
    exact ⟨by rw [HV.out]; rfl, HB3.out⟩
  | true =>
  by_cases h6 : nl ≤ 6
  case neg =>
    have t3 : decide (6 < nl) = true := decide_eq_true (by omega)
    have t3' : decide ((6 : Int) < (nl : Int)) = true := decide_eq_true (by omega)
    have HV := Lib.hid (show instB n ⟨1, a, b, k, s, l⟩ = false by rw [HE.out]; simp [h6])
    go_wp2_with fail
    go_ret
    exact ⟨by rw [HV.out]; rfl, HB3.out⟩
  have t3 : decide (6 < nl) = false := decide_eq_false (by omega)
  have t3' : decide ((6 : Int) < (nl : Int)) = false := decide_eq_false (by omega)
  have HE := Lib.hid (show instB n ⟨1, a, b, k, s, l⟩ = ((aB 1 || a == 0) && (bB 1 || b == 0) && ((1 : Int) == 1 || k == 0) && ((1 : Int) == 14 || decide (nl = 0)) && (if hasB 1 then nameB s else s == ByteArray.empty)) by rw [HE.out, decide_eq_true (show 1 ≤ (1 : Int) by have := HO.out; omega), decide_eq_true (show (1 : Int) ≤ 16 by have := HO.out; omega), decide_eq_true h6]; rfl)
  clear h6
  rw [show aB 1 = false from rfl, show bB 1 = false from rfl, show hasB 1 = false from rfl, show ((1 : Int) == 1) = true from rfl, show ((1 : Int) == 14) = false from rfl] at HE
  rw [show hasB 1 = false from rfl] at HNM
  by_cases ha : a = 0
  case neg =>
    have ha1 : (a == 0) = false := by simpa using ha
    have ha2 : (a != 0) = true := by simpa using ha
    have ha3 : decide (a = 0) = false := decide_eq_false ha
    have HV := Lib.hid (show instB n ⟨1, a, b, k, s, l⟩ = false by rw [HE.out]; simp [ha])
    go_wp2_with fail
    go_ret
    exact ⟨by rw [HV.out]; rfl, HB3.out⟩
  subst ha
  by_cases hb : b = 0
  case neg =>
    have hb1 : (b == 0) = false := by simpa using hb
    have hb2 : (b != 0) = true := by simpa using hb
    have hb3 : decide (b = 0) = false := decide_eq_false hb
    have HV := Lib.hid (show instB n ⟨1, 0, b, k, s, l⟩ = false by rw [HE.out]; simp [hb])
    go_wp2_with fail
    go_ret
    exact ⟨by rw [HV.out]; rfl, HB3.out⟩
  subst hb
  by_cases hz : nl = 0
  case neg =>
    have t0 : decide (0 < nl) = true := decide_eq_true (by omega)
    have t0' : decide ((0 : Int) < (nl : Int)) = true := decide_eq_true (by omega)
    have HV := Lib.hid (show instB n ⟨1, 0, 0, k, s, l⟩ = false by rw [HE.out]; simp [hz])
    go_wp2_with fail
    go_ret
    exact ⟨by rw [HV.out]; rfl, HB3.out⟩
  have t0 : decide (0 < nl) = false := decide_eq_false (by omega)
  have t0' : decide ((0 : Int) < (nl : Int)) = false := decide_eq_false (by omega)
  have HV := Lib.hid (show instB n ⟨1, 0, 0, k, s, l⟩ = (s == ByteArray.empty) by rw [HE.out]; simp [hz])
  clear hz
  go_wp2_with fail
  refine (HNM.out _).mono ?_
  rintro r w4 ⟨rfl, hb4⟩
  have HB4 := Lib.hid (bthen HB3.out hb4)
  have d4 := Lib.cell_of_heap ((hb4.block _ (Array.getElem?_eq_some_iff.1 HIX3.out).1).trans HIX3.out) 4
  simp only [List.getElem?_toArray, List.getElem?_cons_zero, List.getElem?_cons_succ] at d4
  clear hb4 c0 c1 c2 c3 c4 c5
  go_wp2_with fail
  go_ret
  exact ⟨by rw [HV.out, ← ba_isEmpty]; rfl, HB4.out⟩
set_option maxRecDepth 100000 in
set_option maxHeartbeats 8000000 in
theorem refInst_b (i : In) (n : Int) (A : Option Addr) (cap : Nat) (w : World) (hS : Ints w (.slice A i.l.length cap) i.l) (hn : i.l.length * 8 ≤ 140737488355328) (hs : i.s.size < 9223372036854775808) (ho : i.o = 12) :
    Calls Try.prog 95 #[inV i (.slice A i.l.length cap), .int .i64 n] w fun e w' => e = .returned (.bool (instB n i)) ∧ Below w.heap.size w w' := by
  have HU := Lib.hid (fun (W : World) (hb : Below w.heap.size w W) => refUses_any i A cap W (hS.next hb) hn)
  have HUL := Lib.hid (show (usesI i).length * 8 ≤ 140737488355328 from by
    unfold usesI usesL
    repeat' split
    all_goals first | exact hn | simp)
  obtain ⟨o, a, b, k, s, l⟩ := i
  have HE := Lib.hid (instB_is n o a b k s l)
  unfold inV at HU ⊢
  simp only at hS hn hs HU HUL ho ⊢
  have HO := Lib.hid (show o ≤ 12 ∧ 12 ≤ o by omega)
  clear ho
  obtain ⟨nl, hnl⟩ : ∃ x, l.length = x := ⟨_, rfl⟩
  have HNL := Lib.hid (show decide (l = []) = decide (nl = 0) by rw [← hnl]; cases l <;> simp)
  have HME := Lib.hid (fun W : World => refName_any s W hs)
  have HNM := Lib.hid (fun W : World => refNamed_any o a b k s (.slice A nl cap) W)
  rw [hnl] at HU HE ⊢
  obtain ⟨U, hU⟩ : ∃ U, usesI ⟨o, a, b, k, s, l⟩ = U := ⟨_, rfl⟩
  rw [hU] at HU HE HUL
  obtain ⟨AM, hAM⟩ : ∃ x, amongB n U = x := ⟨_, rfl⟩
  have HBL := Lib.hid (fun (W : World) (A2 : Option Addr) (m c2 : Nat) (hm : U.length = m) (hI : Ints W (.slice A2 m c2) U) => refBelow_any n U A2 m c2 W hI (by have := HUL.out; omega))
  rw [hAM] at HE HBL
  rw [HNL.out] at HE
  clear hS hn hs hnl hU hAM HNL
  go_enter Try.func95, Try.ntmps95
  go_wp2_with fail
  have HBX := Lib.hid (balloc (Below.refl _ w) (.cells #[.int .i64 o, .int .i64 a, .int .i64 b, .int .u64 k, .string s, .slice A nl cap] 62))
  have HIX := Lib.hid (heap_alloc_new w (.cells #[.int .i64 o, .int .i64 a, .int .i64 b, .int .u64 k, .string s, .slice A nl cap] 62))
  generalize w.alloc (.cells #[.int .i64 o, .int .i64 a, .int .i64 b, .int .u64 k, .string s, .slice A nl cap] 62) = W1 at *
  refine (HU.out _ HBX.out).mono ?_
  rintro r w2 ⟨v', rfl, ho, hb⟩
  have HI2 := Lib.hid ho.ints
  obtain ⟨A2, c2, hv2⟩ := HI2.out.slice
  obtain ⟨nu, hnu⟩ : ∃ x, U.length = x := ⟨_, rfl⟩
  have HNU := Lib.hid (show U.length ≤ nu ∧ nu ≤ U.length by omega)
  have HI3 := Lib.hid (show Ints w2 (.slice A2 nu c2) U by rw [← hnu, ← hv2]; exact HI2.out)
  rw [hnu] at hv2
  subst hv2
  have HB2 := Lib.hid (bthen HBX.out hb)
  have HIX2 := Lib.hid ((hb.block _ (Array.getElem?_eq_some_iff.1 HIX.out).1).trans HIX.out)
  clear ho hb hnu
  go_wp2_with fail
  refine (HBL.out w2 A2 nu c2 (by have := HNU.out; omega) HI3.out).mono ?_
  rintro r w3 ⟨rfl, hb⟩
  have HB3 := Lib.hid (bthen HB2.out hb)
  have hix3 := (hb.block _ (Array.getElem?_eq_some_iff.1 HIX2.out).1).trans HIX2.out
  have c0 := Lib.cell_of_heap hix3 0
  have c1 := Lib.cell_of_heap hix3 1
  have c2 := Lib.cell_of_heap hix3 2
  have c3 := Lib.cell_of_heap hix3 3
  have c4 := Lib.cell_of_heap hix3 4
  have c5 := Lib.cell_of_heap hix3 5
  simp only [List.getElem?_toArray, List.getElem?_cons_zero, List.getElem?_cons_succ] at c0 c1 c2 c3 c4 c5
  have HIX3 := Lib.hid hix3
  clear hb hix3
  obtain rfl : o = 12 := by have := HO.out; omega
  have t1 : decide ((12 : Int) < 1) = false := rfl
  have t2 : decide ((16 : Int) < 12) = false := rfl
  cases AM with
  | false =>
    have HV := Lib.hid (show instB n ⟨12, a, b, k, s, l⟩ = false by rw [HE.out]; simp)
    go_wp2_with fail
    go_ret
    exact ⟨by rw [HV.out]; rfl, HB3.out⟩
  | true =>
  by_cases h6 : nl ≤ 6
  case neg =>
    have t3 : decide (6 < nl) = true := decide_eq_true (by omega)
    have t3' : decide ((6 : Int) < (nl : Int)) = true := decide_eq_true (by omega)
    have HV := Lib.hid (show instB n ⟨12, a, b, k, s, l⟩ = false by rw [HE.out]; simp [h6])
    go_wp2_with fail
    go_ret
    exact ⟨by rw [HV.out]; rfl, HB3.out⟩
  have t3 : decide (6 < nl) = false := decide_eq_false (by omega)
  have t3' : decide ((6 : Int) < (nl : Int)) = false := decide_eq_false (by omega)
  have HE := Lib.hid (show instB n ⟨12, a, b, k, s, l⟩ = ((aB 12 || a == 0) && (bB 12 || b == 0) && ((12 : Int) == 1 || k == 0) && ((12 : Int) == 14 || decide (nl = 0)) && (if hasB 12 then nameB s else s == ByteArray.empty)) by rw [HE.out, decide_eq_true (show 1 ≤ (12 : Int) by have := HO.out; omega), decide_eq_true (show (12 : Int) ≤ 16 by have := HO.out; omega), decide_eq_true h6]; rfl)
  clear h6
  rw [show aB 12 = false from rfl, show bB 12 = false from rfl, show hasB 12 = true from rfl, show ((12 : Int) == 1) = false from rfl, show ((12 : Int) == 14) = false from rfl] at HE
  rw [show hasB 12 = true from rfl] at HNM
  by_cases ha : a = 0
  case neg =>
    have ha1 : (a == 0) = false := by simpa using ha
    have ha2 : (a != 0) = true := by simpa using ha
    have ha3 : decide (a = 0) = false := decide_eq_false ha
    have HV := Lib.hid (show instB n ⟨12, a, b, k, s, l⟩ = false by rw [HE.out]; simp [ha])
    go_wp2_with fail
    go_ret
    exact ⟨by rw [HV.out]; rfl, HB3.out⟩
  subst ha
  by_cases hb : b = 0
  case neg =>
    have hb1 : (b == 0) = false := by simpa using hb
    have hb2 : (b != 0) = true := by simpa using hb
    have hb3 : decide (b = 0) = false := decide_eq_false hb
    have HV := Lib.hid (show instB n ⟨12, 0, b, k, s, l⟩ = false by rw [HE.out]; simp [hb])
    go_wp2_with fail
    go_ret
    exact ⟨by rw [HV.out]; rfl, HB3.out⟩
  subst hb
  by_cases hk : k = 0
  case neg =>
    have hk1 : (k == 0) = false := by simpa using hk
    have hk2 : (k != 0) = true := by simpa using hk
    have hk3 : decide (k = 0) = false := decide_eq_false hk
    have HV := Lib.hid (show instB n ⟨12, 0, 0, k, s, l⟩ = false by rw [HE.out]; simp [hk])
    go_wp2_with fail
    go_ret
    exact ⟨by rw [HV.out]; rfl, HB3.out⟩
  subst hk
  by_cases hz : nl = 0
  case neg =>
    have t0 : decide (0 < nl) = true := decide_eq_true (by omega)
    have t0' : decide ((0 : Int) < (nl : Int)) = true := decide_eq_true (by omega)
    have HV := Lib.hid (show instB n ⟨12, 0, 0, 0, s, l⟩ = false by rw [HE.out]; simp [hz])
    go_wp2_with fail
    go_ret
    exact ⟨by rw [HV.out]; rfl, HB3.out⟩
  have t0 : decide (0 < nl) = false := decide_eq_false (by omega)
  have t0' : decide ((0 : Int) < (nl : Int)) = false := decide_eq_false (by omega)
  have HV := Lib.hid (show instB n ⟨12, 0, 0, 0, s, l⟩ = (nameB s) by rw [HE.out]; simp [hz])
  clear hz
  go_wp2_with fail
  refine (HNM.out _).mono ?_
  rintro r w4 ⟨rfl, hb4⟩
  have HB4 := Lib.hid (bthen HB3.out hb4)
  have d4 := Lib.cell_of_heap ((hb4.block _ (Array.getElem?_eq_some_iff.1 HIX3.out).1).trans HIX3.out) 4
  simp only [List.getElem?_toArray, List.getElem?_cons_zero, List.getElem?_cons_succ] at d4
  clear hb4 c0 c1 c2 c3 c4 c5
  go_wp2_with fail
  refine (HME.out _).mono ?_
  rintro r w5 ⟨rfl, rfl⟩
  go_wp2_with fail
  go_ret
  exact ⟨by rw [HV.out]; rfl, HB4.out⟩
set_option maxRecDepth 100000 in
set_option maxHeartbeats 8000000 in
theorem refInst_c (i : In) (n : Int) (A : Option Addr) (cap : Nat) (w : World) (hS : Ints w (.slice A i.l.length cap) i.l) (hn : i.l.length * 8 ≤ 140737488355328) (hs : i.s.size < 9223372036854775808) (ho : i.o = 13) :
    Calls Try.prog 95 #[inV i (.slice A i.l.length cap), .int .i64 n] w fun e w' => e = .returned (.bool (instB n i)) ∧ Below w.heap.size w w' := by
  have HU := Lib.hid (fun (W : World) (hb : Below w.heap.size w W) => refUses_any i A cap W (hS.next hb) hn)
  have HUL := Lib.hid (show (usesI i).length * 8 ≤ 140737488355328 from by
    unfold usesI usesL
    repeat' split
    all_goals first | exact hn | simp)
  obtain ⟨o, a, b, k, s, l⟩ := i
  have HE := Lib.hid (instB_is n o a b k s l)
  unfold inV at HU ⊢
  simp only at hS hn hs HU HUL ho ⊢
  have HO := Lib.hid (show o ≤ 13 ∧ 13 ≤ o by omega)
  clear ho
  obtain ⟨nl, hnl⟩ : ∃ x, l.length = x := ⟨_, rfl⟩
  have HNL := Lib.hid (show decide (l = []) = decide (nl = 0) by rw [← hnl]; cases l <;> simp)
  have HME := Lib.hid (fun W : World => refName_any s W hs)
  have HNM := Lib.hid (fun W : World => refNamed_any o a b k s (.slice A nl cap) W)
  rw [hnl] at HU HE ⊢
  obtain ⟨U, hU⟩ : ∃ U, usesI ⟨o, a, b, k, s, l⟩ = U := ⟨_, rfl⟩
  rw [hU] at HU HE HUL
  obtain ⟨AM, hAM⟩ : ∃ x, amongB n U = x := ⟨_, rfl⟩
  have HBL := Lib.hid (fun (W : World) (A2 : Option Addr) (m c2 : Nat) (hm : U.length = m) (hI : Ints W (.slice A2 m c2) U) => refBelow_any n U A2 m c2 W hI (by have := HUL.out; omega))
  rw [hAM] at HE HBL
  rw [HNL.out] at HE
  clear hS hn hs hnl hU hAM HNL
  go_enter Try.func95, Try.ntmps95
  go_wp2_with fail
  have HBX := Lib.hid (balloc (Below.refl _ w) (.cells #[.int .i64 o, .int .i64 a, .int .i64 b, .int .u64 k, .string s, .slice A nl cap] 62))
  have HIX := Lib.hid (heap_alloc_new w (.cells #[.int .i64 o, .int .i64 a, .int .i64 b, .int .u64 k, .string s, .slice A nl cap] 62))
  generalize w.alloc (.cells #[.int .i64 o, .int .i64 a, .int .i64 b, .int .u64 k, .string s, .slice A nl cap] 62) = W1 at *
  refine (HU.out _ HBX.out).mono ?_
  rintro r w2 ⟨v', rfl, ho, hb⟩
  have HI2 := Lib.hid ho.ints
  obtain ⟨A2, c2, hv2⟩ := HI2.out.slice
  obtain ⟨nu, hnu⟩ : ∃ x, U.length = x := ⟨_, rfl⟩
  have HNU := Lib.hid (show U.length ≤ nu ∧ nu ≤ U.length by omega)
  have HI3 := Lib.hid (show Ints w2 (.slice A2 nu c2) U by rw [← hnu, ← hv2]; exact HI2.out)
  rw [hnu] at hv2
  subst hv2
  have HB2 := Lib.hid (bthen HBX.out hb)
  have HIX2 := Lib.hid ((hb.block _ (Array.getElem?_eq_some_iff.1 HIX.out).1).trans HIX.out)
  clear ho hb hnu
  go_wp2_with fail
  refine (HBL.out w2 A2 nu c2 (by have := HNU.out; omega) HI3.out).mono ?_
  rintro r w3 ⟨rfl, hb⟩
  have HB3 := Lib.hid (bthen HB2.out hb)
  have hix3 := (hb.block _ (Array.getElem?_eq_some_iff.1 HIX2.out).1).trans HIX2.out
  have c0 := Lib.cell_of_heap hix3 0
  have c1 := Lib.cell_of_heap hix3 1
  have c2 := Lib.cell_of_heap hix3 2
  have c3 := Lib.cell_of_heap hix3 3
  have c4 := Lib.cell_of_heap hix3 4
  have c5 := Lib.cell_of_heap hix3 5
  simp only [List.getElem?_toArray, List.getElem?_cons_zero, List.getElem?_cons_succ] at c0 c1 c2 c3 c4 c5
  have HIX3 := Lib.hid hix3
  clear hb hix3
  obtain rfl : o = 13 := by have := HO.out; omega
  have t1 : decide ((13 : Int) < 1) = false := rfl
  have t2 : decide ((16 : Int) < 13) = false := rfl
  cases AM with
  | false =>
    have HV := Lib.hid (show instB n ⟨13, a, b, k, s, l⟩ = false by rw [HE.out]; simp)
    go_wp2_with fail
    go_ret
    exact ⟨by rw [HV.out]; rfl, HB3.out⟩
  | true =>
  by_cases h6 : nl ≤ 6
  case neg =>
    have t3 : decide (6 < nl) = true := decide_eq_true (by omega)
    have t3' : decide ((6 : Int) < (nl : Int)) = true := decide_eq_true (by omega)
    have HV := Lib.hid (show instB n ⟨13, a, b, k, s, l⟩ = false by rw [HE.out]; simp [h6])
    go_wp2_with fail
    go_ret
    exact ⟨by rw [HV.out]; rfl, HB3.out⟩
  have t3 : decide (6 < nl) = false := decide_eq_false (by omega)
  have t3' : decide ((6 : Int) < (nl : Int)) = false := decide_eq_false (by omega)
  have HE := Lib.hid (show instB n ⟨13, a, b, k, s, l⟩ = ((aB 13 || a == 0) && (bB 13 || b == 0) && ((13 : Int) == 1 || k == 0) && ((13 : Int) == 14 || decide (nl = 0)) && (if hasB 13 then nameB s else s == ByteArray.empty)) by rw [HE.out, decide_eq_true (show 1 ≤ (13 : Int) by have := HO.out; omega), decide_eq_true (show (13 : Int) ≤ 16 by have := HO.out; omega), decide_eq_true h6]; rfl)
  clear h6
  rw [show aB 13 = true from rfl, show bB 13 = false from rfl, show hasB 13 = true from rfl, show ((13 : Int) == 1) = false from rfl, show ((13 : Int) == 14) = false from rfl] at HE
  rw [show hasB 13 = true from rfl] at HNM
  by_cases hb : b = 0
  case neg =>
    have hb1 : (b == 0) = false := by simpa using hb
    have hb2 : (b != 0) = true := by simpa using hb
    have hb3 : decide (b = 0) = false := decide_eq_false hb
    have HV := Lib.hid (show instB n ⟨13, a, b, k, s, l⟩ = false by rw [HE.out]; simp [hb])
    go_wp2_with fail
    go_ret
    exact ⟨by rw [HV.out]; rfl, HB3.out⟩
  subst hb
  by_cases hk : k = 0
  case neg =>
    have hk1 : (k == 0) = false := by simpa using hk
    have hk2 : (k != 0) = true := by simpa using hk
    have hk3 : decide (k = 0) = false := decide_eq_false hk
    have HV := Lib.hid (show instB n ⟨13, a, 0, k, s, l⟩ = false by rw [HE.out]; simp [hk])
    go_wp2_with fail
    go_ret
    exact ⟨by rw [HV.out]; rfl, HB3.out⟩
  subst hk
  by_cases hz : nl = 0
  case neg =>
    have t0 : decide (0 < nl) = true := decide_eq_true (by omega)
    have t0' : decide ((0 : Int) < (nl : Int)) = true := decide_eq_true (by omega)
    have HV := Lib.hid (show instB n ⟨13, a, 0, 0, s, l⟩ = false by rw [HE.out]; simp [hz])
    go_wp2_with fail
    go_ret
    exact ⟨by rw [HV.out]; rfl, HB3.out⟩
  have t0 : decide (0 < nl) = false := decide_eq_false (by omega)
  have t0' : decide ((0 : Int) < (nl : Int)) = false := decide_eq_false (by omega)
  have HV := Lib.hid (show instB n ⟨13, a, 0, 0, s, l⟩ = (nameB s) by rw [HE.out]; simp [hz])
  clear hz
  go_wp2_with fail
  refine (HNM.out _).mono ?_
  rintro r w4 ⟨rfl, hb4⟩
  have HB4 := Lib.hid (bthen HB3.out hb4)
  have d4 := Lib.cell_of_heap ((hb4.block _ (Array.getElem?_eq_some_iff.1 HIX3.out).1).trans HIX3.out) 4
  simp only [List.getElem?_toArray, List.getElem?_cons_zero, List.getElem?_cons_succ] at d4
  clear hb4 c0 c1 c2 c3 c4 c5
  go_wp2_with fail
  refine (HME.out _).mono ?_
  rintro r w5 ⟨rfl, rfl⟩
  go_wp2_with fail
  go_ret
  exact ⟨by rw [HV.out]; rfl, HB4.out⟩
set_option maxRecDepth 100000 in
set_option maxHeartbeats 8000000 in
theorem refInst_d (i : In) (n : Int) (A : Option Addr) (cap : Nat) (w : World) (hS : Ints w (.slice A i.l.length cap) i.l) (hn : i.l.length * 8 ≤ 140737488355328) (hs : i.s.size < 9223372036854775808) (ho : i.o = 14) :
    Calls Try.prog 95 #[inV i (.slice A i.l.length cap), .int .i64 n] w fun e w' => e = .returned (.bool (instB n i)) ∧ Below w.heap.size w w' := by
  have HU := Lib.hid (fun (W : World) (hb : Below w.heap.size w W) => refUses_any i A cap W (hS.next hb) hn)
  have HUL := Lib.hid (show (usesI i).length * 8 ≤ 140737488355328 from by
    unfold usesI usesL
    repeat' split
    all_goals first | exact hn | simp)
  obtain ⟨o, a, b, k, s, l⟩ := i
  have HE := Lib.hid (instB_is n o a b k s l)
  unfold inV at HU ⊢
  simp only at hS hn hs HU HUL ho ⊢
  have HO := Lib.hid (show o ≤ 14 ∧ 14 ≤ o by omega)
  clear ho
  obtain ⟨nl, hnl⟩ : ∃ x, l.length = x := ⟨_, rfl⟩
  have HNL := Lib.hid (show decide (l = []) = decide (nl = 0) by rw [← hnl]; cases l <;> simp)
  have HME := Lib.hid (fun W : World => refName_any s W hs)
  have HNM := Lib.hid (fun W : World => refNamed_any o a b k s (.slice A nl cap) W)
  rw [hnl] at HU HE ⊢
  obtain ⟨U, hU⟩ : ∃ U, usesI ⟨o, a, b, k, s, l⟩ = U := ⟨_, rfl⟩
  rw [hU] at HU HE HUL
  obtain ⟨AM, hAM⟩ : ∃ x, amongB n U = x := ⟨_, rfl⟩
  have HBL := Lib.hid (fun (W : World) (A2 : Option Addr) (m c2 : Nat) (hm : U.length = m) (hI : Ints W (.slice A2 m c2) U) => refBelow_any n U A2 m c2 W hI (by have := HUL.out; omega))
  rw [hAM] at HE HBL
  rw [HNL.out] at HE
  clear hS hn hs hnl hU hAM HNL
  go_enter Try.func95, Try.ntmps95
  go_wp2_with fail
  have HBX := Lib.hid (balloc (Below.refl _ w) (.cells #[.int .i64 o, .int .i64 a, .int .i64 b, .int .u64 k, .string s, .slice A nl cap] 62))
  have HIX := Lib.hid (heap_alloc_new w (.cells #[.int .i64 o, .int .i64 a, .int .i64 b, .int .u64 k, .string s, .slice A nl cap] 62))
  generalize w.alloc (.cells #[.int .i64 o, .int .i64 a, .int .i64 b, .int .u64 k, .string s, .slice A nl cap] 62) = W1 at *
  refine (HU.out _ HBX.out).mono ?_
  rintro r w2 ⟨v', rfl, ho, hb⟩
  have HI2 := Lib.hid ho.ints
  obtain ⟨A2, c2, hv2⟩ := HI2.out.slice
  obtain ⟨nu, hnu⟩ : ∃ x, U.length = x := ⟨_, rfl⟩
  have HNU := Lib.hid (show U.length ≤ nu ∧ nu ≤ U.length by omega)
  have HI3 := Lib.hid (show Ints w2 (.slice A2 nu c2) U by rw [← hnu, ← hv2]; exact HI2.out)
  rw [hnu] at hv2
  subst hv2
  have HB2 := Lib.hid (bthen HBX.out hb)
  have HIX2 := Lib.hid ((hb.block _ (Array.getElem?_eq_some_iff.1 HIX.out).1).trans HIX.out)
  clear ho hb hnu
  go_wp2_with fail
  refine (HBL.out w2 A2 nu c2 (by have := HNU.out; omega) HI3.out).mono ?_
  rintro r w3 ⟨rfl, hb⟩
  have HB3 := Lib.hid (bthen HB2.out hb)
  have hix3 := (hb.block _ (Array.getElem?_eq_some_iff.1 HIX2.out).1).trans HIX2.out
  have c0 := Lib.cell_of_heap hix3 0
  have c1 := Lib.cell_of_heap hix3 1
  have c2 := Lib.cell_of_heap hix3 2
  have c3 := Lib.cell_of_heap hix3 3
  have c4 := Lib.cell_of_heap hix3 4
  have c5 := Lib.cell_of_heap hix3 5
  simp only [List.getElem?_toArray, List.getElem?_cons_zero, List.getElem?_cons_succ] at c0 c1 c2 c3 c4 c5
  have HIX3 := Lib.hid hix3
  clear hb hix3
  obtain rfl : o = 14 := by have := HO.out; omega
  have t1 : decide ((14 : Int) < 1) = false := rfl
  have t2 : decide ((16 : Int) < 14) = false := rfl
  cases AM with
  | false =>
    have HV := Lib.hid (show instB n ⟨14, a, b, k, s, l⟩ = false by rw [HE.out]; simp)
    go_wp2_with fail
    go_ret
    exact ⟨by rw [HV.out]; rfl, HB3.out⟩
  | true =>
  by_cases h6 : nl ≤ 6
  case neg =>
    have t3 : decide (6 < nl) = true := decide_eq_true (by omega)
    have t3' : decide ((6 : Int) < (nl : Int)) = true := decide_eq_true (by omega)
    have HV := Lib.hid (show instB n ⟨14, a, b, k, s, l⟩ = false by rw [HE.out]; simp [h6])
    go_wp2_with fail
    go_ret
    exact ⟨by rw [HV.out]; rfl, HB3.out⟩
  have t3 : decide (6 < nl) = false := decide_eq_false (by omega)
  have t3' : decide ((6 : Int) < (nl : Int)) = false := decide_eq_false (by omega)
  have HE := Lib.hid (show instB n ⟨14, a, b, k, s, l⟩ = ((aB 14 || a == 0) && (bB 14 || b == 0) && ((14 : Int) == 1 || k == 0) && ((14 : Int) == 14 || decide (nl = 0)) && (if hasB 14 then nameB s else s == ByteArray.empty)) by rw [HE.out, decide_eq_true (show 1 ≤ (14 : Int) by have := HO.out; omega), decide_eq_true (show (14 : Int) ≤ 16 by have := HO.out; omega), decide_eq_true h6]; rfl)
  clear h6
  rw [show aB 14 = false from rfl, show bB 14 = false from rfl, show hasB 14 = true from rfl, show ((14 : Int) == 1) = false from rfl, show ((14 : Int) == 14) = true from rfl] at HE
  rw [show hasB 14 = true from rfl] at HNM
  by_cases ha : a = 0
  case neg =>
    have ha1 : (a == 0) = false := by simpa using ha
    have ha2 : (a != 0) = true := by simpa using ha
    have ha3 : decide (a = 0) = false := decide_eq_false ha
    have HV := Lib.hid (show instB n ⟨14, a, b, k, s, l⟩ = false by rw [HE.out]; simp [ha])
    go_wp2_with fail
    go_ret
    exact ⟨by rw [HV.out]; rfl, HB3.out⟩
  subst ha
  by_cases hb : b = 0
  case neg =>
    have hb1 : (b == 0) = false := by simpa using hb
    have hb2 : (b != 0) = true := by simpa using hb
    have hb3 : decide (b = 0) = false := decide_eq_false hb
    have HV := Lib.hid (show instB n ⟨14, 0, b, k, s, l⟩ = false by rw [HE.out]; simp [hb])
    go_wp2_with fail
    go_ret
    exact ⟨by rw [HV.out]; rfl, HB3.out⟩
  subst hb
  by_cases hk : k = 0
  case neg =>
    have hk1 : (k == 0) = false := by simpa using hk
    have hk2 : (k != 0) = true := by simpa using hk
    have hk3 : decide (k = 0) = false := decide_eq_false hk
    have HV := Lib.hid (show instB n ⟨14, 0, 0, k, s, l⟩ = false by rw [HE.out]; simp [hk])
    go_wp2_with fail
    go_ret
    exact ⟨by rw [HV.out]; rfl, HB3.out⟩
  subst hk
  have HV := Lib.hid (show instB n ⟨14, 0, 0, 0, s, l⟩ = (nameB s) by rw [HE.out]; simp [])
  go_wp2_with fail
  refine (HNM.out _).mono ?_
  rintro r w4 ⟨rfl, hb4⟩
  have HB4 := Lib.hid (bthen HB3.out hb4)
  have d4 := Lib.cell_of_heap ((hb4.block _ (Array.getElem?_eq_some_iff.1 HIX3.out).1).trans HIX3.out) 4
  simp only [List.getElem?_toArray, List.getElem?_cons_zero, List.getElem?_cons_succ] at d4
  clear hb4 c0 c1 c2 c3 c4 c5
  go_wp2_with fail
  refine (HME.out _).mono ?_
  rintro r w5 ⟨rfl, rfl⟩
  go_wp2_with fail
  go_ret
  exact ⟨by rw [HV.out]; rfl, HB4.out⟩
end Go.Proofs.Ytoglmdadpchhoaa
namespace Go.Proofs.Ytoglmdadpchhoaa
open Go.RowKit
set_option maxRecDepth 100000 in
set_option maxHeartbeats 8000000 in
theorem refInst_e (i : In) (n : Int) (A : Option Addr) (cap : Nat) (w : World) (hS : Ints w (.slice A i.l.length cap) i.l) (hn : i.l.length * 8 ≤ 140737488355328) (hs : i.s.size < 9223372036854775808) (ho : i.o = 15) :
    Calls Try.prog 95 #[inV i (.slice A i.l.length cap), .int .i64 n] w fun e w' => e = .returned (.bool (instB n i)) ∧ Below w.heap.size w w' := by
  have HU := Lib.hid (fun (W : World) (hb : Below w.heap.size w W) => refUses_any i A cap W (hS.next hb) hn)
  have HUL := Lib.hid (show (usesI i).length * 8 ≤ 140737488355328 from by
    unfold usesI usesL
    repeat' split
    all_goals first | exact hn | simp)
  obtain ⟨o, a, b, k, s, l⟩ := i
  have HE := Lib.hid (instB_is n o a b k s l)
  unfold inV at HU ⊢
  simp only at hS hn hs HU HUL ho ⊢
  have HO := Lib.hid (show o ≤ 15 ∧ 15 ≤ o by omega)
  clear ho
  obtain ⟨nl, hnl⟩ : ∃ x, l.length = x := ⟨_, rfl⟩
  have HNL := Lib.hid (show decide (l = []) = decide (nl = 0) by rw [← hnl]; cases l <;> simp)
  have HME := Lib.hid (fun W : World => refName_any s W hs)
  have HNM := Lib.hid (fun W : World => refNamed_any o a b k s (.slice A nl cap) W)
  rw [hnl] at HU HE ⊢
  obtain ⟨U, hU⟩ : ∃ U, usesI ⟨o, a, b, k, s, l⟩ = U := ⟨_, rfl⟩
  rw [hU] at HU HE HUL
  obtain ⟨AM, hAM⟩ : ∃ x, amongB n U = x := ⟨_, rfl⟩
  have HBL := Lib.hid (fun (W : World) (A2 : Option Addr) (m c2 : Nat) (hm : U.length = m) (hI : Ints W (.slice A2 m c2) U) => refBelow_any n U A2 m c2 W hI (by have := HUL.out; omega))
  rw [hAM] at HE HBL
  rw [HNL.out] at HE
  clear hS hn hs hnl hU hAM HNL
  go_enter Try.func95, Try.ntmps95
  go_wp2_with fail
  have HBX := Lib.hid (balloc (Below.refl _ w) (.cells #[.int .i64 o, .int .i64 a, .int .i64 b, .int .u64 k, .string s, .slice A nl cap] 62))
  have HIX := Lib.hid (heap_alloc_new w (.cells #[.int .i64 o, .int .i64 a, .int .i64 b, .int .u64 k, .string s, .slice A nl cap] 62))
  generalize w.alloc (.cells #[.int .i64 o, .int .i64 a, .int .i64 b, .int .u64 k, .string s, .slice A nl cap] 62) = W1 at *
  refine (HU.out _ HBX.out).mono ?_
  rintro r w2 ⟨v', rfl, ho, hb⟩
  have HI2 := Lib.hid ho.ints
  obtain ⟨A2, c2, hv2⟩ := HI2.out.slice
  obtain ⟨nu, hnu⟩ : ∃ x, U.length = x := ⟨_, rfl⟩
  have HNU := Lib.hid (show U.length ≤ nu ∧ nu ≤ U.length by omega)
  have HI3 := Lib.hid (show Ints w2 (.slice A2 nu c2) U by rw [← hnu, ← hv2]; exact HI2.out)
  rw [hnu] at hv2
  subst hv2
  have HB2 := Lib.hid (bthen HBX.out hb)
  have HIX2 := Lib.hid ((hb.block _ (Array.getElem?_eq_some_iff.1 HIX.out).1).trans HIX.out)
  clear ho hb hnu
  go_wp2_with fail
  refine (HBL.out w2 A2 nu c2 (by have := HNU.out; omega) HI3.out).mono ?_
  rintro r w3 ⟨rfl, hb⟩
  have HB3 := Lib.hid (bthen HB2.out hb)
  have hix3 := (hb.block _ (Array.getElem?_eq_some_iff.1 HIX2.out).1).trans HIX2.out
  have c0 := Lib.cell_of_heap hix3 0
  have c1 := Lib.cell_of_heap hix3 1
  have c2 := Lib.cell_of_heap hix3 2
  have c3 := Lib.cell_of_heap hix3 3
  have c4 := Lib.cell_of_heap hix3 4
  have c5 := Lib.cell_of_heap hix3 5
  simp only [List.getElem?_toArray, List.getElem?_cons_zero, List.getElem?_cons_succ] at c0 c1 c2 c3 c4 c5
  have HIX3 := Lib.hid hix3
  clear hb hix3
  obtain rfl : o = 15 := by have := HO.out; omega
  have t1 : decide ((15 : Int) < 1) = false := rfl
  have t2 : decide ((16 : Int) < 15) = false := rfl
  cases AM with
  | false =>
    have HV := Lib.hid (show instB n ⟨15, a, b, k, s, l⟩ = false by rw [HE.out]; simp)
    go_wp2_with fail
    go_ret
    exact ⟨by rw [HV.out]; rfl, HB3.out⟩
  | true =>
  by_cases h6 : nl ≤ 6
  case neg =>
    have t3 : decide (6 < nl) = true := decide_eq_true (by omega)
    have t3' : decide ((6 : Int) < (nl : Int)) = true := decide_eq_true (by omega)
    have HV := Lib.hid (show instB n ⟨15, a, b, k, s, l⟩ = false by rw [HE.out]; simp [h6])
    go_wp2_with fail
    go_ret
    exact ⟨by rw [HV.out]; rfl, HB3.out⟩
  have t3 : decide (6 < nl) = false := decide_eq_false (by omega)
  have t3' : decide ((6 : Int) < (nl : Int)) = false := decide_eq_false (by omega)
  have HE := Lib.hid (show instB n ⟨15, a, b, k, s, l⟩ = ((aB 15 || a == 0) && (bB 15 || b == 0) && ((15 : Int) == 1 || k == 0) && ((15 : Int) == 14 || decide (nl = 0)) && (if hasB 15 then nameB s else s == ByteArray.empty)) by rw [HE.out, decide_eq_true (show 1 ≤ (15 : Int) by have := HO.out; omega), decide_eq_true (show (15 : Int) ≤ 16 by have := HO.out; omega), decide_eq_true h6]; rfl)
  clear h6
  rw [show aB 15 = false from rfl, show bB 15 = false from rfl, show hasB 15 = false from rfl, show ((15 : Int) == 1) = false from rfl, show ((15 : Int) == 14) = false from rfl] at HE
  rw [show hasB 15 = false from rfl] at HNM
  by_cases ha : a = 0
  case neg =>
    have ha1 : (a == 0) = false := by simpa using ha
    have ha2 : (a != 0) = true := by simpa using ha
    have ha3 : decide (a = 0) = false := decide_eq_false ha
    have HV := Lib.hid (show instB n ⟨15, a, b, k, s, l⟩ = false by rw [HE.out]; simp [ha])
    go_wp2_with fail
    go_ret
    exact ⟨by rw [HV.out]; rfl, HB3.out⟩
  subst ha
  by_cases hb : b = 0
  case neg =>
    have hb1 : (b == 0) = false := by simpa using hb
    have hb2 : (b != 0) = true := by simpa using hb
    have hb3 : decide (b = 0) = false := decide_eq_false hb
    have HV := Lib.hid (show instB n ⟨15, 0, b, k, s, l⟩ = false by rw [HE.out]; simp [hb])
    go_wp2_with fail
    go_ret
    exact ⟨by rw [HV.out]; rfl, HB3.out⟩
  subst hb
  by_cases hk : k = 0
  case neg =>
    have hk1 : (k == 0) = false := by simpa using hk
    have hk2 : (k != 0) = true := by simpa using hk
    have hk3 : decide (k = 0) = false := decide_eq_false hk
    have HV := Lib.hid (show instB n ⟨15, 0, 0, k, s, l⟩ = false by rw [HE.out]; simp [hk])
    go_wp2_with fail
    go_ret
    exact ⟨by rw [HV.out]; rfl, HB3.out⟩
  subst hk
  by_cases hz : nl = 0
  case neg =>
    have t0 : decide (0 < nl) = true := decide_eq_true (by omega)
    have t0' : decide ((0 : Int) < (nl : Int)) = true := decide_eq_true (by omega)
    have HV := Lib.hid (show instB n ⟨15, 0, 0, 0, s, l⟩ = false by rw [HE.out]; simp [hz])
    go_wp2_with fail
    go_ret
    exact ⟨by rw [HV.out]; rfl, HB3.out⟩
  have t0 : decide (0 < nl) = false := decide_eq_false (by omega)
  have t0' : decide ((0 : Int) < (nl : Int)) = false := decide_eq_false (by omega)
  have HV := Lib.hid (show instB n ⟨15, 0, 0, 0, s, l⟩ = (s == ByteArray.empty) by rw [HE.out]; simp [hz])
  clear hz
  go_wp2_with fail
  refine (HNM.out _).mono ?_
  rintro r w4 ⟨rfl, hb4⟩
  have HB4 := Lib.hid (bthen HB3.out hb4)
  have d4 := Lib.cell_of_heap ((hb4.block _ (Array.getElem?_eq_some_iff.1 HIX3.out).1).trans HIX3.out) 4
  simp only [List.getElem?_toArray, List.getElem?_cons_zero, List.getElem?_cons_succ] at d4
  clear hb4 c0 c1 c2 c3 c4 c5
  go_wp2_with fail
  go_ret
  exact ⟨by rw [HV.out, ← ba_isEmpty]; rfl, HB4.out⟩
set_option maxRecDepth 100000 in
set_option maxHeartbeats 8000000 in
theorem refInst_f (i : In) (n : Int) (A : Option Addr) (cap : Nat) (w : World) (hS : Ints w (.slice A i.l.length cap) i.l) (hn : i.l.length * 8 ≤ 140737488355328) (hs : i.s.size < 9223372036854775808) (ho : i.o = 16) :
    Calls Try.prog 95 #[inV i (.slice A i.l.length cap), .int .i64 n] w fun e w' => e = .returned (.bool (instB n i)) ∧ Below w.heap.size w w' := by
  have HU := Lib.hid (fun (W : World) (hb : Below w.heap.size w W) => refUses_any i A cap W (hS.next hb) hn)
  have HUL := Lib.hid (show (usesI i).length * 8 ≤ 140737488355328 from by
    unfold usesI usesL
    repeat' split
    all_goals first | exact hn | simp)
  obtain ⟨o, a, b, k, s, l⟩ := i
  have HE := Lib.hid (instB_is n o a b k s l)
  unfold inV at HU ⊢
  simp only at hS hn hs HU HUL ho ⊢
  have HO := Lib.hid (show o ≤ 16 ∧ 16 ≤ o by omega)
  clear ho
  obtain ⟨nl, hnl⟩ : ∃ x, l.length = x := ⟨_, rfl⟩
  have HNL := Lib.hid (show decide (l = []) = decide (nl = 0) by rw [← hnl]; cases l <;> simp)
  have HME := Lib.hid (fun W : World => refName_any s W hs)
  have HNM := Lib.hid (fun W : World => refNamed_any o a b k s (.slice A nl cap) W)
  rw [hnl] at HU HE ⊢
  obtain ⟨U, hU⟩ : ∃ U, usesI ⟨o, a, b, k, s, l⟩ = U := ⟨_, rfl⟩
  rw [hU] at HU HE HUL
  obtain ⟨AM, hAM⟩ : ∃ x, amongB n U = x := ⟨_, rfl⟩
  have HBL := Lib.hid (fun (W : World) (A2 : Option Addr) (m c2 : Nat) (hm : U.length = m) (hI : Ints W (.slice A2 m c2) U) => refBelow_any n U A2 m c2 W hI (by have := HUL.out; omega))
  rw [hAM] at HE HBL
  rw [HNL.out] at HE
  clear hS hn hs hnl hU hAM HNL
  go_enter Try.func95, Try.ntmps95
  go_wp2_with fail
  have HBX := Lib.hid (balloc (Below.refl _ w) (.cells #[.int .i64 o, .int .i64 a, .int .i64 b, .int .u64 k, .string s, .slice A nl cap] 62))
  have HIX := Lib.hid (heap_alloc_new w (.cells #[.int .i64 o, .int .i64 a, .int .i64 b, .int .u64 k, .string s, .slice A nl cap] 62))
  generalize w.alloc (.cells #[.int .i64 o, .int .i64 a, .int .i64 b, .int .u64 k, .string s, .slice A nl cap] 62) = W1 at *
  refine (HU.out _ HBX.out).mono ?_
  rintro r w2 ⟨v', rfl, ho, hb⟩
  have HI2 := Lib.hid ho.ints
  obtain ⟨A2, c2, hv2⟩ := HI2.out.slice
  obtain ⟨nu, hnu⟩ : ∃ x, U.length = x := ⟨_, rfl⟩
  have HNU := Lib.hid (show U.length ≤ nu ∧ nu ≤ U.length by omega)
  have HI3 := Lib.hid (show Ints w2 (.slice A2 nu c2) U by rw [← hnu, ← hv2]; exact HI2.out)
  rw [hnu] at hv2
  subst hv2
  have HB2 := Lib.hid (bthen HBX.out hb)
  have HIX2 := Lib.hid ((hb.block _ (Array.getElem?_eq_some_iff.1 HIX.out).1).trans HIX.out)
  clear ho hb hnu
  go_wp2_with fail
  refine (HBL.out w2 A2 nu c2 (by have := HNU.out; omega) HI3.out).mono ?_
  rintro r w3 ⟨rfl, hb⟩
  have HB3 := Lib.hid (bthen HB2.out hb)
  have hix3 := (hb.block _ (Array.getElem?_eq_some_iff.1 HIX2.out).1).trans HIX2.out
  have c0 := Lib.cell_of_heap hix3 0
  have c1 := Lib.cell_of_heap hix3 1
  have c2 := Lib.cell_of_heap hix3 2
  have c3 := Lib.cell_of_heap hix3 3
  have c4 := Lib.cell_of_heap hix3 4
  have c5 := Lib.cell_of_heap hix3 5
  simp only [List.getElem?_toArray, List.getElem?_cons_zero, List.getElem?_cons_succ] at c0 c1 c2 c3 c4 c5
  have HIX3 := Lib.hid hix3
  clear hb hix3
  obtain rfl : o = 16 := by have := HO.out; omega
  have t1 : decide ((16 : Int) < 1) = false := rfl
  have t2 : decide ((16 : Int) < 16) = false := rfl
  cases AM with
  | false =>
    have HV := Lib.hid (show instB n ⟨16, a, b, k, s, l⟩ = false by rw [HE.out]; simp)
    go_wp2_with fail
    go_ret
    exact ⟨by rw [HV.out]; rfl, HB3.out⟩
  | true =>
  by_cases h6 : nl ≤ 6
  case neg =>
    have t3 : decide (6 < nl) = true := decide_eq_true (by omega)
    have t3' : decide ((6 : Int) < (nl : Int)) = true := decide_eq_true (by omega)
    have HV := Lib.hid (show instB n ⟨16, a, b, k, s, l⟩ = false by rw [HE.out]; simp [h6])
    go_wp2_with fail
    go_ret
    exact ⟨by rw [HV.out]; rfl, HB3.out⟩
  have t3 : decide (6 < nl) = false := decide_eq_false (by omega)
  have t3' : decide ((6 : Int) < (nl : Int)) = false := decide_eq_false (by omega)
  have HE := Lib.hid (show instB n ⟨16, a, b, k, s, l⟩ = ((aB 16 || a == 0) && (bB 16 || b == 0) && ((16 : Int) == 1 || k == 0) && ((16 : Int) == 14 || decide (nl = 0)) && (if hasB 16 then nameB s else s == ByteArray.empty)) by rw [HE.out, decide_eq_true (show 1 ≤ (16 : Int) by have := HO.out; omega), decide_eq_true (show (16 : Int) ≤ 16 by have := HO.out; omega), decide_eq_true h6]; rfl)
  clear h6
  rw [show aB 16 = true from rfl, show bB 16 = false from rfl, show hasB 16 = false from rfl, show ((16 : Int) == 1) = false from rfl, show ((16 : Int) == 14) = false from rfl] at HE
  rw [show hasB 16 = false from rfl] at HNM
  by_cases hb : b = 0
  case neg =>
    have hb1 : (b == 0) = false := by simpa using hb
    have hb2 : (b != 0) = true := by simpa using hb
    have hb3 : decide (b = 0) = false := decide_eq_false hb
    have HV := Lib.hid (show instB n ⟨16, a, b, k, s, l⟩ = false by rw [HE.out]; simp [hb])
    go_wp2_with fail
    go_ret
    exact ⟨by rw [HV.out]; rfl, HB3.out⟩
  subst hb
  by_cases hk : k = 0
  case neg =>
    have hk1 : (k == 0) = false := by simpa using hk
    have hk2 : (k != 0) = true := by simpa using hk
    have hk3 : decide (k = 0) = false := decide_eq_false hk
    have HV := Lib.hid (show instB n ⟨16, a, 0, k, s, l⟩ = false by rw [HE.out]; simp [hk])
    go_wp2_with fail
    go_ret
    exact ⟨by rw [HV.out]; rfl, HB3.out⟩
  subst hk
  by_cases hz : nl = 0
  case neg =>
    have t0 : decide (0 < nl) = true := decide_eq_true (by omega)
    have t0' : decide ((0 : Int) < (nl : Int)) = true := decide_eq_true (by omega)
    have HV := Lib.hid (show instB n ⟨16, a, 0, 0, s, l⟩ = false by rw [HE.out]; simp [hz])
    go_wp2_with fail
    go_ret
    exact ⟨by rw [HV.out]; rfl, HB3.out⟩
  have t0 : decide (0 < nl) = false := decide_eq_false (by omega)
  have t0' : decide ((0 : Int) < (nl : Int)) = false := decide_eq_false (by omega)
  have HV := Lib.hid (show instB n ⟨16, a, 0, 0, s, l⟩ = (s == ByteArray.empty) by rw [HE.out]; simp [hz])
  clear hz
  go_wp2_with fail
  refine (HNM.out _).mono ?_
  rintro r w4 ⟨rfl, hb4⟩
  have HB4 := Lib.hid (bthen HB3.out hb4)
  have d4 := Lib.cell_of_heap ((hb4.block _ (Array.getElem?_eq_some_iff.1 HIX3.out).1).trans HIX3.out) 4
  simp only [List.getElem?_toArray, List.getElem?_cons_zero, List.getElem?_cons_succ] at d4
  clear hb4 c0 c1 c2 c3 c4 c5
  go_wp2_with fail
  go_ret
  exact ⟨by rw [HV.out, ← ba_isEmpty]; rfl, HB4.out⟩
set_option maxRecDepth 100000 in
set_option maxHeartbeats 8000000 in
theorem refInst_g (i : In) (n : Int) (A : Option Addr) (cap : Nat) (w : World) (hS : Ints w (.slice A i.l.length cap) i.l) (hn : i.l.length * 8 ≤ 140737488355328) (hs : i.s.size < 9223372036854775808) (ho : i.o = 2) :
    Calls Try.prog 95 #[inV i (.slice A i.l.length cap), .int .i64 n] w fun e w' => e = .returned (.bool (instB n i)) ∧ Below w.heap.size w w' := by
  have HU := Lib.hid (fun (W : World) (hb : Below w.heap.size w W) => refUses_any i A cap W (hS.next hb) hn)
  have HUL := Lib.hid (show (usesI i).length * 8 ≤ 140737488355328 from by
    unfold usesI usesL
    repeat' split
    all_goals first | exact hn | simp)
  obtain ⟨o, a, b, k, s, l⟩ := i
  have HE := Lib.hid (instB_is n o a b k s l)
  unfold inV at HU ⊢
  simp only at hS hn hs HU HUL ho ⊢
  have HO := Lib.hid (show o ≤ 2 ∧ 2 ≤ o by omega)
  clear ho
  obtain ⟨nl, hnl⟩ : ∃ x, l.length = x := ⟨_, rfl⟩
  have HNL := Lib.hid (show decide (l = []) = decide (nl = 0) by rw [← hnl]; cases l <;> simp)
  have HME := Lib.hid (fun W : World => refName_any s W hs)
  have HNM := Lib.hid (fun W : World => refNamed_any o a b k s (.slice A nl cap) W)
  rw [hnl] at HU HE ⊢
  obtain ⟨U, hU⟩ : ∃ U, usesI ⟨o, a, b, k, s, l⟩ = U := ⟨_, rfl⟩
  rw [hU] at HU HE HUL
  obtain ⟨AM, hAM⟩ : ∃ x, amongB n U = x := ⟨_, rfl⟩
  have HBL := Lib.hid (fun (W : World) (A2 : Option Addr) (m c2 : Nat) (hm : U.length = m) (hI : Ints W (.slice A2 m c2) U) => refBelow_any n U A2 m c2 W hI (by have := HUL.out; omega))
  rw [hAM] at HE HBL
  rw [HNL.out] at HE
  clear hS hn hs hnl hU hAM HNL
  go_enter Try.func95, Try.ntmps95
  go_wp2_with fail
  have HBX := Lib.hid (balloc (Below.refl _ w) (.cells #[.int .i64 o, .int .i64 a, .int .i64 b, .int .u64 k, .string s, .slice A nl cap] 62))
  have HIX := Lib.hid (heap_alloc_new w (.cells #[.int .i64 o, .int .i64 a, .int .i64 b, .int .u64 k, .string s, .slice A nl cap] 62))
  generalize w.alloc (.cells #[.int .i64 o, .int .i64 a, .int .i64 b, .int .u64 k, .string s, .slice A nl cap] 62) = W1 at *
  refine (HU.out _ HBX.out).mono ?_
  rintro r w2 ⟨v', rfl, ho, hb⟩
  have HI2 := Lib.hid ho.ints
  obtain ⟨A2, c2, hv2⟩ := HI2.out.slice
  obtain ⟨nu, hnu⟩ : ∃ x, U.length = x := ⟨_, rfl⟩
  have HNU := Lib.hid (show U.length ≤ nu ∧ nu ≤ U.length by omega)
  have HI3 := Lib.hid (show Ints w2 (.slice A2 nu c2) U by rw [← hnu, ← hv2]; exact HI2.out)
  rw [hnu] at hv2
  subst hv2
  have HB2 := Lib.hid (bthen HBX.out hb)
  have HIX2 := Lib.hid ((hb.block _ (Array.getElem?_eq_some_iff.1 HIX.out).1).trans HIX.out)
  clear ho hb hnu
  go_wp2_with fail
  refine (HBL.out w2 A2 nu c2 (by have := HNU.out; omega) HI3.out).mono ?_
  rintro r w3 ⟨rfl, hb⟩
  have HB3 := Lib.hid (bthen HB2.out hb)
  have hix3 := (hb.block _ (Array.getElem?_eq_some_iff.1 HIX2.out).1).trans HIX2.out
  have c0 := Lib.cell_of_heap hix3 0
  have c1 := Lib.cell_of_heap hix3 1
  have c2 := Lib.cell_of_heap hix3 2
  have c3 := Lib.cell_of_heap hix3 3
  have c4 := Lib.cell_of_heap hix3 4
  have c5 := Lib.cell_of_heap hix3 5
  simp only [List.getElem?_toArray, List.getElem?_cons_zero, List.getElem?_cons_succ] at c0 c1 c2 c3 c4 c5
  have HIX3 := Lib.hid hix3
  clear hb hix3
  obtain rfl : o = 2 := by have := HO.out; omega
  have t1 : decide ((2 : Int) < 1) = false := rfl
  have t2 : decide ((16 : Int) < 2) = false := rfl
  cases AM with
  | false =>
    have HV := Lib.hid (show instB n ⟨2, a, b, k, s, l⟩ = false by rw [HE.out]; simp)
    go_wp2_with fail
    go_ret
    exact ⟨by rw [HV.out]; rfl, HB3.out⟩
  | true =>
  by_cases h6 : nl ≤ 6
  case neg =>
    have t3 : decide (6 < nl) = true := decide_eq_true (by omega)
    have t3' : decide ((6 : Int) < (nl : Int)) = true := decide_eq_true (by omega)
    have HV := Lib.hid (show instB n ⟨2, a, b, k, s, l⟩ = false by rw [HE.out]; simp [h6])
    go_wp2_with fail
    go_ret
    exact ⟨by rw [HV.out]; rfl, HB3.out⟩
  have t3 : decide (6 < nl) = false := decide_eq_false (by omega)
  have t3' : decide ((6 : Int) < (nl : Int)) = false := decide_eq_false (by omega)
  have HE := Lib.hid (show instB n ⟨2, a, b, k, s, l⟩ = ((aB 2 || a == 0) && (bB 2 || b == 0) && ((2 : Int) == 1 || k == 0) && ((2 : Int) == 14 || decide (nl = 0)) && (if hasB 2 then nameB s else s == ByteArray.empty)) by rw [HE.out, decide_eq_true (show 1 ≤ (2 : Int) by have := HO.out; omega), decide_eq_true (show (2 : Int) ≤ 16 by have := HO.out; omega), decide_eq_true h6]; rfl)
  clear h6
  rw [show aB 2 = true from rfl, show bB 2 = true from rfl, show hasB 2 = false from rfl, show ((2 : Int) == 1) = false from rfl, show ((2 : Int) == 14) = false from rfl] at HE
  rw [show hasB 2 = false from rfl] at HNM
  by_cases hk : k = 0
  case neg =>
    have hk1 : (k == 0) = false := by simpa using hk
    have hk2 : (k != 0) = true := by simpa using hk
    have hk3 : decide (k = 0) = false := decide_eq_false hk
    have HV := Lib.hid (show instB n ⟨2, a, b, k, s, l⟩ = false by rw [HE.out]; simp [hk])
    go_wp2_with fail
    go_ret
    exact ⟨by rw [HV.out]; rfl, HB3.out⟩
  subst hk
  by_cases hz : nl = 0
  case neg =>
    have t0 : decide (0 < nl) = true := decide_eq_true (by omega)
    have t0' : decide ((0 : Int) < (nl : Int)) = true := decide_eq_true (by omega)
    have HV := Lib.hid (show instB n ⟨2, a, b, 0, s, l⟩ = false by rw [HE.out]; simp [hz])
    go_wp2_with fail
    go_ret
    exact ⟨by rw [HV.out]; rfl, HB3.out⟩
  have t0 : decide (0 < nl) = false := decide_eq_false (by omega)
  have t0' : decide ((0 : Int) < (nl : Int)) = false := decide_eq_false (by omega)
  have HV := Lib.hid (show instB n ⟨2, a, b, 0, s, l⟩ = (s == ByteArray.empty) by rw [HE.out]; simp [hz])
  clear hz
  go_wp2_with fail
  refine (HNM.out _).mono ?_
  rintro r w4 ⟨rfl, hb4⟩
  have HB4 := Lib.hid (bthen HB3.out hb4)
  have d4 := Lib.cell_of_heap ((hb4.block _ (Array.getElem?_eq_some_iff.1 HIX3.out).1).trans HIX3.out) 4
  simp only [List.getElem?_toArray, List.getElem?_cons_zero, List.getElem?_cons_succ] at d4
  clear hb4 c0 c1 c2 c3 c4 c5
  go_wp2_with fail
  go_ret
  exact ⟨by rw [HV.out, ← ba_isEmpty]; rfl, HB4.out⟩
set_option maxRecDepth 100000 in
set_option maxHeartbeats 8000000 in
theorem refInst_h (i : In) (n : Int) (A : Option Addr) (cap : Nat) (w : World) (hS : Ints w (.slice A i.l.length cap) i.l) (hn : i.l.length * 8 ≤ 140737488355328) (hs : i.s.size < 9223372036854775808) (ho : i.o = 3) :
    Calls Try.prog 95 #[inV i (.slice A i.l.length cap), .int .i64 n] w fun e w' => e = .returned (.bool (instB n i)) ∧ Below w.heap.size w w' := by
  have HU := Lib.hid (fun (W : World) (hb : Below w.heap.size w W) => refUses_any i A cap W (hS.next hb) hn)
  have HUL := Lib.hid (show (usesI i).length * 8 ≤ 140737488355328 from by
    unfold usesI usesL
    repeat' split
    all_goals first | exact hn | simp)
  obtain ⟨o, a, b, k, s, l⟩ := i
  have HE := Lib.hid (instB_is n o a b k s l)
  unfold inV at HU ⊢
  simp only at hS hn hs HU HUL ho ⊢
  have HO := Lib.hid (show o ≤ 3 ∧ 3 ≤ o by omega)
  clear ho
  obtain ⟨nl, hnl⟩ : ∃ x, l.length = x := ⟨_, rfl⟩
  have HNL := Lib.hid (show decide (l = []) = decide (nl = 0) by rw [← hnl]; cases l <;> simp)
  have HME := Lib.hid (fun W : World => refName_any s W hs)
  have HNM := Lib.hid (fun W : World => refNamed_any o a b k s (.slice A nl cap) W)
  rw [hnl] at HU HE ⊢
  obtain ⟨U, hU⟩ : ∃ U, usesI ⟨o, a, b, k, s, l⟩ = U := ⟨_, rfl⟩
  rw [hU] at HU HE HUL
  obtain ⟨AM, hAM⟩ : ∃ x, amongB n U = x := ⟨_, rfl⟩
  have HBL := Lib.hid (fun (W : World) (A2 : Option Addr) (m c2 : Nat) (hm : U.length = m) (hI : Ints W (.slice A2 m c2) U) => refBelow_any n U A2 m c2 W hI (by have := HUL.out; omega))
  rw [hAM] at HE HBL
  rw [HNL.out] at HE
  clear hS hn hs hnl hU hAM HNL
  go_enter Try.func95, Try.ntmps95
  go_wp2_with fail
  have HBX := Lib.hid (balloc (Below.refl _ w) (.cells #[.int .i64 o, .int .i64 a, .int .i64 b, .int .u64 k, .string s, .slice A nl cap] 62))
  have HIX := Lib.hid (heap_alloc_new w (.cells #[.int .i64 o, .int .i64 a, .int .i64 b, .int .u64 k, .string s, .slice A nl cap] 62))
  generalize w.alloc (.cells #[.int .i64 o, .int .i64 a, .int .i64 b, .int .u64 k, .string s, .slice A nl cap] 62) = W1 at *
  refine (HU.out _ HBX.out).mono ?_
  rintro r w2 ⟨v', rfl, ho, hb⟩
  have HI2 := Lib.hid ho.ints
  obtain ⟨A2, c2, hv2⟩ := HI2.out.slice
  obtain ⟨nu, hnu⟩ : ∃ x, U.length = x := ⟨_, rfl⟩
  have HNU := Lib.hid (show U.length ≤ nu ∧ nu ≤ U.length by omega)
  have HI3 := Lib.hid (show Ints w2 (.slice A2 nu c2) U by rw [← hnu, ← hv2]; exact HI2.out)
  rw [hnu] at hv2
  subst hv2
  have HB2 := Lib.hid (bthen HBX.out hb)
  have HIX2 := Lib.hid ((hb.block _ (Array.getElem?_eq_some_iff.1 HIX.out).1).trans HIX.out)
  clear ho hb hnu
  go_wp2_with fail
  refine (HBL.out w2 A2 nu c2 (by have := HNU.out; omega) HI3.out).mono ?_
  rintro r w3 ⟨rfl, hb⟩
  have HB3 := Lib.hid (bthen HB2.out hb)
  have hix3 := (hb.block _ (Array.getElem?_eq_some_iff.1 HIX2.out).1).trans HIX2.out
  have c0 := Lib.cell_of_heap hix3 0
  have c1 := Lib.cell_of_heap hix3 1
  have c2 := Lib.cell_of_heap hix3 2
  have c3 := Lib.cell_of_heap hix3 3
  have c4 := Lib.cell_of_heap hix3 4
  have c5 := Lib.cell_of_heap hix3 5
  simp only [List.getElem?_toArray, List.getElem?_cons_zero, List.getElem?_cons_succ] at c0 c1 c2 c3 c4 c5
  have HIX3 := Lib.hid hix3
  clear hb hix3
  obtain rfl : o = 3 := by have := HO.out; omega
  have t1 : decide ((3 : Int) < 1) = false := rfl
  have t2 : decide ((16 : Int) < 3) = false := rfl
  cases AM with
  | false =>
    have HV := Lib.hid (show instB n ⟨3, a, b, k, s, l⟩ = false by rw [HE.out]; simp)
    go_wp2_with fail
    go_ret
    exact ⟨by rw [HV.out]; rfl, HB3.out⟩
  | true =>
  by_cases h6 : nl ≤ 6
  case neg =>
    have t3 : decide (6 < nl) = true := decide_eq_true (by omega)
    have t3' : decide ((6 : Int) < (nl : Int)) = true := decide_eq_true (by omega)
    have HV := Lib.hid (show instB n ⟨3, a, b, k, s, l⟩ = false by rw [HE.out]; simp [h6])
    go_wp2_with fail
    go_ret
    exact ⟨by rw [HV.out]; rfl, HB3.out⟩
  have t3 : decide (6 < nl) = false := decide_eq_false (by omega)
  have t3' : decide ((6 : Int) < (nl : Int)) = false := decide_eq_false (by omega)
  have HE := Lib.hid (show instB n ⟨3, a, b, k, s, l⟩ = ((aB 3 || a == 0) && (bB 3 || b == 0) && ((3 : Int) == 1 || k == 0) && ((3 : Int) == 14 || decide (nl = 0)) && (if hasB 3 then nameB s else s == ByteArray.empty)) by rw [HE.out, decide_eq_true (show 1 ≤ (3 : Int) by have := HO.out; omega), decide_eq_true (show (3 : Int) ≤ 16 by have := HO.out; omega), decide_eq_true h6]; rfl)
  clear h6
  rw [show aB 3 = true from rfl, show bB 3 = true from rfl, show hasB 3 = false from rfl, show ((3 : Int) == 1) = false from rfl, show ((3 : Int) == 14) = false from rfl] at HE
  rw [show hasB 3 = false from rfl] at HNM
  by_cases hk : k = 0
  case neg =>
    have hk1 : (k == 0) = false := by simpa using hk
    have hk2 : (k != 0) = true := by simpa using hk
    have hk3 : decide (k = 0) = false := decide_eq_false hk
    have HV := Lib.hid (show instB n ⟨3, a, b, k, s, l⟩ = false by rw [HE.out]; simp [hk])
    go_wp2_with fail
    go_ret
    exact ⟨by rw [HV.out]; rfl, HB3.out⟩
  subst hk
  by_cases hz : nl = 0
  case neg =>
    have t0 : decide (0 < nl) = true := decide_eq_true (by omega)
    have t0' : decide ((0 : Int) < (nl : Int)) = true := decide_eq_true (by omega)
    have HV := Lib.hid (show instB n ⟨3, a, b, 0, s, l⟩ = false by rw [HE.out]; simp [hz])
    go_wp2_with fail
    go_ret
    exact ⟨by rw [HV.out]; rfl, HB3.out⟩
  have t0 : decide (0 < nl) = false := decide_eq_false (by omega)
  have t0' : decide ((0 : Int) < (nl : Int)) = false := decide_eq_false (by omega)
  have HV := Lib.hid (show instB n ⟨3, a, b, 0, s, l⟩ = (s == ByteArray.empty) by rw [HE.out]; simp [hz])
  clear hz
  go_wp2_with fail
  refine (HNM.out _).mono ?_
  rintro r w4 ⟨rfl, hb4⟩
  have HB4 := Lib.hid (bthen HB3.out hb4)
  have d4 := Lib.cell_of_heap ((hb4.block _ (Array.getElem?_eq_some_iff.1 HIX3.out).1).trans HIX3.out) 4
  simp only [List.getElem?_toArray, List.getElem?_cons_zero, List.getElem?_cons_succ] at d4
  clear hb4 c0 c1 c2 c3 c4 c5
  go_wp2_with fail
  go_ret
  exact ⟨by rw [HV.out, ← ba_isEmpty]; rfl, HB4.out⟩
end Go.Proofs.Ytoglmdadpchhoaa
