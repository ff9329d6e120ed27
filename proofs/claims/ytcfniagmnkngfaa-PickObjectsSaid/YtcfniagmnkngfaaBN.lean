/- The reference of package ir: what an instruction uses; is it right among so many values? The reference of package ir: is an instruction right among so many values? The reference's Inst: one class of operations. -/
import Derived.Test.YtcfniagmnkngfaaBL
namespace Go.Proofs.Ytcfniagmnkngfaa
open Go.RowKit

set_option maxRecDepth 100000 in
set_option maxHeartbeats 1000000 in
theorem refBelow_any (k : Int) (l : List Int) (A : Option Addr) (n cap : Nat) (w : World) (hS : Ints w (.slice A n cap) l) (hn : n ≤ 9223372036854775807) :
    Calls Try.prog 149 #[.slice A n cap, .int .i64 k] w fun e w' => e = .returned (.bool (amongB k l)) ∧ Below w.heap.size w w' := by
  have HN := Lib.hid (show l.length ≤ n ∧ n ≤ l.length by have := hS.len; omega)
  have HS := Lib.hid hS
  have n1 : (n : Int) ≤ 9223372036854775807 := by omega
  clear hS hn
  go_enter Try.func149, Try.ntmps149
  go_wp2_with fail
  go_loopw [5] (fun iv wr => ∃ i : Nat, i ≤ n ∧ iv = .int .i64 i ∧ amongB k (l.take i) = true ∧ w = wr) (fun iv _ => n - (intOf iv).toNat)
  case atStart => exact ⟨0, Nat.zero_le _, rfl, rfl, rfl⟩
  case round =>
    obtain ⟨i, hi, rfl, hs, rfl⟩ := hrel
    have HT := Lib.hid hs
    clear hs
    by_cases hlt : i < n
    · have hm : i < l.length := by have := HN.out; omega
      obtain ⟨b, off, hA, e0⟩ := HS.out.at_ hm
      subst hA
      have HNX := Lib.hid (show amongB k (l.take (i + 1)) = (decide (0 ≤ l[i]) && decide (l[i] < k)) by
        have h := HT.out
        unfold amongB at h ⊢
        rw [List.take_succ_eq_append_getElem hm, List.all_append, h]
        simp)
      have HNO := Lib.hid (show (decide (0 ≤ l[i]) && decide (l[i] < k)) = false → amongB k l = false from fun h => by
        unfold amongB
        rw [List.all_eq_false]
        exact ⟨l[i], List.getElem_mem hm, by simpa using h⟩)
      obtain ⟨x, hx⟩ : ∃ x, l[i] = x := ⟨_, rfl⟩
      rw [hx] at e0 HNX HNO
      have hk0 : (0 : Int) ≤ (i : Int) := Int.natCast_nonneg _
      have hk1 : (i : Int) < (n : Int) := by omega
      have HLT := Lib.hid hlt
      clear hx hm hlt
      by_cases h0 : x < 0
      · have t0 : decide (x < 0) = true := decide_eq_true h0
        have HF := Lib.hid (HNO.out (by simp; omega))
        go_wp2_with fail
        go_ret
        exact ⟨by rw [HF.out]; rfl, Below.refl _ _⟩
      · have t0 : decide (x < 0) = false := decide_eq_false h0
        by_cases h1 : k ≤ x
        · have t1 : decide (k ≤ x) = true := decide_eq_true h1
          have HF := Lib.hid (HNO.out (by simp; omega))
          go_wp2_with fail
          go_ret
          exact ⟨by rw [HF.out]; rfl, Below.refl _ _⟩
        · have t1 : decide (k ≤ x) = false := decide_eq_false h1
          have HF := Lib.hid (show amongB k (l.take (i + 1)) = true by rw [HNX.out]; simp; omega)
          go_wp2_with fail
          go_roundw
          case rel => exact ⟨i + 1, by have := HLT.out; omega, by go_num, HF.out, trivial⟩
          case measure => have := HLT.out; simp [intOf]; omega
    · have hd : decide ((i : Int) < (n : Int)) = false := by simp; omega
      have HF := Lib.hid (show amongB k l = true by
        have h := HT.out
        rwa [List.take_of_length_le (by have := HN.out; omega)] at h)
      go_wp2_with fail
      go_ret
      exact ⟨by rw [HF.out]; rfl, Below.refl _ _⟩
theorem refName_any (s : ByteArray) (w : World) (hs : s.size < 9223372036854775808) : Calls Try.prog 79 #[.string s] w fun e w' => e = .returned (.bool (nameB s)) ∧ w = w' := by
  have HE := Lib.hid (show nameB s = (decide (1 ≤ (s.size : Int)) && decide ((s.size : Int) ≤ 16)) from rfl)
  obtain ⟨z, hz⟩ : ∃ z, s.size = z := ⟨_, rfl⟩
  rw [hz] at HE
  by_cases h1 : 1 ≤ z
  · have t1 : decide (1 ≤ z) = true := decide_eq_true h1
    have t1' : decide ((1 : Int) ≤ (z : Int)) = true := decide_eq_true (by omega)
    rw [t1'] at HE
    by_cases h2 : z ≤ 16
    · have t2 : decide (z ≤ 16) = true := decide_eq_true h2
      have t2' : decide ((z : Int) ≤ 16) = true := decide_eq_true (by omega)
      rw [t2'] at HE
      go_enter Try.func79, Try.ntmps79
      go_wp2_with fail
      go_ret
      exact ⟨by rw [HE.out]; rfl, rfl⟩
    · have t2 : decide (z ≤ 16) = false := decide_eq_false h2
      have t2' : decide ((z : Int) ≤ 16) = false := decide_eq_false (by omega)
      rw [t2'] at HE
      go_enter Try.func79, Try.ntmps79
      go_wp2_with fail
      go_ret
      exact ⟨by rw [HE.out]; rfl, rfl⟩
  · have t1 : decide (1 ≤ z) = false := decide_eq_false h1
    have t1' : decide ((1 : Int) ≤ (z : Int)) = false := decide_eq_false (by omega)
    rw [t1'] at HE
    go_enter Try.func79, Try.ntmps79
    go_wp2_with fail
    go_ret
    exact ⟨by rw [HE.out]; rfl, rfl⟩
theorem refNamed_any (o a b k : Int) (s : ByteArray) (v : Value) (w : World) : Calls Try.prog 93 #[.agg #[.int .i64 o, .int .i64 a, .int .i64 b, .int .u64 k, .string s, v]] w fun e w' => e = .returned (.bool (hasB o)) ∧ Below w.heap.size w w' := by
  have HE := Lib.hid (show hasB o = (o == 12 || o == 13 || o == 14) from rfl)
  cases h12 : (o == 12) with
  | true =>
    rw [h12] at HE
    go_enter Try.func93, Try.ntmps93
    go_wp2_with fail
    go_ret
    exact ⟨by rw [HE.out]; rfl, balloc (Below.refl _ w) _⟩
  | false =>
    cases h13 : (o == 13) with
    | true =>
      rw [h12, h13] at HE
      go_enter Try.func93, Try.ntmps93
      go_wp2_with fail
      go_ret
      exact ⟨by rw [HE.out]; rfl, balloc (Below.refl _ w) _⟩
    | false =>
      rw [h12, h13] at HE
      go_enter Try.func93, Try.ntmps93
      go_wp2_with fail
      go_ret
      exact ⟨by rw [HE.out]; simp, balloc (Below.refl _ w) _⟩
theorem own2i (w : World) (X : Obj) (a b : Int) : OwnsI ((w.alloc X).alloc (.cells #[.int .i64 a, .int .i64 b] 3)) w.heap.size (.slice (some ⟨w.heap.size + 1, 0, none⟩) 2 2) [a, b] :=
  ⟨rfl, .inr ⟨w.heap.size + 1, 2, _, rfl, by omega, by have f := heap_alloc_new (w.alloc X) (.cells #[.int .i64 a, .int .i64 b] 3); rw [World.size_alloc] at f; exact f, Nat.le_refl _, by unfold maxLen; omega, rfl, rfl⟩⟩
theorem own0 (w : World) (X : Obj) : OwnsI ((w.alloc X).alloc (.cells #[] 3)) w.heap.size (.slice (some ⟨w.heap.size + 1, 0, none⟩) 0 0) [] :=
  ⟨rfl, .inr ⟨w.heap.size + 1, 0, #[], rfl, by omega, by have f := heap_alloc_new (w.alloc X) (.cells #[] 3); rw [World.size_alloc] at f; exact f, Nat.le_refl _, by unfold maxLen; omega, rfl, rfl⟩⟩
set_option maxRecDepth 100000 in
set_option maxHeartbeats 2000000 in
/-- the reference's Uses, of every instruction -/
theorem refUses_any (i : In) (A : Option Addr) (cap : Nat) (w : World) (hP : Ints w (.slice A i.l.length cap) i.l) (hn : i.l.length * 8 ≤ 140737488355328) :
    Calls Try.prog 150 #[inV i (.slice A i.l.length cap)] w (NewInts (usesI i) w) := by
  obtain ⟨o, a, b, k, s, l⟩ := i
  unfold inV usesI
  simp only at hP hn ⊢
  obtain ⟨nl, hnl⟩ : ∃ n, l.length = n := ⟨_, rfl⟩
  have HN := Lib.hid (show l.length * 8 ≤ 140737488355328 from hn)
  have HP := Lib.hid (fun (W : World) (hb : Below w.heap.size w W) => hP.next hb)
  rw [hnl] at HP ⊢
  clear hP hn
  by_cases h : 2 ≤ o ∧ o ≤ 11
  · have HE := Lib.hid (show usesL o a b l = [a, b] by unfold usesL; rw [if_pos h])
    have d2 : decide (2 ≤ o) = true := decide_eq_true h.1
    have d11 : decide (o ≤ 11) = true := decide_eq_true h.2
    clear h
    go_enter Try.func150, Try.ntmps150
    go_wp2_with fail
    go_ret
    exact ⟨_, rfl, by rw [HE.out]; exact own2i _ _ _ _, balloc (balloc (Below.refl _ w) _) _⟩
  have hx : (decide (2 ≤ o) = true ∧ decide (o ≤ 11) = false) ∨ decide (2 ≤ o) = false := by
    by_cases h2 : 2 ≤ o
    · exact .inl ⟨decide_eq_true h2, decide_eq_false (by omega)⟩
    · exact .inr (decide_eq_false h2)
  by_cases h13 : o = 13
  · subst h13
    have HE := Lib.hid (show usesL 13 a b l = [a] from rfl)
    clear hx h
    go_enter Try.func150, Try.ntmps150
    go_wp2_with fail
    go_ret
    exact ⟨_, rfl, by rw [HE.out]; exact own2 _ _ _, balloc (balloc (Below.refl _ w) _) _⟩
  by_cases h16 : o = 16
  · subst h16
    have HE := Lib.hid (show usesL 16 a b l = [a] from rfl)
    clear hx h h13
    go_enter Try.func150, Try.ntmps150
    go_wp2_with fail
    go_ret
    exact ⟨_, rfl, by rw [HE.out]; exact own2 _ _ _, balloc (balloc (Below.refl _ w) _) _⟩
  by_cases h14 : o = 14
  · subst h14
    have HE := Lib.hid (show usesL 14 a b l = l from rfl)
    clear hx h h13 h16
    go_enter Try.func150, Try.ntmps150
    go_wp2_with ((
      at_builtin
      refine wpList_append_ints rfl _ _ rfl w.heap.size _ [] l rfl ?own _ rfl ?ints ?len ?base ?_
      case own => exact own0 _ _
      case ints => exact HP.out _ (balloc (balloc (Below.refl _ w) _) _)
      case len => have := HN.out; simpa using this
      case base => simp only [World.size_alloc]; omega
      intro v' w1 hown hgrow))
    have HO := Lib.hid hown
    have HB := Lib.hid ((balloc (balloc (Below.refl _ w) _) _).grown hgrow (by simp only [World.size_alloc]; omega) (fun k hk => by cases hk; show w.heap.size ≤ w.heap.size + 1; omega))
    clear hown hgrow
    go_wp2_with fail
    go_ret
    exact ⟨_, rfl, by rw [HE.out]; exact HO.out, HB.out⟩
  have HE := Lib.hid (usesL_nil (a := a) (b := b) (l := l) h h13 h16 h14)
  have t13 : (o == 13) = false := by simpa using h13
  have t16 : (o == 16) = false := by simpa using h16
  have t14 : (o == 14) = false := by simpa using h14
  clear h h13 h16 h14
  rcases hx with ⟨d2, d11⟩ | d2
  · go_enter Try.func150, Try.ntmps150
    go_wp2_with fail
    go_ret
    exact ⟨_, rfl, by rw [HE.out]; exact ⟨rfl, .inl ⟨rfl, rfl⟩⟩, balloc (Below.refl _ w) _⟩
  · go_enter Try.func150, Try.ntmps150
    go_wp2_with fail
    go_ret
    exact ⟨_, rfl, by rw [HE.out]; exact ⟨rfl, .inl ⟨rfl, rfl⟩⟩, balloc (Below.refl _ w) _⟩
set_option maxRecDepth 100000 in
theorem refInts_any (m k : List Int) (A A' : Option Addr) (n n' cap cap' : Nat) (w : World) (hS : Ints w (.slice A n cap) m) (hS' : Ints w (.slice A' n' cap') k) (hn9 : n ≤ 9223372036854775807) (_hn9' : n' ≤ 9223372036854775807) :
    Calls Try.prog 125 #[.slice A n cap, .slice A' n' cap'] w fun e w' => e = .returned (.bool (decide (m = k))) ∧ Below w.heap.size w w' := by
  have HN := Lib.hid (show m.length ≤ n ∧ n ≤ m.length by have := hS.len; omega)
  have HN' := Lib.hid (show k.length ≤ n' ∧ n' ≤ k.length by have := hS'.len; omega)
  have HS := Lib.hid hS
  have HS' := Lib.hid hS'
  have n1 : (n : Int) ≤ 9223372036854775807 := by omega
  clear hS hS' hn9 _hn9'
  go_enter Try.func125, Try.ntmps125
  by_cases hl : n = n'
  case neg =>
    have t : ((n : Int) == (n' : Int)) = false := by simp; omega
    have HV := Lib.hid (show decide (m = k) = false from decide_eq_false (fun e => hl (by have := HN.out; have := HN'.out; rw [e] at *; omega)))
    go_wp2_with fail
    go_ret
    exact ⟨by rw [HV.out]; rfl, Below.refl _ _⟩
  subst hl
  go_wp2_with fail
  go_loopw [5] (fun iv wr => ∃ i : Nat, i ≤ n ∧ iv = .int .i64 i ∧ m.take i = k.take i ∧ Below w.heap.size w wr) (fun iv _ => n - (intOf iv).toNat)
  case atStart => exact ⟨0, Nat.zero_le _, rfl, by simp, Below.refl _ _⟩
  case round =>
    obtain ⟨i, hi, rfl, hs, hb⟩ := hrel
    have HT := Lib.hid hs
    have HB := Lib.hid hb
    clear hs
    by_cases hlt : i < n
    · have hm : i < m.length := by have := HN.out; omega
      have hk : i < k.length := by have := HN'.out; omega
      obtain ⟨b, off, hA, e0⟩ := (HS.out.next hb).at_ hm
      obtain ⟨b', off', hA', e0'⟩ := (HS'.out.next hb).at_ hk
      subst hA hA'
      have HNX := Lib.hid (show m[i] = k[i] → m.take (i + 1) = k.take (i + 1) from fun h => by
        rw [List.take_succ_eq_append_getElem hm, List.take_succ_eq_append_getElem hk, HT.out, h])
      have HNO := Lib.hid (show m[i] ≠ k[i] → decide (m = k) = false from fun h => decide_eq_false (fun e => h (by subst e; rfl)))
      obtain ⟨x, hx⟩ : ∃ x, m[i] = x := ⟨_, rfl⟩
      obtain ⟨y, hy⟩ : ∃ x, k[i] = x := ⟨_, rfl⟩
      rw [hx] at e0 HNX HNO
      rw [hy] at e0' HNX HNO
      have hk0 : (0 : Int) ≤ (i : Int) := Int.natCast_nonneg _
      have hk1 : (i : Int) < (n : Int) := by omega
      have HLT := Lib.hid hlt
      clear hx hy hm hk hlt hb
      go_upto_region 1 with fail
      by_cases hq : x = y
      · subst hq
        have HV := Lib.hid (HNX.out rfl)
        go_quiet (fail)
        go_wp2_with fail
        go_roundw
        case rel => exact ⟨i + 1, HLT.out, by go_num, HV.out, below_drewN HB.out _⟩
        case measure => have := HLT.out; simp [intOf]; omega
      · have tq : (x == y) = false := by simpa using hq
        have HV := Lib.hid (HNO.out hq)
        go_quiet (fail)
        go_wp2_with fail
        go_ret
        exact ⟨by rw [HV.out]; rfl, below_drewN HB.out _⟩
    · have hd : decide ((i : Int) < (n : Int)) = false := by simp; omega
      have HV := Lib.hid (show decide (m = k) = true from decide_eq_true (by
        have h := HT.out
        rwa [List.take_of_length_le (by have := HN.out; omega), List.take_of_length_le (by have := HN'.out; omega)] at h))
      go_wp2_with fail
      go_ret
      exact ⟨by rw [HV.out]; rfl, HB.out⟩
end Go.Proofs.Ytcfniagmnkngfaa

namespace Go.Proofs.Ytcfniagmnkngfaa
open Go.RowKit

theorem instB_is (n o a b k : Int) (s : ByteArray) (l : List Int) : instB n ⟨o, a, b, k, s, l⟩ = (decide (1 ≤ o) && decide (o ≤ 16) && decide (l.length ≤ 6) && amongB n (usesI ⟨o, a, b, k, s, l⟩) && (aB o || a == 0) && (bB o || b == 0) && (o == 1 || k == 0) && (o == 14 || decide (l = [])) && (if hasB o then nameB s else s == ByteArray.empty)) := rfl
theorem ba_empty (s : ByteArray) : (s.toList == (⟨#[]⟩ : ByteArray).toList) = (s == ByteArray.empty) := (beq_toListBytes s _).symm
theorem ba_e0 : (⟨#[]⟩ : ByteArray).toList = [] := by first | rfl | decide | simp | (unfold ByteArray.toList ByteArray.toList.loop; simp)
theorem ba_isEmpty (s : ByteArray) : s.toList.isEmpty = (s == ByteArray.empty) := by
  rw [← ba_empty, ba_e0]; cases s.toList <;> rfl
end Go.Proofs.Ytcfniagmnkngfaa

namespace Go.Proofs.Ytcfniagmnkngfaa
open Go.RowKit

set_option maxRecDepth 100000 in
set_option maxHeartbeats 8000000 in
theorem refInst_out (i : In) (n : Int) (A : Option Addr) (cap : Nat) (w : World) (hS : Ints w (.slice A i.l.length cap) i.l) (hn : i.l.length * 8 ≤ 140737488355328) (hs : i.s.size < 9223372036854775808) (ho : i.o < 1 ∨ 16 < i.o) :
    Calls Try.prog 135 #[inV i (.slice A i.l.length cap), .int .i64 n] w fun e w' => e = .returned (.bool (instB n i)) ∧ Below w.heap.size w w' := by
  have HU := Lib.hid (fun (W : World) (hb : Below w.heap.size w W) => refUses_any i A cap W (hS.next hb) hn)
  have HUL := Lib.hid (show (usesI i).length * 8 ≤ 140737488355328 from by
    unfold usesI usesL
    repeat' split
    all_goals first | exact hn | simp)
  obtain ⟨o, a, b, k, s, l⟩ := i
  have HE := Lib.hid (instB_is n o a b k s l)
  unfold inV at HU ⊢
  simp only at hS hn hs HU HUL ho ⊢
  have HO := Lib.hid (show o < 1 ∨ 16 < o by omega)
  clear ho
  obtain ⟨nl, hnl⟩ : ∃ x, l.length = x := ⟨_, rfl⟩
  have HNL := Lib.hid (show decide (l = []) = decide (nl = 0) by rw [← hnl]; cases l <;> simp)
  have HME := Lib.hid (fun W : World => refName_any s W hs)
  have HNM := Lib.hid (fun W : World => refNamed_any o a b k s (.slice A nl cap) W)
  rw [hnl] at HU HE ⊢
  obtain ⟨U, hU⟩ : ∃ U, usesI ⟨o, a, b, k, s, l⟩ = U := ⟨_, rfl⟩
  rw [hU] at HU HE HUL
  obtain ⟨AM, hAM⟩ : ∃ x, amongB n U = x := ⟨_, rfl⟩
  have HBL := Lib.hid (fun (W : World) (A2 : Option Addr) (m c2 : Nat) (hm : U.length = m) (hI : Ints W (.slice A2 m c2) U) => refBelow_any n U A2 m c2 W hI (by have := HUL.out; omega))
  rw [hAM] at HE HBL
  rw [HNL.out] at HE
  clear hS hn hs hnl hU hAM HNL
  go_enter Try.func135, Try.ntmps135
  go_wp2_with fail
  have HBX := Lib.hid (balloc (Below.refl _ w) (.cells #[.int .i64 o, .int .i64 a, .int .i64 b, .int .u64 k, .string s, .slice A nl cap] 85))
  have HIX := Lib.hid (heap_alloc_new w (.cells #[.int .i64 o, .int .i64 a, .int .i64 b, .int .u64 k, .string s, .slice A nl cap] 85))
  generalize w.alloc (.cells #[.int .i64 o, .int .i64 a, .int .i64 b, .int .u64 k, .string s, .slice A nl cap] 85) = W1 at *
  refine (HU.out _ HBX.out).mono ?_
  rintro r w2 ⟨v', rfl, ho, hb⟩
  have HI2 := Lib.hid ho.ints
  obtain ⟨A2, c2, hv2⟩ := HI2.out.slice
  obtain ⟨nu, hnu⟩ : ∃ x, U.length = x := ⟨_, rfl⟩
  have HNU := Lib.hid (show U.length ≤ nu ∧ nu ≤ U.length by omega)
  have HI3 := Lib.hid (show Ints w2 (.slice A2 nu c2) U by rw [← hnu, ← hv2]; exact HI2.out)
  rw [hnu] at hv2
  subst hv2
  have HB2 := Lib.hid (bthen HBX.out hb)
  have HIX2 := Lib.hid ((hb.block _ (Array.getElem?_eq_some_iff.1 HIX.out).1).trans HIX.out)
  clear ho hb hnu
  go_wp2_with fail
  refine (HBL.out w2 A2 nu c2 (by have := HNU.out; omega) HI3.out).mono ?_
  rintro r w3 ⟨rfl, hb⟩
  have HB3 := Lib.hid (bthen HB2.out hb)
  have hix3 := (hb.block _ (Array.getElem?_eq_some_iff.1 HIX2.out).1).trans HIX2.out
  have c0 := Lib.cell_of_heap hix3 0
  have c1 := Lib.cell_of_heap hix3 1
  have c2 := Lib.cell_of_heap hix3 2
  have c3 := Lib.cell_of_heap hix3 3
  have c4 := Lib.cell_of_heap hix3 4
  have c5 := Lib.cell_of_heap hix3 5
  simp only [List.getElem?_toArray, List.getElem?_cons_zero, List.getElem?_cons_succ] at c0 c1 c2 c3 c4 c5
  have HIX3 := Lib.hid hix3
  clear hb hix3
  by_cases h1 : o < 1
  · have t1 : decide (o < 1) = true := decide_eq_true h1
    have HV := Lib.hid (show instB n ⟨o, a, b, k, s, l⟩ = false by rw [HE.out]; simp [show ¬ 1 ≤ o by omega])
    go_wp2_with fail
    go_ret
    exact ⟨by rw [HV.out]; rfl, HB3.out⟩
  have t1 : decide (o < 1) = false := decide_eq_false h1
  have t2 : decide (16 < o) = true := decide_eq_true (by have := HO.out; omega)
  have HV := Lib.hid (show instB n ⟨o, a, b, k, s, l⟩ = false by rw [HE.out]; simp [show ¬ o ≤ 16 by have := HO.out; omega])
  go_wp2_with fail
  go_ret
  exact ⟨by rw [HV.out]; rfl, HB3.out⟩
end Go.Proofs.Ytcfniagmnkngfaa
