/- A walk of the law EncBytes: it returns true for every program and every bytes. -/
import Derived.Test.YtmedlebepgobeaaDoorL8
import Derived.Test.YtmedlebepgobeaaDoorR8
namespace Go.Proofs.YtmedlebepgobeaaDoor
open Go.RowKit

/-- both Bytes, whatever the program is -/
theorem bytes_both (n : Nat) (f : Nat → Nat → Int) : ∃ (s : ByteArray) (y : Int),
    (∀ (W : World) (v : Value), Ops W v n f → n ≤ 500 → Tabs W → Calls Tryd.prog 19 #[v] W fun e w' => e = .returned (.tuple #[.string s, .int .i64 y]) ∧ Below W.heap.size W w') ∧
    ∀ (W : World) (v : Value), Ops W v n f → n ≤ 500 → Calls Tryd.prog 20 #[v] W fun e w' => e = .returned (.tuple #[.string s, .int .i64 y]) ∧ Below W.heap.size W w' := by
  rcases all_or f n with h | h
  · refine ⟨_, 0, fun W v hO n1 T => bytes_t hO n1 T h, fun W v hO n1 => (rbytes_any hO n1).mono ?_⟩
    rintro e w' ⟨⟨_, rfl⟩ | ⟨⟨j, hj, h'⟩, _⟩, hb⟩
    · exact ⟨rfl, hb⟩
    · rw [h j hj] at h'; cases h'
  · refine ⟨⟨#[]⟩, 1, fun W v hO n1 T => bytes_f hO n1 T h, fun W v hO n1 => (rbytes_any hO n1).mono ?_⟩
    rintro e w' ⟨⟨h', _⟩ | ⟨_, rfl⟩, hb⟩
    · obtain ⟨j, hj, hj'⟩ := h
      rw [h' j hj] at hj'; cases hj'
    · exact ⟨rfl, hb⟩
def BackTo (y : Int) (n : Nat) (f : Nat → Nat → Int) (w : World) (e : Ending) (w' : World) : Prop := ∃ v, e = .returned (.tuple #[v, .int .i64 y]) ∧ Ops w' v n f ∧ Below w.heap.size w w'
theorem post_t {l : List UInt8} (h : ∀ j, j < l.length / 4 → good (wat l (4 * j)) = true) {w : World} : ∀ (e : Ending) (w' : World), BackPost l w e w' → BackTo 0 (l.length / 4) (fB l) w e w' := by
  rintro e w' ⟨⟨v, _, rfl, hown⟩ | ⟨⟨j, hj, hg⟩, _⟩, hb⟩
  · rw [cellsTo_of] at hown
    exact ⟨v, rfl, Ops.of_own hown, hb⟩
  · rw [h j hj] at hg; cases hg
theorem post_f {l : List UInt8} (h : ∃ j, j < l.length / 4 ∧ good (wat l (4 * j)) = false) {w : World} : ∀ (e : Ending) (w' : World), BackPost l w e w' → BackTo 5 0 (fB l) w e w' := by
  rintro e w' ⟨⟨v, h', _⟩ | ⟨_, rfl⟩, hb⟩
  · obtain ⟨j, hj, hg⟩ := h
    rw [h' j hj] at hg; cases hg
  · exact ⟨_, rfl, .inl ⟨rfl, .inl rfl⟩, hb⟩
/-- both Backs, whatever the bytes are -/
theorem back_both (S : ByteArray) (hS : S.size ≤ 2000) : ∃ (y : Int) (n : Nat) (f : Nat → Nat → Int), n ≤ 500 ∧ (∀ W, Tabs W → Calls Tryd.prog 21 #[.string S] W (BackTo y n f W)) ∧ ∀ W, Calls Tryd.prog 22 #[.string S] W (BackTo y n f W) := by
  have hl : S.data.toList.length = S.size := by simp
  by_cases h4 : S.size % 4 = 0
  · by_cases h : ∃ j, j < S.data.toList.length / 4 ∧ good (wat S.data.toList (4 * j)) = false
    · exact ⟨5, 0, _, by omega, fun W T => (back_any S W hS h4 T).mono (post_f h), fun W => (rback_any S W hS h4).mono (post_f h)⟩
    · have h' : ∀ j, j < S.data.toList.length / 4 → good (wat S.data.toList (4 * j)) = true := fun j hj => by
        cases e : good (wat S.data.toList (4 * j))
        · exact absurd ⟨j, hj, e⟩ h
        · rfl
      exact ⟨0, _, _, by omega, fun W T => (back_any S W hS h4 T).mono (post_t h'), fun W => (rback_any S W hS h4).mono (post_t h')⟩
  · refine ⟨2, 0, fun _ _ => 0, by omega, fun W _ => (back_cut S W hS h4).mono ?_, fun W => (rback_cut S W hS h4).mono ?_⟩
    all_goals
      rintro e w' ⟨rfl, hb⟩
      exact ⟨_, rfl, .inl ⟨rfl, .inl rfl⟩, hb⟩

set_option maxRecDepth 100000 in
set_option maxHeartbeats 4000000 in
theorem encbytes_walk {va : Value} {n : Nat} {f : Nat → Nat → Int} {w : World} (S : ByteArray) (hA : Ops w va n f) (hn : n ≤ maxLen) (hS : S.size ≤ maxLen) (T : Tabs w) :
    Calls Tryd.prog 4 #[va, .string S] w fun e w' => e = .returned (.bool true) ∧ Below w.heap.size w w' := by
  unfold maxLen at hn hS
  obtain ⟨A, cA, rfl⟩ := hA.slice
  have HA := Lib.hid hA
  have H0 := Lib.hid T
  clear hA T
  by_cases n2 : n ≤ 500
  case neg =>
    go_enter Tryd.func4, Tryd.ntmps4
    go_wp2_with fail
    refine (shown_any _ H0.out).mono ?_
    rintro e w1 ⟨rfl, hb1⟩
    go_wp2_with fail
    go_ret
    exact ⟨rfl, hb1⟩
  by_cases s2 : S.size ≤ 2000
  case neg =>
    go_enter Tryd.func4, Tryd.ntmps4
    go_wp2_with fail
    refine (shown_any _ H0.out).mono ?_
    rintro e w1 ⟨rfl, hb1⟩
    go_wp2_with fail
    go_ret
    exact ⟨rfl, hb1⟩
  obtain ⟨s, y, CA, CA'⟩ := bytes_both n f
  obtain ⟨z, m, g, hm, CB, CB'⟩ := back_both S s2
  have K1 := Lib.hid CA
  have K2 := Lib.hid CA'
  have K3 := Lib.hid CB
  have K4 := Lib.hid CB'
  clear CA CA' CB CB'
  go_enter Tryd.func4, Tryd.ntmps4
  go_wp2_with fail
  refine (shown_any _ H0.out).mono ?_
  rintro e w1 ⟨rfl, hb1⟩
  have T1 := Lib.hid (H0.out.next hb1)
  have A1 := Lib.hid (HA.out.next hb1)
  have E1 := Lib.hid hb1
  clear hb1
  go_wp2_with fail
  refine (K1.out _ _ A1.out n2 T1.out).mono ?_
  rintro e w2 ⟨rfl, hb2⟩
  have T2 := Lib.hid (T1.out.next hb2)
  have A2 := Lib.hid (A1.out.next hb2)
  have E2 := Lib.hid (bthen E1.out hb2)
  clear hb2
  go_wp2_with fail
  refine (K2.out _ _ A2.out n2).mono ?_
  rintro e w3 ⟨rfl, hb3⟩
  have T3 := Lib.hid (T2.out.next hb3)
  have E3 := Lib.hid (bthen E2.out hb3)
  clear hb3
  go_wp2_with fail
  refine (K3.out _ T3.out).mono ?_
  rintro e w4 ⟨x, rfl, hO4, hb4⟩
  have O4 := Lib.hid hO4
  have E4 := Lib.hid (bthen E3.out hb4)
  clear hO4 hb4
  go_wp2_with fail
  refine (K4.out _).mono ?_
  rintro e w5 ⟨x', rfl, hO5, hb5⟩
  have O5 := Lib.hid hO5
  have O4' := Lib.hid (O4.out.next hb5)
  have E5 := Lib.hid (bthen E4.out hb5)
  clear hO5 hb5
  go_wp2_with fail
  refine (same_t O4'.out O5.out (fun _ _ _ _ => rfl) hm).mono ?_
  rintro e w6 ⟨rfl, hb6⟩
  have E6 := Lib.hid (bthen E5.out hb6)
  clear hb6
  go_wp2_with fail
  go_ret
  exact ⟨rfl, E6.out⟩
end Go.Proofs.YtmedlebepgobeaaDoor
