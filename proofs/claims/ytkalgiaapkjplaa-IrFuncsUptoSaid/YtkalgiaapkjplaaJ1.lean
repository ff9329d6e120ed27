/- Package ir: the values that an instruction uses, of every operation; what stands in it that its operation asks for: pure. -/
import Derived.Test.YtkalgiaapkjplaaI4
namespace Go.Proofs.Ytkalgiaapkjplaa
open Go.RowKit

theorem drewN_below' (w : World) (n : Nat) : Below w.heap.size w (w.drewN n) := ⟨rfl, rfl, rfl, Nat.le_refl _, fun _ _ => rfl⟩
theorem jba_beq (x y : ByteArray) : (x == y) = true ↔ x = y := by
  rw [beq_toListBytes, beq_iff_eq, ByteArray.toList_eq, ByteArray.toList_eq]
  constructor
  · intro h
    obtain ⟨x⟩ := x
    obtain ⟨y⟩ := y
    congr 1
    exact Array.toList_inj.1 h
  · rintro rfl; rfl
theorem jba_refl (x : ByteArray) : (x == x) = true := (jba_beq x x).2 rfl
theorem usesL_nil {o a b : Int} {l : List Int} (h : ¬ (2 ≤ o ∧ o ≤ 11)) (h1 : o ≠ 13) (h2 : o ≠ 16) (h3 : o ≠ 14) : usesL o a b l = [] := by
  unfold usesL
  rw [if_neg h, if_neg (by omega), if_neg h3]
theorem uses_len (i : In) (h : i.l.length ≤ 6) : (usesI i).length ≤ 6 := by
  unfold usesI usesL
  split
  · simp
  · split
    · simp
    · split
      · exact h
      · simp
theorem aB_hasB_cases (o : Int) : (o = 1) ∨ (2 ≤ o ∧ o ≤ 11) ∨ o = 12 ∨ o = 13 ∨ o = 14 ∨ o = 16 ∨ ¬ (1 ≤ o ∧ o ≤ 14) ∧ o ≠ 16 := by omega
/-- right in all that its operation doesn't ask for -/
theorem same_asked (i : In) : sameI i (askedI i) = ((aB i.o || i.a == 0) && (bB i.o || i.b == 0) && (i.o == 1 || i.k == 0) && (i.o == 14 || decide (i.l = [])) && (hasB i.o || i.s == ByteArray.empty)) := by
  obtain ⟨o, a, b, k, s, l⟩ := i
  unfold sameI askedI
  simp only
  rw [show (o == o) = true from by simp]
  have ka : (a == if aB o = true then a else 0) = (aB o || a == 0) := by cases aB o <;> simp
  have kb : (b == if bB o = true then b else 0) = (bB o || b == 0) := by cases bB o <;> simp
  have kk : (k == if o = 1 then k else 0) = (o == 1 || k == 0) := by by_cases h : o = 1 <;> simp [h]
  have ks : (s == if hasB o = true then s else ByteArray.empty) = (hasB o || s == ByteArray.empty) := by cases hasB o <;> simp [jba_refl]
  have kl : decide (l = if o = 14 then l else []) = (o == 14 || decide (l = [])) := by by_cases h : o = 14 <;> simp [h]
  rw [ka, kb, kk, ks, kl]
  cases aB o || a == 0 <;> cases bB o || b == 0 <;> cases o == 1 || k == 0 <;> cases hasB o || s == ByteArray.empty <;> cases o == 14 || decide (l = []) <;> rfl
theorem inst_chain (n : Int) (i : In) : instB n i = (decide (1 ≤ i.o) && decide (i.o ≤ 16) && decide (i.l.length ≤ 6) && amongB n (usesI i) && (nameB i.s || !hasB i.o) && sameI i (askedI i)) := by
  rw [same_asked]
  unfold instB
  cases decide (1 ≤ i.o) && decide (i.o ≤ 16) && decide (i.l.length ≤ 6) && amongB n (usesI i) <;> cases hasB i.o <;> cases nameB i.s <;> cases aB i.o || i.a == 0 <;> cases bB i.o || i.b == 0 <;> cases i.o == 1 || i.k == 0 <;> cases i.o == 14 || decide (i.l = []) <;> cases i.s == ByteArray.empty <;> rfl
/-- an instruction as a value -/
def inV (i : In) (v : Value) : Value := .agg #[.int .i64 i.o, .int .i64 i.a, .int .i64 i.b, .int .u64 i.k, .string i.s, v]
set_option maxRecDepth 100000 in
set_option maxHeartbeats 1000000 in
theorem uses_nil (o a b k : Int) (s : ByteArray) (v : Value) (w : World) (h : ¬ (2 ≤ o ∧ o ≤ 11)) (h1 : o ≠ 13) (h2 : o ≠ 16) (h3 : o ≠ 14) :
    Calls Try.prog 106 #[.agg #[.int .i64 o, .int .i64 a, .int .i64 b, .int .u64 k, .string s, v]] w (NewInts [] w) := by
  have t2 : (o == 2) = false := by simp; omega
  have t3 : (o == 3) = false := by simp; omega
  have t4 : (o == 4) = false := by simp; omega
  have t5 : (o == 5) = false := by simp; omega
  have t6 : (o == 6) = false := by simp; omega
  have t7 : (o == 7) = false := by simp; omega
  have t8 : (o == 8) = false := by simp; omega
  have t9 : (o == 9) = false := by simp; omega
  have t10 : (o == 10) = false := by simp; omega
  have t11 : (o == 11) = false := by simp; omega
  have t13 : (o == 13) = false := by simpa using h1
  have t16 : (o == 16) = false := by simpa using h2
  have t14 : (o == 14) = false := by simpa using h3
  clear h h1 h2 h3
  go_enter Try.func106, Try.ntmps106
  go_wp2_with fail
  go_ret
  exact ⟨_, rfl, ⟨rfl, .inl ⟨rfl, rfl⟩⟩, balloc (Below.refl _ w) _⟩
/-- ir.Uses, of every instruction -/
theorem uses_any (i : In) (v : Value) (w : World) (hP : Ints w v i.l) (hn : i.l.length * 8 ≤ 140737488355328) :
    Calls Try.prog 106 #[inV i v] w (NewInts (usesI i) w) := by
  obtain ⟨o, a, b, k, s, l⟩ := i
  unfold inV usesI
  simp only at hP hn ⊢
  by_cases h : 2 ≤ o ∧ o ≤ 11
  · have e : usesL o a b l = [a, b] := by unfold usesL; rw [if_pos h]
    rw [e]
    obtain ⟨h1, h2⟩ := h
    have hc : o = 2 ∨ o = 3 ∨ o = 4 ∨ o = 5 ∨ o = 6 ∨ o = 7 ∨ o = 8 ∨ o = 9 ∨ o = 10 ∨ o = 11 := by omega
    rcases hc with rfl | rfl | rfl | rfl | rfl | rfl | rfl | rfl | rfl | rfl
    · exact uses_2 a b k s v w
    · exact uses_3 a b k s v w
    · exact uses_4 a b k s v w
    · exact uses_5 a b k s v w
    · exact uses_6 a b k s v w
    · exact uses_7 a b k s v w
    · exact uses_8 a b k s v w
    · exact uses_9 a b k s v w
    · exact uses_10 a b k s v w
    · exact uses_11 a b k s v w
  · by_cases h13 : o = 13
    · subst h13
      exact uses_13 a b k s v w
    · by_cases h16 : o = 16
      · subst h16
        exact uses_16 a b k s v w
      · by_cases h14 : o = 14
        · subst h14
          exact uses_14 a b k s v l w hP hn
        · rw [usesL_nil h h13 h16 h14]
          exact uses_nil o a b k s v w h h13 h16 h14
end Go.Proofs.Ytkalgiaapkjplaa
