/- Package ir: small questions; are all of these 0 to n less 1? -/
import Derived.Test.YtkalgiaapkjplaaP2
import Derived.Test.YtkalgiaapkjplaaP1
namespace Go.Proofs.Ytkalgiaapkjplaa
open Go.RowKit

/-- a row of ints -/
def Ints (W : World) (v : Value) (l : List Int) : Prop :=
  (l = [] ∧ (v = .slice none 0 0 ∨ ∃ a cap, v = .slice (some a) 0 cap)) ∨ (0 < l.length ∧ ∃ b off cap, v = .slice (some ⟨b, off, none⟩) l.length cap ∧ b < W.heap.size ∧ ∀ (i : Nat) (h : i < l.length), W.cell? ⟨b, off + i, none⟩ = some (.int .i64 l[i]))
theorem Ints.next {W W' : World} {v : Value} {l : List Int} (h : Ints W v l) (hb : Below W.heap.size W W') : Ints W' v l := by
  rcases h with h | ⟨h0, b, off, cap, rfl, h1, h2⟩
  · exact .inl h
  · exact .inr ⟨h0, b, off, cap, rfl, Nat.lt_of_lt_of_le h1 hb.size, fun i hi => (World.cell?_of_block (hb.block b h1)).trans (h2 i hi)⟩
theorem Ints.slice {W : World} {v : Value} {l : List Int} (h : Ints W v l) : ∃ A cap, v = .slice A l.length cap := by
  rcases h with ⟨rfl, rfl | ⟨a, cap, rfl⟩⟩ | ⟨_, b, off, cap, rfl, _⟩
  · exact ⟨_, _, rfl⟩
  · exact ⟨_, _, rfl⟩
  · exact ⟨_, _, rfl⟩
theorem Ints.len {W : World} {A : Option Addr} {n cap : Nat} {l : List Int} (h : Ints W (.slice A n cap) l) : l.length = n := by
  obtain ⟨A', c', e⟩ := h.slice
  exact (Value.slice.inj e).2.1.symm
theorem Ints.at_ {W : World} {A : Option Addr} {n cap : Nat} {l : List Int} (h : Ints W (.slice A n cap) l) {i : Nat} (hi : i < l.length) : ∃ b off, A = some ⟨b, off, none⟩ ∧ W.cell? ⟨b, off + i, none⟩ = some (.int .i64 l[i]) := by
  rcases h with ⟨rfl, -⟩ | ⟨_, b, off, c, e, _, h2⟩
  · simp at hi
  · exact ⟨b, off, (Value.slice.inj e).1, h2 i hi⟩
theorem hasName_any (op : Int) (w : World) : Calls Try.prog 45 #[.int .i64 op] w fun e w' => e = .returned (.bool (op == 12 || op == 13 || op == 14)) ∧ w = w' := by
  by_cases h1 : op = 12
  · subst h1
    go_enter Try.func45, Try.ntmps45
    go_wp2_with fail
    go_ret
    exact ⟨rfl, rfl⟩
  · have t1 : (op == 12) = false := by simpa using h1
    by_cases h2 : op = 13
    · subst h2
      go_enter Try.func45, Try.ntmps45
      go_wp2_with fail
      go_ret
      exact ⟨rfl, rfl⟩
    · have t2 : (op == 13) = false := by simpa using h2
      rw [t1, t2]
      clear h1 h2
      go_enter Try.func45, Try.ntmps45
      go_wp2_with fail
      go_ret
      exact ⟨by simp, rfl⟩
/-- all of them 0 to n less 1 -/
def amongB (n : Int) (l : List Int) : Bool := l.all (fun v => decide (0 ≤ v) && decide (v < n))
set_option maxRecDepth 100000 in
set_option maxHeartbeats 1000000 in
theorem among_any (k : Int) (l : List Int) (A : Option Addr) (n cap : Nat) (w : World) (hS : Ints w (.slice A n cap) l) (hn : n ≤ 9223372036854775807) :
    Calls Try.prog 105 #[.int .i64 k, .slice A n cap] w fun e w' => e = .returned (.bool (amongB k l)) ∧ Below w.heap.size w w' := by
  have HN := Lib.hid hS.len
  have HS := Lib.hid hS
  have n1 : (n : Int) ≤ 9223372036854775807 := by omega
  clear hS hn
  go_enter Try.func105, Try.ntmps105
  go_wp2_with fail
  go_loopw [9] (fun iv wr => ∃ i : Nat, i ≤ n ∧ iv = .int .i64 i ∧ amongB k (l.take i) = true ∧ w = wr) (fun iv _ => n - (intOf iv).toNat)
  case atStart => exact ⟨0, Nat.zero_le _, rfl, rfl, rfl⟩
  case round =>
    obtain ⟨i, hi, rfl, hs, rfl⟩ := hrel
    have HT := Lib.hid hs
    clear hs
    by_cases hlt : i < n
    · have hm : i < l.length := by rw [HN.out]; exact hlt
      obtain ⟨b, off, hA, e0⟩ := HS.out.at_ hm
      subst hA
      have HNX := Lib.hid (show amongB k (l.take (i + 1)) = (decide (0 ≤ l[i]) && decide (l[i] < k)) by
        have h := HT.out
        unfold amongB at h ⊢
        rw [List.take_succ_eq_append_getElem hm, List.all_append, h]
        simp)
      have HNO := Lib.hid (show (decide (0 ≤ l[i]) && decide (l[i] < k)) = false → amongB k l = false from fun h => by
        unfold amongB
        rw [List.all_eq_false]
        exact ⟨l[i], List.getElem_mem hm, by simpa using h⟩)
      obtain ⟨x, hx⟩ : ∃ x, l[i] = x := ⟨_, rfl⟩
      rw [hx] at e0 HNX HNO
      have hk0 : (0 : Int) ≤ (i : Int) := Int.natCast_nonneg _
      have hk1 : (i : Int) < (n : Int) := by omega
      have HLT := Lib.hid hlt
      clear hx hm hlt
      by_cases h0 : x < 0
      · have t0 : decide (x < 0) = true := decide_eq_true h0
        have HF := Lib.hid (HNO.out (by simp; omega))
        go_wp2_with fail
        go_ret
        exact ⟨by rw [HF.out]; rfl, Below.refl _ _⟩
      · have t0 : decide (x < 0) = false := decide_eq_false h0
        by_cases h1 : k ≤ x
        · have t1 : decide (k ≤ x) = true := decide_eq_true h1
          have HF := Lib.hid (HNO.out (by simp; omega))
          go_wp2_with fail
          go_ret
          exact ⟨by rw [HF.out]; rfl, Below.refl _ _⟩
        · have t1 : decide (k ≤ x) = false := decide_eq_false h1
          have HF := Lib.hid (show amongB k (l.take (i + 1)) = true by rw [HNX.out]; simp; omega)
          go_wp2_with fail
          go_roundw
          case rel => exact ⟨i + 1, by have := HLT.out; omega, by go_num, HF.out, trivial⟩
          case measure => have := HLT.out; simp [intOf]; omega
    · have hd : decide ((i : Int) < (n : Int)) = false := by simp; omega
      have HF := Lib.hid (show amongB k l = true by
        have h := HT.out
        rwa [List.take_of_length_le (by have := HN.out; omega)] at h)
      go_wp2_with fail
      go_ret
      exact ⟨by rw [HF.out]; rfl, Below.refl _ _⟩
end Go.Proofs.Ytkalgiaapkjplaa
