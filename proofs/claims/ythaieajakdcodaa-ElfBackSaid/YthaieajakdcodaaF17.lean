/- Package elf, read: bytes cut out of a file; numbers taken one after the other. -/
import Derived.Test.YthaieajakdcodaaF16
import Derived.Laws.Shifts
import Derived.Laws.Bits64b
namespace Go.Proofs.Ythaieajakdcodaa
open Go.RowKit

/-- the bytes are there: none wanted, or all of them inside -/
def cutB (S : ByteArray) (f n : Nat) : Bool := decide (n = 0 ∨ f + n ≤ S.size)
def cutL (S : ByteArray) (f n : Nat) : ByteArray := if cutB S f n = true ∧ n ≠ 0 then S.extract f (f + n) else ⟨#[]⟩
set_option maxRecDepth 100000 in
set_option maxHeartbeats 1000000 in
theorem cut_any (S : ByteArray) (f n : Nat) (w : World) (hs : S.size < 9223372036854775808) (hf : f < 18446744073709551616) (hn : n < 18446744073709551616) :
    Calls Try.prog 119 #[.string S, .int .u64 f, .int .u64 n] w fun e w' => e = .returned (.tuple #[.string (cutL S f n), .bool (cutB S f n)]) ∧ w = w' := by
  obtain ⟨z, hz⟩ : ∃ z, S.size = z := ⟨_, rfl⟩
  have hc : IntKind.u64.wrap ((z : Nat) : Int) = (z : Int) := by rw [IntKind.wrap_u64]; omega
  have hz0 : (z : Int) < 9223372036854775808 := by omega
  by_cases h0 : n = 0
  · subst h0
    have hL : cutL S f 0 = ⟨#[]⟩ := by simp [cutL]
    have hB : cutB S f 0 = true := by simp [cutB]
    rw [hL, hB]
    clear hL hB
    go_enter Try.func119, Try.ntmps119
    go_wp2_with fail
    go_ret2
    exact ⟨rfl, rfl⟩
  · have e0 : ((n : Int) == 0) = false := by simp; omega
    by_cases h1 : f > z
    · have hB : cutB S f n = false := by simp [cutB]; omega
      have hL : cutL S f n = ⟨#[]⟩ := by simp [cutL, hB]
      have e1 : decide ((z : Int) < (f : Int)) = true := by simp; omega
      rw [hL, hB]
      clear hL hB
      go_enter Try.func119, Try.ntmps119
      go_wp2_with fail
      go_ret2
      exact ⟨rfl, rfl⟩
    · have e1 : decide ((z : Int) < (f : Int)) = false := by simp; omega
      have hw : IntKind.u64.wrap ((z : Int) - (f : Int)) = (z : Int) - (f : Int) := by rw [IntKind.wrap_u64]; omega
      by_cases h2 : n > z - f
      · have hB : cutB S f n = false := by simp [cutB]; omega
        have hL : cutL S f n = ⟨#[]⟩ := by simp [cutL, hB]
        have e2 : decide ((z : Int) - (f : Int) < (n : Int)) = true := by simp; omega
        rw [hL, hB]
        clear hL hB
        go_enter Try.func119, Try.ntmps119
        go_wp2_with fail
        go_ret2
        exact ⟨rfl, rfl⟩
      · have hB : cutB S f n = true := by simp [cutB]; omega
        have hL : cutL S f n = S.extract f (f + n) := by simp [cutL, hB, h0]
        have e2 : decide ((z : Int) - (f : Int) < (n : Int)) = false := by simp; omega
        have hw2 : IntKind.u64.wrap ((f : Int) + (n : Int)) = (f : Int) + (n : Int) := by rw [IntKind.wrap_u64]; omega
        have i0 : (0 : Int) ≤ (f : Int) := by omega
        have i1 : (f : Int) ≤ (f : Int) + (n : Int) := by omega
        have i2 : (f : Int) + (n : Int) ≤ (z : Int) := by omega
        rw [hL, hB]
        clear hL hB
        go_enter Try.func119, Try.ntmps119
        go_wp2_with fail
        go_ret2
        exact ⟨rfl, rfl⟩
theorem pow256b (k : Nat) : 2 ^ (8 * k) = 256 ^ k := by rw [Nat.pow_mul]
/-- one byte more, above all the others -/
theorem or_byte2 (v : Int) (b k : Nat) (v0 : 0 ≤ v) (v1 : v < 256 ^ k) (hb : b < 256) (hk : k < 8) :
    bits BinOp.or IntKind.u64 v (IntKind.u64.wrap (IntKind.u64.wrap (b : Int) * 2 ^ (8 * k))) = v + (b : Int) * 256 ^ k := by
  obtain ⟨n, rfl⟩ := Int.eq_ofNat_of_zero_le v0
  have hp : (256 : Nat) ^ k ≤ 256 ^ 7 := Nat.pow_le_pow_right (by omega) (by omega)
  have hbp : b * 256 ^ k ≤ 255 * 256 ^ 7 := Nat.mul_le_mul (by omega) hp
  have hv : n < 256 ^ k := Int.ofNat_lt.1 (by rw [Int.natCast_pow]; exact v1)
  have e1 : IntKind.u64.wrap (b : Int) = b := by rw [IntKind.wrap_u64]; omega
  have e2 : (b : Int) * 2 ^ (8 * k) = ((b * 256 ^ k : Nat) : Int) := by rw [← pow256b, Int.natCast_mul, Int.natCast_pow]; rfl
  have e3 : IntKind.u64.wrap ((b * 256 ^ k : Nat) : Int) = ((b * 256 ^ k : Nat) : Int) := by rw [IntKind.wrap_u64]; omega
  rw [e1, e2, e3, bits_or_u64_nat n (b * 256 ^ k) (by omega) (by omega)]
  have e4 : n ||| b * 256 ^ k = b * 256 ^ k + n := by
    rw [← pow256b, Nat.or_comm, Nat.mul_comm b]
    exact (Nat.two_pow_add_eq_or_of_lt (by rw [pow256b]; exact hv) b).symm
  rw [e4, Int.natCast_add, Int.natCast_mul, Int.natCast_pow]
  exact Int.add_comm _ _
theorem take_snoc2 (s : ByteArray) (k : Nat) (h : k < s.size) : s.data.toList.take (k + 1) = s.data.toList.take k ++ [s[k]] := by
  rw [List.take_succ_eq_append_getElem (by simpa using h)]; rfl
/-- the bytes that are still to be taken -/
def Left (W : World) (B : Nat) (S : ByteArray) : Prop := W.heap[B]? = some (.cells #[.string S] 9 (0, 0))
theorem Left.c0 {W : World} {B : Nat} {S : ByteArray} (h : Left W B S) : W.cell? ⟨B, 0, none⟩ = some (.string S) := by rw [Lib.cell_of_heap h]; rfl
/-- only the bytes that are still to be taken have changed -/
structure Took (B : Nat) (w W : World) (S : ByteArray) : Prop where
  left : Left W B S
  bel : Below B w W
  size : W.heap.size = w.heap.size
  other : ∀ k, k ≠ B → W.heap[k]? = w.heap[k]?
theorem Took.trans {B : Nat} {w W W' : World} {S S' : ByteArray} (h : Took B w W S) (h' : Took B W W' S') : Took B w W' S' :=
  ⟨h'.left, h.bel.trans h'.bel, h'.size.trans h.size, fun k hk => (h'.other k hk).trans (h.other k hk)⟩
theorem Left.took {W : World} {B : Nat} {S : ByteArray} (h : Left W B S) (S' : ByteArray) : Took B W (W.setCell ⟨B, 0, none⟩ (.string S')) S' := by
  have hlt : B < W.heap.size := (Array.getElem?_eq_some_iff.1 h).1
  refine ⟨?_, (Below.refl _ _).setCell (p := ⟨B, 0, none⟩) (by simp) _, by simp [World.setCell], fun k hk => Below.heap_setCell _ _ _ _ (fun e => hk (by simp [e]))⟩
  unfold Left at h ⊢
  unfold World.setCell
  simp [Array.getElem?_modify, h]
theorem Left.free {W : World} {B : Nat} {S : ByteArray} (h : Left W B S) : W.frozen? ⟨B, 0, none⟩ = false := Lib.frozen_of_heap h 0
set_option maxRecDepth 100000 in
set_option maxHeartbeats 2000000 in
theorem next_any (S : ByteArray) (N B : Nat) (w : World) (hB : Left w B S) (hN : N ≤ S.size) (h8 : N ≤ 8) (hs : S.size < 9223372036854775808) :
    Calls Try.prog 118 #[.int .i64 N, .pointer (some ⟨B, 0, none⟩)] w fun e w' => e = .returned (.int .u64 (M.num (S.data.toList.take N))) ∧ Took B w w' (S.extract N S.size) := by
  have HB := Lib.hid hB
  have c0 := hB.c0
  have hN0 : (N : Int) ≤ 8 := by omega
  clear hB
  go_enter Try.func118, Try.ntmps118
  go_wp2_with fail
  go_loop [4, 7] (fun v i => ∃ k : Nat, k ≤ N ∧ i = .int .i64 k ∧ v = .int .u64 (M.num (S.data.toList.take k))) (fun _ i => N - (intOf i).toNat)
  case atStart => exact ⟨0, Nat.zero_le _, rfl, rfl⟩
  case round =>
    obtain ⟨k, hk, rfl, rfl⟩ := hrel
    by_cases hlt : k < N
    · have hks : k < S.size := by omega
      have v0 := M.num_nonneg (S.data.toList.take k)
      have v1 := M.num_lt (S.data.toList.take k)
      rw [List.length_take_of_le (by simp; omega)] at v1
      have HN := Lib.hid (M.num_snoc (S.data.toList.take k) S[k])
      rw [← take_snoc2 S k hks, List.length_take_of_le (by simp; omega)] at HN
      have HO := Lib.hid (or_byte2 _ S[k].toNat k v0 v1 S[k].toNat_lt (by omega))
      obtain ⟨v, hv⟩ : ∃ v, M.num (S.data.toList.take k) = v := ⟨_, rfl⟩
      rw [hv] at v0 HN HO ⊢
      clear hv v1
      go_wp2_with fail
      go_round
      case rel => exact ⟨k + 1, by omega, by go_num, by rw [HN.out, HO.out]⟩
      case measure => simp [intOf]; omega
    · obtain rfl : k = N := by omega
      obtain ⟨v, hv⟩ : ∃ v, M.num (S.data.toList.take k) = v := ⟨_, rfl⟩
      rw [hv]
      have f0 := HB.out.free
      go_wp2_with fail
      go_ret
      exact ⟨rfl, HB.out.took _⟩
end Go.Proofs.Ythaieajakdcodaa
