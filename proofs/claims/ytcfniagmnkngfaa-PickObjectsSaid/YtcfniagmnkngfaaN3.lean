/- The reference of package ir: is an instruction right among so many values? All classes. -/
import Derived.Test.YtcfniagmnkngfaaBN
import Derived.Test.YtcfniagmnkngfaaN2r
import Derived.Test.YtcfniagmnkngfaaN2s
import Derived.Test.YtcfniagmnkngfaaN2t
import Derived.Test.YtcfniagmnkngfaaN2u
namespace Go.Proofs.Ytcfniagmnkngfaa
open Go.RowKit

theorem refInst_any (i : In) (n : Int) (A : Option Addr) (cap : Nat) (w : World) (hS : Ints w (.slice A i.l.length cap) i.l) (hn : i.l.length * 8 ≤ 140737488355328) (hs : i.s.size < 9223372036854775808) :
    Calls Try.prog 135 #[inV i (.slice A i.l.length cap), .int .i64 n] w fun e w' => e = .returned (.bool (instB n i)) ∧ Below w.heap.size w w' := by
  have hc : (i.o < 1 ∨ 16 < i.o) ∨ i.o = 1 ∨ i.o = 2 ∨ i.o = 3 ∨ i.o = 4 ∨ i.o = 5 ∨ i.o = 6 ∨ i.o = 7 ∨ i.o = 8 ∨ i.o = 9 ∨ i.o = 10 ∨ i.o = 11 ∨ i.o = 12 ∨ i.o = 13 ∨ i.o = 14 ∨ i.o = 15 ∨ i.o = 16 := by omega
  rcases hc with h | h | h | h | h | h | h | h | h | h | h | h | h | h | h | h | h
  · exact refInst_out i n A cap w hS hn hs h
  · exact refInst_a i n A cap w hS hn hs h
  · exact refInst_g i n A cap w hS hn hs h
  · exact refInst_h i n A cap w hS hn hs h
  · exact refInst_i i n A cap w hS hn hs h
  · exact refInst_j i n A cap w hS hn hs h
  · exact refInst_k i n A cap w hS hn hs h
  · exact refInst_l i n A cap w hS hn hs h
  · exact refInst_m i n A cap w hS hn hs h
  · exact refInst_n i n A cap w hS hn hs h
  · exact refInst_p i n A cap w hS hn hs h
  · exact refInst_q i n A cap w hS hn hs h
  · exact refInst_b i n A cap w hS hn hs h
  · exact refInst_c i n A cap w hS hn hs h
  · exact refInst_d i n A cap w hS hn hs h
  · exact refInst_e i n A cap w hS hn hs h
  · exact refInst_f i n A cap w hS hn hs h
end Go.Proofs.Ytcfniagmnkngfaa
