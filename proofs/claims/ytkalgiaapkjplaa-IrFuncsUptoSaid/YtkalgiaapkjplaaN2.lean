/- The reference of package ir: is an instruction right among so many values? -/
import Derived.Test.YtkalgiaapkjplaaN1
namespace Go.Proofs.Ytkalgiaapkjplaa
open Go.RowKit

theorem instB_is (n o a b k : Int) (s : ByteArray) (l : List Int) : instB n ⟨o, a, b, k, s, l⟩ = (decide (1 ≤ o) && decide (o ≤ 16) && decide (l.length ≤ 6) && amongB n (usesI ⟨o, a, b, k, s, l⟩) && (aB o || a == 0) && (bB o || b == 0) && (o == 1 || k == 0) && (o == 14 || decide (l = [])) && (if hasB o then nameB s else s == ByteArray.empty)) := rfl
theorem ba_empty (s : ByteArray) : (s.toList == (⟨#[]⟩ : ByteArray).toList) = (s == ByteArray.empty) := (beq_toListBytes s _).symm
theorem ba_e0 : (⟨#[]⟩ : ByteArray).toList = [] := by first | rfl | decide | simp | (unfold ByteArray.toList ByteArray.toList.loop; simp)
theorem ba_isEmpty (s : ByteArray) : s.toList.isEmpty = (s == ByteArray.empty) := by
  rw [← ba_empty, ba_e0]; cases s.toList <;> rfl
end Go.Proofs.Ytkalgiaapkjplaa
