/- Package bit: a reader: a thing that is made of what is taken. -/
import Derived.Test.YtjldddpchiaalaaUE
import Derived.Test.YtjldddpchiaalaaUF1
import Derived.Test.YtjldddpchiaalaaUF2
import Derived.Test.YtjldddpchiaalaaUF3
namespace Go.Proofs.Ytjldddpchiaalaa
open Go.RowKit
namespace Q

theorem end_any {rb : Nat} {r : St} {W : World} (h : Rd W rb r) : Calls Try.prog 78 #[.pointer (some ⟨rb, 0, none⟩)] W fun e w' => ∃ val, e = .returned val ∧ EpTm (endR r).1 W.heap.size w' val ∧ RdTo W rb (endR r).2 w' := by
  have hle := bet_le (lo := 1) (hi := 3) (e := 3) (by decide) r
  unfold endR
  obtain ⟨⟨k, q⟩, hq⟩ : ∃ t, betweenR 1 3 3 r = t := ⟨_, rfl⟩
  rw [hq] at hle ⊢
  dsimp only at hle ⊢
  have hk : k = 0 ∨ k = 1 ∨ k = 2 ∨ k = 3 := by omega
  rcases hk with rfl | rfl | rfl | rfl
  · exact end_0 h hq
  · exact end_1 h hq
  · exact end_2 h hq
  · exact end_3 h hq
theorem inst_any {rb : Nat} {r : St} {W : World} (h : Rd W rb r) : Calls Try.prog 77 #[.pointer (some ⟨rb, 0, none⟩)] W fun e w' => ∃ val, e = .returned val ∧ EpIn (instR r).1 W.heap.size w' val ∧ RdTo W rb (instR r).2 w' := by
  have hle := bet_le (lo := 1) (hi := 16) (e := 3) (by decide) r
  unfold instR
  obtain ⟨⟨k, q⟩, hq⟩ : ∃ t, betweenR 1 16 3 r = t := ⟨_, rfl⟩
  rw [hq] at hle ⊢
  dsimp only at hle ⊢
  have hk : k = 0 ∨ k = 1 ∨ k = 2 ∨ k = 3 ∨ k = 4 ∨ k = 5 ∨ k = 6 ∨ k = 7 ∨ k = 8 ∨ k = 9 ∨ k = 10 ∨ k = 11 ∨ k = 12 ∨ k = 13 ∨ k = 14 ∨ k = 15 ∨ k = 16 := by omega
  rcases hk with rfl | rfl | rfl | rfl | rfl | rfl | rfl | rfl | rfl | rfl | rfl | rfl | rfl | rfl | rfl | rfl | rfl
  · exact inst_0 h hq
  · exact inst_1 h hq
  · exact inst_2 h hq
  · exact inst_3 h hq
  · exact inst_4 h hq
  · exact inst_5 h hq
  · exact inst_6 h hq
  · exact inst_7 h hq
  · exact inst_8 h hq
  · exact inst_9 h hq
  · exact inst_10 h hq
  · exact inst_11 h hq
  · exact inst_12 h hq
  · exact inst_13 h hq
  · exact inst_14 h hq
  · exact inst_15 h hq
  · exact inst_16 h hq
end Q
end Go.Proofs.Ytjldddpchiaalaa
