/- Package pick: files that may be linked have no error: pure. -/
import Derived.Test.YtcfniagmnkngfaaRE
namespace Go.Proofs.Ytcfniagmnkngfaa
open Go.RowKit

theorem firstE_all : ∀ {ms : List Md}, (∀ m ∈ ms, checkE m = 0) → firstE ms = 0
  | [], _ => rfl
  | x :: ms, h => by
    unfold firstE
    rw [if_pos (h x (by simp))]
    exact firstE_all (fun m hm => h m (by simp [hm]))
theorem good_zero {l : List Fl} (hg : Good l) : pickE l = 0 := by
  unfold pickE
  rw [if_neg (by have := hg.n8; have := hg.m16; omega), if_neg (by rw [hg.one]; simp)]
  refine firstE_all (fun m hm => ?_)
  obtain ⟨ms, hms, hm⟩ := List.mem_flatten.1 hm
  obtain ⟨f, hf, rfl⟩ := List.mem_map.1 hms
  exact hg.right f hf m hm
end Go.Proofs.Ytcfniagmnkngfaa
