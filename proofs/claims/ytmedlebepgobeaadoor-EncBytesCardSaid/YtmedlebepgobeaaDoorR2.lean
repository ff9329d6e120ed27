/- A walk of fixed of the document's answer for layer 1. -/
import Derived.Test.YtmedlebepgobeaaDoorR1
import Derived.Deep.AppendLies
import Derived.Deep.Cut
namespace Go.Proofs.YtmedlebepgobeaaDoor
open Go.RowKit

theorem f3_cells (w : World) (k : Nat) (hk : k < 32) : (w.alloc (.cells #[.int .u32 0, .int .u32 0, .int .u32 0, .int .u32 1, .int .u32 3, .int .u32 4, .int .u32 5, .int .u32 6, .int .u32 7, .int .u32 0, .int .u32 5, .int .u32 7, .int .u32 0, .int .u32 3, .int .u32 4, .int .u32 6, .int .u32 7, .int .u32 1, .int .u32 5, .int .u32 3, .int .u32 4, .int .u32 3, .int .u32 0, .int .u32 0, .int .u32 1, .int .u32 6, .int .u32 7, .int .u32 0, .int .u32 0, .int .u32 0, .int .u32 0, .int .u32 0] 24)).cell? ⟨w.heap.size, k, none⟩ = some (.int .u32 (M.f3 k)) := by
  have h := World.news_of_block (cs := #[.int .u32 0, .int .u32 0, .int .u32 0, .int .u32 1, .int .u32 3, .int .u32 4, .int .u32 5, .int .u32 6, .int .u32 7, .int .u32 0, .int .u32 5, .int .u32 7, .int .u32 0, .int .u32 3, .int .u32 4, .int .u32 6, .int .u32 7, .int .u32 1, .int .u32 5, .int .u32 3, .int .u32 4, .int .u32 3, .int .u32 0, .int .u32 0, .int .u32 1, .int .u32 6, .int .u32 7, .int .u32 0, .int .u32 0, .int .u32 0, .int .u32 0, .int .u32 0]) (t := 24) (fr := (0, 0)) (heap_alloc_new w (.cells #[.int .u32 0, .int .u32 0, .int .u32 0, .int .u32 1, .int .u32 3, .int .u32 4, .int .u32 5, .int .u32 6, .int .u32 7, .int .u32 0, .int .u32 5, .int .u32 7, .int .u32 0, .int .u32 3, .int .u32 4, .int .u32 6, .int .u32 7, .int .u32 1, .int .u32 5, .int .u32 3, .int .u32 4, .int .u32 3, .int .u32 0, .int .u32 0, .int .u32 1, .int .u32 6, .int .u32 7, .int .u32 0, .int .u32 0, .int .u32 0, .int .u32 0, .int .u32 0] 24)) k (.int .u32 (M.f3 k))
  have hl : (#[.int .u32 0, .int .u32 0, .int .u32 0, .int .u32 1, .int .u32 3, .int .u32 4, .int .u32 5, .int .u32 6, .int .u32 7, .int .u32 0, .int .u32 5, .int .u32 7, .int .u32 0, .int .u32 3, .int .u32 4, .int .u32 6, .int .u32 7, .int .u32 1, .int .u32 5, .int .u32 3, .int .u32 4, .int .u32 3, .int .u32 0, .int .u32 0, .int .u32 1, .int .u32 6, .int .u32 7, .int .u32 0, .int .u32 0, .int .u32 0, .int .u32 0, .int .u32 0] : Array Value).toList = (List.range 32).map fun k => Value.int .u32 (M.f3 k) := rfl
  rw [hl] at h
  have h2 := h (by simp [hk])
  have ha : (⟨w.heap.size, 0, none⟩ : Addr).add k = ⟨w.heap.size, k, none⟩ := by unfold Addr.add; split <;> simp_all
  rw [ha] at h2
  exact h2
set_option maxRecDepth 100000 in
set_option maxHeartbeats 8000000 in
theorem fixed_any (k : Nat) (k1 : 1 ≤ k) (k2 : k < 32) (w : World) : Calls Tryd.prog 26 #[.int .i64 k] w fun e w' => e = .returned (.int .u32 (M.op k + 4096 * M.f3 k + 33554432 * M.f7 k)) ∧ Below w.heap.size w w' := by
  have hc := f3_cells w k k2
  have hb := Lib.hid ((Below.refl w.heap.size w).alloc (Nat.le_refl _) (.cells #[.int .u32 0, .int .u32 0, .int .u32 0, .int .u32 1, .int .u32 3, .int .u32 4, .int .u32 5, .int .u32 6, .int .u32 7, .int .u32 0, .int .u32 5, .int .u32 7, .int .u32 0, .int .u32 3, .int .u32 4, .int .u32 6, .int .u32 7, .int .u32 1, .int .u32 5, .int .u32 3, .int .u32 4, .int .u32 3, .int .u32 0, .int .u32 0, .int .u32 1, .int .u32 6, .int .u32 7, .int .u32 0, .int .u32 0, .int .u32 0, .int .u32 0, .int .u32 0] 24))
  obtain ⟨g0, g1⟩ := M.f3_in k2
  go_enter Tryd.func26, Tryd.ntmps26
  go_upto_region 2 with (fail)
  obtain ⟨w1, hw1⟩ : ∃ w1, w1 = w.alloc (.cells #[.int .u32 0, .int .u32 0, .int .u32 0, .int .u32 1, .int .u32 3, .int .u32 4, .int .u32 5, .int .u32 6, .int .u32 7, .int .u32 0, .int .u32 5, .int .u32 7, .int .u32 0, .int .u32 3, .int .u32 4, .int .u32 6, .int .u32 7, .int .u32 1, .int .u32 5, .int .u32 3, .int .u32 4, .int .u32 3, .int .u32 0, .int .u32 0, .int .u32 1, .int .u32 6, .int .u32 7, .int .u32 0, .int .u32 0, .int .u32 0, .int .u32 0, .int .u32 0] 24) := ⟨_, rfl⟩
  rw [← hw1] at hc hb ⊢
  clear hw1
  rcases kind_list k1 k2 with rfl | rfl | rfl | rfl | rfl | rfl | rfl | rfl | rfl | rfl | rfl | rfl | rfl | rfl | rfl | rfl | rfl | rfl | rfl | rfl | rfl | rfl | rfl | rfl | rfl | rfl | rfl | rfl | rfl | rfl | rfl
  all_goals
    clear k1 k2
    go_wp2
    go_ret
    exact ⟨rfl, hb.out⟩
end Go.Proofs.YtmedlebepgobeaaDoor
