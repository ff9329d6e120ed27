/- Walks of kindOf, takeAs and Take of package enc. -/
import Derived.Test.YtmedlebepgobeaaDoorW2
import Derived.Outline
import Derived.StillTailTactics
namespace Go.Proofs.YtmedlebepgobeaaDoor
open Go.RowKit

set_option maxHeartbeats 400000 in
theorem kind_0 (v : Int) (w : World) (v0 : 0 ≤ v) (v1 : v < 4294967296) :
    Calls Tryd.prog 29 #[.int .u32 v, .int .i64 0] w fun e w' => e = .returned (.agg #[.int .i64 0, .int .u32 (v % 128), .int .u32 (v / 4096 % 8), .int .u32 (v / 33554432 % 128)]) ∧ Below w.heap.size w w' := by
  have h1 := Lib.hid (M.and127 v0 v1)
  have h2 := Lib.hid (M.and7 (x := v / 4096) (by omega) (by omega))
  have h3 := Lib.hid (M.and127 (x := v / 33554432) (by omega) (by omega))
  go_enter Tryd.func29, Tryd.ntmps29
  go_wp2
  rw [← h1.out, ← h2.out, ← h3.out]
  exact bodyPost_ret (v := .agg #[.int .i64 0, .int .u32 (bits .and .u32 v 127), .int .u32 (bits .and .u32 (v / 4096) 7), .int .u32 (bits .and .u32 (v / 33554432) 127)]) (by simp [results, Tryd.results29, go_sem]) rfl ⟨rfl, ((Below.refl _ _).alloc (Nat.le_refl _) _).alloc (by simp) _⟩

set_option maxHeartbeats 400000 in
theorem kind_1 (v : Int) (w : World) (v0 : 0 ≤ v) (v1 : v < 4294967296) :
    Calls Tryd.prog 29 #[.int .u32 v, .int .i64 1] w fun e w' => e = .returned (.agg #[.int .i64 1, .int .u32 (v % 128), .int .u32 (v / 4096 % 8), .int .u32 (0)]) ∧ Below w.heap.size w w' := by
  have h1 := Lib.hid (M.and127 v0 v1)
  have h2 := Lib.hid (M.and7 (x := v / 4096) (by omega) (by omega))
  have h3 := Lib.hid (M.and127 (x := v / 33554432) (by omega) (by omega))
  go_enter Tryd.func29, Tryd.ntmps29
  go_wp2
  rw [← h1.out, ← h2.out]
  exact bodyPost_ret (v := .agg #[.int .i64 1, .int .u32 (bits .and .u32 v 127), .int .u32 (bits .and .u32 (v / 4096) 7), .int .u32 (0)]) (by simp [results, Tryd.results29, go_sem]) rfl ⟨rfl, ((Below.refl _ _).alloc (Nat.le_refl _) _).alloc (by simp) _⟩

set_option maxHeartbeats 400000 in
theorem kind_2 (v : Int) (w : World) (v0 : 0 ≤ v) (v1 : v < 4294967296) :
    Calls Tryd.prog 29 #[.int .u32 v, .int .i64 2] w fun e w' => e = .returned (.agg #[.int .i64 2, .int .u32 (v % 128), .int .u32 (v / 4096 % 8), .int .u32 (0)]) ∧ Below w.heap.size w w' := by
  have h1 := Lib.hid (M.and127 v0 v1)
  have h2 := Lib.hid (M.and7 (x := v / 4096) (by omega) (by omega))
  have h3 := Lib.hid (M.and127 (x := v / 33554432) (by omega) (by omega))
  go_enter Tryd.func29, Tryd.ntmps29
  go_wp2
  rw [← h1.out, ← h2.out]
  exact bodyPost_ret (v := .agg #[.int .i64 2, .int .u32 (bits .and .u32 v 127), .int .u32 (bits .and .u32 (v / 4096) 7), .int .u32 (0)]) (by simp [results, Tryd.results29, go_sem]) rfl ⟨rfl, ((Below.refl _ _).alloc (Nat.le_refl _) _).alloc (by simp) _⟩

set_option maxHeartbeats 400000 in
theorem kind_3 (v : Int) (w : World) (v0 : 0 ≤ v) (v1 : v < 4294967296) :
    Calls Tryd.prog 29 #[.int .u32 v, .int .i64 3] w fun e w' => e = .returned (.agg #[.int .i64 3, .int .u32 (v % 128), .int .u32 (v / 4096 % 8), .int .u32 (0)]) ∧ Below w.heap.size w w' := by
  have h1 := Lib.hid (M.and127 v0 v1)
  have h2 := Lib.hid (M.and7 (x := v / 4096) (by omega) (by omega))
  have h3 := Lib.hid (M.and127 (x := v / 33554432) (by omega) (by omega))
  go_enter Tryd.func29, Tryd.ntmps29
  go_wp2
  rw [← h1.out, ← h2.out]
  exact bodyPost_ret (v := .agg #[.int .i64 3, .int .u32 (bits .and .u32 v 127), .int .u32 (bits .and .u32 (v / 4096) 7), .int .u32 (0)]) (by simp [results, Tryd.results29, go_sem]) rfl ⟨rfl, ((Below.refl _ _).alloc (Nat.le_refl _) _).alloc (by simp) _⟩

set_option maxHeartbeats 400000 in
theorem kind_4 (v : Int) (w : World) (v0 : 0 ≤ v) (v1 : v < 4294967296) :
    Calls Tryd.prog 29 #[.int .u32 v, .int .i64 4] w fun e w' => e = .returned (.agg #[.int .i64 4, .int .u32 (v % 128), .int .u32 (v / 4096 % 8), .int .u32 (0)]) ∧ Below w.heap.size w w' := by
  have h1 := Lib.hid (M.and127 v0 v1)
  have h2 := Lib.hid (M.and7 (x := v / 4096) (by omega) (by omega))
  have h3 := Lib.hid (M.and127 (x := v / 33554432) (by omega) (by omega))
  go_enter Tryd.func29, Tryd.ntmps29
  go_wp2
  rw [← h1.out, ← h2.out]
  exact bodyPost_ret (v := .agg #[.int .i64 4, .int .u32 (bits .and .u32 v 127), .int .u32 (bits .and .u32 (v / 4096) 7), .int .u32 (0)]) (by simp [results, Tryd.results29, go_sem]) rfl ⟨rfl, ((Below.refl _ _).alloc (Nat.le_refl _) _).alloc (by simp) _⟩

set_option maxHeartbeats 400000 in
theorem kind_5 (v : Int) (w : World) (v0 : 0 ≤ v) (v1 : v < 4294967296) :
    Calls Tryd.prog 29 #[.int .u32 v, .int .i64 5] w fun e w' => e = .returned (.agg #[.int .i64 5, .int .u32 (v % 128), .int .u32 (0), .int .u32 (0)]) ∧ Below w.heap.size w w' := by
  have h1 := Lib.hid (M.and127 v0 v1)
  have h2 := Lib.hid (M.and7 (x := v / 4096) (by omega) (by omega))
  have h3 := Lib.hid (M.and127 (x := v / 33554432) (by omega) (by omega))
  go_enter Tryd.func29, Tryd.ntmps29
  go_wp2
  rw [← h1.out]
  exact bodyPost_ret (v := .agg #[.int .i64 5, .int .u32 (bits .and .u32 v 127), .int .u32 (0), .int .u32 (0)]) (by simp [results, Tryd.results29, go_sem]) rfl ⟨rfl, ((Below.refl _ _).alloc (Nat.le_refl _) _).alloc (by simp) _⟩

set_option maxHeartbeats 400000 in
theorem kind_6 (v : Int) (w : World) (v0 : 0 ≤ v) (v1 : v < 4294967296) :
    Calls Tryd.prog 29 #[.int .u32 v, .int .i64 6] w fun e w' => e = .returned (.agg #[.int .i64 6, .int .u32 (v % 128), .int .u32 (0), .int .u32 (0)]) ∧ Below w.heap.size w w' := by
  have h1 := Lib.hid (M.and127 v0 v1)
  have h2 := Lib.hid (M.and7 (x := v / 4096) (by omega) (by omega))
  have h3 := Lib.hid (M.and127 (x := v / 33554432) (by omega) (by omega))
  go_enter Tryd.func29, Tryd.ntmps29
  go_wp2
  rw [← h1.out]
  exact bodyPost_ret (v := .agg #[.int .i64 6, .int .u32 (bits .and .u32 v 127), .int .u32 (0), .int .u32 (0)]) (by simp [results, Tryd.results29, go_sem]) rfl ⟨rfl, ((Below.refl _ _).alloc (Nat.le_refl _) _).alloc (by simp) _⟩

set_option maxHeartbeats 400000 in
theorem kind_7 (v : Int) (w : World) (v0 : 0 ≤ v) (v1 : v < 4294967296) :
    Calls Tryd.prog 29 #[.int .u32 v, .int .i64 7] w fun e w' => e = .returned (.agg #[.int .i64 7, .int .u32 (v % 128), .int .u32 (v / 4096 % 8), .int .u32 (0)]) ∧ Below w.heap.size w w' := by
  have h1 := Lib.hid (M.and127 v0 v1)
  have h2 := Lib.hid (M.and7 (x := v / 4096) (by omega) (by omega))
  have h3 := Lib.hid (M.and127 (x := v / 33554432) (by omega) (by omega))
  go_enter Tryd.func29, Tryd.ntmps29
  go_wp2
  rw [← h1.out, ← h2.out]
  exact bodyPost_ret (v := .agg #[.int .i64 7, .int .u32 (bits .and .u32 v 127), .int .u32 (bits .and .u32 (v / 4096) 7), .int .u32 (0)]) (by simp [results, Tryd.results29, go_sem]) rfl ⟨rfl, ((Below.refl _ _).alloc (Nat.le_refl _) _).alloc (by simp) _⟩

theorem kind_any (v : Int) (k : Nat) (k2 : k < 32) (w : World) (v0 : 0 ≤ v) (v1 : v < 4294967296) :
    Calls Tryd.prog 29 #[.int .u32 v, .int .i64 (M.fm k)] w fun e w' => e = .returned (.agg #[.int .i64 (M.fm k), .int .u32 (v % 128), .int .u32 (M.tF3 k v), .int .u32 (M.tF7 k v)]) ∧ Below w.heap.size w w' := by
  unfold M.tF3 M.tF7
  rcases M.fm_cases k2 with e | e | e | e | e | e | e | e <;> rw [e]
  · exact kind_0 v w v0 v1
  · exact kind_1 v w v0 v1
  · exact kind_2 v w v0 v1
  · exact kind_3 v w v0 v1
  · exact kind_4 v w v0 v1
  · exact kind_5 v w v0 v1
  · exact kind_6 v w v0 v1
  · exact kind_7 v w v0 v1

theorem tail_drew {P : Program} {id : Nat} {Q : Exit → Act → World → Prop} {a : Act} {w : World} {l : List Oper} (n : Nat) (hm : P.follows .mixedOrders = true) (hB : Region.lexTailB .any l.toArray n = true)
    (h : wpStill P l.toArray w.drew (fun a' => wpList P l.toArray Q (l.drop n) a' w.drew) (l.take n) a) : (Code.region id l.toArray true).wp P Q a w := wp_region_still_tail n hm hB h
theorem turn_same {P : Program} {f : FuncId} {args : Array Value} {w : World} {v : Value} (h : Calls P f args w fun e w' => e = .returned v ∧ w = w') : Calls P f args w fun e w' => e = .returned v ∧ w' = w :=
  h.mono fun _ _ ⟨h1, h2⟩ => ⟨h1, h2.symm⟩

set_option maxHeartbeats 1000000 in
theorem as_any (v : Int) (k : Nat) (k1 : 1 ≤ k) (k2 : k < 32) (w : World) (v0 : 0 ≤ v) (v1 : v < 4294967296) (T : Tabs w) :
    Calls Tryd.prog 30 #[.int .u32 v, .int .i64 k] w fun e w' => e = .returned (.agg #[.int .i64 k, .int .i64 (M.tRd k v), .int .i64 (M.tA k v), .int .i64 (M.tB k v), .int .i64 (M.tI k v)]) ∧ Below w.heap.size w w' := by
  have hz1 := T.size
  have hz0 : 0 < w.heap.size := by omega
  have f7 : M.fm k ≤ 7 := M.fm_le k2
  have f8 : M.fm k < 8 := by omega
  have c0 := T.kf k k2
  have c1 := T.fd _ f8
  have c2 := T.fa _ f8
  have c3 := T.fb _ f8
  have c4 := T.fl _ f8
  have c5 := T.fh _ f8
  have c6 := T.fu _ f8
  rw [show M.tRd k v = tr (M.hasRd (M.fm k)) (v / 128 % 32) from rfl, show M.tA k v = tr (M.hasA (M.fm k)) (v / 32768 % 32) from rfl, show M.tB k v = tr (M.hasB (M.fm k)) (v / 1048576 % 32) from rfl, show M.tI k v = M.takeImm (M.fm k) v from rfl]
  clear T
  generalize M.hasRd (M.fm k) = hd at *
  generalize M.hasA (M.fm k) = ha at *
  generalize M.hasB (M.fm k) = hb at *
  generalize M.lo (M.fm k) = lo at *
  generalize M.hi (M.fm k) = hi at *
  generalize M.mu (M.fm k) = mu at *
  generalize M.fm k = f at *
  go_enter Tryd.func30, Tryd.ntmps30
  go_wp2_with fail
  refine tail_drew 17 (by kernel_rfl) (by kernel_rfl) ?_
  simp only [List.take_succ_cons, List.take_zero, List.drop_succ_cons, List.drop_zero]
  repeat still_step
  still_call (turn_same (treg_7 _ _ _ v0 v1))
  repeat still_step
  still_call (turn_same (treg_15 _ _ _ v0 v1))
  repeat still_step
  still_call (turn_same (treg_20 _ _ _ v0 v1))
  repeat still_step
  still_call (turn_same (timm_any _ _ f7 _ v0 v1))
  repeat still_step
  refine wpStill_nil ?_
  go_wp2_with fail
  exact bodyPost_ret (v := .agg #[.int .i64 k, .int .i64 (tr hd (v / 128 % 32)), .int .i64 (tr ha (v / 32768 % 32)), .int .i64 (tr hb (v / 1048576 % 32)), .int .i64 (M.takeImm f v)]) (by simp [results, Tryd.results30, go_sem]) rfl ⟨rfl, (((Below.refl _ _).alloc (Nat.le_refl _) _).alloc (by simp) _).drew⟩
end Go.Proofs.YtmedlebepgobeaaDoor
