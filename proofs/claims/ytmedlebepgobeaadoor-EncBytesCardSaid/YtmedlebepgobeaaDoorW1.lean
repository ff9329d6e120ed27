/- Walks of the small functions of package enc: what each call comes to, for every argument. -/
import Derived.Test.YtmedlebepgobeaaDoorProg
import Derived.Test.YtmedlebepgobeaaDoorBits
import Derived.WalkKit
import Derived.WalkLawsBesides
import Derived.Lib.Hide
namespace Go.Proofs.YtmedlebepgobeaaDoor
open Go.RowKit
theorem ret_int {k : IntKind} {a b : Int} (h : a = b) : Ending.returned (.int k a) = .returned (.int k b) := by rw [h]
theorem ret_bool {a b : Bool} (h : a = b) : Ending.returned (.bool a) = .returned (.bool b) := by rw [h]

set_option maxHeartbeats 400000 in
theorem lay_0 (n : Int) (w : World) :
    Calls Tryd.prog 24 #[.int .i64 n, .int .i64 0] w fun e w' => e = .returned (.int .u32 (M.lay 0 n)) ∧ w = w' := by
  go_enter Tryd.func24, Tryd.ntmps24
  go_wp2
  go_ret
  exact ⟨ret_int (rfl), rfl⟩

set_option maxHeartbeats 400000 in
theorem lay_1 (n : Int) (w : World) :
    Calls Tryd.prog 24 #[.int .i64 n, .int .i64 1] w fun e w' => e = .returned (.int .u32 (M.lay 1 n)) ∧ w = w' := by
  go_enter Tryd.func24, Tryd.ntmps24
  go_wp2
  go_ret
  exact ⟨ret_int (M.lay1 n), rfl⟩

set_option maxHeartbeats 400000 in
theorem lay_2 (n : Int) (w : World) :
    Calls Tryd.prog 24 #[.int .i64 n, .int .i64 2] w fun e w' => e = .returned (.int .u32 (M.lay 2 n)) ∧ w = w' := by
  go_enter Tryd.func24, Tryd.ntmps24
  go_wp2
  go_ret
  exact ⟨ret_int (M.lay1 n), rfl⟩

set_option maxHeartbeats 400000 in
theorem lay_3 (n : Int) (w : World) :
    Calls Tryd.prog 24 #[.int .i64 n, .int .i64 3] w fun e w' => e = .returned (.int .u32 (M.lay 3 n)) ∧ w = w' := by
  go_enter Tryd.func24, Tryd.ntmps24
  go_wp2
  go_ret
  exact ⟨ret_int (M.lay3 n), rfl⟩

set_option maxHeartbeats 400000 in
theorem lay_4 (n : Int) (w : World) :
    Calls Tryd.prog 24 #[.int .i64 n, .int .i64 4] w fun e w' => e = .returned (.int .u32 (M.lay 4 n)) ∧ w = w' := by
  go_enter Tryd.func24, Tryd.ntmps24
  go_wp2
  go_ret
  exact ⟨ret_int (M.lay4 n), rfl⟩

set_option maxHeartbeats 400000 in
theorem lay_5 (n : Int) (w : World) :
    Calls Tryd.prog 24 #[.int .i64 n, .int .i64 5] w fun e w' => e = .returned (.int .u32 (M.lay 5 n)) ∧ w = w' := by
  go_enter Tryd.func24, Tryd.ntmps24
  go_wp2
  go_ret
  exact ⟨ret_int (M.lay5 n), rfl⟩

set_option maxHeartbeats 400000 in
theorem lay_6 (n : Int) (w : World) :
    Calls Tryd.prog 24 #[.int .i64 n, .int .i64 6] w fun e w' => e = .returned (.int .u32 (M.lay 6 n)) ∧ w = w' := by
  go_enter Tryd.func24, Tryd.ntmps24
  go_wp2
  go_ret
  exact ⟨ret_int (M.lay6 n), rfl⟩

set_option maxHeartbeats 400000 in
theorem lay_7 (n : Int) (w : World) :
    Calls Tryd.prog 24 #[.int .i64 n, .int .i64 7] w fun e w' => e = .returned (.int .u32 (M.lay 7 n)) ∧ w = w' := by
  go_enter Tryd.func24, Tryd.ntmps24
  go_wp2
  go_ret
  exact ⟨ret_int (rfl), rfl⟩

theorem lay_any (n : Int) (f : Nat) (hf : f ≤ 7) (w : World) :
    Calls Tryd.prog 24 #[.int .i64 n, .int .i64 f] w fun e w' => e = .returned (.int .u32 (M.lay f n)) ∧ w = w' := by
  rcases (by omega : f = 0 ∨ f = 1 ∨ f = 2 ∨ f = 3 ∨ f = 4 ∨ f = 5 ∨ f = 6 ∨ f = 7) with rfl | rfl | rfl | rfl | rfl | rfl | rfl | rfl
  · exact lay_0 n w
  · exact lay_1 n w
  · exact lay_2 n w
  · exact lay_3 n w
  · exact lay_4 n w
  · exact lay_5 n w
  · exact lay_6 n w
  · exact lay_7 n w

set_option maxHeartbeats 400000 in
theorem timm_0 (v : Int) (w : World) (_v0 : 0 ≤ v) (_v1 : v < 4294967296) :
    Calls Tryd.prog 38 #[.int .u32 v, .int .i64 0] w fun e w' => e = .returned (.int .i64 (M.takeImm 0 v)) ∧ w = w' := by
  go_enter Tryd.func38, Tryd.ntmps38
  go_wp2
  go_ret
  exact ⟨ret_int (rfl), rfl⟩

set_option maxHeartbeats 400000 in
theorem timm_1 (v : Int) (w : World) (v0 : 0 ≤ v) (v1 : v < 4294967296) :
    Calls Tryd.prog 38 #[.int .u32 v, .int .i64 1] w fun e w' => e = .returned (.int .i64 (M.takeImm 1 v)) ∧ w = w' := by
  go_enter Tryd.func38, Tryd.ntmps38
  go_wp2
  go_ret
  exact ⟨ret_int (M.timm1 v0 v1), rfl⟩

set_option maxHeartbeats 400000 in
theorem timm_2 (v : Int) (w : World) (v0 : 0 ≤ v) (v1 : v < 4294967296) :
    Calls Tryd.prog 38 #[.int .u32 v, .int .i64 2] w fun e w' => e = .returned (.int .i64 (M.takeImm 2 v)) ∧ w = w' := by
  go_enter Tryd.func38, Tryd.ntmps38
  go_wp2
  go_ret
  exact ⟨ret_int (M.timm1 v0 v1), rfl⟩

set_option maxHeartbeats 400000 in
theorem timm_3 (v : Int) (w : World) (v0 : 0 ≤ v) (v1 : v < 4294967296) :
    Calls Tryd.prog 38 #[.int .u32 v, .int .i64 3] w fun e w' => e = .returned (.int .i64 (M.takeImm 3 v)) ∧ w = w' := by
  go_enter Tryd.func38, Tryd.ntmps38
  go_wp2
  go_ret
  exact ⟨ret_int (M.timm3 v0 v1), rfl⟩

set_option maxHeartbeats 400000 in
theorem timm_4 (v : Int) (w : World) (v0 : 0 ≤ v) (v1 : v < 4294967296) :
    Calls Tryd.prog 38 #[.int .u32 v, .int .i64 4] w fun e w' => e = .returned (.int .i64 (M.takeImm 4 v)) ∧ w = w' := by
  go_enter Tryd.func38, Tryd.ntmps38
  go_wp2
  go_ret
  exact ⟨ret_int (M.timm4 v0 v1), rfl⟩

set_option maxHeartbeats 400000 in
theorem timm_5 (v : Int) (w : World) (v0 : 0 ≤ v) (v1 : v < 4294967296) :
    Calls Tryd.prog 38 #[.int .u32 v, .int .i64 5] w fun e w' => e = .returned (.int .i64 (M.takeImm 5 v)) ∧ w = w' := by
  go_enter Tryd.func38, Tryd.ntmps38
  go_wp2
  go_ret
  exact ⟨ret_int (M.timm5 v0 v1), rfl⟩

set_option maxHeartbeats 400000 in
theorem timm_6 (v : Int) (w : World) (v0 : 0 ≤ v) (v1 : v < 4294967296) :
    Calls Tryd.prog 38 #[.int .u32 v, .int .i64 6] w fun e w' => e = .returned (.int .i64 (M.takeImm 6 v)) ∧ w = w' := by
  go_enter Tryd.func38, Tryd.ntmps38
  go_wp2
  go_ret
  exact ⟨ret_int (M.timm6 v0 v1), rfl⟩

set_option maxHeartbeats 400000 in
theorem timm_7 (v : Int) (w : World) (_v0 : 0 ≤ v) (_v1 : v < 4294967296) :
    Calls Tryd.prog 38 #[.int .u32 v, .int .i64 7] w fun e w' => e = .returned (.int .i64 (M.takeImm 7 v)) ∧ w = w' := by
  go_enter Tryd.func38, Tryd.ntmps38
  go_wp2
  go_ret
  exact ⟨ret_int (rfl), rfl⟩

theorem timm_any (v : Int) (f : Nat) (hf : f ≤ 7) (w : World) (v0 : 0 ≤ v) (v1 : v < 4294967296) :
    Calls Tryd.prog 38 #[.int .u32 v, .int .i64 f] w fun e w' => e = .returned (.int .i64 (M.takeImm f v)) ∧ w = w' := by
  rcases (by omega : f = 0 ∨ f = 1 ∨ f = 2 ∨ f = 3 ∨ f = 4 ∨ f = 5 ∨ f = 6 ∨ f = 7) with rfl | rfl | rfl | rfl | rfl | rfl | rfl | rfl
  · exact timm_0 v w v0 v1
  · exact timm_1 v w v0 v1
  · exact timm_2 v w v0 v1
  · exact timm_3 v w v0 v1
  · exact timm_4 v w v0 v1
  · exact timm_5 v w v0 v1
  · exact timm_6 v w v0 v1
  · exact timm_7 v w v0 v1

theorem reg_any (r : Int) (has : Bool) (w : World) :
    Calls Tryd.prog 32 #[.int .i64 r, .bool has] w fun e w' => e = .returned (.bool (M.reg r has)) ∧ w = w' := by
  cases has
  · go_enter Tryd.func32, Tryd.ntmps32
    go_wp2
    all_goals go_ret
    all_goals exact ⟨ret_bool (by rw [Bool.eq_iff_iff]; simp [M.reg]), rfl⟩
  · go_enter Tryd.func32, Tryd.ntmps32
    go_wp2
    all_goals go_ret
    all_goals exact ⟨ret_bool (by rw [Bool.eq_iff_iff]; simp [M.reg]; omega), rfl⟩

theorem imm_any (n l h m : Int) (b0 b1 b2 : Bool) (w : World) (m1 : 1 ≤ m) :
    Calls Tryd.prog 33 #[.int .i64 n, .agg #[.bool b0, .bool b1, .bool b2, .int .i64 l, .int .i64 h, .int .i64 m]] w fun e w' => e = .returned (.bool (M.imm n l h m)) ∧ Below w.heap.size w w' := by
  have hm : (m == 0) = false := by simp; omega
  by_cases h1 : l ≤ n
  · by_cases h2 : n ≤ h
    · have he := M.imm_eq n l h m h1 h2
      have HE := Lib.hid he
      clear he
      go_enter Tryd.func33, Tryd.ntmps33
      go_wp2
      all_goals go_ret
      exact ⟨ret_bool HE.out, (Below.refl _ _).alloc (Nat.le_refl _) _⟩
    · go_enter Tryd.func33, Tryd.ntmps33
      go_wp2
      all_goals go_ret
      all_goals exact ⟨ret_bool (by rw [Bool.eq_iff_iff]; simp [M.imm]; omega), (Below.refl _ _).alloc (Nat.le_refl _) _⟩
  · go_enter Tryd.func33, Tryd.ntmps33
    go_wp2
    all_goals go_ret
    all_goals exact ⟨ret_bool (by rw [Bool.eq_iff_iff]; simp [M.imm]; omega), (Below.refl _ _).alloc (Nat.le_refl _) _⟩

def tr (has : Bool) (x : Int) : Int := if has then x else 0
theorem treg_7 (v : Int) (has : Bool) (w : World) (v0 : 0 ≤ v) (v1 : v < 4294967296) :
    Calls Tryd.prog 37 #[.int .u32 v, .int .u64 7, .bool has] w fun e w' => e = .returned (.int .i64 (tr has (v / 128 % 32))) ∧ w = w' := by
  have he := M.and31 (x := v / 128) (by omega) (by omega)
  have HE := Lib.hid he
  clear he
  cases has
  · go_enter Tryd.func37, Tryd.ntmps37
    go_wp2
    go_ret
    exact ⟨rfl, rfl⟩
  · go_enter Tryd.func37, Tryd.ntmps37
    go_wp2
    go_ret
    exact ⟨ret_int (by rw [HE.out]; show _ = v / 128 % 32; unfold wrap64; omega), rfl⟩
theorem treg_15 (v : Int) (has : Bool) (w : World) (v0 : 0 ≤ v) (v1 : v < 4294967296) :
    Calls Tryd.prog 37 #[.int .u32 v, .int .u64 15, .bool has] w fun e w' => e = .returned (.int .i64 (tr has (v / 32768 % 32))) ∧ w = w' := by
  have he := M.and31 (x := v / 32768) (by omega) (by omega)
  have HE := Lib.hid he
  clear he
  cases has
  · go_enter Tryd.func37, Tryd.ntmps37
    go_wp2
    go_ret
    exact ⟨rfl, rfl⟩
  · go_enter Tryd.func37, Tryd.ntmps37
    go_wp2
    go_ret
    exact ⟨ret_int (by rw [HE.out]; show _ = v / 32768 % 32; unfold wrap64; omega), rfl⟩
theorem treg_20 (v : Int) (has : Bool) (w : World) (v0 : 0 ≤ v) (v1 : v < 4294967296) :
    Calls Tryd.prog 37 #[.int .u32 v, .int .u64 20, .bool has] w fun e w' => e = .returned (.int .i64 (tr has (v / 1048576 % 32))) ∧ w = w' := by
  have he := M.and31 (x := v / 1048576) (by omega) (by omega)
  have HE := Lib.hid he
  clear he
  cases has
  · go_enter Tryd.func37, Tryd.ntmps37
    go_wp2
    go_ret
    exact ⟨rfl, rfl⟩
  · go_enter Tryd.func37, Tryd.ntmps37
    go_wp2
    go_ret
    exact ⟨ret_int (by rw [HE.out]; show _ = v / 1048576 % 32; unfold wrap64; omega), rfl⟩
end Go.Proofs.YtmedlebepgobeaaDoor
