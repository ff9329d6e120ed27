/- Walks of the small functions of package enc: what each call comes to, for every argument. Walks of May and Word of package enc, wherever the two tables lie as they were laid. -/
import Derived.Test.YtclbkdnihhmglaaDoorProg
import Derived.Test.YtclbkdnihhmglaaDoorZEM
import Derived.WalkKit
import Derived.WalkLawsBesides
import Derived.Lib.Hide
import Derived.Outline
namespace Go.Proofs.YtclbkdnihhmglaaDoor.E
open Go.RowKit
theorem ret_int {k : IntKind} {a b : Int} (h : a = b) : Ending.returned (.int k a) = .returned (.int k b) := by rw [h]
theorem ret_bool {a b : Bool} (h : a = b) : Ending.returned (.bool a) = .returned (.bool b) := by rw [h]

set_option maxRecDepth 100000 in
set_option maxHeartbeats 400000 in
theorem lay_0 (n : Int) (w : World) :
    Calls Tryd.prog 70 #[.int .i64 n, .int .i64 0] w fun e w' => e = .returned (.int .u32 (M.lay 0 n)) ∧ w = w' := by
  go_enter Tryd.func70, Tryd.ntmps70
  go_wp2
  go_ret
  exact ⟨ret_int (rfl), rfl⟩

set_option maxRecDepth 100000 in
set_option maxHeartbeats 400000 in
theorem lay_1 (n : Int) (w : World) :
    Calls Tryd.prog 70 #[.int .i64 n, .int .i64 1] w fun e w' => e = .returned (.int .u32 (M.lay 1 n)) ∧ w = w' := by
  go_enter Tryd.func70, Tryd.ntmps70
  go_wp2
  go_ret
  exact ⟨ret_int (M.lay1 n), rfl⟩

set_option maxRecDepth 100000 in
set_option maxHeartbeats 400000 in
theorem lay_2 (n : Int) (w : World) :
    Calls Tryd.prog 70 #[.int .i64 n, .int .i64 2] w fun e w' => e = .returned (.int .u32 (M.lay 2 n)) ∧ w = w' := by
  go_enter Tryd.func70, Tryd.ntmps70
  go_wp2
  go_ret
  exact ⟨ret_int (M.lay1 n), rfl⟩

set_option maxRecDepth 100000 in
set_option maxHeartbeats 400000 in
theorem lay_3 (n : Int) (w : World) :
    Calls Tryd.prog 70 #[.int .i64 n, .int .i64 3] w fun e w' => e = .returned (.int .u32 (M.lay 3 n)) ∧ w = w' := by
  go_enter Tryd.func70, Tryd.ntmps70
  go_wp2
  go_ret
  exact ⟨ret_int (M.lay3 n), rfl⟩

set_option maxRecDepth 100000 in
set_option maxHeartbeats 400000 in
theorem lay_4 (n : Int) (w : World) :
    Calls Tryd.prog 70 #[.int .i64 n, .int .i64 4] w fun e w' => e = .returned (.int .u32 (M.lay 4 n)) ∧ w = w' := by
  go_enter Tryd.func70, Tryd.ntmps70
  go_wp2
  go_ret
  exact ⟨ret_int (M.lay4 n), rfl⟩

set_option maxRecDepth 100000 in
set_option maxHeartbeats 400000 in
theorem lay_5 (n : Int) (w : World) :
    Calls Tryd.prog 70 #[.int .i64 n, .int .i64 5] w fun e w' => e = .returned (.int .u32 (M.lay 5 n)) ∧ w = w' := by
  go_enter Tryd.func70, Tryd.ntmps70
  go_wp2
  go_ret
  exact ⟨ret_int (M.lay5 n), rfl⟩

set_option maxRecDepth 100000 in
set_option maxHeartbeats 400000 in
theorem lay_6 (n : Int) (w : World) :
    Calls Tryd.prog 70 #[.int .i64 n, .int .i64 6] w fun e w' => e = .returned (.int .u32 (M.lay 6 n)) ∧ w = w' := by
  go_enter Tryd.func70, Tryd.ntmps70
  go_wp2
  go_ret
  exact ⟨ret_int (M.lay6 n), rfl⟩

set_option maxRecDepth 100000 in
set_option maxHeartbeats 400000 in
theorem lay_7 (n : Int) (w : World) :
    Calls Tryd.prog 70 #[.int .i64 n, .int .i64 7] w fun e w' => e = .returned (.int .u32 (M.lay 7 n)) ∧ w = w' := by
  go_enter Tryd.func70, Tryd.ntmps70
  go_wp2
  go_ret
  exact ⟨ret_int (rfl), rfl⟩

theorem lay_any (n : Int) (f : Nat) (hf : f ≤ 7) (w : World) :
    Calls Tryd.prog 70 #[.int .i64 n, .int .i64 f] w fun e w' => e = .returned (.int .u32 (M.lay f n)) ∧ w = w' := by
  rcases (by omega : f = 0 ∨ f = 1 ∨ f = 2 ∨ f = 3 ∨ f = 4 ∨ f = 5 ∨ f = 6 ∨ f = 7) with rfl | rfl | rfl | rfl | rfl | rfl | rfl | rfl
  · exact lay_0 n w
  · exact lay_1 n w
  · exact lay_2 n w
  · exact lay_3 n w
  · exact lay_4 n w
  · exact lay_5 n w
  · exact lay_6 n w
  · exact lay_7 n w

set_option maxRecDepth 100000 in
set_option maxHeartbeats 400000 in
theorem timm_0 (v : Int) (w : World) (_v0 : 0 ≤ v) (_v1 : v < 4294967296) :
    Calls Tryd.prog 68 #[.int .u32 v, .int .i64 0] w fun e w' => e = .returned (.int .i64 (M.takeImm 0 v)) ∧ w = w' := by
  go_enter Tryd.func68, Tryd.ntmps68
  go_wp2
  go_ret
  exact ⟨ret_int (rfl), rfl⟩

set_option maxRecDepth 100000 in
set_option maxHeartbeats 400000 in
theorem timm_1 (v : Int) (w : World) (v0 : 0 ≤ v) (v1 : v < 4294967296) :
    Calls Tryd.prog 68 #[.int .u32 v, .int .i64 1] w fun e w' => e = .returned (.int .i64 (M.takeImm 1 v)) ∧ w = w' := by
  go_enter Tryd.func68, Tryd.ntmps68
  go_wp2
  go_ret
  exact ⟨ret_int (M.timm1 v0 v1), rfl⟩

set_option maxRecDepth 100000 in
set_option maxHeartbeats 400000 in
theorem timm_2 (v : Int) (w : World) (v0 : 0 ≤ v) (v1 : v < 4294967296) :
    Calls Tryd.prog 68 #[.int .u32 v, .int .i64 2] w fun e w' => e = .returned (.int .i64 (M.takeImm 2 v)) ∧ w = w' := by
  go_enter Tryd.func68, Tryd.ntmps68
  go_wp2
  go_ret
  exact ⟨ret_int (M.timm1 v0 v1), rfl⟩

set_option maxRecDepth 100000 in
set_option maxHeartbeats 400000 in
theorem timm_3 (v : Int) (w : World) (v0 : 0 ≤ v) (v1 : v < 4294967296) :
    Calls Tryd.prog 68 #[.int .u32 v, .int .i64 3] w fun e w' => e = .returned (.int .i64 (M.takeImm 3 v)) ∧ w = w' := by
  go_enter Tryd.func68, Tryd.ntmps68
  go_wp2
  go_ret
  exact ⟨ret_int (M.timm3 v0 v1), rfl⟩

set_option maxRecDepth 100000 in
set_option maxHeartbeats 400000 in
theorem timm_4 (v : Int) (w : World) (v0 : 0 ≤ v) (v1 : v < 4294967296) :
    Calls Tryd.prog 68 #[.int .u32 v, .int .i64 4] w fun e w' => e = .returned (.int .i64 (M.takeImm 4 v)) ∧ w = w' := by
  go_enter Tryd.func68, Tryd.ntmps68
  go_wp2
  go_ret
  exact ⟨ret_int (M.timm4 v0 v1), rfl⟩

set_option maxRecDepth 100000 in
set_option maxHeartbeats 400000 in
theorem timm_5 (v : Int) (w : World) (v0 : 0 ≤ v) (v1 : v < 4294967296) :
    Calls Tryd.prog 68 #[.int .u32 v, .int .i64 5] w fun e w' => e = .returned (.int .i64 (M.takeImm 5 v)) ∧ w = w' := by
  go_enter Tryd.func68, Tryd.ntmps68
  go_wp2
  go_ret
  exact ⟨ret_int (M.timm5 v0 v1), rfl⟩

set_option maxRecDepth 100000 in
set_option maxHeartbeats 400000 in
theorem timm_6 (v : Int) (w : World) (v0 : 0 ≤ v) (v1 : v < 4294967296) :
    Calls Tryd.prog 68 #[.int .u32 v, .int .i64 6] w fun e w' => e = .returned (.int .i64 (M.takeImm 6 v)) ∧ w = w' := by
  go_enter Tryd.func68, Tryd.ntmps68
  go_wp2
  go_ret
  exact ⟨ret_int (M.timm6 v0 v1), rfl⟩

set_option maxRecDepth 100000 in
set_option maxHeartbeats 400000 in
theorem timm_7 (v : Int) (w : World) (_v0 : 0 ≤ v) (_v1 : v < 4294967296) :
    Calls Tryd.prog 68 #[.int .u32 v, .int .i64 7] w fun e w' => e = .returned (.int .i64 (M.takeImm 7 v)) ∧ w = w' := by
  go_enter Tryd.func68, Tryd.ntmps68
  go_wp2
  go_ret
  exact ⟨ret_int (rfl), rfl⟩

theorem timm_any (v : Int) (f : Nat) (hf : f ≤ 7) (w : World) (v0 : 0 ≤ v) (v1 : v < 4294967296) :
    Calls Tryd.prog 68 #[.int .u32 v, .int .i64 f] w fun e w' => e = .returned (.int .i64 (M.takeImm f v)) ∧ w = w' := by
  rcases (by omega : f = 0 ∨ f = 1 ∨ f = 2 ∨ f = 3 ∨ f = 4 ∨ f = 5 ∨ f = 6 ∨ f = 7) with rfl | rfl | rfl | rfl | rfl | rfl | rfl | rfl
  · exact timm_0 v w v0 v1
  · exact timm_1 v w v0 v1
  · exact timm_2 v w v0 v1
  · exact timm_3 v w v0 v1
  · exact timm_4 v w v0 v1
  · exact timm_5 v w v0 v1
  · exact timm_6 v w v0 v1
  · exact timm_7 v w v0 v1

theorem reg_any (r : Int) (has : Bool) (w : World) :
    Calls Tryd.prog 80 #[.int .i64 r, .bool has] w fun e w' => e = .returned (.bool (M.reg r has)) ∧ w = w' := by
  cases has
  · go_enter Tryd.func80, Tryd.ntmps80
    go_wp2
    all_goals go_ret
    all_goals exact ⟨ret_bool (by rw [Bool.eq_iff_iff]; simp [M.reg]), rfl⟩
  · go_enter Tryd.func80, Tryd.ntmps80
    go_wp2
    all_goals go_ret
    all_goals exact ⟨ret_bool (by rw [Bool.eq_iff_iff]; simp [M.reg]; omega), rfl⟩

theorem imm_any (n l h m : Int) (b0 b1 b2 : Bool) (w : World) (m1 : 1 ≤ m) :
    Calls Tryd.prog 81 #[.int .i64 n, .agg #[.bool b0, .bool b1, .bool b2, .int .i64 l, .int .i64 h, .int .i64 m]] w fun e w' => e = .returned (.bool (M.imm n l h m)) ∧ Below w.heap.size w w' := by
  have hm : (m == 0) = false := by simp; omega
  by_cases h1 : l ≤ n
  · by_cases h2 : n ≤ h
    · have he := M.imm_eq n l h m h1 h2
      have HE := Lib.hid he
      clear he
      go_enter Tryd.func81, Tryd.ntmps81
      go_wp2
      all_goals go_ret
      exact ⟨ret_bool HE.out, (Below.refl _ _).alloc (Nat.le_refl _) _⟩
    · go_enter Tryd.func81, Tryd.ntmps81
      go_wp2
      all_goals go_ret
      all_goals exact ⟨ret_bool (by rw [Bool.eq_iff_iff]; simp [M.imm]; omega), (Below.refl _ _).alloc (Nat.le_refl _) _⟩
  · go_enter Tryd.func81, Tryd.ntmps81
    go_wp2
    all_goals go_ret
    all_goals exact ⟨ret_bool (by rw [Bool.eq_iff_iff]; simp [M.imm]; omega), (Below.refl _ _).alloc (Nat.le_refl _) _⟩

def tr (has : Bool) (x : Int) : Int := if has then x else 0
theorem treg_7 (v : Int) (has : Bool) (w : World) (v0 : 0 ≤ v) (v1 : v < 4294967296) :
    Calls Tryd.prog 67 #[.int .u32 v, .int .u64 7, .bool has] w fun e w' => e = .returned (.int .i64 (tr has (v / 128 % 32))) ∧ w = w' := by
  have he := M.and31 (x := v / 128) (by omega) (by omega)
  have HE := Lib.hid he
  clear he
  cases has
  · go_enter Tryd.func67, Tryd.ntmps67
    go_wp2
    go_ret
    exact ⟨rfl, rfl⟩
  · go_enter Tryd.func67, Tryd.ntmps67
    go_wp2
    go_ret
    exact ⟨ret_int (by rw [HE.out]; show _ = v / 128 % 32; unfold wrap64; omega), rfl⟩
theorem treg_15 (v : Int) (has : Bool) (w : World) (v0 : 0 ≤ v) (v1 : v < 4294967296) :
    Calls Tryd.prog 67 #[.int .u32 v, .int .u64 15, .bool has] w fun e w' => e = .returned (.int .i64 (tr has (v / 32768 % 32))) ∧ w = w' := by
  have he := M.and31 (x := v / 32768) (by omega) (by omega)
  have HE := Lib.hid he
  clear he
  cases has
  · go_enter Tryd.func67, Tryd.ntmps67
    go_wp2
    go_ret
    exact ⟨rfl, rfl⟩
  · go_enter Tryd.func67, Tryd.ntmps67
    go_wp2
    go_ret
    exact ⟨ret_int (by rw [HE.out]; show _ = v / 32768 % 32; unfold wrap64; omega), rfl⟩
theorem treg_20 (v : Int) (has : Bool) (w : World) (v0 : 0 ≤ v) (v1 : v < 4294967296) :
    Calls Tryd.prog 67 #[.int .u32 v, .int .u64 20, .bool has] w fun e w' => e = .returned (.int .i64 (tr has (v / 1048576 % 32))) ∧ w = w' := by
  have he := M.and31 (x := v / 1048576) (by omega) (by omega)
  have HE := Lib.hid he
  clear he
  cases has
  · go_enter Tryd.func67, Tryd.ntmps67
    go_wp2
    go_ret
    exact ⟨rfl, rfl⟩
  · go_enter Tryd.func67, Tryd.ntmps67
    go_wp2
    go_ret
    exact ⟨ret_int (by rw [HE.out]; show _ = v / 1048576 % 32; unfold wrap64; omega), rfl⟩
end Go.Proofs.YtclbkdnihhmglaaDoor.E

namespace Go.Proofs.YtclbkdnihhmglaaDoor.E
open Go.RowKit

/-- the two tables, kinds and forms, as they were laid -/
structure Tabs (w : World) : Prop where
  size : 1 < w.heap.size
  kf : ∀ k, k < 32 → w.cell? ⟨0, k * 4, none⟩ = some (.int .i64 (M.fm k))
  ko : ∀ k, k < 32 → w.cell? ⟨0, k * 4 + 1, none⟩ = some (.int .u32 (M.op k))
  k3 : ∀ k, k < 32 → w.cell? ⟨0, k * 4 + 2, none⟩ = some (.int .u32 (M.f3 k))
  k7 : ∀ k, k < 32 → w.cell? ⟨0, k * 4 + 3, none⟩ = some (.int .u32 (M.f7 k))
  fd : ∀ f, f < 8 → w.cell? ⟨1, f * 6, none⟩ = some (.bool (M.hasRd f))
  fa : ∀ f, f < 8 → w.cell? ⟨1, f * 6 + 1, none⟩ = some (.bool (M.hasA f))
  fb : ∀ f, f < 8 → w.cell? ⟨1, f * 6 + 2, none⟩ = some (.bool (M.hasB f))
  fl : ∀ f, f < 8 → w.cell? ⟨1, f * 6 + 3, none⟩ = some (.int .i64 (M.lo f))
  fh : ∀ f, f < 8 → w.cell? ⟨1, f * 6 + 4, none⟩ = some (.int .i64 (M.hi f))
  fu : ∀ f, f < 8 → w.cell? ⟨1, f * 6 + 5, none⟩ = some (.int .i64 (M.mu f))
theorem Tabs.keep {w w' : World} (h : Tabs w) (hz : w.heap.size ≤ w'.heap.size) (hc : ∀ p : Addr, p.block < 2 → w'.cell? p = w.cell? p) : Tabs w' := by
  constructor
  · exact Nat.lt_of_lt_of_le h.size hz
  all_goals intro k hk
  · exact (hc _ (show (0 : Nat) < 2 by decide)).trans (h.kf k hk)
  · exact (hc _ (show (0 : Nat) < 2 by decide)).trans (h.ko k hk)
  · exact (hc _ (show (0 : Nat) < 2 by decide)).trans (h.k3 k hk)
  · exact (hc _ (show (0 : Nat) < 2 by decide)).trans (h.k7 k hk)
  · exact (hc _ (show (1 : Nat) < 2 by decide)).trans (h.fd k hk)
  · exact (hc _ (show (1 : Nat) < 2 by decide)).trans (h.fa k hk)
  · exact (hc _ (show (1 : Nat) < 2 by decide)).trans (h.fb k hk)
  · exact (hc _ (show (1 : Nat) < 2 by decide)).trans (h.fl k hk)
  · exact (hc _ (show (1 : Nat) < 2 by decide)).trans (h.fh k hk)
  · exact (hc _ (show (1 : Nat) < 2 by decide)).trans (h.fu k hk)
theorem Tabs.below {w w' : World} {B : Nat} (h : Tabs w) (hb : Below B w w') (hB : 2 ≤ B) : Tabs w' := h.keep hb.size fun _ hp => hb.cell (by omega)
theorem Tabs.alloc {w : World} (h : Tabs w) (o : Obj) : Tabs (w.alloc o) := h.below ((Below.refl _ _).alloc (Nat.le_refl _) o) (by have := h.size; omega)

theorem mu_pos {f : Nat} (hf : f < 8) : 1 ≤ M.mu f := by
  rcases (by omega : f = 0 ∨ f = 1 ∨ f = 2 ∨ f = 3 ∨ f = 4 ∨ f = 5 ∨ f = 6 ∨ f = 7) with rfl | rfl | rfl | rfl | rfl | rfl | rfl | rfl <;> decide

set_option maxRecDepth 100000 in
set_option maxHeartbeats 1000000 in
theorem may_in (k : Nat) (k1 : 1 ≤ k) (k2 : k < 32) (rd a b n : Int) (w : World) (T : Tabs w) :
    Calls Tryd.prog 69 #[.agg #[.int .i64 k, .int .i64 rd, .int .i64 a, .int .i64 b, .int .i64 n]] w fun e w' => e = .returned (.bool (M.may k rd a b n)) ∧ Below w.heap.size w w' := by
  have hz1 := T.size
  have hz0 : 0 < w.heap.size := by omega
  have f8 : M.fm k < 8 := by have := M.fm_le k2; omega
  have c0 := T.kf k k2
  have c1 := T.fd _ f8
  have c2 := T.fa _ f8
  have c3 := T.fb _ f8
  have c4 := T.fl _ f8
  have c5 := T.fh _ f8
  have c6 := T.fu _ f8
  have m1 := mu_pos f8
  have t1 : decide ((k : Int) < 1) = false := by simp; omega
  have t2 : decide ((32 : Int) ≤ (k : Int)) = false := by simp; omega
  have hm := Lib.hid (show M.may k rd a b n = (M.reg rd (M.hasRd (M.fm k)) && (M.reg a (M.hasA (M.fm k)) && (M.reg b (M.hasB (M.fm k)) && M.imm n (M.lo (M.fm k)) (M.hi (M.fm k)) (M.mu (M.fm k))))) from rfl)
  generalize M.may k rd a b n = Y at *
  generalize M.hasRd (M.fm k) = hd at *
  generalize M.hasA (M.fm k) = ha at *
  generalize M.hasB (M.fm k) = hb at *
  generalize M.lo (M.fm k) = lo at *
  generalize M.hi (M.fm k) = hi at *
  generalize M.mu (M.fm k) = mu at *
  generalize M.fm k = f at *
  clear T
  go_enter Tryd.func69, Tryd.ntmps69
  go_wp2_with (first | (go_at_call 80; refine (reg_any _ _ _).mono ?_; rintro e w' ⟨rfl, rfl⟩) | (go_at_call 81; refine (imm_any _ _ _ _ _ _ _ _ m1).mono ?_; rintro e w' ⟨rfl, hb1⟩))
  all_goals go_ret
  · exact ⟨ret_bool (by rw [hm.out]; simp [*]), (((Below.refl _ _).alloc (Nat.le_refl _) _).alloc (by simp) _).trans (hb1.mono (by simp; omega))⟩
  all_goals exact ⟨ret_bool (by rw [hm.out]; simp [*]), (((Below.refl _ _).alloc (Nat.le_refl _) _).alloc (by simp) _)⟩

theorem may_out (k : Int) (h : k < 1 ∨ 32 ≤ k) (rd a b n : Int) (w : World) :
    Calls Tryd.prog 69 #[.agg #[.int .i64 k, .int .i64 rd, .int .i64 a, .int .i64 b, .int .i64 n]] w fun e w' => e = .returned (.bool false) ∧ Below w.heap.size w w' := by
  rcases h with h | h
  · have t1 : decide (k < 1) = true := by simp; omega
    go_enter Tryd.func69, Tryd.ntmps69
    go_wp2_with fail
    go_ret
    exact ⟨rfl, (Below.refl _ _).alloc (Nat.le_refl _) _⟩
  · have t1 : decide (k < 1) = false := by simp; omega
    have t2 : decide ((32 : Int) ≤ k) = true := by simp; omega
    go_enter Tryd.func69, Tryd.ntmps69
    go_wp2_with fail
    go_ret
    exact ⟨rfl, (Below.refl _ _).alloc (Nat.le_refl _) _⟩

theorem ret_two {k : IntKind} {a b : Int} {v : Value} (h : a = b) : Ending.returned (.tuple #[.int k a, v]) = .returned (.tuple #[.int k b, v]) := by rw [h]
theorem bcell {W w1 : World} (hb : Below W.heap.size W w1) : (∀ b o, b < W.heap.size → w1.cell? ⟨b, o, none⟩ = W.cell? ⟨b, o, none⟩) ∧ (∀ b o, b < W.heap.size → w1.frozen? ⟨b, o, none⟩ = W.frozen? ⟨b, o, none⟩) :=
  ⟨fun b o h => hb.cell (p := ⟨b, o, none⟩) h, fun b o h => hb.frozen (p := ⟨b, o, none⟩) h⟩

set_option maxRecDepth 100000 in
set_option maxHeartbeats 1000000 in
theorem word_yes (k : Nat) (k1 : 1 ≤ k) (k2 : k < 32) (rd a b n : Int) (w : World) (T : Tabs w) (hy : M.may k rd a b n = true) :
    Calls Tryd.prog 54 #[.agg #[.int .i64 k, .int .i64 rd, .int .i64 a, .int .i64 b, .int .i64 n]] w fun e w' => e = .returned (.tuple #[.int .u32 (M.word k rd a b n), .int .i64 0]) ∧ Below w.heap.size w w' := by
  have hz1 := T.size
  have hz0 : 0 < w.heap.size := by omega
  have f8 : M.fm k ≤ 7 := M.fm_le k2
  have c0 := T.kf k k2
  have c1 := T.ko k k2
  have c2 := T.k3 k k2
  have c3 := T.k7 k k2
  have HM := fun W TW => may_in k k1 k2 rd a b n W TW
  have HW := Lib.hid (M.word_or k2 hy)
  obtain ⟨⟨d0, d1⟩, ⟨a0, a1⟩, b0, b1⟩ := M.regs_in k2 hy
  obtain ⟨o0, o1⟩ := M.op_in k2
  obtain ⟨g0, g1⟩ := M.f3_in k2
  obtain ⟨s0, s1⟩ := M.f7_in k2
  rw [hy] at HM
  have HM' := Lib.hid HM
  clear HM hy
  have HT := Lib.hid T
  clear T
  go_enter Tryd.func54, Tryd.ntmps54
  go_wp2_with fail
  refine (HM'.out _ (HT.out.alloc _)).mono ?_
  rintro e w1 ⟨rfl, hb1⟩
  obtain ⟨hc, hf⟩ := bcell hb1
  have hz : w.heap.size < w1.heap.size := by have := hb1.size; simp at this; omega
  have hz' : 0 < w1.heap.size := by omega
  go_wp2_with (go_at_call 70; refine (lay_any _ _ f8 _).mono ?_; rintro e w' ⟨rfl, rfl⟩)
  go_ret2
  exact ⟨ret_two HW.out, ((Below.refl _ _).alloc (Nat.le_refl _) _).trans ((hb1.mono (by simp)).trans ((Below.refl _ _).alloc (by omega) _))⟩

set_option maxRecDepth 100000 in
set_option maxHeartbeats 1000000 in
theorem word_no (k : Nat) (k1 : 1 ≤ k) (k2 : k < 32) (rd a b n : Int) (w : World) (T : Tabs w) (hy : M.may k rd a b n = false) :
    Calls Tryd.prog 54 #[.agg #[.int .i64 k, .int .i64 rd, .int .i64 a, .int .i64 b, .int .i64 n]] w fun e w' => e = .returned (.tuple #[.int .u32 0, .int .i64 1]) ∧ Below w.heap.size w w' := by
  have HM := fun W TW => may_in k k1 k2 rd a b n W TW
  rw [hy] at HM
  have HM' := Lib.hid HM
  clear HM hy
  have HT := Lib.hid T
  clear T
  go_enter Tryd.func54, Tryd.ntmps54
  go_wp2_with fail
  refine (HM'.out _ (HT.out.alloc _)).mono ?_
  rintro e w1 ⟨rfl, hb1⟩
  go_wp2_with fail
  go_ret2
  exact ⟨rfl, ((Below.refl _ _).alloc (Nat.le_refl _) _).trans (hb1.mono (by simp))⟩
theorem word_out (k : Int) (h : k < 1 ∨ 32 ≤ k) (rd a b n : Int) (w : World) :
    Calls Tryd.prog 54 #[.agg #[.int .i64 k, .int .i64 rd, .int .i64 a, .int .i64 b, .int .i64 n]] w fun e w' => e = .returned (.tuple #[.int .u32 0, .int .i64 1]) ∧ Below w.heap.size w w' := by
  have HM := Lib.hid (fun W => may_out k h rd a b n W)
  clear h
  go_enter Tryd.func54, Tryd.ntmps54
  go_wp2_with fail
  refine (HM.out _).mono ?_
  rintro e w1 ⟨rfl, hb1⟩
  go_wp2_with fail
  go_ret2
  exact ⟨rfl, ((Below.refl _ _).alloc (Nat.le_refl _) _).trans (hb1.mono (by simp))⟩
end Go.Proofs.YtclbkdnihhmglaaDoor.E
