/- Walks of May and Word of package enc, wherever the two tables lie as they were laid. -/
import Derived.Test.YtmedlebepgobeaaDoorW1
import Derived.Outline
namespace Go.Proofs.YtmedlebepgobeaaDoor
open Go.RowKit

/-- the two tables, kinds and forms, as they were laid -/
structure Tabs (w : World) : Prop where
  size : 1 < w.heap.size
  kf : ∀ k, k < 32 → w.cell? ⟨0, k * 4, none⟩ = some (.int .i64 (M.fm k))
  ko : ∀ k, k < 32 → w.cell? ⟨0, k * 4 + 1, none⟩ = some (.int .u32 (M.op k))
  k3 : ∀ k, k < 32 → w.cell? ⟨0, k * 4 + 2, none⟩ = some (.int .u32 (M.f3 k))
  k7 : ∀ k, k < 32 → w.cell? ⟨0, k * 4 + 3, none⟩ = some (.int .u32 (M.f7 k))
  fd : ∀ f, f < 8 → w.cell? ⟨1, f * 6, none⟩ = some (.bool (M.hasRd f))
  fa : ∀ f, f < 8 → w.cell? ⟨1, f * 6 + 1, none⟩ = some (.bool (M.hasA f))
  fb : ∀ f, f < 8 → w.cell? ⟨1, f * 6 + 2, none⟩ = some (.bool (M.hasB f))
  fl : ∀ f, f < 8 → w.cell? ⟨1, f * 6 + 3, none⟩ = some (.int .i64 (M.lo f))
  fh : ∀ f, f < 8 → w.cell? ⟨1, f * 6 + 4, none⟩ = some (.int .i64 (M.hi f))
  fu : ∀ f, f < 8 → w.cell? ⟨1, f * 6 + 5, none⟩ = some (.int .i64 (M.mu f))
theorem Tabs.keep {w w' : World} (h : Tabs w) (hz : w.heap.size ≤ w'.heap.size) (hc : ∀ p : Addr, p.block < 2 → w'.cell? p = w.cell? p) : Tabs w' := by
  constructor
  · exact Nat.lt_of_lt_of_le h.size hz
  all_goals intro k hk
  · exact (hc _ (show (0 : Nat) < 2 by decide)).trans (h.kf k hk)
  · exact (hc _ (show (0 : Nat) < 2 by decide)).trans (h.ko k hk)
  · exact (hc _ (show (0 : Nat) < 2 by decide)).trans (h.k3 k hk)
  · exact (hc _ (show (0 : Nat) < 2 by decide)).trans (h.k7 k hk)
  · exact (hc _ (show (1 : Nat) < 2 by decide)).trans (h.fd k hk)
  · exact (hc _ (show (1 : Nat) < 2 by decide)).trans (h.fa k hk)
  · exact (hc _ (show (1 : Nat) < 2 by decide)).trans (h.fb k hk)
  · exact (hc _ (show (1 : Nat) < 2 by decide)).trans (h.fl k hk)
  · exact (hc _ (show (1 : Nat) < 2 by decide)).trans (h.fh k hk)
  · exact (hc _ (show (1 : Nat) < 2 by decide)).trans (h.fu k hk)
theorem Tabs.below {w w' : World} {B : Nat} (h : Tabs w) (hb : Below B w w') (hB : 2 ≤ B) : Tabs w' := h.keep hb.size fun _ hp => hb.cell (by omega)
theorem Tabs.alloc {w : World} (h : Tabs w) (o : Obj) : Tabs (w.alloc o) := h.below ((Below.refl _ _).alloc (Nat.le_refl _) o) (by have := h.size; omega)

theorem mu_pos {f : Nat} (hf : f < 8) : 1 ≤ M.mu f := by
  rcases (by omega : f = 0 ∨ f = 1 ∨ f = 2 ∨ f = 3 ∨ f = 4 ∨ f = 5 ∨ f = 6 ∨ f = 7) with rfl | rfl | rfl | rfl | rfl | rfl | rfl | rfl <;> decide

set_option maxHeartbeats 1000000 in
theorem may_in (k : Nat) (k1 : 1 ≤ k) (k2 : k < 32) (rd a b n : Int) (w : World) (T : Tabs w) :
    Calls Tryd.prog 17 #[.agg #[.int .i64 k, .int .i64 rd, .int .i64 a, .int .i64 b, .int .i64 n]] w fun e w' => e = .returned (.bool (M.may k rd a b n)) ∧ Below w.heap.size w w' := by
  have hz1 := T.size
  have hz0 : 0 < w.heap.size := by omega
  have f8 : M.fm k < 8 := by have := M.fm_le k2; omega
  have c0 := T.kf k k2
  have c1 := T.fd _ f8
  have c2 := T.fa _ f8
  have c3 := T.fb _ f8
  have c4 := T.fl _ f8
  have c5 := T.fh _ f8
  have c6 := T.fu _ f8
  have m1 := mu_pos f8
  have t1 : decide ((k : Int) < 1) = false := by simp; omega
  have t2 : decide ((32 : Int) ≤ (k : Int)) = false := by simp; omega
  have hm := Lib.hid (show M.may k rd a b n = (M.reg rd (M.hasRd (M.fm k)) && (M.reg a (M.hasA (M.fm k)) && (M.reg b (M.hasB (M.fm k)) && M.imm n (M.lo (M.fm k)) (M.hi (M.fm k)) (M.mu (M.fm k))))) from rfl)
  generalize M.may k rd a b n = Y at *
  generalize M.hasRd (M.fm k) = hd at *
  generalize M.hasA (M.fm k) = ha at *
  generalize M.hasB (M.fm k) = hb at *
  generalize M.lo (M.fm k) = lo at *
  generalize M.hi (M.fm k) = hi at *
  generalize M.mu (M.fm k) = mu at *
  generalize M.fm k = f at *
  clear T
  go_enter Tryd.func17, Tryd.ntmps17
  go_wp2_with (first | (go_at_call 32; refine (reg_any _ _ _).mono ?_; rintro e w' ⟨rfl, rfl⟩) | (go_at_call 33; refine (imm_any _ _ _ _ _ _ _ _ m1).mono ?_; rintro e w' ⟨rfl, hb1⟩))
  all_goals go_ret
  · exact ⟨ret_bool (by rw [hm.out]; simp [*]), (((Below.refl _ _).alloc (Nat.le_refl _) _).alloc (by simp) _).trans (hb1.mono (by simp; omega))⟩
  all_goals exact ⟨ret_bool (by rw [hm.out]; simp [*]), (((Below.refl _ _).alloc (Nat.le_refl _) _).alloc (by simp) _)⟩

theorem may_out (k : Int) (h : k < 1 ∨ 32 ≤ k) (rd a b n : Int) (w : World) :
    Calls Tryd.prog 17 #[.agg #[.int .i64 k, .int .i64 rd, .int .i64 a, .int .i64 b, .int .i64 n]] w fun e w' => e = .returned (.bool false) ∧ Below w.heap.size w w' := by
  rcases h with h | h
  · have t1 : decide (k < 1) = true := by simp; omega
    go_enter Tryd.func17, Tryd.ntmps17
    go_wp2_with fail
    go_ret
    exact ⟨rfl, (Below.refl _ _).alloc (Nat.le_refl _) _⟩
  · have t1 : decide (k < 1) = false := by simp; omega
    have t2 : decide ((32 : Int) ≤ k) = true := by simp; omega
    go_enter Tryd.func17, Tryd.ntmps17
    go_wp2_with fail
    go_ret
    exact ⟨rfl, (Below.refl _ _).alloc (Nat.le_refl _) _⟩

theorem ret_two {k : IntKind} {a b : Int} {v : Value} (h : a = b) : Ending.returned (.tuple #[.int k a, v]) = .returned (.tuple #[.int k b, v]) := by rw [h]
theorem bcell {W w1 : World} (hb : Below W.heap.size W w1) : (∀ b o, b < W.heap.size → w1.cell? ⟨b, o, none⟩ = W.cell? ⟨b, o, none⟩) ∧ (∀ b o, b < W.heap.size → w1.frozen? ⟨b, o, none⟩ = W.frozen? ⟨b, o, none⟩) :=
  ⟨fun b o h => hb.cell (p := ⟨b, o, none⟩) h, fun b o h => hb.frozen (p := ⟨b, o, none⟩) h⟩

set_option maxHeartbeats 1000000 in
theorem word_yes (k : Nat) (k1 : 1 ≤ k) (k2 : k < 32) (rd a b n : Int) (w : World) (T : Tabs w) (hy : M.may k rd a b n = true) :
    Calls Tryd.prog 13 #[.agg #[.int .i64 k, .int .i64 rd, .int .i64 a, .int .i64 b, .int .i64 n]] w fun e w' => e = .returned (.tuple #[.int .u32 (M.word k rd a b n), .int .i64 0]) ∧ Below w.heap.size w w' := by
  have hz1 := T.size
  have hz0 : 0 < w.heap.size := by omega
  have f8 : M.fm k ≤ 7 := M.fm_le k2
  have c0 := T.kf k k2
  have c1 := T.ko k k2
  have c2 := T.k3 k k2
  have c3 := T.k7 k k2
  have HM := fun W TW => may_in k k1 k2 rd a b n W TW
  have HW := Lib.hid (M.word_or k2 hy)
  obtain ⟨⟨d0, d1⟩, ⟨a0, a1⟩, b0, b1⟩ := M.regs_in k2 hy
  obtain ⟨o0, o1⟩ := M.op_in k2
  obtain ⟨g0, g1⟩ := M.f3_in k2
  obtain ⟨s0, s1⟩ := M.f7_in k2
  rw [hy] at HM
  have HM' := Lib.hid HM
  clear HM hy
  have HT := Lib.hid T
  clear T
  go_enter Tryd.func13, Tryd.ntmps13
  go_wp2_with fail
  refine (HM'.out _ (HT.out.alloc _)).mono ?_
  rintro e w1 ⟨rfl, hb1⟩
  obtain ⟨hc, hf⟩ := bcell hb1
  have hz : w.heap.size < w1.heap.size := by have := hb1.size; simp at this; omega
  have hz' : 0 < w1.heap.size := by omega
  go_wp2_with (go_at_call 24; refine (lay_any _ _ f8 _).mono ?_; rintro e w' ⟨rfl, rfl⟩)
  go_ret2
  exact ⟨ret_two HW.out, ((Below.refl _ _).alloc (Nat.le_refl _) _).trans ((hb1.mono (by simp)).trans ((Below.refl _ _).alloc (by omega) _))⟩

set_option maxHeartbeats 1000000 in
theorem word_no (k : Nat) (k1 : 1 ≤ k) (k2 : k < 32) (rd a b n : Int) (w : World) (T : Tabs w) (hy : M.may k rd a b n = false) :
    Calls Tryd.prog 13 #[.agg #[.int .i64 k, .int .i64 rd, .int .i64 a, .int .i64 b, .int .i64 n]] w fun e w' => e = .returned (.tuple #[.int .u32 0, .int .i64 1]) ∧ Below w.heap.size w w' := by
  have HM := fun W TW => may_in k k1 k2 rd a b n W TW
  rw [hy] at HM
  have HM' := Lib.hid HM
  clear HM hy
  have HT := Lib.hid T
  clear T
  go_enter Tryd.func13, Tryd.ntmps13
  go_wp2_with fail
  refine (HM'.out _ (HT.out.alloc _)).mono ?_
  rintro e w1 ⟨rfl, hb1⟩
  go_wp2_with fail
  go_ret2
  exact ⟨rfl, ((Below.refl _ _).alloc (Nat.le_refl _) _).trans (hb1.mono (by simp))⟩
theorem word_out (k : Int) (h : k < 1 ∨ 32 ≤ k) (rd a b n : Int) (w : World) :
    Calls Tryd.prog 13 #[.agg #[.int .i64 k, .int .i64 rd, .int .i64 a, .int .i64 b, .int .i64 n]] w fun e w' => e = .returned (.tuple #[.int .u32 0, .int .i64 1]) ∧ Below w.heap.size w w' := by
  have HM := Lib.hid (fun W => may_out k h rd a b n W)
  clear h
  go_enter Tryd.func13, Tryd.ntmps13
  go_wp2_with fail
  refine (HM.out _).mono ?_
  rintro e w1 ⟨rfl, hb1⟩
  go_wp2_with fail
  go_ret2
  exact ⟨rfl, ((Below.refl _ _).alloc (Nat.le_refl _) _).trans (hb1.mono (by simp))⟩
end Go.Proofs.YtmedlebepgobeaaDoor
