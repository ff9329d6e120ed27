/- Walks of kindOf, takeAs and Take of package enc. A walk of Take of package enc: it finds the kind whose word it is, if there is one. -/
import Derived.Test.YtclbkdnihhmglaaDoorZEA
import Derived.Outline
import Derived.StillTailTactics
import Derived.Deep.RegionHeld3
import Derived.Laws.StructEq
namespace Go.Proofs.YtclbkdnihhmglaaDoor.E
open Go.RowKit

set_option maxRecDepth 100000 in
set_option maxHeartbeats 400000 in
theorem kind_0 (v : Int) (w : World) (v0 : 0 ≤ v) (v1 : v < 4294967296) :
    Calls Tryd.prog 52 #[.int .u32 v, .int .i64 0] w fun e w' => e = .returned (.agg #[.int .i64 0, .int .u32 (v % 128), .int .u32 (v / 4096 % 8), .int .u32 (v / 33554432 % 128)]) ∧ Below w.heap.size w w' := by
  have h1 := Lib.hid (M.and127 v0 v1)
  have h2 := Lib.hid (M.and7 (x := v / 4096) (by omega) (by omega))
  have h3 := Lib.hid (M.and127 (x := v / 33554432) (by omega) (by omega))
  go_enter Tryd.func52, Tryd.ntmps52
  go_wp2
  rw [← h1.out, ← h2.out, ← h3.out]
  exact bodyPost_ret (v := .agg #[.int .i64 0, .int .u32 (bits .and .u32 v 127), .int .u32 (bits .and .u32 (v / 4096) 7), .int .u32 (bits .and .u32 (v / 33554432) 127)]) (by simp [results, Tryd.results52, go_sem]) rfl ⟨rfl, ((Below.refl _ _).alloc (Nat.le_refl _) _).alloc (by simp) _⟩

set_option maxRecDepth 100000 in
set_option maxHeartbeats 400000 in
theorem kind_1 (v : Int) (w : World) (v0 : 0 ≤ v) (v1 : v < 4294967296) :
    Calls Tryd.prog 52 #[.int .u32 v, .int .i64 1] w fun e w' => e = .returned (.agg #[.int .i64 1, .int .u32 (v % 128), .int .u32 (v / 4096 % 8), .int .u32 (0)]) ∧ Below w.heap.size w w' := by
  have h1 := Lib.hid (M.and127 v0 v1)
  have h2 := Lib.hid (M.and7 (x := v / 4096) (by omega) (by omega))
  have h3 := Lib.hid (M.and127 (x := v / 33554432) (by omega) (by omega))
  go_enter Tryd.func52, Tryd.ntmps52
  go_wp2
  rw [← h1.out, ← h2.out]
  exact bodyPost_ret (v := .agg #[.int .i64 1, .int .u32 (bits .and .u32 v 127), .int .u32 (bits .and .u32 (v / 4096) 7), .int .u32 (0)]) (by simp [results, Tryd.results52, go_sem]) rfl ⟨rfl, ((Below.refl _ _).alloc (Nat.le_refl _) _).alloc (by simp) _⟩

set_option maxRecDepth 100000 in
set_option maxHeartbeats 400000 in
theorem kind_2 (v : Int) (w : World) (v0 : 0 ≤ v) (v1 : v < 4294967296) :
    Calls Tryd.prog 52 #[.int .u32 v, .int .i64 2] w fun e w' => e = .returned (.agg #[.int .i64 2, .int .u32 (v % 128), .int .u32 (v / 4096 % 8), .int .u32 (0)]) ∧ Below w.heap.size w w' := by
  have h1 := Lib.hid (M.and127 v0 v1)
  have h2 := Lib.hid (M.and7 (x := v / 4096) (by omega) (by omega))
  have h3 := Lib.hid (M.and127 (x := v / 33554432) (by omega) (by omega))
  go_enter Tryd.func52, Tryd.ntmps52
  go_wp2
  rw [← h1.out, ← h2.out]
  exact bodyPost_ret (v := .agg #[.int .i64 2, .int .u32 (bits .and .u32 v 127), .int .u32 (bits .and .u32 (v / 4096) 7), .int .u32 (0)]) (by simp [results, Tryd.results52, go_sem]) rfl ⟨rfl, ((Below.refl _ _).alloc (Nat.le_refl _) _).alloc (by simp) _⟩

set_option maxRecDepth 100000 in
set_option maxHeartbeats 400000 in
theorem kind_3 (v : Int) (w : World) (v0 : 0 ≤ v) (v1 : v < 4294967296) :
    Calls Tryd.prog 52 #[.int .u32 v, .int .i64 3] w fun e w' => e = .returned (.agg #[.int .i64 3, .int .u32 (v % 128), .int .u32 (v / 4096 % 8), .int .u32 (0)]) ∧ Below w.heap.size w w' := by
  have h1 := Lib.hid (M.and127 v0 v1)
  have h2 := Lib.hid (M.and7 (x := v / 4096) (by omega) (by omega))
  have h3 := Lib.hid (M.and127 (x := v / 33554432) (by omega) (by omega))
  go_enter Tryd.func52, Tryd.ntmps52
  go_wp2
  rw [← h1.out, ← h2.out]
  exact bodyPost_ret (v := .agg #[.int .i64 3, .int .u32 (bits .and .u32 v 127), .int .u32 (bits .and .u32 (v / 4096) 7), .int .u32 (0)]) (by simp [results, Tryd.results52, go_sem]) rfl ⟨rfl, ((Below.refl _ _).alloc (Nat.le_refl _) _).alloc (by simp) _⟩

set_option maxRecDepth 100000 in
set_option maxHeartbeats 400000 in
theorem kind_4 (v : Int) (w : World) (v0 : 0 ≤ v) (v1 : v < 4294967296) :
    Calls Tryd.prog 52 #[.int .u32 v, .int .i64 4] w fun e w' => e = .returned (.agg #[.int .i64 4, .int .u32 (v % 128), .int .u32 (v / 4096 % 8), .int .u32 (0)]) ∧ Below w.heap.size w w' := by
  have h1 := Lib.hid (M.and127 v0 v1)
  have h2 := Lib.hid (M.and7 (x := v / 4096) (by omega) (by omega))
  have h3 := Lib.hid (M.and127 (x := v / 33554432) (by omega) (by omega))
  go_enter Tryd.func52, Tryd.ntmps52
  go_wp2
  rw [← h1.out, ← h2.out]
  exact bodyPost_ret (v := .agg #[.int .i64 4, .int .u32 (bits .and .u32 v 127), .int .u32 (bits .and .u32 (v / 4096) 7), .int .u32 (0)]) (by simp [results, Tryd.results52, go_sem]) rfl ⟨rfl, ((Below.refl _ _).alloc (Nat.le_refl _) _).alloc (by simp) _⟩

set_option maxRecDepth 100000 in
set_option maxHeartbeats 400000 in
theorem kind_5 (v : Int) (w : World) (v0 : 0 ≤ v) (v1 : v < 4294967296) :
    Calls Tryd.prog 52 #[.int .u32 v, .int .i64 5] w fun e w' => e = .returned (.agg #[.int .i64 5, .int .u32 (v % 128), .int .u32 (0), .int .u32 (0)]) ∧ Below w.heap.size w w' := by
  have h1 := Lib.hid (M.and127 v0 v1)
  have h2 := Lib.hid (M.and7 (x := v / 4096) (by omega) (by omega))
  have h3 := Lib.hid (M.and127 (x := v / 33554432) (by omega) (by omega))
  go_enter Tryd.func52, Tryd.ntmps52
  go_wp2
  rw [← h1.out]
  exact bodyPost_ret (v := .agg #[.int .i64 5, .int .u32 (bits .and .u32 v 127), .int .u32 (0), .int .u32 (0)]) (by simp [results, Tryd.results52, go_sem]) rfl ⟨rfl, ((Below.refl _ _).alloc (Nat.le_refl _) _).alloc (by simp) _⟩

set_option maxRecDepth 100000 in
set_option maxHeartbeats 400000 in
theorem kind_6 (v : Int) (w : World) (v0 : 0 ≤ v) (v1 : v < 4294967296) :
    Calls Tryd.prog 52 #[.int .u32 v, .int .i64 6] w fun e w' => e = .returned (.agg #[.int .i64 6, .int .u32 (v % 128), .int .u32 (0), .int .u32 (0)]) ∧ Below w.heap.size w w' := by
  have h1 := Lib.hid (M.and127 v0 v1)
  have h2 := Lib.hid (M.and7 (x := v / 4096) (by omega) (by omega))
  have h3 := Lib.hid (M.and127 (x := v / 33554432) (by omega) (by omega))
  go_enter Tryd.func52, Tryd.ntmps52
  go_wp2
  rw [← h1.out]
  exact bodyPost_ret (v := .agg #[.int .i64 6, .int .u32 (bits .and .u32 v 127), .int .u32 (0), .int .u32 (0)]) (by simp [results, Tryd.results52, go_sem]) rfl ⟨rfl, ((Below.refl _ _).alloc (Nat.le_refl _) _).alloc (by simp) _⟩

set_option maxRecDepth 100000 in
set_option maxHeartbeats 400000 in
theorem kind_7 (v : Int) (w : World) (v0 : 0 ≤ v) (v1 : v < 4294967296) :
    Calls Tryd.prog 52 #[.int .u32 v, .int .i64 7] w fun e w' => e = .returned (.agg #[.int .i64 7, .int .u32 (v % 128), .int .u32 (v / 4096 % 8), .int .u32 (0)]) ∧ Below w.heap.size w w' := by
  have h1 := Lib.hid (M.and127 v0 v1)
  have h2 := Lib.hid (M.and7 (x := v / 4096) (by omega) (by omega))
  have h3 := Lib.hid (M.and127 (x := v / 33554432) (by omega) (by omega))
  go_enter Tryd.func52, Tryd.ntmps52
  go_wp2
  rw [← h1.out, ← h2.out]
  exact bodyPost_ret (v := .agg #[.int .i64 7, .int .u32 (bits .and .u32 v 127), .int .u32 (bits .and .u32 (v / 4096) 7), .int .u32 (0)]) (by simp [results, Tryd.results52, go_sem]) rfl ⟨rfl, ((Below.refl _ _).alloc (Nat.le_refl _) _).alloc (by simp) _⟩

theorem kind_any (v : Int) (k : Nat) (k2 : k < 32) (w : World) (v0 : 0 ≤ v) (v1 : v < 4294967296) :
    Calls Tryd.prog 52 #[.int .u32 v, .int .i64 (M.fm k)] w fun e w' => e = .returned (.agg #[.int .i64 (M.fm k), .int .u32 (v % 128), .int .u32 (M.tF3 k v), .int .u32 (M.tF7 k v)]) ∧ Below w.heap.size w w' := by
  unfold M.tF3 M.tF7
  rcases M.fm_cases k2 with e | e | e | e | e | e | e | e <;> rw [e]
  · exact kind_0 v w v0 v1
  · exact kind_1 v w v0 v1
  · exact kind_2 v w v0 v1
  · exact kind_3 v w v0 v1
  · exact kind_4 v w v0 v1
  · exact kind_5 v w v0 v1
  · exact kind_6 v w v0 v1
  · exact kind_7 v w v0 v1

theorem tail_drew {P : Program} {id : Nat} {Q : Exit → Act → World → Prop} {a : Act} {w : World} {l : List Oper} (n : Nat) (hm : P.follows .mixedOrders = true) (hB : Region.lexTailB .any l.toArray n = true)
    (h : wpStill P l.toArray w.drew (fun a' => wpList P l.toArray Q (l.drop n) a' w.drew) (l.take n) a) : (Code.region id l.toArray true).wp P Q a w := wp_region_still_tail n hm hB h
theorem turn_same {P : Program} {f : FuncId} {args : Array Value} {w : World} {v : Value} (h : Calls P f args w fun e w' => e = .returned v ∧ w = w') : Calls P f args w fun e w' => e = .returned v ∧ w' = w :=
  h.mono fun _ _ ⟨h1, h2⟩ => ⟨h1, h2.symm⟩

set_option maxRecDepth 100000 in
set_option maxHeartbeats 1000000 in
theorem as_any (v : Int) (k : Nat) (k1 : 1 ≤ k) (k2 : k < 32) (w : World) (v0 : 0 ≤ v) (v1 : v < 4294967296) (T : Tabs w) :
    Calls Tryd.prog 53 #[.int .u32 v, .int .i64 k] w fun e w' => e = .returned (.agg #[.int .i64 k, .int .i64 (M.tRd k v), .int .i64 (M.tA k v), .int .i64 (M.tB k v), .int .i64 (M.tI k v)]) ∧ Below w.heap.size w w' := by
  have hz1 := T.size
  have hz0 : 0 < w.heap.size := by omega
  have f7 : M.fm k ≤ 7 := M.fm_le k2
  have f8 : M.fm k < 8 := by omega
  have c0 := T.kf k k2
  have c1 := T.fd _ f8
  have c2 := T.fa _ f8
  have c3 := T.fb _ f8
  have c4 := T.fl _ f8
  have c5 := T.fh _ f8
  have c6 := T.fu _ f8
  rw [show M.tRd k v = tr (M.hasRd (M.fm k)) (v / 128 % 32) from rfl, show M.tA k v = tr (M.hasA (M.fm k)) (v / 32768 % 32) from rfl, show M.tB k v = tr (M.hasB (M.fm k)) (v / 1048576 % 32) from rfl, show M.tI k v = M.takeImm (M.fm k) v from rfl]
  clear T
  generalize M.hasRd (M.fm k) = hd at *
  generalize M.hasA (M.fm k) = ha at *
  generalize M.hasB (M.fm k) = hb at *
  generalize M.lo (M.fm k) = lo at *
  generalize M.hi (M.fm k) = hi at *
  generalize M.mu (M.fm k) = mu at *
  generalize M.fm k = f at *
  go_enter Tryd.func53, Tryd.ntmps53
  go_wp2_with fail
  refine tail_drew 17 (by kernel_rfl) (by kernel_rfl) ?_
  simp only [List.take_succ_cons, List.take_zero, List.drop_succ_cons, List.drop_zero]
  repeat still_step
  still_call (turn_same (treg_7 _ _ _ v0 v1))
  repeat still_step
  still_call (turn_same (treg_15 _ _ _ v0 v1))
  repeat still_step
  still_call (turn_same (treg_20 _ _ _ v0 v1))
  repeat still_step
  still_call (turn_same (timm_any _ _ f7 _ v0 v1))
  repeat still_step
  refine wpStill_nil ?_
  go_wp2_with fail
  exact bodyPost_ret (v := .agg #[.int .i64 k, .int .i64 (tr hd (v / 128 % 32)), .int .i64 (tr ha (v / 32768 % 32)), .int .i64 (tr hb (v / 1048576 % 32)), .int .i64 (M.takeImm f v)]) (by simp [results, Tryd.results53, go_sem]) rfl ⟨rfl, (((Below.refl _ _).alloc (Nat.le_refl _) _).alloc (by simp) _).drew⟩
end Go.Proofs.YtclbkdnihhmglaaDoor.E

namespace Go.Proofs.YtclbkdnihhmglaaDoor.E
open Go.RowKit

def TakePost (v : Int) (w : World) (e : Ending) (w' : World) : Prop :=
  ((∃ k : Nat, 1 ≤ k ∧ k < 32 ∧ M.okAt v k = true ∧ e = .returned (.tuple #[.agg #[.int .i64 k, .int .i64 (M.tRd k v), .int .i64 (M.tA k v), .int .i64 (M.tB k v), .int .i64 (M.tI k v)], .int .i64 0])) ∨
    ((∀ k : Nat, 1 ≤ k → k < 32 → M.okAt v k = false) ∧ e = .returned (.tuple #[.agg #[.int .i64 0, .int .i64 0, .int .i64 0, .int .i64 0, .int .i64 0], .int .i64 5]))) ∧ Below w.heap.size w w'
def NoneTo (v : Int) (n : Nat) : Prop := ∀ k : Nat, 1 ≤ k → k < n → M.okAt v k = false
theorem NoneTo.more {v : Int} {n : Nat} (h : NoneTo v n) (h' : M.okAt v n = false) : NoneTo v (n + 1) := fun k h1 h2 => by
  by_cases e : k = n
  · subst e; exact h'
  · exact h k h1 (by omega)
def TakeRel (v : Int) (w : World) (i : Value) (wr : World) : Prop :=
  ∃ k : Nat, 1 ≤ k ∧ k ≤ 32 ∧ i = .int .i64 k ∧ NoneTo v k ∧ Below (w.heap.size + 1) (w.alloc (.cells #[.int .i64 0, .int .i64 0, .int .i64 0, .int .i64 0, .int .i64 0] 35)) wr
theorem rel_next {v : Int} {w wr w1 : World} {k : Nat} (k1 : 1 ≤ k) (hlt : k < 32) (hno : NoneTo v k) (hok : M.okAt v k = false)
    (hb : Below (w.heap.size + 1) (w.alloc (.cells #[.int .i64 0, .int .i64 0, .int .i64 0, .int .i64 0, .int .i64 0] 35)) wr) (hb1 : Below wr.heap.size wr w1) : TakeRel v w (.int .i64 ((k : Int) + 1)) w1 :=
  ⟨k + 1, by omega, by omega, by go_num, hno.more hok, hb.trans (hb1.mono (by have := hb.size; simp at this; omega))⟩
theorem ok_not {v : Int} {k : Nat} (hk : k < 32) (h : M.kindOk v k = false) : M.okAt v k = false := by
  cases e : M.okAt v k
  · rfl
  · rw [M.kindOk_of hk e] at h; cases h

theorem zero_cells {w wr : World} (hb : Below (w.heap.size + 1) (w.alloc (.cells #[.int .i64 0, .int .i64 0, .int .i64 0, .int .i64 0, .int .i64 0] 35)) wr) :
    (wr.cell? ⟨w.heap.size, 0, none⟩ = some (.int .i64 0) ∧ wr.cell? ⟨w.heap.size, 1, none⟩ = some (.int .i64 0) ∧ wr.cell? ⟨w.heap.size, 2, none⟩ = some (.int .i64 0) ∧ wr.cell? ⟨w.heap.size, 3, none⟩ = some (.int .i64 0) ∧ wr.cell? ⟨w.heap.size, 4, none⟩ = some (.int .i64 0)) ∧
    (∀ j, wr.frozen? ⟨w.heap.size, j, none⟩ = false) := by
  refine ⟨⟨?_, ?_, ?_, ?_, ?_⟩, fun j => ?_⟩
  · exact (hb.cell (p := ⟨w.heap.size, 0, none⟩) (by simp)).trans (by go_simp)
  · exact (hb.cell (p := ⟨w.heap.size, 1, none⟩) (by simp)).trans (by go_simp)
  · exact (hb.cell (p := ⟨w.heap.size, 2, none⟩) (by simp)).trans (by go_simp)
  · exact (hb.cell (p := ⟨w.heap.size, 3, none⟩) (by simp)).trans (by go_simp)
  · exact (hb.cell (p := ⟨w.heap.size, 4, none⟩) (by simp)).trans (by go_simp)
  · exact (hb.frozen (p := ⟨w.heap.size, j, none⟩) (by simp)).trans (by go_simp)
theorem from_start {w wr : World} (hb : Below (w.heap.size + 1) (w.alloc (.cells #[.int .i64 0, .int .i64 0, .int .i64 0, .int .i64 0, .int .i64 0] 35)) wr) : Below w.heap.size w wr :=
  ((Below.refl _ _).alloc (Nat.le_refl _) _).trans (hb.mono (by omega))

set_option maxRecDepth 100000 in
set_option maxHeartbeats 4000000 in
theorem take_any (v : Int) (w : World) (v0 : 0 ≤ v) (v1 : v < 4294967296) (T : Tabs w) : Calls Tryd.prog 38 #[.int .u32 v] w (TakePost v w) := by
  have hz1 := T.size
  have hz0 : 0 < w.heap.size := by omega
  have HT := Lib.hid T
  clear T
  go_enter Tryd.func38, Tryd.ntmps38
  go_wp2_with fail
  go_loopw [4] (fun i wr => TakeRel v w i wr) (fun i _ => 32 - (intOf i).toNat)
  case atStart => exact ⟨1, by omega, by omega, rfl, fun k h1 h2 => by omega, Below.refl _ _⟩
  case round =>
    obtain ⟨k, k1, k2, rfl, hno, hb⟩ := hrel
    have hno' := Lib.hid hno
    clear hno
    by_cases hlt : k < 32
    · have TR0 := HT.out.alloc (.cells #[.int .i64 0, .int .i64 0, .int .i64 0, .int .i64 0, .int .i64 0] 35)
      have TR := TR0.below hb (by omega)
      clear TR0
      have c0 := TR.kf k hlt
      have c1 := TR.ko k hlt
      have c2 := TR.k3 k hlt
      have c3 := TR.k7 k hlt
      have z1 := TR.size
      have z0 : 0 < wr.heap.size := by omega
      have HR := Lib.hid TR
      clear TR
      have HB := Lib.hid hb
      clear hb
      by_cases q1 : v % 128 = M.op k
      · have q1' : (v % 128 == M.op k) = true := by simp [q1]
        by_cases q2 : M.tF3 k v = M.f3 k
        · have q2' : (M.tF3 k v == M.f3 k) = true := by simp [q2]
          by_cases q3 : M.tF7 k v = M.f7 k
          · have q3' : (M.tF7 k v == M.f7 k) = true := by simp [q3]
            clear q1 q2 q3
            have hb3 : 2 ≤ wr.heap.size := by omega
            go_wp2_with fail
            go_region_held3 (fun w' => w'.cell? ⟨0, k * 4, none⟩ = some (.int .i64 (M.fm k)) ∧ w'.cell? ⟨0, k * 4 + 1, none⟩ = some (.int .u32 (M.op k)) ∧ w'.cell? ⟨0, k * 4 + 2, none⟩ = some (.int .u32 (M.f3 k)) ∧ w'.cell? ⟨0, k * 4 + 3, none⟩ = some (.int .u32 (M.f7 k)))
              (first | go_keep | (go_split_ands; exact ⟨(hb1.cell (p := ⟨0, _, none⟩) (by simp; omega)).trans (by assumption), (hb1.cell (p := ⟨0, _, none⟩) (by simp; omega)).trans (by assumption), (hb1.cell (p := ⟨0, _, none⟩) (by simp; omega)).trans (by assumption), (hb1.cell (p := ⟨0, _, none⟩) (by simp; omega)).trans (by assumption)⟩))
              (first | (go_at_call 52; refine (kind_any v k hlt _ v0 v1).mono ?_; rintro e w1 ⟨rfl, hb1⟩))
            have hb1' := ((Below.refl wr.heap.size wr).drew).trans hb1
            have T1 := Lib.hid (HR.out.below hb1' hb3)
            have s1 : 1 < w1.heap.size := T1.out.size
            have s2 : wr.heap.size ≤ w1.heap.size := hb1'.size
            have HB1 := Lib.hid hb1'
            clear hb1 hb1'
            go_wp2_with fail
            refine (as_any v k k1 hlt _ v0 v1 T1.out).mono ?_
            rintro e w2 ⟨rfl, hb2⟩
            have T2 := Lib.hid (T1.out.below hb2 (by omega))
            have s3 : w1.heap.size ≤ w2.heap.size := hb2.size
            have HB2 := Lib.hid hb2
            clear hb2
            have hm := Lib.hid (show M.okAt v k = (M.may k (M.tRd k v) (M.tA k v) (M.tB k v) (M.tI k v) && decide (M.word k (M.tRd k v) (M.tA k v) (M.tB k v) (M.tI k v) = v)) from rfl)
            generalize hd : M.tRd k v = d at *
            generalize ha : M.tA k v = a at *
            generalize hbb : M.tB k v = b at *
            generalize hi : M.tI k v = i at *
            have HD := Lib.hid (And.intro hd (And.intro ha (And.intro hbb hi)))
            clear hd ha hbb hi
            go_wp2_with fail
            by_cases hy : M.may k d a b i = true
            · by_cases hw : M.word k d a b i = v
              · have hw' : (M.word k d a b i == v) = true := by simp [hw]
                have hok := Lib.hid (show M.okAt v k = true by rw [hm.out, hy, hw]; simp)
                refine (word_yes k k1 hlt d a b i _ (T2.out.alloc _) hy).mono ?_
                rintro e w3 ⟨rfl, hb4⟩
                have BW := Lib.hid (HB1.out.trans ((HB2.out.mono s2).trans (((Below.refl _ _).alloc (by omega) _).trans (hb4.mono (by simp; omega)))))
                have BT := Lib.hid (HB.out.trans (BW.out.mono (by have := HB.out.size; simp at this; omega)))
                obtain ⟨⟨e0, e1, e2, e3, e4⟩, ef⟩ := zero_cells BT.out
                have f0 := ef 0
                have f1 := ef 1
                have f2 := ef 2
                have f3 := ef 3
                have f4 := ef 4
                clear ef
                have g0 : w3.cell? ⟨w2.heap.size, 0, none⟩ = some (.int .i64 k) := (hb4.cell (p := ⟨w2.heap.size, 0, none⟩) (by simp)).trans (by go_simp)
                have g1 : w3.cell? ⟨w2.heap.size, 1, none⟩ = some (.int .i64 d) := (hb4.cell (p := ⟨w2.heap.size, 1, none⟩) (by simp)).trans (by go_simp)
                have g2 : w3.cell? ⟨w2.heap.size, 2, none⟩ = some (.int .i64 a) := (hb4.cell (p := ⟨w2.heap.size, 2, none⟩) (by simp)).trans (by go_simp)
                have g3 : w3.cell? ⟨w2.heap.size, 3, none⟩ = some (.int .i64 b) := (hb4.cell (p := ⟨w2.heap.size, 3, none⟩) (by simp)).trans (by go_simp)
                have g4 : w3.cell? ⟨w2.heap.size, 4, none⟩ = some (.int .i64 i) := (hb4.cell (p := ⟨w2.heap.size, 4, none⟩) (by simp)).trans (by go_simp)
                have hz : w.heap.size + 1 ≤ w3.heap.size := by have := BT.out.size; simpa using this
                clear hb4 hw
                go_wp2_with fail
                refine bodyPost_ret (v := .tuple #[.agg #[.int .i64 k, .int .i64 d, .int .i64 a, .int .i64 b, .int .i64 i], .int .i64 0]) (by simp [results, Tryd.results38, go_sem, *]) rfl ⟨.inl ⟨k, k1, hlt, hok.out, ?_⟩, ?_⟩
                · rw [HD.out.1, HD.out.2.1, HD.out.2.2.1, HD.out.2.2.2]
                · exact (((((from_start BT.out).setCell (Nat.le_refl _) _).setCell (Nat.le_refl _) _).setCell (Nat.le_refl _) _).setCell (Nat.le_refl _) _).setCell (Nat.le_refl _) _
              · have hw' : (M.word k d a b i == v) = false := by simp [hw]
                have hok := Lib.hid (show M.okAt v k = false by rw [hm.out]; simp [hw])
                refine (word_yes k k1 hlt d a b i _ (T2.out.alloc _) hy).mono ?_
                rintro e w3 ⟨rfl, hb4⟩
                have BW := Lib.hid (HB1.out.trans ((HB2.out.mono s2).trans (((Below.refl _ _).alloc (by omega) _).trans (hb4.mono (by simp; omega)))))
                clear hb4 hw
                go_wp2_with fail
                go_roundw
                case rel => exact rel_next k1 hlt hno'.out hok.out HB.out BW.out
                case measure => simp [intOf]; omega
            · have hy' : M.may k d a b i = false := by simpa using hy
              have hok := Lib.hid (show M.okAt v k = false by rw [hm.out, hy']; rfl)
              clear hy
              refine (word_no k k1 hlt d a b i _ (T2.out.alloc _) hy').mono ?_
              rintro e w3 ⟨rfl, hb4⟩
              have BW := Lib.hid (HB1.out.trans ((HB2.out.mono s2).trans (((Below.refl _ _).alloc (by omega) _).trans (hb4.mono (by simp; omega)))))
              clear hb4
              go_wp2_with fail
              go_roundw
              case rel => exact rel_next k1 hlt hno'.out hok.out HB.out BW.out
              case measure => simp [intOf]; omega
          · have hok := Lib.hid (ok_not hlt (show M.kindOk v k = false by simp [M.kindOk, q3]))
            have q3' : (M.tF7 k v == M.f7 k) = false := by simp [q3]
            clear q1 q2 q3
            go_wp2_with fail
            go_region_held3 (fun w' => w'.cell? ⟨0, k * 4, none⟩ = some (.int .i64 (M.fm k)) ∧ w'.cell? ⟨0, k * 4 + 1, none⟩ = some (.int .u32 (M.op k)) ∧ w'.cell? ⟨0, k * 4 + 2, none⟩ = some (.int .u32 (M.f3 k)) ∧ w'.cell? ⟨0, k * 4 + 3, none⟩ = some (.int .u32 (M.f7 k)))
              (first | go_keep | (go_split_ands; exact ⟨(hb1.cell (p := ⟨0, _, none⟩) (by simp; omega)).trans (by assumption), (hb1.cell (p := ⟨0, _, none⟩) (by simp; omega)).trans (by assumption), (hb1.cell (p := ⟨0, _, none⟩) (by simp; omega)).trans (by assumption), (hb1.cell (p := ⟨0, _, none⟩) (by simp; omega)).trans (by assumption)⟩))
              (first | (go_at_call 52; refine (kind_any v k hlt _ v0 v1).mono ?_; rintro e w1 ⟨rfl, hb1⟩))
            go_wp2_with fail
            go_roundw
            case rel => exact rel_next k1 hlt hno'.out hok.out HB.out (((Below.refl _ _).drew).trans hb1)
            case measure => simp [intOf]; omega
        · have hok := Lib.hid (ok_not hlt (show M.kindOk v k = false by simp [M.kindOk, q2]))
          have q2' : (M.tF3 k v == M.f3 k) = false := by simp [q2]
          clear q1 q2
          go_wp2_with fail
          go_region_held3 (fun w' => w'.cell? ⟨0, k * 4, none⟩ = some (.int .i64 (M.fm k)) ∧ w'.cell? ⟨0, k * 4 + 1, none⟩ = some (.int .u32 (M.op k)) ∧ w'.cell? ⟨0, k * 4 + 2, none⟩ = some (.int .u32 (M.f3 k)) ∧ w'.cell? ⟨0, k * 4 + 3, none⟩ = some (.int .u32 (M.f7 k)))
            (first | go_keep | (go_split_ands; exact ⟨(hb1.cell (p := ⟨0, _, none⟩) (by simp; omega)).trans (by assumption), (hb1.cell (p := ⟨0, _, none⟩) (by simp; omega)).trans (by assumption), (hb1.cell (p := ⟨0, _, none⟩) (by simp; omega)).trans (by assumption), (hb1.cell (p := ⟨0, _, none⟩) (by simp; omega)).trans (by assumption)⟩))
            (first | (go_at_call 52; refine (kind_any v k hlt _ v0 v1).mono ?_; rintro e w1 ⟨rfl, hb1⟩))
          go_wp2_with fail
          go_roundw
          case rel => exact rel_next k1 hlt hno'.out hok.out HB.out (((Below.refl _ _).drew).trans hb1)
          case measure => simp [intOf]; omega
      · have hok := Lib.hid (ok_not hlt (show M.kindOk v k = false by simp [M.kindOk, q1]))
        have q1' : (v % 128 == M.op k) = false := by simp [q1]
        clear q1
        go_wp2_with fail
        go_region_held3 (fun w' => w'.cell? ⟨0, k * 4, none⟩ = some (.int .i64 (M.fm k)) ∧ w'.cell? ⟨0, k * 4 + 1, none⟩ = some (.int .u32 (M.op k)) ∧ w'.cell? ⟨0, k * 4 + 2, none⟩ = some (.int .u32 (M.f3 k)) ∧ w'.cell? ⟨0, k * 4 + 3, none⟩ = some (.int .u32 (M.f7 k)))
          (first | go_keep | (go_split_ands; exact ⟨(hb1.cell (p := ⟨0, _, none⟩) (by simp; omega)).trans (by assumption), (hb1.cell (p := ⟨0, _, none⟩) (by simp; omega)).trans (by assumption), (hb1.cell (p := ⟨0, _, none⟩) (by simp; omega)).trans (by assumption), (hb1.cell (p := ⟨0, _, none⟩) (by simp; omega)).trans (by assumption)⟩))
          (first | (go_at_call 52; refine (kind_any v k hlt _ v0 v1).mono ?_; rintro e w1 ⟨rfl, hb1⟩))
        go_wp2_with fail
        go_roundw
        case rel => exact rel_next k1 hlt hno'.out hok.out HB.out (((Below.refl _ _).drew).trans hb1)
        case measure => simp [intOf]; omega
    · have hnlt : decide ((k : Int) < 32) = false := by simp; omega
      obtain rfl : k = 32 := by omega
      obtain ⟨⟨e0, e1, e2, e3, e4⟩, ef⟩ := zero_cells hb
      have f0 := ef 0
      have f1 := ef 1
      have f2 := ef 2
      have f3 := ef 3
      have f4 := ef 4
      clear ef
      have HB := Lib.hid hb
      clear hb
      have hz : w.heap.size + 1 ≤ wr.heap.size := by have := HB.out.size; simpa using this
      go_wp2_with fail
      refine bodyPost_ret (v := .tuple #[.agg #[.int .i64 0, .int .i64 0, .int .i64 0, .int .i64 0, .int .i64 0], .int .i64 5]) (by simp [results, Tryd.results38, go_sem, *]) rfl ⟨.inr ⟨fun k h1 h2 => hno'.out k h1 h2, rfl⟩, ?_⟩
      exact (((((from_start HB.out).setCell (Nat.le_refl _) _).setCell (Nat.le_refl _) _).setCell (Nat.le_refl _) _).setCell (Nat.le_refl _) _).setCell (Nat.le_refl _) _
end Go.Proofs.YtclbkdnihhmglaaDoor.E
