/- n places from a on, page by page: what the iterator of stretches hands out, whatever the loop's body does, if it keeps the blocks of stretches. -/
import Derived.RangeFuncNested
import Derived.RangeFuncBound
import Derived.RangeFuncCalls
import Derived.RangeFuncLeaves
import Derived.Shelf.Abstract
import Derived.Shelf.RegionOpen
import Derived.WalkKit
import Derived.OwnWalkIn
import Derived.TacticsInMore
import Derived.LoopNIn
import Derived.LoopIn
import Derived.Sort.BigQuietIn
import Derived.Test.YtdlbhkdjcegbfaaP5
namespace Go.Proofs.Ytdlbhkdjcegbfaa
open Go.RowKit Go.Shelf

/-- the value of a row of places -/
def encS (s : M.Str) : Value := .agg #[.int .u64 s.pg, .int .i64 s.f, .int .i64 s.n]
/-- each block of a row of places lies as it lay -/
structure KeepS (W W' : World) : Prop where
  size : W.heap.size ≤ W'.heap.size
  same : ∀ (k : Nat) (cs : Array Value) (f : Nat × Nat), W.heap[k]? = some (.cells cs 167 f) → W'.heap[k]? = some (.cells cs 167 f)
theorem KeepS.trans {A B C : World} (h : KeepS A B) (k : KeepS B C) : KeepS A C := ⟨Nat.le_trans h.size k.size, fun i cs f hi => k.same i cs f (h.same i cs f hi)⟩
theorem KeepS.below {W W' : World} (h : Below W.heap.size W W') : KeepS W W' := ⟨h.size, fun i _ _ hi => (h.block i (Array.getElem?_eq_some_iff.1 hi).1).trans hi⟩
theorem KeepS.grown {W W' : World} {row : Option Nat} (h : W.grownBy W' row) (hr : ∀ r, row = some r → ∀ cs f, W.heap[r]? ≠ some (.cells cs 167 f)) : KeepS W W' :=
  ⟨h.size, fun i cs f hi => (h.block i (Array.getElem?_eq_some_iff.1 hi).1 (fun e => hr i e.symm cs f hi)).trans hi⟩
theorem keepS_b {w : World} (W : World) (l : Nat) (o o' : Obj) (_ : w.heap.size ≤ l) (h : W.heap[l]? = some o) (hc : o.isCells = false) (_ : o.isWalk = false) : KeepS W (W.putObj l o') :=
  KeepS.grown (grownBy_putObj' W l o') (fun r e _ _ hr => by cases e; rw [h] at hr; cases hr; cases hc)

theorem stretches_in (n : Nat) (a k : Int) (w : World) :
    CallsIn Fence.wide n Try.prog 114 #[.int .u64 a, .int .i64 k] w fun e w' => e = .returned (.func (.func 153) #[] #[.pointer (some ⟨w.heap.size, 0, none⟩), .pointer (some ⟨w.heap.size + 1, 0, none⟩)]) ∧ w' = (w.alloc (.cells #[.int .u64 a] 22)).alloc (.cells #[.int .i64 k] 3) := by
  refine callsIn_of_wp Try.func114 rfl trivial ?_ rfl
  simp only [Try.ntmps114, List.size_toArray, List.length_cons, List.length_nil, Nat.reduceAdd, Nat.reduceSub, Array.replicate_succ, Array.replicate_zero, List.push_toArray, List.append_toArray, List.nil_append, List.cons_append]
  gi_wp2
  go_ret
  exact ⟨rfl, by simp⟩

set_option maxRecDepth 100000 in
set_option maxHeartbeats 2000000 in
theorem strs_in (n : Nat) (hn : 1 ≤ n) (l Ba Bk : Nat) (a k : Int) (Q : M.Str → Prop) (hQ : ∀ s ∈ M.strs a k, Q s)
    (a0 : 0 ≤ a) (a1 : a ≤ 18446744073709551615) (k1 : k ≤ 9223372036854775807) (hk : a + k ≤ 18446744073709551616)
    (J Jx : List {s // Q s} → World → Prop) (W : World) (hJ : AbidesFrom W.heap.size J)
    (hY : ∀ pre x W1, J pre W1 → pre.length < (M.strs a k).length → YieldAt Fence.wide (n - 1) Try.prog l #[encS x.1] W1 fun e W' =>
      (e = .returned (.bool true) ∧ J (pre ++ [x]) W' ∧ KeepS W1 W') ∨ (e = .returned (.bool false) ∧ Jx (pre ++ [x]) W'))
    (hBa : W.cell? ⟨Ba, 0, none⟩ = some (.int .u64 a)) (hBk : W.cell? ⟨Bk, 0, none⟩ = some (.int .i64 k)) (h0 : J [] W) :
    CallsIn Fence.wide n Try.prog 153 #[.func (.yield l) #[] #[], .pointer (some ⟨Ba, 0, none⟩), .pointer (some ⟨Bk, 0, none⟩)] W fun e W' => (∃ v, e = .returned v) ∧
      ((∃ ys, ys.map Subtype.val = M.strs a k ∧ J ys W') ∨ (∃ pre, (pre.map Subtype.val) <+: M.strs a k ∧ Jx pre W')) := by
  refine callsIn_of_wp Try.func153 rfl trivial ?_ rfl
  simp only [Try.ntmps153, List.size_toArray, List.length_cons, List.length_nil, Nat.reduceAdd, Nat.reduceSub, Array.replicate_succ, Array.replicate_zero, List.push_toArray, List.append_toArray, List.nil_append, List.cons_append]
  have HY := Lib.hid hY
  have HJ := Lib.hid hJ
  have H0 := Lib.hid h0
  have HQ := Lib.hid hQ
  clear hY hJ h0 hQ
  gi_wp2
  gi_big_quiet_th (fail)
  have HJ1 := Lib.hid (fun s W1 W' (h1 : J s W1) (hg : W1.grownBy W' none) => HJ.out s W1 W' none h1 hg (fun r e => by cases e))
  have HD := Lib.hid (HJ1.out _ _ (W.drewN nq) H0.out ⟨rfl, rfl, rfl, Nat.le_refl _, fun _ _ _ => rfl⟩)
  generalize W.drewN nq = W0 at *
  clear hBa hBk
  gi_wp2
  gi_loopw [4, 5] (fun p q wr => ∃ (pre : List {s // Q s}) (pl left : Int), p = .int .u64 pl ∧ q = .int .i64 left ∧ 0 ≤ pl ∧ pl ≤ 18446744073709551615 ∧ left ≤ 9223372036854775807 ∧ (0 < left → pl + left ≤ 18446744073709551616) ∧ pre.map Subtype.val ++ M.strs pl left = M.strs a k ∧ J pre wr)
    (fun _ q _ => (intOf q).toNat)
  case atStart => exact ⟨[], a, k, rfl, rfl, a0, a1, k1, fun _ => hk, by simp, HD.out⟩
  case round =>
    obtain ⟨pre, pl, left, rfl, rfl, p0, p1, l1, hpl, he, hj⟩ := hrel
    have HE := Lib.hid he
    have HJP := Lib.hid hj
    clear he hj
    by_cases hlt : 0 < left
    · have hpl' := hpl hlt
      clear hpl
      have hc := M.strs_cons (a := pl) (n := left) hlt
      have hmem : (⟨pl - pl % 256, pl % 256, min left (256 - pl % 256)⟩ : M.Str) ∈ M.strs a k := by rw [← HE.out, hc]; simp
      have hlen : pre.length < (M.strs a k).length := by rw [← HE.out, hc]; simp
      have HE2 := Lib.hid (show (pre ++ [(⟨_, HQ.out _ hmem⟩ : {s // Q s})]).map Subtype.val ++ M.strs (pl + min left (256 - pl % 256)) (left - min left (256 - pl % 256)) = M.strs a k by
        have h := HE.out
        rw [hc] at h
        simpa using h)
      obtain ⟨x, hx⟩ : ∃ x : {s // Q s}, x = ⟨_, HQ.out _ hmem⟩ := ⟨_, rfl⟩
      have HX := Lib.hid (show encS x.1 = .agg #[.int .u64 (pl - pl % 256), .int .i64 (pl % 256), .int .i64 (min left (256 - pl % 256))] by rw [hx]; rfl)
      rw [← hx] at HE2
      clear hx hmem hc
      have hy0 := HY.out pre x (wr.alloc (.cells #[.int .u64 (pl - pl % 256), .int .i64 (pl % 256), .int .i64 (min left (256 - pl % 256))] 167)) (HJ1.out _ _ _ HJP.out (World.grownBy_alloc _ _ _)) hlen
      rw [HX.out] at hy0
      clear HX
      obtain ⟨q, hq, hq'⟩ : ∃ q, min left (256 - pl % 256) = q ∧ ((q = left ∧ left ≤ 256 - pl % 256) ∨ (q = 256 - pl % 256 ∧ 256 - pl % 256 < left)) := ⟨_, rfl, by omega⟩
      rw [hq] at HE2 hy0
      clear hq
      obtain ⟨fn, tmps, assign, body, hy, hR⟩ := hy0
      have HR := Lib.hid hR
      clear hR hlen
      rcases hq' with ⟨rfl, hq⟩ | ⟨rfl, hq⟩
      · gi_wp2
        refine HR.out.mono ?_
        rintro e W3 (⟨rfl, hJ3, hk3⟩ | ⟨rfl, hJx3⟩)
        · have hs := hk3.same wr.heap.size #[.int .u64 (pl - pl % 256), .int .i64 (pl % 256), .int .i64 q] (0, 0) (heap_alloc_new _ _)
          have h2 : W3.cell? ⟨wr.heap.size, 2, none⟩ = some (.int .i64 q) := by unfold World.cell?; rw [hs]; rfl
          have HJ3 := Lib.hid hJ3
          clear hJ3 hk3 hs
          have HW := Lib.hid (show 0 ≤ IntKind.u64.wrap (pl + q) ∧ IntKind.u64.wrap (pl + q) ≤ 18446744073709551615 by rw [IntKind.wrap_u64]; omega)
          gi_wp2
          go_roundw
          case rel => exact ⟨pre ++ [x], _, 0, rfl, rfl, HW.out.1, HW.out.2, by omega, fun h => by omega, by rw [M.strs_nil (by omega : (0 : Int) ≤ 0)]; have h := HE2.out; rw [M.strs_nil (by omega : q - q ≤ 0)] at h; exact h, HJ3.out⟩
          case measure => simp [intOf]; omega
        · gi_wp2
          refine bodyPost_ret (results_none rfl _ _ _) rfl ?_
          exact ⟨⟨_, rfl⟩, .inr ⟨pre ++ [x], ⟨_, HE2.out⟩, hJx3⟩⟩
      · gi_wp2
        refine HR.out.mono ?_
        rintro e W3 (⟨rfl, hJ3, hk3⟩ | ⟨rfl, hJx3⟩)
        · have hs := hk3.same wr.heap.size #[.int .u64 (pl - pl % 256), .int .i64 (pl % 256), .int .i64 (256 - pl % 256)] (0, 0) (heap_alloc_new _ _)
          have h2 : W3.cell? ⟨wr.heap.size, 2, none⟩ = some (.int .i64 (256 - pl % 256)) := by unfold World.cell?; rw [hs]; rfl
          have HJ3 := Lib.hid hJ3
          clear hJ3 hk3 hs
          gi_wp2
          go_roundw
          case rel => exact ⟨pre ++ [x], _, _, rfl, rfl, by omega, by omega, by omega, fun h => by omega, HE2.out, HJ3.out⟩
          case measure => simp [intOf]; omega
        · gi_wp2
          refine bodyPost_ret (results_none rfl _ _ _) rfl ?_
          exact ⟨⟨_, rfl⟩, .inr ⟨pre ++ [x], ⟨_, HE2.out⟩, hJx3⟩⟩
    · have hd : decide (0 < left) = false := by simp; omega
      gi_wp2
      go_end0
      exact ⟨⟨_, rfl⟩, .inl ⟨pre, by have h := HE.out; rw [M.strs_nil (by omega)] at h; simpa using h, HJP.out⟩⟩

/-- what stretches hands back, for a loop over it -/
theorem strs_stops (n : Nat) (hn : 1 ≤ n) (Ba Bk : Nat) (a k : Int) (Q : M.Str → Prop) (hQ : ∀ s ∈ M.strs a k, Q s)
    (a0 : 0 ≤ a) (a1 : a ≤ 18446744073709551615) (k1 : k ≤ 9223372036854775807) (hk : a + k ≤ 18446744073709551616) (w : World) (hBa : Ba < w.heap.size) (hBk : Bk < w.heap.size)
    (ha : w.cell? ⟨Ba, 0, none⟩ = some (.int .u64 a)) (hkk : w.cell? ⟨Bk, 0, none⟩ = some (.int .i64 k)) :
    SeqStopsK Fence.wide n Try.prog 153 #[.pointer (some ⟨Ba, 0, none⟩), .pointer (some ⟨Bk, 0, none⟩)] (fun x : {s // Q s} => #[encS x.1]) KeepS
      (fun ys => ys.map Subtype.val = M.strs a k) (fun pre => (pre.map Subtype.val) <+: M.strs a k) (M.strs a k).length w := fun l J Jx W hW hJ _ hY h0 =>
  strs_in n hn l Ba Bk a k Q hQ a0 a1 k1 hk J Jx W hJ hY ((hW.cell (p := ⟨Ba, 0, none⟩) hBa).trans ha) ((hW.cell (p := ⟨Bk, 0, none⟩) hBk).trans hkk) h0
end Go.Proofs.Ytdlbhkdjcegbfaa
