/- n places from a on, page by page: what the iterator of stretches hands out, whatever the loop's body does, if it keeps the blocks of stretches. allGrant, anyThere: loops over the pages of a row of places that may return early. -/
import Derived.RangeFuncNested
import Derived.RangeFuncBound
import Derived.RangeFuncCalls
import Derived.RangeFuncLeaves
import Derived.Shelf.Abstract
import Derived.Shelf.RegionOpen
import Derived.WalkKit
import Derived.OwnWalkIn
import Derived.TacticsInMore
import Derived.LoopNIn
import Derived.LoopIn
import Derived.Sort.BigQuietIn
import Derived.Test.YtclbkdnihhmglaaDoorZB
import Derived.RangeFuncBox
namespace Go.Proofs.YtclbkdnihhmglaaDoor
open Go.RowKit Go.Shelf

/-- the value of a row of places -/
def encS (s : M.Str) : Value := .agg #[.int .u64 s.pg, .int .i64 s.f, .int .i64 s.n]
/-- each block of a row of places lies as it lay -/
structure KeepS (W W' : World) : Prop where
  size : W.heap.size ≤ W'.heap.size
  same : ∀ (k : Nat) (cs : Array Value) (f : Nat × Nat), W.heap[k]? = some (.cells cs 113 f) → W'.heap[k]? = some (.cells cs 113 f)
theorem KeepS.trans {A B C : World} (h : KeepS A B) (k : KeepS B C) : KeepS A C := ⟨Nat.le_trans h.size k.size, fun i cs f hi => k.same i cs f (h.same i cs f hi)⟩
theorem KeepS.below {W W' : World} (h : Below W.heap.size W W') : KeepS W W' := ⟨h.size, fun i _ _ hi => (h.block i (Array.getElem?_eq_some_iff.1 hi).1).trans hi⟩
theorem KeepS.grown {W W' : World} {row : Option Nat} (h : W.grownBy W' row) (hr : ∀ r, row = some r → ∀ cs f, W.heap[r]? ≠ some (.cells cs 113 f)) : KeepS W W' :=
  ⟨h.size, fun i cs f hi => (h.block i (Array.getElem?_eq_some_iff.1 hi).1 (fun e => hr i e.symm cs f hi)).trans hi⟩
theorem keepS_b {w : World} (W : World) (l : Nat) (o o' : Obj) (_ : w.heap.size ≤ l) (h : W.heap[l]? = some o) (hc : o.isCells = false) (_ : o.isWalk = false) : KeepS W (W.putObj l o') :=
  KeepS.grown (grownBy_putObj' W l o') (fun r e _ _ hr => by cases e; rw [h] at hr; cases hr; cases hc)

theorem stretches_in (n : Nat) (a k : Int) (w : World) :
    CallsIn Fence.wide n Tryd.prog 64 #[.int .u64 a, .int .i64 k] w fun e w' => e = .returned (.func (.func 75) #[] #[.pointer (some ⟨w.heap.size, 0, none⟩), .pointer (some ⟨w.heap.size + 1, 0, none⟩)]) ∧ w' = (w.alloc (.cells #[.int .u64 a] 22)).alloc (.cells #[.int .i64 k] 3) := by
  refine callsIn_of_wp Tryd.func64 rfl trivial ?_ rfl
  simp only [Tryd.ntmps64, List.size_toArray, List.length_cons, List.length_nil, Nat.reduceAdd, Nat.reduceSub, Array.replicate_succ, Array.replicate_zero, List.push_toArray, List.append_toArray, List.nil_append, List.cons_append]
  gi_wp2
  go_ret
  exact ⟨rfl, by simp⟩

set_option maxRecDepth 100000 in
set_option maxHeartbeats 2000000 in
theorem strs_in (n : Nat) (hn : 1 ≤ n) (l Ba Bk : Nat) (a k : Int) (Q : M.Str → Prop) (hQ : ∀ s ∈ M.strs a k, Q s)
    (a0 : 0 ≤ a) (a1 : a ≤ 18446744073709551615) (k1 : k ≤ 9223372036854775807) (hk : a + k ≤ 18446744073709551616)
    (J Jx : List {s // Q s} → World → Prop) (W : World) (hJ : AbidesFrom W.heap.size J)
    (hY : ∀ pre x W1, J pre W1 → pre.length < (M.strs a k).length → YieldAt Fence.wide (n - 1) Tryd.prog l #[encS x.1] W1 fun e W' =>
      (e = .returned (.bool true) ∧ J (pre ++ [x]) W' ∧ KeepS W1 W') ∨ (e = .returned (.bool false) ∧ Jx (pre ++ [x]) W'))
    (hBa : W.cell? ⟨Ba, 0, none⟩ = some (.int .u64 a)) (hBk : W.cell? ⟨Bk, 0, none⟩ = some (.int .i64 k)) (h0 : J [] W) :
    CallsIn Fence.wide n Tryd.prog 75 #[.func (.yield l) #[] #[], .pointer (some ⟨Ba, 0, none⟩), .pointer (some ⟨Bk, 0, none⟩)] W fun e W' => (∃ v, e = .returned v) ∧
      ((∃ ys, ys.map Subtype.val = M.strs a k ∧ J ys W') ∨ (∃ pre, (pre.map Subtype.val) <+: M.strs a k ∧ Jx pre W')) := by
  refine callsIn_of_wp Tryd.func75 rfl trivial ?_ rfl
  simp only [Tryd.ntmps75, List.size_toArray, List.length_cons, List.length_nil, Nat.reduceAdd, Nat.reduceSub, Array.replicate_succ, Array.replicate_zero, List.push_toArray, List.append_toArray, List.nil_append, List.cons_append]
  have HY := Lib.hid hY
  have HJ := Lib.hid hJ
  have H0 := Lib.hid h0
  have HQ := Lib.hid hQ
  clear hY hJ h0 hQ
  gi_wp2
  gi_big_quiet_th (fail)
  have HJ1 := Lib.hid (fun s W1 W' (h1 : J s W1) (hg : W1.grownBy W' none) => HJ.out s W1 W' none h1 hg (fun r e => by cases e))
  have HD := Lib.hid (HJ1.out _ _ (W.drewN nq) H0.out ⟨rfl, rfl, rfl, Nat.le_refl _, fun _ _ _ => rfl⟩)
  generalize W.drewN nq = W0 at *
  clear hBa hBk
  gi_wp2
  gi_loopw [4, 5] (fun p q wr => ∃ (pre : List {s // Q s}) (pl left : Int), p = .int .u64 pl ∧ q = .int .i64 left ∧ 0 ≤ pl ∧ pl ≤ 18446744073709551615 ∧ left ≤ 9223372036854775807 ∧ (0 < left → pl + left ≤ 18446744073709551616) ∧ pre.map Subtype.val ++ M.strs pl left = M.strs a k ∧ J pre wr)
    (fun _ q _ => (intOf q).toNat)
  case atStart => exact ⟨[], a, k, rfl, rfl, a0, a1, k1, fun _ => hk, by simp, HD.out⟩
  case round =>
    obtain ⟨pre, pl, left, rfl, rfl, p0, p1, l1, hpl, he, hj⟩ := hrel
    have HE := Lib.hid he
    have HJP := Lib.hid hj
    clear he hj
    by_cases hlt : 0 < left
    · have hpl' := hpl hlt
      clear hpl
      have hc := M.strs_cons (a := pl) (n := left) hlt
      have hmem : (⟨pl - pl % 256, pl % 256, min left (256 - pl % 256)⟩ : M.Str) ∈ M.strs a k := by rw [← HE.out, hc]; simp
      have hlen : pre.length < (M.strs a k).length := by rw [← HE.out, hc]; simp
      have HE2 := Lib.hid (show (pre ++ [(⟨_, HQ.out _ hmem⟩ : {s // Q s})]).map Subtype.val ++ M.strs (pl + min left (256 - pl % 256)) (left - min left (256 - pl % 256)) = M.strs a k by
        have h := HE.out
        rw [hc] at h
        simpa using h)
      obtain ⟨x, hx⟩ : ∃ x : {s // Q s}, x = ⟨_, HQ.out _ hmem⟩ := ⟨_, rfl⟩
      have HX := Lib.hid (show encS x.1 = .agg #[.int .u64 (pl - pl % 256), .int .i64 (pl % 256), .int .i64 (min left (256 - pl % 256))] by rw [hx]; rfl)
      rw [← hx] at HE2
      clear hx hmem hc
      have hy0 := HY.out pre x (wr.alloc (.cells #[.int .u64 (pl - pl % 256), .int .i64 (pl % 256), .int .i64 (min left (256 - pl % 256))] 113)) (HJ1.out _ _ _ HJP.out (World.grownBy_alloc _ _ _)) hlen
      rw [HX.out] at hy0
      clear HX
      obtain ⟨q, hq, hq'⟩ : ∃ q, min left (256 - pl % 256) = q ∧ ((q = left ∧ left ≤ 256 - pl % 256) ∨ (q = 256 - pl % 256 ∧ 256 - pl % 256 < left)) := ⟨_, rfl, by omega⟩
      rw [hq] at HE2 hy0
      clear hq
      obtain ⟨fn, tmps, assign, body, hy, hR⟩ := hy0
      have HR := Lib.hid hR
      clear hR hlen
      rcases hq' with ⟨rfl, hq⟩ | ⟨rfl, hq⟩
      · gi_wp2
        refine HR.out.mono ?_
        rintro e W3 (⟨rfl, hJ3, hk3⟩ | ⟨rfl, hJx3⟩)
        · have hs := hk3.same wr.heap.size #[.int .u64 (pl - pl % 256), .int .i64 (pl % 256), .int .i64 q] (0, 0) (heap_alloc_new _ _)
          have h2 : W3.cell? ⟨wr.heap.size, 2, none⟩ = some (.int .i64 q) := by unfold World.cell?; rw [hs]; rfl
          have HJ3 := Lib.hid hJ3
          clear hJ3 hk3 hs
          have HW := Lib.hid (show 0 ≤ IntKind.u64.wrap (pl + q) ∧ IntKind.u64.wrap (pl + q) ≤ 18446744073709551615 by rw [IntKind.wrap_u64]; omega)
          gi_wp2
          go_roundw
          case rel => exact ⟨pre ++ [x], _, 0, rfl, rfl, HW.out.1, HW.out.2, by omega, fun h => by omega, by rw [M.strs_nil (by omega : (0 : Int) ≤ 0)]; have h := HE2.out; rw [M.strs_nil (by omega : q - q ≤ 0)] at h; exact h, HJ3.out⟩
          case measure => simp [intOf]; omega
        · gi_wp2
          refine bodyPost_ret (results_none rfl _ _ _) rfl ?_
          exact ⟨⟨_, rfl⟩, .inr ⟨pre ++ [x], ⟨_, HE2.out⟩, hJx3⟩⟩
      · gi_wp2
        refine HR.out.mono ?_
        rintro e W3 (⟨rfl, hJ3, hk3⟩ | ⟨rfl, hJx3⟩)
        · have hs := hk3.same wr.heap.size #[.int .u64 (pl - pl % 256), .int .i64 (pl % 256), .int .i64 (256 - pl % 256)] (0, 0) (heap_alloc_new _ _)
          have h2 : W3.cell? ⟨wr.heap.size, 2, none⟩ = some (.int .i64 (256 - pl % 256)) := by unfold World.cell?; rw [hs]; rfl
          have HJ3 := Lib.hid hJ3
          clear hJ3 hk3 hs
          gi_wp2
          go_roundw
          case rel => exact ⟨pre ++ [x], _, _, rfl, rfl, by omega, by omega, by omega, fun h => by omega, HE2.out, HJ3.out⟩
          case measure => simp [intOf]; omega
        · gi_wp2
          refine bodyPost_ret (results_none rfl _ _ _) rfl ?_
          exact ⟨⟨_, rfl⟩, .inr ⟨pre ++ [x], ⟨_, HE2.out⟩, hJx3⟩⟩
    · have hd : decide (0 < left) = false := by simp; omega
      gi_wp2
      go_end0
      exact ⟨⟨_, rfl⟩, .inl ⟨pre, by have h := HE.out; rw [M.strs_nil (by omega)] at h; simpa using h, HJP.out⟩⟩

/-- what stretches hands back, for a loop over it -/
theorem strs_stops (n : Nat) (hn : 1 ≤ n) (Ba Bk : Nat) (a k : Int) (Q : M.Str → Prop) (hQ : ∀ s ∈ M.strs a k, Q s)
    (a0 : 0 ≤ a) (a1 : a ≤ 18446744073709551615) (k1 : k ≤ 9223372036854775807) (hk : a + k ≤ 18446744073709551616) (w : World) (hBa : Ba < w.heap.size) (hBk : Bk < w.heap.size)
    (ha : w.cell? ⟨Ba, 0, none⟩ = some (.int .u64 a)) (hkk : w.cell? ⟨Bk, 0, none⟩ = some (.int .i64 k)) :
    SeqStopsK Fence.wide n Tryd.prog 75 #[.pointer (some ⟨Ba, 0, none⟩), .pointer (some ⟨Bk, 0, none⟩)] (fun x : {s // Q s} => #[encS x.1]) KeepS
      (fun ys => ys.map Subtype.val = M.strs a k) (fun pre => (pre.map Subtype.val) <+: M.strs a k) (M.strs a k).length w := fun l J Jx W hW hJ _ hY h0 =>
  strs_in n hn l Ba Bk a k Q hQ a0 a1 k1 hk J Jx W hJ hY ((hW.cell (p := ⟨Ba, 0, none⟩) hBa).trans ha) ((hW.cell (p := ⟨Bk, 0, none⟩) hBk).trans hkk) h0
end Go.Proofs.YtclbkdnihhmglaaDoor

namespace Go.Proofs.YtclbkdnihhmglaaDoor
open Go.RowKit Go.Shelf

attribute [local go_sem] Oper.semAt_some

/-- a block that holds a row of places -/
def BoxedS (W : World) (B : Nat) (s : M.Str) : Prop := W.heap[B]? = some (.cells #[.int .u64 s.pg, .int .i64 s.f, .int .i64 s.n] 113 (0, 0))
theorem BoxedS.new (W : World) (s : M.Str) : BoxedS (W.alloc (.cells #[.int .u64 s.pg, .int .i64 s.f, .int .i64 s.n] 113)) W.heap.size s := heap_alloc_new W _
theorem BoxedS.cells {W : World} {B : Nat} {s : M.Str} (h : BoxedS W B s) : W.cell? ⟨B, 0, none⟩ = some (.int .u64 s.pg) ∧ W.cell? ⟨B, 1, none⟩ = some (.int .i64 s.f) ∧ W.cell? ⟨B, 2, none⟩ = some (.int .i64 s.n) := by
  refine ⟨?_, ?_, ?_⟩ <;> (unfold World.cell?; rw [show W.heap[B]? = _ from h]; rfl)
theorem BoxedS.lt {W : World} {B : Nat} {s : M.Str} (h : BoxedS W B s) : B < W.heap.size := (Array.getElem?_eq_some_iff.1 h).1
theorem boxedS_own {B₀ : Nat} (B : Nat) (s : M.Str) : OwnFrom B₀ (fun (_ : Unit) W => BoxedS W B s) := by
  intro _ W W' row h hg hr
  refine (hg.block B h.lt (fun e => ?_)).trans h
  obtain ⟨_, o, ho, hc⟩ := hr B e.symm
  rw [show W.heap[B]? = _ from h] at ho; cases ho; cases hc
theorem keeps_below {W W' : World} (B : Nat) (h : Below W.heap.size W W') : KeepsFrom B W W' := ⟨h.size, fun k _ _ hk _ => (h.block k (Array.getElem?_eq_some_iff.1 hk).1).trans hk⟩
theorem boxed_below {W W' : World} {B : Nat} {t : TypeId} {v : Value} (h : Boxed W B t v) (hb : Below W.heap.size W W') : Boxed W' B t v := (hb.block B h.lt).trans h

set_option maxRecDepth 100000 in
set_option maxHeartbeats 2000000 in
theorem allGrant_in {m : List M.Pg} {v : Value} (a k perm : Int) {w : World} (hP : Pages w v m) (hl : m.length ≤ 1000000) (hu : m.Pairwise (fun x y => x.a < y.a))
    (a0 : 0 ≤ a) (a1 : a ≤ 18446744073709551615) (k1 : k ≤ 9223372036854775807) (hk : a + k ≤ 18446744073709551616) :
    Calls Tryd.prog 63 #[v, .int .u64 a, .int .i64 k, .int .i64 perm] w fun e W' => e = .returned (.bool ((M.strs a k).all (fun s => grantB m s.pg perm))) ∧ Below w.heap.size w W' := by
  have HB := Lib.hid (show beyondB a k = false by simp [beyondB]; omega)
  have HF := Lib.hid (fun (W : World) (h : Below w.heap.size w W) (x : Int) => grants_any x perm (hP.next h) hl hu)
  obtain ⟨A, cap, hv⟩ := hP.slice
  obtain ⟨nv, hnv⟩ : ∃ nv, m.length = nv := ⟨_, rfl⟩
  rw [hnv] at hv
  subst hv
  clear hP hl hu hnv
  refine (callsIn_wide (n := 3)).1 ?_
  refine callsIn_of_wp_marks Tryd.func63 rfl trivial ?_ rfl
  simp only [Tryd.ntmps63, List.size_toArray, List.length_cons, List.length_nil, Nat.reduceAdd, Nat.reduceSub, Array.replicate_succ, Array.replicate_zero, List.push_toArray, List.append_toArray, List.nil_append, List.cons_append]
  gi_wp2_with (fail)
  refine ⟨trivial, ?_⟩
  refine (callsIn_wide.2 (beyond_any a k a0 a1 k1 _)).mono ?_
  rintro e w1 ⟨rfl, rfl⟩
  rw [HB.out]
  gi_wp2_with (fail)
  refine ⟨trivial, ?_⟩
  refine (stretches_in 2 _ _ _).mono ?_
  rintro e w1 ⟨rfl, rfl⟩
  gi_wp2_with (fail)
  have bV := ((((Boxed.new w 24 (.slice A nv cap)).alloc (.cells #[.int .i64 perm] 3)).alloc (.cells #[.bool false] 4)).alloc (.cells #[.int .u64 a] 22)).alloc (.cells #[.int .i64 k] 3)
  have bP := (((Boxed.new (w.alloc (.cells #[.slice A nv cap] 24)) 3 (.int .i64 perm)).alloc (.cells #[.bool false] 4)).alloc (.cells #[.int .u64 a] 22)).alloc (.cells #[.int .i64 k] 3)
  have bR := ((Boxed.new ((w.alloc (.cells #[.slice A nv cap] 24)).alloc (.cells #[.int .i64 perm] 3)) 4 (.bool false)).alloc (.cells #[.int .u64 a] 22)).alloc (.cells #[.int .i64 k] 3)
  have bA := (Boxed.new (((w.alloc (.cells #[.slice A nv cap] 24)).alloc (.cells #[.int .i64 perm] 3)).alloc (.cells #[.bool false] 4)) 22 (.int .u64 a)).alloc (.cells #[.int .i64 k] 3)
  have bK := Boxed.new ((((w.alloc (.cells #[.slice A nv cap] 24)).alloc (.cells #[.int .i64 perm] 3)).alloc (.cells #[.bool false] 4)).alloc (.cells #[.int .u64 a] 22)) 3 (.int .i64 k)
  have hB0 := balloc (balloc (balloc (balloc (balloc (Below.refl _ w) (.cells #[.slice A nv cap] 24)) (.cells #[.int .i64 perm] 3)) (.cells #[.bool false] 4)) (.cells #[.int .u64 a] 22)) (.cells #[.int .i64 k] 3)
  have hsz : (((((w.alloc (.cells #[.slice A nv cap] 24)).alloc (.cells #[.int .i64 perm] 3)).alloc (.cells #[.bool false] 4)).alloc (.cells #[.int .u64 a] 22)).alloc (.cells #[.int .i64 k] 3)).heap.size = w.heap.size + 5 := by simp
  simp only [World.size_alloc] at bP bR bA bK
  generalize (((((w.alloc (.cells #[.slice A nv cap] 24)).alloc (.cells #[.int .i64 perm] 3)).alloc (.cells #[.bool false] 4)).alloc (.cells #[.int .u64 a] 22)).alloc (.cells #[.int .i64 k] 3)) = W0 at *
  refine wpIn_rangeFunc_ownH (α := {s : M.Str // True}) rfl (by omega) (gf := 75) (lb := #[.pointer (some ⟨w.heap.size + 1 + 1 + 1, 0, none⟩), .pointer (some ⟨w.heap.size + 1 + 1 + 1 + 1, 0, none⟩)]) rfl trivial (enters_of Tryd.func75 (by kernel_rfl) rfl)
    (strs_stops 2 (by omega) (w.heap.size + 1 + 1 + 1) (w.heap.size + 1 + 1 + 1 + 1) a k (fun _ => True) (fun _ _ => trivial) a0 a1 k1 hk W0 (by omega) (by omega) bA.cell bK.cell) KeepS.trans keepS_b (Below.refl _ _) (fun _ => rfl)
    (fun pre W => ((Boxed W w.heap.size 24 (.slice A nv cap) ∧ Boxed W (w.heap.size + 1) 3 (.int .i64 perm)) ∧ Boxed W (w.heap.size + 1 + 1) 4 (.bool false)) ∧ (∀ x ∈ pre, grantB m x.1.pg perm = true) ∧ Below w.heap.size w W)
    (fun c pre W => Boxed W (w.heap.size + 1 + 1) 4 (.bool false) ∧ (c = .ret ∧ ∃ x ∈ pre, grantB m x.1.pg perm = false) ∧ Below w.heap.size w W)
    (OwnFrom.and (OwnFrom.and (OwnFrom.and (Own.from (boxed_own _ _ _) _) (Own.from (boxed_own _ _ _) _)) (Own.from (boxed_own _ _ _) _)) (OwnFrom.and (ownFrom_pure _ _) (ownFrom_below (Nat.le_refl _) (by omega))))
    (fun c => OwnFrom.and (Own.from (boxed_own _ _ _) _) (OwnFrom.and (ownFrom_pure _ _) (ownFrom_below (Nat.le_refl _) (by omega))))
    ⟨⟨⟨bV, bP⟩, bR⟩, by simp, hB0⟩
    (fun x a' W => ∃ Bx, BoxedS W Bx x.1 ∧ a' = { tmps := #[.slice A nv cap, .int .u64 a, .int .i64 k, .int .i64 perm, .pointer (some ⟨w.heap.size, 0, none⟩), undef, undef, .pointer (some ⟨w.heap.size + 1, 0, none⟩), .pointer (some ⟨w.heap.size + 1 + 1, 0, none⟩), .pointer (some ⟨Bx, 0, none⟩), .int .u64 a, .int .i64 k, .bool false, .int .u64 a, .int .i64 k, .func (.func 75) #[] #[.pointer (some ⟨w.heap.size + 1 + 1 + 1, 0, none⟩), .pointer (some ⟨w.heap.size + 1 + 1 + 1 + 1, 0, none⟩)], encS x.1, undef, undef, undef, undef, undef, undef], defers := [] })
    (fun x a' s X Y row hs hg hr => by obtain ⟨Bx, h1, h2⟩ := hs; exact ⟨Bx, boxedS_own Bx x.1 () X Y row h1 hg hr, h2⟩)
    ?assign ?body ?done ?stop
  case assign =>
    rintro l pre x W K ⟨⟨⟨b1, b2⟩, b3⟩, hp, hb⟩ hK
    have HK := Lib.hid hK
    clear hK
    obtain ⟨⟨pg, f, n⟩, hx⟩ := x
    simp only [encS]
    gi_wp2
    exact HK.out _ _ ((KeepsOthers.alloc _ _).from _) (KeepS.below (balloc (Below.refl _ _) _)) ⟨⟨⟨b1.alloc _, b2.alloc _⟩, b3.alloc _⟩, hp, balloc hb _⟩ ⟨W.heap.size, BoxedS.new W ⟨pg, f, n⟩, rfl⟩
  case body =>
    rintro l pre x a' W hl hr ⟨⟨⟨b1, b2⟩, b3⟩, hp, hb⟩ ⟨Bx, bx, rfl⟩ hlen
    have HG := Lib.hid (HF.out W hb x.1.pg)
    have HI := Lib.hid (show ((Boxed W w.heap.size 24 (.slice A nv cap) ∧ Boxed W (w.heap.size + 1) 3 (.int .i64 perm)) ∧ Boxed W (w.heap.size + 1 + 1) 4 (.bool false)) ∧ (∀ x ∈ pre, grantB m x.1.pg perm = true) ∧ Below w.heap.size w W from ⟨⟨⟨b1, b2⟩, b3⟩, hp, hb⟩)
    have c1 := b1.cell
    have c2 := b2.cell
    obtain ⟨c3, -, -⟩ := bx.cells
    have HX := Lib.hid (show encS x.1 = .agg #[.int .u64 x.1.pg, .int .i64 x.1.f, .int .i64 x.1.n] from rfl)
    have HP := Lib.hid (show x ∈ pre ++ [x] by simp)
    clear hp hb b1 b2 b3 bx hr hl hlen
    rw [HX.out]
    obtain ⟨pg, hpg⟩ : ∃ pg, x.1.pg = pg := ⟨_, rfl⟩
    rw [hpg] at HG c3 ⊢
    have HPG := Lib.hid hpg
    clear hpg
    cases hq : grantB m pg perm
    · rw [hq] at HG
      have HQ := Lib.hid hq
      clear hq
      gi_wp2_with (fail)
      refine ⟨trivial, ?_⟩
      refine (CallsIn.inRound l (callsIn_wide.2 HG.out)).mono ?_
      rintro e w1 ⟨rfl, hb1⟩
      have HB1 := Lib.hid hb1
      have f3 := (boxed_below HI.out.1.2 hb1).frozen
      have d3 := (boxed_below HI.out.1.2 hb1).cell
      clear hb1
      gi_wp2_with (fail)
      refine ⟨(keeps_below _ HB1.out).trans ((KeepsOthers.setCell _ _ _).from _), ?_, ⟨rfl, x, HP.out, by rw [HPG.out]; exact HQ.out⟩, ?_⟩
      · exact (boxed_below HI.out.1.2 HB1.out).set _
      · exact (bthen HI.out.2.2 HB1.out).setCell (p := ⟨w.heap.size + 1 + 1, 0, none⟩) (by simp; omega) _
    · rw [hq] at HG
      have HQ := Lib.hid hq
      clear hq
      gi_wp2_with (fail)
      refine ⟨trivial, ?_⟩
      refine (CallsIn.inRound l (callsIn_wide.2 HG.out)).mono ?_
      rintro e w1 ⟨rfl, hb1⟩
      have HB1 := Lib.hid hb1
      clear hb1
      gi_wp2_with (fail)
      refine ⟨keeps_below _ HB1.out, KeepS.below HB1.out, ⟨⟨boxed_below HI.out.1.1.1 HB1.out, boxed_below HI.out.1.1.2 HB1.out⟩, boxed_below HI.out.1.2 HB1.out⟩, fun y hy => ?_, bthen HI.out.2.2 HB1.out⟩
      rcases List.mem_append.1 hy with h | h
      · exact HI.out.2.1 y h
      · obtain rfl : y = x := by simpa using h
        rw [HPG.out]; exact HQ.out
  case done =>
    rintro D ys W hD hys ⟨⟨_, b3⟩, hp, hb⟩ hK
    have f3 := b3.frozen
    have c3 := b3.cell
    gi_wp2_with (fail)
    have hK' := (KeepsOthers.setCell W ⟨w.heap.size + 1 + 1, 0, none⟩ (.bool true)).same D _ hK rfl
    refine ⟨by simp, .inl ⟨_, _, rfl, run_takeDeferred hK', ?_⟩⟩
    have hc := cell_kept (b3.set (.bool true)).cell (grownBy_putObj' _ D (.deferred none)) (fun r e => by cases e; exact ⟨_, hK', rfl⟩)
    refine ⟨.bool true, ?_, ret_bool ?_, (hb.setCell (p := ⟨w.heap.size + 1 + 1, 0, none⟩) (by simp; omega) _).trans (belowK_b (w := w) (Nat.le_refl _) _ D _ _ (by omega) hK' rfl rfl)⟩
    · simp [results, Tryd.f63, go_sem, hc]
    · symm
      rw [← hys, List.all_eq_true]
      intro s hs
      obtain ⟨y, hy, rfl⟩ := List.mem_map.1 hs
      exact hp y hy
  case stop =>
    rintro D c pre W hD hpre ⟨b3, ⟨rfl, y, hy, hg⟩, hb⟩ hK
    gi_wp2_with (fail)
    refine ⟨by simp, .inl ⟨_, _, rfl, run_takeDeferred hK, ?_⟩⟩
    have hc := cell_kept b3.cell (grownBy_putObj' _ D (.deferred none)) (fun r e => by cases e; exact ⟨_, hK, rfl⟩)
    refine ⟨.bool false, ?_, ret_bool ?_, hb.trans (belowK_b (w := w) (Nat.le_refl _) W D _ _ (by omega) hK rfl rfl)⟩
    · simp [results, Tryd.f63, go_sem, hc]
    · symm
      rw [List.all_eq_false]
      exact ⟨y.1, hpre.subset (List.mem_map_of_mem hy), by simp [hg]⟩

set_option maxHeartbeats 1000000 in
theorem allGrant_far {m : List M.Pg} {v : Value} (a k perm : Int) {w : World} (hP : Pages w v m) (a0 : 0 ≤ a) (a1 : a ≤ 18446744073709551615) (k1 : k ≤ 9223372036854775807) (h : beyondB a k = true) :
    Calls Tryd.prog 63 #[v, .int .u64 a, .int .i64 k, .int .i64 perm] w fun e W' => e = .returned (.bool false) ∧ Below w.heap.size w W' := by
  have HB := Lib.hid h
  obtain ⟨A, cap, hv⟩ := hP.slice
  obtain ⟨nv, hnv⟩ : ∃ nv, m.length = nv := ⟨_, rfl⟩
  rw [hnv] at hv
  subst hv
  clear hP hnv h
  refine (callsIn_wide (n := 3)).1 ?_
  refine callsIn_of_wp_marks Tryd.func63 rfl trivial ?_ rfl
  simp only [Tryd.ntmps63, List.size_toArray, List.length_cons, List.length_nil, Nat.reduceAdd, Nat.reduceSub, Array.replicate_succ, Array.replicate_zero, List.push_toArray, List.append_toArray, List.nil_append, List.cons_append]
  gi_wp2_with (fail)
  refine ⟨trivial, ?_⟩
  refine (callsIn_wide.2 (beyond_any a k a0 a1 k1 _)).mono ?_
  rintro e w1 ⟨rfl, rfl⟩
  rw [HB.out]
  gi_wp2_with (fail)
  refine ⟨.bool false, ?_, rfl, balloc (balloc (balloc (Below.refl _ _) _) _) _⟩
  simp [results, Tryd.f63, go_sem]

def allGrantB (m : List M.Pg) (a k perm : Int) : Bool := !beyondB a k && (M.strs a k).all (fun s => grantB m s.pg perm)
theorem allGrant_any {m : List M.Pg} {v : Value} (a k perm : Int) {w : World} (hP : Pages w v m) (hl : m.length ≤ 1000000) (hu : m.Pairwise (fun x y => x.a < y.a))
    (a0 : 0 ≤ a) (a1 : a ≤ 18446744073709551615) (k1 : k ≤ 9223372036854775807) :
    Calls Tryd.prog 63 #[v, .int .u64 a, .int .i64 k, .int .i64 perm] w fun e W' => e = .returned (.bool (allGrantB m a k perm)) ∧ Below w.heap.size w W' := by
  cases h : beyondB a k
  · have hk : a + k ≤ 18446744073709551616 := by simp [beyondB] at h; omega
    simpa [allGrantB, h] using allGrant_in a k perm hP hl hu a0 a1 k1 hk
  · simpa [allGrantB, h] using allGrant_far a k perm hP a0 a1 k1 h
end Go.Proofs.YtclbkdnihhmglaaDoor
