/- allGrant, anyThere: loops over the pages of a row of places that may return early. -/
import Derived.RangeFuncBox
import Derived.Test.YtdlbhkdjcegbfaaP6
namespace Go.Proofs.Ytdlbhkdjcegbfaa
open Go.RowKit Go.Shelf

attribute [local go_sem] Oper.semAt_some

/-- a block that holds a row of places -/
def BoxedS (W : World) (B : Nat) (s : M.Str) : Prop := W.heap[B]? = some (.cells #[.int .u64 s.pg, .int .i64 s.f, .int .i64 s.n] 167 (0, 0))
theorem BoxedS.new (W : World) (s : M.Str) : BoxedS (W.alloc (.cells #[.int .u64 s.pg, .int .i64 s.f, .int .i64 s.n] 167)) W.heap.size s := heap_alloc_new W _
theorem BoxedS.cells {W : World} {B : Nat} {s : M.Str} (h : BoxedS W B s) : W.cell? ⟨B, 0, none⟩ = some (.int .u64 s.pg) ∧ W.cell? ⟨B, 1, none⟩ = some (.int .i64 s.f) ∧ W.cell? ⟨B, 2, none⟩ = some (.int .i64 s.n) := by
  refine ⟨?_, ?_, ?_⟩ <;> (unfold World.cell?; rw [show W.heap[B]? = _ from h]; rfl)
theorem BoxedS.lt {W : World} {B : Nat} {s : M.Str} (h : BoxedS W B s) : B < W.heap.size := (Array.getElem?_eq_some_iff.1 h).1
theorem boxedS_own {B₀ : Nat} (B : Nat) (s : M.Str) : OwnFrom B₀ (fun (_ : Unit) W => BoxedS W B s) := by
  intro _ W W' row h hg hr
  refine (hg.block B h.lt (fun e => ?_)).trans h
  obtain ⟨_, o, ho, hc⟩ := hr B e.symm
  rw [show W.heap[B]? = _ from h] at ho; cases ho; cases hc
theorem keeps_below {W W' : World} (B : Nat) (h : Below W.heap.size W W') : KeepsFrom B W W' := ⟨h.size, fun k _ _ hk _ => (h.block k (Array.getElem?_eq_some_iff.1 hk).1).trans hk⟩
theorem boxed_below {W W' : World} {B : Nat} {t : TypeId} {v : Value} (h : Boxed W B t v) (hb : Below W.heap.size W W') : Boxed W' B t v := (hb.block B h.lt).trans h

set_option maxRecDepth 100000 in
set_option maxHeartbeats 2000000 in
theorem allGrant_in {m : List M.Pg} {v : Value} (a k perm : Int) {w : World} (hP : Pages w v m) (hl : m.length ≤ 1000000) (hu : m.Pairwise (fun x y => x.a < y.a))
    (a0 : 0 ≤ a) (a1 : a ≤ 18446744073709551615) (k1 : k ≤ 9223372036854775807) (hk : a + k ≤ 18446744073709551616) :
    Calls Try.prog 113 #[v, .int .u64 a, .int .i64 k, .int .i64 perm] w fun e W' => e = .returned (.bool ((M.strs a k).all (fun s => grantB m s.pg perm))) ∧ Below w.heap.size w W' := by
  have HB := Lib.hid (show beyondB a k = false by simp [beyondB]; omega)
  have HF := Lib.hid (fun (W : World) (h : Below w.heap.size w W) (x : Int) => grants_any x perm (hP.next h) hl hu)
  obtain ⟨A, cap, hv⟩ := hP.slice
  obtain ⟨nv, hnv⟩ : ∃ nv, m.length = nv := ⟨_, rfl⟩
  rw [hnv] at hv
  subst hv
  clear hP hl hu hnv
  refine (callsIn_wide (n := 3)).1 ?_
  refine callsIn_of_wp_marks Try.func113 rfl trivial ?_ rfl
  simp only [Try.ntmps113, List.size_toArray, List.length_cons, List.length_nil, Nat.reduceAdd, Nat.reduceSub, Array.replicate_succ, Array.replicate_zero, List.push_toArray, List.append_toArray, List.nil_append, List.cons_append]
  gi_wp2_with (fail)
  refine ⟨trivial, ?_⟩
  refine (callsIn_wide.2 (beyond_any a k a0 a1 k1 _)).mono ?_
  rintro e w1 ⟨rfl, rfl⟩
  rw [HB.out]
  gi_wp2_with (fail)
  refine ⟨trivial, ?_⟩
  refine (stretches_in 2 _ _ _).mono ?_
  rintro e w1 ⟨rfl, rfl⟩
  gi_wp2_with (fail)
  have bV := ((((Boxed.new w 28 (.slice A nv cap)).alloc (.cells #[.int .i64 perm] 3)).alloc (.cells #[.bool false] 4)).alloc (.cells #[.int .u64 a] 22)).alloc (.cells #[.int .i64 k] 3)
  have bP := (((Boxed.new (w.alloc (.cells #[.slice A nv cap] 28)) 3 (.int .i64 perm)).alloc (.cells #[.bool false] 4)).alloc (.cells #[.int .u64 a] 22)).alloc (.cells #[.int .i64 k] 3)
  have bR := ((Boxed.new ((w.alloc (.cells #[.slice A nv cap] 28)).alloc (.cells #[.int .i64 perm] 3)) 4 (.bool false)).alloc (.cells #[.int .u64 a] 22)).alloc (.cells #[.int .i64 k] 3)
  have bA := (Boxed.new (((w.alloc (.cells #[.slice A nv cap] 28)).alloc (.cells #[.int .i64 perm] 3)).alloc (.cells #[.bool false] 4)) 22 (.int .u64 a)).alloc (.cells #[.int .i64 k] 3)
  have bK := Boxed.new ((((w.alloc (.cells #[.slice A nv cap] 28)).alloc (.cells #[.int .i64 perm] 3)).alloc (.cells #[.bool false] 4)).alloc (.cells #[.int .u64 a] 22)) 3 (.int .i64 k)
  have hB0 := balloc (balloc (balloc (balloc (balloc (Below.refl _ w) (.cells #[.slice A nv cap] 28)) (.cells #[.int .i64 perm] 3)) (.cells #[.bool false] 4)) (.cells #[.int .u64 a] 22)) (.cells #[.int .i64 k] 3)
  have hsz : (((((w.alloc (.cells #[.slice A nv cap] 28)).alloc (.cells #[.int .i64 perm] 3)).alloc (.cells #[.bool false] 4)).alloc (.cells #[.int .u64 a] 22)).alloc (.cells #[.int .i64 k] 3)).heap.size = w.heap.size + 5 := by simp
  simp only [World.size_alloc] at bP bR bA bK
  generalize (((((w.alloc (.cells #[.slice A nv cap] 28)).alloc (.cells #[.int .i64 perm] 3)).alloc (.cells #[.bool false] 4)).alloc (.cells #[.int .u64 a] 22)).alloc (.cells #[.int .i64 k] 3)) = W0 at *
  refine wpIn_rangeFunc_ownH (α := {s : M.Str // True}) rfl (by omega) (gf := 153) (lb := #[.pointer (some ⟨w.heap.size + 1 + 1 + 1, 0, none⟩), .pointer (some ⟨w.heap.size + 1 + 1 + 1 + 1, 0, none⟩)]) rfl trivial (enters_of Try.func153 (by kernel_rfl) rfl)
    (strs_stops 2 (by omega) (w.heap.size + 1 + 1 + 1) (w.heap.size + 1 + 1 + 1 + 1) a k (fun _ => True) (fun _ _ => trivial) a0 a1 k1 hk W0 (by omega) (by omega) bA.cell bK.cell) KeepS.trans keepS_b (Below.refl _ _) (fun _ => rfl)
    (fun pre W => ((Boxed W w.heap.size 28 (.slice A nv cap) ∧ Boxed W (w.heap.size + 1) 3 (.int .i64 perm)) ∧ Boxed W (w.heap.size + 1 + 1) 4 (.bool false)) ∧ (∀ x ∈ pre, grantB m x.1.pg perm = true) ∧ Below w.heap.size w W)
    (fun c pre W => Boxed W (w.heap.size + 1 + 1) 4 (.bool false) ∧ (c = .ret ∧ ∃ x ∈ pre, grantB m x.1.pg perm = false) ∧ Below w.heap.size w W)
    (OwnFrom.and (OwnFrom.and (OwnFrom.and (Own.from (boxed_own _ _ _) _) (Own.from (boxed_own _ _ _) _)) (Own.from (boxed_own _ _ _) _)) (OwnFrom.and (ownFrom_pure _ _) (ownFrom_below (Nat.le_refl _) (by omega))))
    (fun c => OwnFrom.and (Own.from (boxed_own _ _ _) _) (OwnFrom.and (ownFrom_pure _ _) (ownFrom_below (Nat.le_refl _) (by omega))))
    ⟨⟨⟨bV, bP⟩, bR⟩, by simp, hB0⟩
    (fun x a' W => ∃ Bx, BoxedS W Bx x.1 ∧ a' = { tmps := #[.slice A nv cap, .int .u64 a, .int .i64 k, .int .i64 perm, .pointer (some ⟨w.heap.size, 0, none⟩), undef, undef, .pointer (some ⟨w.heap.size + 1, 0, none⟩), .pointer (some ⟨w.heap.size + 1 + 1, 0, none⟩), .pointer (some ⟨Bx, 0, none⟩), .int .u64 a, .int .i64 k, .bool false, .int .u64 a, .int .i64 k, .func (.func 153) #[] #[.pointer (some ⟨w.heap.size + 1 + 1 + 1, 0, none⟩), .pointer (some ⟨w.heap.size + 1 + 1 + 1 + 1, 0, none⟩)], encS x.1, undef, undef, undef, undef, undef, undef], defers := [] })
    (fun x a' s X Y row hs hg hr => by obtain ⟨Bx, h1, h2⟩ := hs; exact ⟨Bx, boxedS_own Bx x.1 () X Y row h1 hg hr, h2⟩)
    ?assign ?body ?done ?stop
  case assign =>
    rintro l pre x W K ⟨⟨⟨b1, b2⟩, b3⟩, hp, hb⟩ hK
    have HK := Lib.hid hK
    clear hK
    obtain ⟨⟨pg, f, n⟩, hx⟩ := x
    simp only [encS]
    gi_wp2
    exact HK.out _ _ ((KeepsOthers.alloc _ _).from _) (KeepS.below (balloc (Below.refl _ _) _)) ⟨⟨⟨b1.alloc _, b2.alloc _⟩, b3.alloc _⟩, hp, balloc hb _⟩ ⟨W.heap.size, BoxedS.new W ⟨pg, f, n⟩, rfl⟩
  case body =>
    rintro l pre x a' W hl hr ⟨⟨⟨b1, b2⟩, b3⟩, hp, hb⟩ ⟨Bx, bx, rfl⟩ hlen
    have HG := Lib.hid (HF.out W hb x.1.pg)
    have HI := Lib.hid (show ((Boxed W w.heap.size 28 (.slice A nv cap) ∧ Boxed W (w.heap.size + 1) 3 (.int .i64 perm)) ∧ Boxed W (w.heap.size + 1 + 1) 4 (.bool false)) ∧ (∀ x ∈ pre, grantB m x.1.pg perm = true) ∧ Below w.heap.size w W from ⟨⟨⟨b1, b2⟩, b3⟩, hp, hb⟩)
    have c1 := b1.cell
    have c2 := b2.cell
    obtain ⟨c3, -, -⟩ := bx.cells
    have HX := Lib.hid (show encS x.1 = .agg #[.int .u64 x.1.pg, .int .i64 x.1.f, .int .i64 x.1.n] from rfl)
    have HP := Lib.hid (show x ∈ pre ++ [x] by simp)
    clear hp hb b1 b2 b3 bx hr hl hlen
    rw [HX.out]
    obtain ⟨pg, hpg⟩ : ∃ pg, x.1.pg = pg := ⟨_, rfl⟩
    rw [hpg] at HG c3 ⊢
    have HPG := Lib.hid hpg
    clear hpg
    cases hq : grantB m pg perm
    · rw [hq] at HG
      have HQ := Lib.hid hq
      clear hq
      gi_wp2_with (fail)
      refine ⟨trivial, ?_⟩
      refine (CallsIn.inRound l (callsIn_wide.2 HG.out)).mono ?_
      rintro e w1 ⟨rfl, hb1⟩
      have HB1 := Lib.hid hb1
      have f3 := (boxed_below HI.out.1.2 hb1).frozen
      have d3 := (boxed_below HI.out.1.2 hb1).cell
      clear hb1
      gi_wp2_with (fail)
      refine ⟨(keeps_below _ HB1.out).trans ((KeepsOthers.setCell _ _ _).from _), ?_, ⟨rfl, x, HP.out, by rw [HPG.out]; exact HQ.out⟩, ?_⟩
      · exact (boxed_below HI.out.1.2 HB1.out).set _
      · exact (bthen HI.out.2.2 HB1.out).setCell (p := ⟨w.heap.size + 1 + 1, 0, none⟩) (by simp; omega) _
    · rw [hq] at HG
      have HQ := Lib.hid hq
      clear hq
      gi_wp2_with (fail)
      refine ⟨trivial, ?_⟩
      refine (CallsIn.inRound l (callsIn_wide.2 HG.out)).mono ?_
      rintro e w1 ⟨rfl, hb1⟩
      have HB1 := Lib.hid hb1
      clear hb1
      gi_wp2_with (fail)
      refine ⟨keeps_below _ HB1.out, KeepS.below HB1.out, ⟨⟨boxed_below HI.out.1.1.1 HB1.out, boxed_below HI.out.1.1.2 HB1.out⟩, boxed_below HI.out.1.2 HB1.out⟩, fun y hy => ?_, bthen HI.out.2.2 HB1.out⟩
      rcases List.mem_append.1 hy with h | h
      · exact HI.out.2.1 y h
      · obtain rfl : y = x := by simpa using h
        rw [HPG.out]; exact HQ.out
  case done =>
    rintro D ys W hD hys ⟨⟨_, b3⟩, hp, hb⟩ hK
    have f3 := b3.frozen
    have c3 := b3.cell
    gi_wp2_with (fail)
    have hK' := (KeepsOthers.setCell W ⟨w.heap.size + 1 + 1, 0, none⟩ (.bool true)).same D _ hK rfl
    refine ⟨by simp, .inl ⟨_, _, rfl, run_takeDeferred hK', ?_⟩⟩
    have hc := cell_kept (b3.set (.bool true)).cell (grownBy_putObj' _ D (.deferred none)) (fun r e => by cases e; exact ⟨_, hK', rfl⟩)
    refine ⟨.bool true, ?_, ret_bool ?_, (hb.setCell (p := ⟨w.heap.size + 1 + 1, 0, none⟩) (by simp; omega) _).trans (belowK_b (w := w) (Nat.le_refl _) _ D _ _ (by omega) hK' rfl rfl)⟩
    · simp [results, Try.f113, go_sem, hc]
    · symm
      rw [← hys, List.all_eq_true]
      intro s hs
      obtain ⟨y, hy, rfl⟩ := List.mem_map.1 hs
      exact hp y hy
  case stop =>
    rintro D c pre W hD hpre ⟨b3, ⟨rfl, y, hy, hg⟩, hb⟩ hK
    gi_wp2_with (fail)
    refine ⟨by simp, .inl ⟨_, _, rfl, run_takeDeferred hK, ?_⟩⟩
    have hc := cell_kept b3.cell (grownBy_putObj' _ D (.deferred none)) (fun r e => by cases e; exact ⟨_, hK, rfl⟩)
    refine ⟨.bool false, ?_, ret_bool ?_, hb.trans (belowK_b (w := w) (Nat.le_refl _) W D _ _ (by omega) hK rfl rfl)⟩
    · simp [results, Try.f113, go_sem, hc]
    · symm
      rw [List.all_eq_false]
      exact ⟨y.1, hpre.subset (List.mem_map_of_mem hy), by simp [hg]⟩

set_option maxHeartbeats 1000000 in
theorem allGrant_far {m : List M.Pg} {v : Value} (a k perm : Int) {w : World} (hP : Pages w v m) (a0 : 0 ≤ a) (a1 : a ≤ 18446744073709551615) (k1 : k ≤ 9223372036854775807) (h : beyondB a k = true) :
    Calls Try.prog 113 #[v, .int .u64 a, .int .i64 k, .int .i64 perm] w fun e W' => e = .returned (.bool false) ∧ Below w.heap.size w W' := by
  have HB := Lib.hid h
  obtain ⟨A, cap, hv⟩ := hP.slice
  obtain ⟨nv, hnv⟩ : ∃ nv, m.length = nv := ⟨_, rfl⟩
  rw [hnv] at hv
  subst hv
  clear hP hnv h
  refine (callsIn_wide (n := 3)).1 ?_
  refine callsIn_of_wp_marks Try.func113 rfl trivial ?_ rfl
  simp only [Try.ntmps113, List.size_toArray, List.length_cons, List.length_nil, Nat.reduceAdd, Nat.reduceSub, Array.replicate_succ, Array.replicate_zero, List.push_toArray, List.append_toArray, List.nil_append, List.cons_append]
  gi_wp2_with (fail)
  refine ⟨trivial, ?_⟩
  refine (callsIn_wide.2 (beyond_any a k a0 a1 k1 _)).mono ?_
  rintro e w1 ⟨rfl, rfl⟩
  rw [HB.out]
  gi_wp2_with (fail)
  refine ⟨.bool false, ?_, rfl, balloc (balloc (balloc (Below.refl _ _) _) _) _⟩
  simp [results, Try.f113, go_sem]

def allGrantB (m : List M.Pg) (a k perm : Int) : Bool := !beyondB a k && (M.strs a k).all (fun s => grantB m s.pg perm)
theorem allGrant_any {m : List M.Pg} {v : Value} (a k perm : Int) {w : World} (hP : Pages w v m) (hl : m.length ≤ 1000000) (hu : m.Pairwise (fun x y => x.a < y.a))
    (a0 : 0 ≤ a) (a1 : a ≤ 18446744073709551615) (k1 : k ≤ 9223372036854775807) :
    Calls Try.prog 113 #[v, .int .u64 a, .int .i64 k, .int .i64 perm] w fun e W' => e = .returned (.bool (allGrantB m a k perm)) ∧ Below w.heap.size w W' := by
  cases h : beyondB a k
  · have hk : a + k ≤ 18446744073709551616 := by simp [beyondB] at h; omega
    simpa [allGrantB, h] using allGrant_in a k perm hP hl hu a0 a1 k1 hk
  · simpa [allGrantB, h] using allGrant_far a k perm hP a0 a1 k1 h
end Go.Proofs.Ytdlbhkdjcegbfaa
