/- The walk of lay. -/
import Derived.Test.YtdlbhkdjcegbfaaP16
namespace Go.Proofs.Ytdlbhkdjcegbfaa
open Go.RowKit Go.Shelf

attribute [local go_sem] Oper.semAt_some

set_option maxRecDepth 100000 in
set_option maxHeartbeats 4000000 in
theorem lay_any {m : List M.Pg} {v : Value} (a : Int) (l : ByteArray) {w : World} (hP : Pages w v m) (hr : M.Right m)
    (a0 : 0 ≤ a) (a1 : a ≤ 18446744073709551615) (k1 : l.size ≤ 100000) (hk : a + l.size ≤ 18446744073709551616) (hQ : ∀ s ∈ M.strs a l.size, InPg m s) :
    Calls Try.prog 67 #[v, .int .u64 a, .string l] w (NewPages (laid m a l.data.toList) w) := by
  have hml : m.length ≤ 1000000 := Nat.le_trans hr.len (by omega)
  have HF := Lib.hid (fun (W : World) (h : Below w.heap.size w W) (x : Int) => find_any x (hP.next h) hml hr.up)
  have HC := Lib.hid (fun (W : World) (h : Below w.heap.size w W) => changed_in a l (hP.next h) hml hr.up a0 a1 k1 hk hQ)
  have HCL := Lib.hid (fun (W : World) (h : Below w.heap.size w W) => clone_any (hP.next h) (by have := hr.len; omega))
  have HA := Lib.hid (fun (s : M.Str) (hs : s ∈ M.strs a l.size) => (ch_all hr.up (pgD ⟨0, 0, ⟨#[]⟩⟩) a l.size l (.map []) Maps.isMap_empty rfl a0 hk hQ).1 s hs)
  have HO := Lib.hid (outF_all hr a0 hQ)
  have HQ := Lib.hid hQ
  have HR := Lib.hid hr
  obtain ⟨A, cap, hv⟩ := hP.slice
  obtain ⟨nv, hnv⟩ : ∃ nv, m.length = nv := ⟨_, rfl⟩
  have HN := Lib.hid hnv
  rw [hnv] at hv
  subst hv
  clear hP hnv hQ hml hr
  refine (callsIn_wide (n := 3)).1 ?_
  refine callsIn_of_wp_marks Try.func67 rfl trivial ?_ rfl
  simp only [Try.ntmps67, List.size_toArray, List.length_cons, List.length_nil, Nat.reduceAdd, Nat.reduceSub, Array.replicate_succ, Array.replicate_zero, List.push_toArray, List.append_toArray, List.nil_append, List.cons_append]
  gi_wp2_with (fail)
  refine ⟨trivial, ?_⟩
  refine (callsIn_wide.2 (HC.out _ (balloc (Below.refl _ _) _))).mono ?_
  rintro e w1 ⟨mb, mn, rfl, hmb, hom, hb1⟩
  have bV := boxed_below (Boxed.new w 28 (.slice A nv cap)) hb1
  have B1 := Lib.hid (bthen (balloc (Below.refl _ w) (.cells #[.slice A nv cap] 28)) hb1)
  have HM := Lib.hid hom
  have hmb' : w.heap.size < mb := by simp at hmb; omega
  clear hom hb1 hmb
  have c1 := (bV.alloc (.cells #[.map (some mb)] 168)).cell
  have HV := Lib.hid bV
  clear bV
  gi_wp2_with (fail)
  refine ⟨trivial, ?_⟩
  refine (callsIn_wide.2 (HCL.out _ (balloc B1.out _))).mono ?_
  rintro e w2 ⟨ov, rfl, hown, hb2⟩
  obtain ⟨A2, cap2, hv2⟩ := hown.pages.slice
  rw [HN.out] at hv2
  subst hv2
  have hb2' := bthen (balloc B1.out (.cells #[.map (some mb)] 168)) hb2
  have bM1 := Boxed.new w1 168 (.map (some mb))
  have hm1 := HM.out.lt
  have hB2s : w1.heap.size + 1 ≤ w2.heap.size := by have := hb2.size; simp at this; omega
  have hz1 : w.heap.size < w1.heap.size := HV.out.lt
  obtain ⟨B2, hB2⟩ : ∃ B2, (w1.alloc (.cells #[.map (some mb)] 168)).heap.size = B2 := ⟨_, rfl⟩
  have hB2v : B2 = w1.heap.size + 1 := by rw [← hB2]; simp
  have bV := (((boxed_below (HV.out.alloc (.cells #[.map (some mb)] 168)) hb2).alloc (.cells #[.slice A2 nv cap2] 28)).alloc (.cells #[.int .u64 a] 22)).alloc (.cells #[.int .i64 (l.size : Int)] 3)
  have bM := (((boxed_below bM1 hb2).alloc (.cells #[.slice A2 nv cap2] 28)).alloc (.cells #[.int .u64 a] 22)).alloc (.cells #[.int .i64 (l.size : Int)] 3)
  have bO := ((Boxed.new w2 28 (.slice A2 nv cap2)).alloc (.cells #[.int .u64 a] 22)).alloc (.cells #[.int .i64 (l.size : Int)] 3)
  have bA := (Boxed.new (w2.alloc (.cells #[.slice A2 nv cap2] 28)) 22 (.int .u64 a)).alloc (.cells #[.int .i64 (l.size : Int)] 3)
  have bK := Boxed.new ((w2.alloc (.cells #[.slice A2 nv cap2] 28)).alloc (.cells #[.int .u64 a] 22)) 3 (.int .i64 (l.size : Int))
  have oM := ((((HM.out.alloc (.cells #[.map (some mb)] 168)).kept (w' := w2) (row := none) ⟨hb2.os, hb2.tape, hb2.output, hb2.size, fun k hk _ => hb2.block k hk⟩ (by simp)).alloc (.cells #[.slice A2 nv cap2] 28)).alloc (.cells #[.int .u64 a] 22)).alloc (.cells #[.int .i64 (l.size : Int)] 3)
  rw [hB2] at hown
  have own : OwnsP (((w2.alloc (.cells #[.slice A2 nv cap2] 28)).alloc (.cells #[.int .u64 a] 22)).alloc (.cells #[.int .i64 (l.size : Int)] 3)) B2 (.slice A2 nv cap2) m := ownsP_kept (ownsP_kept (ownsP_kept hown (World.grownBy_alloc _ _ none) (by cases A2 <;> simp [Value.ownBlock])) (World.grownBy_alloc _ _ none) (by cases A2 <;> simp [Value.ownBlock])) (World.grownBy_alloc _ _ none) (by cases A2 <;> simp [Value.ownBlock])
  have hB0 := balloc (balloc (balloc hb2' (.cells #[.slice A2 nv cap2] 28)) (.cells #[.int .u64 a] 22)) (.cells #[.int .i64 (l.size : Int)] 3)
  have hsz : (((w2.alloc (.cells #[.slice A2 nv cap2] 28)).alloc (.cells #[.int .u64 a] 22)).alloc (.cells #[.int .i64 (l.size : Int)] 3)).heap.size = w2.heap.size + 3 := by simp
  clear hb2 hb2' hown c1 bM1
  gi_wp2_with (fail)
  refine ⟨trivial, ?_⟩
  refine (stretches_in 2 _ _ _).mono ?_
  rintro e w3 ⟨rfl, rfl⟩
  gi_wp2_with (fail)
  simp only [World.size_alloc] at bA bK
  generalize (((w2.alloc (.cells #[.slice A2 nv cap2] 28)).alloc (.cells #[.int .u64 a] 22)).alloc (.cells #[.int .i64 (l.size : Int)] 3)) = W0 at *
  refine wpIn_rangeFunc_ownH (α := {s : M.Str // InPg m s ∧ s ∈ M.strs a l.size}) rfl (by omega) (gf := 153) (lb := #[.pointer (some ⟨w2.heap.size + 1, 0, none⟩), .pointer (some ⟨w2.heap.size + 1 + 1, 0, none⟩)]) rfl trivial (enters_of Try.func153 (by kernel_rfl) rfl)
    (strs_stops 2 (by omega) (w2.heap.size + 1) (w2.heap.size + 1 + 1) a l.size (fun s => InPg m s ∧ s ∈ M.strs a l.size) (fun s hs => ⟨HQ.out s hs, hs⟩) a0 a1 (by omega) hk W0 (by omega) (by omega) bA.cell bK.cell) KeepS.trans keepS_b (Below.refl _ _) (fun _ => rfl)
    (fun pre W => (Boxed W w.heap.size 28 (.slice A nv cap) ∧ Boxed W w1.heap.size 168 (.map (some mb)) ∧ Boxed W w2.heap.size 28 (.slice A2 nv cap2)) ∧ World.ownsMap W Try.prog 171 pageR mb mn (chF m l (M.strs a l.size)).2 ∧ OwnsP W B2 (.slice A2 nv cap2) (outF m a l (pre.map Subtype.val)) ∧ Below w.heap.size w W)
    (fun _ _ _ => False)
    (OwnFrom.and (OwnFrom.and (Own.from (boxed_own _ _ _) _) (OwnFrom.and (Own.from (boxed_own _ _ _) _) (Own.from (boxed_own _ _ _) _))) (OwnFrom.and (fun _ _ _ _ h hg hr => h.kept hg (fun e => by have := (hr _ e.symm).1; omega)) (OwnFrom.and (ownsP_own (fun pre : List {s : M.Str // InPg m s ∧ s ∈ M.strs a l.size} => outF m a l (pre.map Subtype.val))) (ownFrom_below (Nat.le_refl _) (by omega)))))
    (fun _ _ _ _ _ hs _ _ => hs)
    ⟨⟨bV, bM, bO⟩, oM, own, hB0⟩
    (fun x a' W => ∃ Bx, BoxedS W Bx x.1 ∧ a' = { tmps := #[.slice A nv cap, .int .u64 a, .string l, .pointer (some ⟨w.heap.size, 0, none⟩), undef, undef, .slice none 0 0, .pointer (some ⟨w1.heap.size, 0, none⟩), .pointer (some ⟨w2.heap.size, 0, none⟩), .pointer (some ⟨Bx, 0, none⟩), undef, undef, .slice A nv cap, .int .u64 a, .string l, .map (some mb), .slice A nv cap, .slice A2 nv cap2, .int .u64 a, .string l, .int .i64 (l.size : Int), .func (.func 153) #[] #[.pointer (some ⟨w2.heap.size + 1, 0, none⟩), .pointer (some ⟨w2.heap.size + 1 + 1, 0, none⟩)], encS x.1, undef, undef, undef, undef, undef, undef, undef, undef, undef, undef, undef, undef, undef, undef, undef, undef], defers := [] })
    (fun x a' s X Y row hs hg hr => by obtain ⟨Bx, h1, h2⟩ := hs; exact ⟨Bx, boxedS_own Bx x.1 () X Y row h1 hg hr, h2⟩)
    ?assign ?body ?done ?stop
  case assign =>
    rintro l pre x W K ⟨⟨b1, b2, b3⟩, om, ow, hb⟩ hK
    have HK := Lib.hid hK
    clear hK
    obtain ⟨⟨pg, f, n⟩, hx⟩ := x
    simp only [encS]
    gi_wp2
    exact HK.out _ _ ((KeepsOthers.alloc _ _).from _) (KeepS.below (balloc (Below.refl _ _) _)) ⟨⟨b1.alloc _, b2.alloc _, b3.alloc _⟩, om.alloc _, ownsP_kept ow (World.grownBy_alloc _ _ none) (by cases A2 <;> simp [Value.ownBlock]), balloc hb _⟩ ⟨W.heap.size, BoxedS.new W ⟨pg, f, n⟩, rfl⟩
  case body =>
    rintro lo pre x a' W hl0 hr' ⟨⟨b1, b2, b3⟩, om, ow, hb⟩ ⟨Bx, bx, rfl⟩ hlen
    obtain ⟨hin, hxs⟩ := x.2
    obtain ⟨ho, i, hi, hlo, hth, hds⟩ := hin
    have hi' : i < nv := by rw [← HN.out]; exact hi
    have hol : (outF m a l (pre.map Subtype.val)).length = nv := by rw [outF_length]; exact HN.out
    have ow' : W.ownsRow B2 39 3 (.slice A2 nv cap2) (outF m a l (pre.map Subtype.val)).length (cellsOf (outF m a l (pre.map Subtype.val))) := ow
    obtain ⟨g, cp, hgv, hB2g, hgl⟩ := ow'.form (by omega)
    injection hgv with hA2 hl2 hcp
    subst hA2
    subst hcp
    have HOL := Lib.hid hol
    have HGW := Lib.hid (show g < W0.heap.size by
      obtain ⟨_, h, _⟩ := OwnsP.at_ own i hi
      exact h.lt)
    clear ow' hl2 hol
    have HG := Lib.hid (HF.out W hb x.1.pg)
    rw [hlo, hth] at HG
    obtain ⟨nw, hnw⟩ : ∃ nw, over (pgOf m x.1.pg) a l.data.toList = nw := ⟨_, rfl⟩
    have hat := HA.out x.1 hxs
    rw [hnw] at hat
    have HKL := Lib.hid (klit_of (x := x.1.pg) (by have := ho.pg0; omega) (by have := ho.pg1; omega))
    have look : ∀ X : World, X.ownsMap Try.prog 171 pageR mb mn (chF m l (M.strs a l.size)).2 → (Instr.lookup 168 (.map (some mb)) (.agg #[.int .u64 x.1.pg]) false).run Try.prog X = .ok (pgV nw) X := fun X hX => by
      obtain ⟨v, ps, hrun, hv⟩ := hX.lookup keyed Try.underlying168 (Try.zeroValue39 X) (pageR_of ⟨0, 0, ⟨#[]⟩⟩) HKL.out
      unfold chF at hv
      rw [hat] at hv
      rw [hrun, pageR_inv hv]
    have HL := Lib.hid look
    have HNW := Lib.hid hnw
    have HI := Lib.hid (show (Boxed W w.heap.size 28 (.slice A nv cap) ∧ Boxed W w1.heap.size 168 (.map (some mb)) ∧ Boxed W w2.heap.size 28 (.slice (some ⟨g, 0, none⟩) nv cap2)) ∧ World.ownsMap W Try.prog 171 pageR mb mn (chF m l (M.strs a l.size)).2 ∧ OwnsP W B2 (.slice (some ⟨g, 0, none⟩) nv cap2) (outF m a l (pre.map Subtype.val)) ∧ Below w.heap.size w W from ⟨⟨b1, b2, b3⟩, om, ow, hb⟩)
    have HX := Lib.hid bx
    have HLO := Lib.hid hlo
    have c1 := b1.cell
    obtain ⟨c3, -, -⟩ := bx.cells
    have HEN := Lib.hid (show encS x.1 = .agg #[.int .u64 x.1.pg, .int .i64 x.1.f, .int .i64 x.1.n] from rfl)
    rw [HEN.out]
    obtain ⟨pg, hpg⟩ : ∃ pg, x.1.pg = pg := ⟨_, rfl⟩
    rw [hpg] at HG c3 HL ⊢
    have HXP := Lib.hid hpg
    clear hb b1 b2 b3 bx hr' hlen hpg hlo hth ho om ow hnw hat look hxs hds
    gi_wp2_with (fail)
    refine ⟨trivial, ?_⟩
    refine (CallsIn.inRound lo (callsIn_wide.2 HG.out)).mono ?_
    rintro e w1' ⟨rfl, hb1⟩
    have HB1 := Lib.hid hb1
    clear hb1 c1 c3
    gi_wp2_with (fail)
    obtain ⟨na, np, nd⟩ := nw
    have q1 : Boxed w1'.drew w2.heap.size 28 (.slice (some ⟨g, 0, none⟩) nv cap2) := show Boxed w1' _ _ _ from boxed_below HI.out.1.2.2 HB1.out
    have q2 : Boxed w1'.drew w1.heap.size 168 (.map (some mb)) := show Boxed w1' _ _ _ from boxed_below HI.out.1.2.1 HB1.out
    have q0 : Boxed w1'.drew w.heap.size 28 (.slice A nv cap) := show Boxed w1' _ _ _ from boxed_below HI.out.1.1 HB1.out
    have hgW : W.grownBy w1'.drew none := by
      have h := HB1.out.trans ((Below.refl _ _).drew)
      exact ⟨h.os, h.tape, h.output, h.size, fun k hk _ => h.block k hk⟩
    have q3 : BoxedS w1'.drew Bx x.1 := (hgW.block Bx HX.out.lt (by simp)).trans HX.out
    have q4 := HI.out.2.1.kept hgW (by simp)
    have q5 := ownsP_kept HI.out.2.2.1 hgW (by simp [Value.ownBlock])
    have q6 : Below W.heap.size W w1'.drew := HB1.out.trans ((Below.refl _ _).drew)
    have q7 : Below w.heap.size w w1'.drew := bthen HI.out.2.2.2 q6
    have x3 := q3.cells.1
    rw [HXP.out] at x3
    have hlk := HL.out _ q4
    have i0 : (0 : Int) ≤ (i : Int) := Int.natCast_nonneg _
    have i1 : (i : Int) < (nv : Int) := by omega
    refine round_held (S := fun W' => W'.cell? ⟨w2.heap.size, 0, none⟩ = some (.slice (some ⟨g, 0, none⟩) nv cap2) ∧ W'.cell? ⟨w1.heap.size, 0, none⟩ = some (.map (some mb)) ∧ W'.cell? ⟨Bx, 0, none⟩ = some (.int .u64 pg) ∧ (Instr.lookup 168 (.map (some mb)) (.agg #[.int .u64 pg]) false).run Try.prog W' = .ok (.agg #[.int .u64 na, .int .i64 np, .string nd]) W') (by kernel_rfl) (by simp) ⟨q1.cell, q2.cell, x3, hlk⟩ (fun hHeld => ?_)
    generalize w1'.drew = V at *
    refine wpAnyH_take (i := 0) (v := ?_) rfl (by kernel_rfl) (by kernel_rfl) (by kernel_rfl) (fun _ _ _ h => nomatch h.1) (Or.inl ⟨by rfl, ?_⟩) (by assumption) ?_
    rotate_left
    · intro w hSw; (try dsimp only at hSw); obtain ⟨s1, s2, s3, s4⟩ := hSw; go_simp; try (with_reducible rfl)
    (try simp only [Act.put])
    refine wpAnyH_take (i := 1) (v := ?_) rfl (by kernel_rfl) (by kernel_rfl) (by kernel_rfl) (fun _ _ _ h => nomatch h.1) (Or.inl ⟨by rfl, ?_⟩) (by assumption) ?_
    rotate_left
    · intro w hSw; (try dsimp only at hSw); obtain ⟨s1, s2, s3, s4⟩ := hSw; go_simp; try (with_reducible rfl)
    (try simp only [Act.put])
    refine wpAnyH_take (i := 2) (v := ?_) rfl (by kernel_rfl) (by kernel_rfl) (by kernel_rfl) (fun _ _ _ h => nomatch h.1) (Or.inl ⟨by rfl, ?_⟩) (by assumption) ?_
    rotate_left
    · intro w hSw; (try dsimp only at hSw); obtain ⟨s1, s2, s3, s4⟩ := hSw; go_simp; try (with_reducible rfl)
    (try simp only [Act.put])
    refine wpAnyH_take (i := 3) (v := ?_) rfl (by kernel_rfl) (by kernel_rfl) (by kernel_rfl) (fun _ _ _ h => nomatch h.1) (Or.inl ⟨by rfl, ?_⟩) (by assumption) ?_
    rotate_left
    · intro w hSw; (try dsimp only at hSw); obtain ⟨s1, s2, s3, s4⟩ := hSw; go_simp; try (with_reducible rfl)
    (try simp only [Act.put])
    refine wpAnyH_take (i := 4) (v := ?_) rfl (by kernel_rfl) (by kernel_rfl) (by kernel_rfl) (fun _ _ _ h => nomatch h.1) (Or.inl ⟨by rfl, ?_⟩) (by assumption) ?_
    rotate_left
    · intro w hSw; (try dsimp only at hSw); obtain ⟨s1, s2, s3, s4⟩ := hSw; go_simp; try (with_reducible rfl)
    (try simp only [Act.put])
    refine wpAnyH_take (i := 5) (v := ?_) rfl (by kernel_rfl) (by kernel_rfl) (by kernel_rfl) (fun _ _ _ h => nomatch h.1) (Or.inl ⟨by rfl, ?_⟩) (by assumption) ?_
    rotate_left
    · intro w hSw; (try dsimp only at hSw); obtain ⟨s1, s2, s3, s4⟩ := hSw; go_simp; try (with_reducible rfl)
    (try simp only [Act.put])
    refine wpAnyH_take (i := 6) (v := ?_) rfl (by kernel_rfl) (by kernel_rfl) (by kernel_rfl) (fun _ _ _ h => nomatch h.1) (Or.inl ⟨by rfl, ?_⟩) (by assumption) ?_
    rotate_left
    · intro w hSw; (try dsimp only at hSw); obtain ⟨s1, s2, s3, s4⟩ := hSw; go_simp; try (with_reducible rfl)
    (try simp only [Act.put])
    refine wpAnyH_take (i := 7) (v := ?_) rfl (by kernel_rfl) (by kernel_rfl) (by kernel_rfl) (fun _ _ _ h => nomatch h.1) (Or.inl ⟨by rfl, ?_⟩) (by assumption) ?_
    rotate_left
    · intro w hSw; (try dsimp only at hSw); obtain ⟨s1, s2, s3, s4⟩ := hSw; go_simp; try (with_reducible rfl)
    (try simp only [Act.put])
    have hio : i < (outF m a l (pre.map Subtype.val)).length := by rw [HOL.out]; exact hi'
    have q5' : OwnsP V B2 (.slice (some ⟨g, 0, none⟩) (outF m a l (pre.map Subtype.val)).length cap2) (outF m a l (pre.map Subtype.val)) := by rw [HOL.out]; exact q5
    obtain ⟨cur, y0, y1, y2, hcur, t0, t1, t2⟩ : ∃ (cur : Array Value) (y0 y1 y2 : Value), Whole V g 39 cur ∧ V.cell? ⟨g, i * 3, none⟩ = some y0 ∧ V.cell? ⟨g, i * 3 + 1, none⟩ = some y1 ∧ V.cell? ⟨g, i * 3 + 2, none⟩ = some y2 := by
      obtain ⟨cur, h⟩ := OwnsP.at_ q5' i hio
      exact ⟨cur, _, _, _, h⟩
    refine wpAnyH_ready (rs := [8]) (by kernel_rfl) (by simp) ?_
    refine AllReadyH.cons rfl (fun K hK => ?_) AllReadyH.nil
    have r0 := hcur.free (i * 3)
    have r1 := hcur.free (i * 3 + 1)
    have r2 := hcur.free (i * 3 + 2)
    go_simp
    have hpg := putPg_grown V g i ⟨na, np, nd⟩
    have hput := q5'.put i ⟨na, np, nd⟩ hio
    have n1 : some w2.heap.size ≠ some g := fun e => by
      have h := Option.some.inj e
      unfold Boxed at q1
      rw [h, show V.heap[g]? = _ from hcur] at q1
      cases q1
    have n2 : some w1.heap.size ≠ some g := fun e => by
      have h := Option.some.inj e
      unfold Boxed at q2
      rw [h, show V.heap[g]? = _ from hcur] at q2
      cases q2
    have n3 : some Bx ≠ some g := fun e => by
      have h := Option.some.inj e
      unfold BoxedS at q3
      rw [h, show V.heap[g]? = _ from hcur] at q3
      cases q3
    have n4 : some mb ≠ some g := fun e => by
      have h := Option.some.inj e
      obtain ⟨es, clock, hb, _⟩ := q4
      rw [h, show V.heap[g]? = _ from hcur] at hb
      cases hb
    have n0 : some w.heap.size ≠ some g := fun e => by
      have h := Option.some.inj e
      unfold Boxed at q0
      rw [h, show V.heap[g]? = _ from hcur] at q0
      cases q0
    have u0 := q0.kept hpg n0
    have u1 := q1.kept hpg n1
    have u2 := q2.kept hpg n2
    have u3 : BoxedS (putPg V g i ⟨na, np, nd⟩) Bx x.1 := (hpg.block Bx q3.lt n3).trans q3
    have u4 := q4.kept hpg n4
    refine hK.out _ _ ?_ (fun _ => ?_)
    · have h3 := u3.cells.1
      rw [HXP.out] at h3
      exact ⟨u1.cell, u2.cell, h3, HL.out _ u4⟩
    clear hK K
    refine wpAnyH_done (by kernel_rfl) ?_ _
    refine ⟨rfl, ?_⟩
    refine ⟨(keeps_below _ q6).trans (KeepsFrom.of_grownBy hpg (fun j e => by have h := Option.some.inj e; have := HGW.out; omega)), (KeepS.below q6).trans (KeepS.grown hpg (fun k e cs f hh => ?_)), ⟨u0, u2, u1⟩, u4, ?_, ?_⟩
    · cases e
      rw [show V.heap[g]? = _ from hcur] at hh
      cases hh
    · have h := hput
      rw [HOL.out] at h
      rw [List.map_append, List.map_cons, List.map_nil, outF_snoc, HLO.out, HXP.out]
      have hn := HNW.out
      rw [HXP.out] at hn
      rw [hn]
      exact h
    · exact q7.grown hpg q7.size (fun k e => by have h := Option.some.inj e; omega)
  case done =>
    rintro D ys W hD hys ⟨⟨b1, b2, b3⟩, om, ow, hb⟩ hK
    have c3 := b3.cell
    have HK := Lib.hid hK
    have HB := Lib.hid hb
    rw [hys, HO.out] at ow
    have HM := Lib.hid ow
    have HDO := Lib.hid (show (Value.slice A2 nv cap2).ownBlock = none ∨ (Value.slice A2 nv cap2).ownBlock ≠ some D from by
      rcases (show W.ownsRow B2 39 3 _ _ _ from ow).2 with ⟨e, _⟩ | ⟨g', cap', cur, e, _, hg, _⟩
      · rw [e]; exact .inl rfl
      · rw [e]
        refine .inr (fun e' => ?_)
        have e2 : g' = D := by simpa [Value.ownBlock] using e'
        rw [e2, hK] at hg
        cases hg)
    clear b1 b2 b3 hb hK om hys ow
    gi_wp2_with (fail)
    refine ⟨by simp, .inl ⟨_, _, rfl, run_takeDeferred HK.out, ?_⟩⟩
    refine ⟨_, results_tmp rfl _ _ _, ⟨_, rfl, ?_, HB.out.trans (belowK_b (w := w) (Nat.le_refl _) W D _ _ (by omega) HK.out rfl rfl)⟩⟩
    have h := ownsP_kept HM.out (grownBy_putObj' W D (.deferred none)) HDO.out
    exact ⟨h.1, by
      rcases h.2 with ⟨e, e2⟩ | ⟨g', cap', cur, e, e2, e3⟩
      · exact .inl ⟨e, e2⟩
      · exact .inr ⟨g', cap', cur, e, by omega, e3⟩⟩
  case stop =>
    rintro D c pre W _ _ h _
    exact h.elim
end Go.Proofs.Ytdlbhkdjcegbfaa
