/- Package bit: a reader: a thing that is made of what is taken. -/
import Derived.Test.YtjldddpchiaalaaUD
namespace Go.Proofs.Ytjldddpchiaalaa
open Go.RowKit
namespace Q

set_option maxRecDepth 100000 in
set_option maxHeartbeats 4000000 in
theorem end_0 {rb : Nat} {r : St} {W : World} (h : Rd W rb r) {r1 : St} (hO : betweenR 1 3 3 r = (0, r1)) :
    Calls Try.prog 78 #[.pointer (some ⟨rb, 0, none⟩)] W fun e w' => ∃ val, e = .returned val ∧ EpTm (endsR 0 r1).1 W.heap.size w' val ∧ RdTo W rb (endsR 0 r1).2 w' := by
  obtain ⟨zo, hzo⟩ : ∃ o, Obj.cells #[.int .i64 0, .int .i64 0, .int .i64 0, .slice none 0 0, .int .i64 0, .slice none 0 0] 72 (0, 0) = o := ⟨_, rfl⟩
  have HH := Lib.hid h
  have HE := Lib.hid (show endsR 0 r1 = (⟨0, 0, 0, [], 0, []⟩, r1) by unfold endsR; rw [if_neg (by decide)]; rw [if_neg (by decide)]; rw [if_neg (by decide)]; rfl)
  rw [HE.out]
  have HB := Lib.hid (show Calls Try.prog 63 #[.pointer (some ⟨rb, 0, none⟩), .int .u64 1, .int .u64 3, .int .i64 3] (W.alloc zo) fun e w' => e = .returned (.int .i64 0) ∧ RdTo (W.alloc zo) rb r1 w' from by
    have h := between_any 1 3 3 (by decide) (rd_alloc h zo).1
    rw [hO] at h
    exact h)
  have HZ := Lib.hid (show Whole (W.alloc zo) W.heap.size 72 #[.int .i64 0, .int .i64 0, .int .i64 0, .slice none 0 0, .int .i64 0, .slice none 0 0] by unfold Whole; rw [heap_alloc_new, hzo])
  subst hzo
  clear h hO
  go_enter Try.func78, Try.ntmps78
  go_wp2_with fail
  refine HB.out.mono ?_
  rintro e w1 ⟨rfl, k1⟩
  obtain ⟨ob, hob⟩ : ∃ o, Obj.cells #[.int .i64 0, .int .i64 0, .int .i64 0, .slice none 0 0, .int .i64 0, .slice none 0 0] 72 (0, 0) = o := ⟨_, rfl⟩
  have M1 := Lib.hid (show Mk W rb r1 w1.heap.size W.heap.size 72 #[.int .i64 0, .int .i64 0, .int .i64 0, .slice none 0 0, .int .i64 0, .slice none 0 0] #[.int .i64 0, .int .i64 0, .int .i64 0, .slice none 0 0, .int .i64 0, .slice none 0 0] (w1.alloc ob) from by
    have z1 : W.heap.size + 1 ≤ w1.heap.size := by have := k1.2.size; rw [World.size_alloc] at this; exact this
    have k2 := (rd_alloc HH.out _).then_ (k1.then_ (rd_alloc k1.1 ob))
    refine ⟨k2.1, k2.2, by unfold Whole; rw [heap_alloc_new, hob], ?_, by omega, Nat.le_refl _, by omega, HH.out.lt⟩
    have q1 := (k1.2.block W.heap.size (by rw [World.size_alloc]; omega) (fun e => by have := Option.some.inj e; have := HH.out.lt; omega)).trans HZ.out
    exact (Lib.alloc_old w1 ob W.heap.size (by omega)).trans q1)
  subst hob
  clear k1
  have HRW := Lib.hid M1.out.row
  go_wp2_with (refine store_whole (T := 72) rfl _ _ rfl W.heap.size #[.int .i64 0, .int .i64 0, .int .i64 0, .slice none 0 0, .int .i64 0, .slice none 0 0] #[.int .i64 0, .int .i64 0, .int .i64 0, .slice none 0 0, .int .i64 0, .slice none 0 0] rfl rfl M1.out.z size_Tm rfl (by simp [Value.oneCell']) ?_)
  refine bodyPost_ret (results_cell_row Try.results78 _ _ W.heap.size 72 #[.int .i64 0, .int .i64 0, .int .i64 0, .slice none 0 0, .int .i64 0, .slice none 0 0] (0, 0) _ rfl HRW.out.2 Try.underlying72 rfl size_Tm) rfl ?_
  exact ⟨_, rfl, ⟨none, 0, none, 0, rfl, fun U _ => no_ints U, fun U _ => no_ints U⟩, HRW.out.1⟩
set_option maxRecDepth 100000 in
set_option maxHeartbeats 4000000 in
theorem end_1 {rb : Nat} {r : St} {W : World} (h : Rd W rb r) {r1 : St} (hO : betweenR 1 3 3 r = (1, r1)) :
    Calls Try.prog 78 #[.pointer (some ⟨rb, 0, none⟩)] W fun e w' => ∃ val, e = .returned val ∧ EpTm (endsR 1 r1).1 W.heap.size w' val ∧ RdTo W rb (endsR 1 r1).2 w' := by
  obtain ⟨zo, hzo⟩ : ∃ o, Obj.cells #[.int .i64 0, .int .i64 0, .int .i64 0, .slice none 0 0, .int .i64 0, .slice none 0 0] 72 (0, 0) = o := ⟨_, rfl⟩
  have HH := Lib.hid h
  obtain ⟨⟨n2, r2⟩, q2⟩ : ∃ t, numR r1 = t := ⟨_, rfl⟩
  have H2 := Lib.hid (fun (U : World) (hU : Rd U rb r1) => (show Calls Try.prog 60 #[.pointer (some ⟨rb, 0, none⟩)] U fun e w' => e = .returned (.int .i64 n2) ∧ RdTo U rb r2 w' from by
    have h := number_any hU
    unfold intR at h
    rw [q2] at h
    exact h))
  obtain ⟨⟨n3, r3⟩, q3⟩ : ∃ t, valsR r2 = t := ⟨_, rfl⟩
  have H3 := Lib.hid (fun (U : World) (hU : Rd U rb r2) => (show Calls Try.prog 86 #[.pointer (some ⟨rb, 0, none⟩)] U fun e w' => ∃ A c, e = .returned (.slice A n3.length c) ∧ Fresh U.heap.size w' (fun V => Ints V (.slice A n3.length c) n3) ∧ RdTo U rb r3 w' from by
    have h := values_any hU
    rw [q3] at h
    exact h))
  have HE := Lib.hid (show endsR 1 r1 = (⟨1, 0, n2, n3, 0, []⟩, r3) by unfold endsR; rw [if_pos (by decide)]; rw [q2]; dsimp only; rw [q3]; dsimp only; rfl)
  rw [HE.out]
  have HB := Lib.hid (show Calls Try.prog 63 #[.pointer (some ⟨rb, 0, none⟩), .int .u64 1, .int .u64 3, .int .i64 3] (W.alloc zo) fun e w' => e = .returned (.int .i64 1) ∧ RdTo (W.alloc zo) rb r1 w' from by
    have h := between_any 1 3 3 (by decide) (rd_alloc h zo).1
    rw [hO] at h
    exact h)
  have HZ := Lib.hid (show Whole (W.alloc zo) W.heap.size 72 #[.int .i64 0, .int .i64 0, .int .i64 0, .slice none 0 0, .int .i64 0, .slice none 0 0] by unfold Whole; rw [heap_alloc_new, hzo])
  subst hzo
  clear h hO q2 q3
  go_enter Try.func78, Try.ntmps78
  go_wp2_with fail
  refine HB.out.mono ?_
  rintro e w1 ⟨rfl, k1⟩
  obtain ⟨ob, hob⟩ : ∃ o, Obj.cells #[.int .i64 1, .int .i64 0, .int .i64 0, .slice none 0 0, .int .i64 0, .slice none 0 0] 72 (0, 0) = o := ⟨_, rfl⟩
  have M1 := Lib.hid (show Mk W rb r1 w1.heap.size W.heap.size 72 #[.int .i64 1, .int .i64 0, .int .i64 0, .slice none 0 0, .int .i64 0, .slice none 0 0] #[.int .i64 0, .int .i64 0, .int .i64 0, .slice none 0 0, .int .i64 0, .slice none 0 0] (w1.alloc ob) from by
    have z1 : W.heap.size + 1 ≤ w1.heap.size := by have := k1.2.size; rw [World.size_alloc] at this; exact this
    have k2 := (rd_alloc HH.out _).then_ (k1.then_ (rd_alloc k1.1 ob))
    refine ⟨k2.1, k2.2, by unfold Whole; rw [heap_alloc_new, hob], ?_, by omega, Nat.le_refl _, by omega, HH.out.lt⟩
    have q1 := (k1.2.block W.heap.size (by rw [World.size_alloc]; omega) (fun e => by have := Option.some.inj e; have := HH.out.lt; omega)).trans HZ.out
    exact (Lib.alloc_old w1 ob W.heap.size (by omega)).trans q1)
  subst hob
  clear k1
  go_wp2_with fail
  obtain ⟨W1, hW1⟩ : ∃ U, w1.alloc (.cells #[.int .i64 1, .int .i64 0, .int .i64 0, .slice none 0 0, .int .i64 0, .slice none 0 0] 72 (0, 0)) = U := ⟨_, rfl⟩
  rw [hW1] at M1 ⊢
  clear hW1
  refine (H2.out _ M1.out.rd).mono ?_
  rintro e w2 ⟨rfl, k2⟩
  have N2 := Lib.hid (M1.out.call k2)
  have b2_0 : w2.cell? ⟨w1.heap.size, 0, none⟩ = some (.int .i64 1) := N2.out.b.cell 0
  have b2_1 : w2.cell? ⟨w1.heap.size, 1, none⟩ = some (.int .i64 0) := N2.out.b.cell 1
  have b2_2 : w2.cell? ⟨w1.heap.size, 2, none⟩ = some (.int .i64 0) := N2.out.b.cell 2
  have b2_3 : w2.cell? ⟨w1.heap.size, 3, none⟩ = some (.slice none 0 0) := N2.out.b.cell 3
  have b2_4 : w2.cell? ⟨w1.heap.size, 4, none⟩ = some (.int .i64 0) := N2.out.b.cell 4
  have b2_5 : w2.cell? ⟨w1.heap.size, 5, none⟩ = some (.slice none 0 0) := N2.out.b.cell 5
  have f2_2 : w2.frozen? ⟨w1.heap.size, 2, none⟩ = false := N2.out.b.free 2
  have M2 := Lib.hid (show Mk W rb r2 (w1.heap.size) W.heap.size 72 #[.int .i64 1, .int .i64 0, .int .i64 n2, .slice none 0 0, .int .i64 0, .slice none 0 0] #[.int .i64 0, .int .i64 0, .int .i64 0, .slice none 0 0, .int .i64 0, .slice none 0 0] (w2.setCell ⟨w1.heap.size, 2, none⟩ (.int .i64 n2)) from (N2.out.put 2 (.int .i64 n2)))
  have LW2 := Lib.hid (show W1.heap.size ≤ (w2.setCell ⟨w1.heap.size, 2, none⟩ (.int .i64 n2)).heap.size from by simp only [World.size_setCell]; exact Nat.le_trans (Nat.le_refl _) k2.2.size)
  obtain ⟨W2, hW2⟩ : ∃ U, (w2.setCell ⟨w1.heap.size, 2, none⟩ (.int .i64 n2)) = U := ⟨_, rfl⟩
  rw [hW2] at M2 LW2
  clear k2
  go_wp2_with fail
  try rw [hW2]
  clear hW2
  refine (H3.out _ M2.out.rd).mono ?_
  rintro e w3 ⟨A3, c3, rfl, F3, k3⟩
  have N3 := Lib.hid (M2.out.call k3)
  have F3_ := Lib.hid F3
  have LEQ_F3 := Lib.hid (show W1.heap.size ≤ W2.heap.size from LW2.out)
  have b3_0 : w3.cell? ⟨w1.heap.size, 0, none⟩ = some (.int .i64 1) := N3.out.b.cell 0
  have b3_1 : w3.cell? ⟨w1.heap.size, 1, none⟩ = some (.int .i64 0) := N3.out.b.cell 1
  have b3_2 : w3.cell? ⟨w1.heap.size, 2, none⟩ = some (.int .i64 n2) := N3.out.b.cell 2
  have b3_3 : w3.cell? ⟨w1.heap.size, 3, none⟩ = some (.slice none 0 0) := N3.out.b.cell 3
  have b3_4 : w3.cell? ⟨w1.heap.size, 4, none⟩ = some (.int .i64 0) := N3.out.b.cell 4
  have b3_5 : w3.cell? ⟨w1.heap.size, 5, none⟩ = some (.slice none 0 0) := N3.out.b.cell 5
  have f3_3 : w3.frozen? ⟨w1.heap.size, 3, none⟩ = false := N3.out.b.free 3
  have M3 := Lib.hid (show Mk W rb r3 (w1.heap.size) W.heap.size 72 #[.int .i64 1, .int .i64 0, .int .i64 n2, .slice A3 n3.length c3, .int .i64 0, .slice none 0 0] #[.int .i64 0, .int .i64 0, .int .i64 0, .slice none 0 0, .int .i64 0, .slice none 0 0] (w3.setCell ⟨w1.heap.size, 3, none⟩ (.slice A3 n3.length c3)) from (N3.out.put 3 (.slice A3 n3.length c3)))
  have F3_p := Lib.hid ((F3_.out.put 3 (.slice A3 n3.length c3) (Nat.lt_of_lt_of_le M1.out.b.lt LEQ_F3.out)))
  have LW3 := Lib.hid (show W1.heap.size ≤ (w3.setCell ⟨w1.heap.size, 3, none⟩ (.slice A3 n3.length c3)).heap.size from by simp only [World.size_setCell]; exact Nat.le_trans LW2.out k3.2.size)
  clear F3
  clear k3
  have HRW := Lib.hid M3.out.row
  have F3_pz := Lib.hid (F3_p.out.later (setRow_grown _ W.heap.size #[.int .i64 1, .int .i64 0, .int .i64 n2, .slice A3 n3.length c3, .int .i64 0, .slice none 0 0]) (fun r e => by cases e; exact Nat.lt_of_lt_of_le M1.out.z.lt LEQ_F3.out))
  go_wp2_with (refine store_whole (T := 72) rfl _ _ rfl W.heap.size #[.int .i64 1, .int .i64 0, .int .i64 n2, .slice A3 n3.length c3, .int .i64 0, .slice none 0 0] #[.int .i64 0, .int .i64 0, .int .i64 0, .slice none 0 0, .int .i64 0, .slice none 0 0] rfl rfl M3.out.z size_Tm rfl (by simp [Value.oneCell']) ?_)
  refine bodyPost_ret (results_cell_row Try.results78 _ _ W.heap.size 72 #[.int .i64 1, .int .i64 0, .int .i64 n2, .slice A3 n3.length c3, .int .i64 0, .slice none 0 0] (0, 0) _ rfl HRW.out.2 Try.underlying72 rfl size_Tm) rfl ?_
  exact ⟨_, rfl, ⟨_, _, none, 0, rfl, F3_pz.out.thin (Nat.le_trans M1.out.g.size LEQ_F3.out), fun U _ => no_ints U⟩, HRW.out.1⟩
set_option maxRecDepth 100000 in
set_option maxHeartbeats 4000000 in
theorem end_2 {rb : Nat} {r : St} {W : World} (h : Rd W rb r) {r1 : St} (hO : betweenR 1 3 3 r = (2, r1)) :
    Calls Try.prog 78 #[.pointer (some ⟨rb, 0, none⟩)] W fun e w' => ∃ val, e = .returned val ∧ EpTm (endsR 2 r1).1 W.heap.size w' val ∧ RdTo W rb (endsR 2 r1).2 w' := by
  obtain ⟨zo, hzo⟩ : ∃ o, Obj.cells #[.int .i64 0, .int .i64 0, .int .i64 0, .slice none 0 0, .int .i64 0, .slice none 0 0] 72 (0, 0) = o := ⟨_, rfl⟩
  have HH := Lib.hid h
  obtain ⟨⟨n2, r2⟩, q2⟩ : ∃ t, numR r1 = t := ⟨_, rfl⟩
  have H2 := Lib.hid (fun (U : World) (hU : Rd U rb r1) => (show Calls Try.prog 60 #[.pointer (some ⟨rb, 0, none⟩)] U fun e w' => e = .returned (.int .i64 n2) ∧ RdTo U rb r2 w' from by
    have h := number_any hU
    unfold intR at h
    rw [q2] at h
    exact h))
  obtain ⟨⟨n3, r3⟩, q3⟩ : ∃ t, numR r2 = t := ⟨_, rfl⟩
  have H3 := Lib.hid (fun (U : World) (hU : Rd U rb r2) => (show Calls Try.prog 60 #[.pointer (some ⟨rb, 0, none⟩)] U fun e w' => e = .returned (.int .i64 n3) ∧ RdTo U rb r3 w' from by
    have h := number_any hU
    unfold intR at h
    rw [q3] at h
    exact h))
  obtain ⟨⟨n4, r4⟩, q4⟩ : ∃ t, valsR r3 = t := ⟨_, rfl⟩
  have H4 := Lib.hid (fun (U : World) (hU : Rd U rb r3) => (show Calls Try.prog 86 #[.pointer (some ⟨rb, 0, none⟩)] U fun e w' => ∃ A c, e = .returned (.slice A n4.length c) ∧ Fresh U.heap.size w' (fun V => Ints V (.slice A n4.length c) n4) ∧ RdTo U rb r4 w' from by
    have h := values_any hU
    rw [q4] at h
    exact h))
  obtain ⟨⟨n5, r5⟩, q5⟩ : ∃ t, numR r4 = t := ⟨_, rfl⟩
  have H5 := Lib.hid (fun (U : World) (hU : Rd U rb r4) => (show Calls Try.prog 60 #[.pointer (some ⟨rb, 0, none⟩)] U fun e w' => e = .returned (.int .i64 n5) ∧ RdTo U rb r5 w' from by
    have h := number_any hU
    unfold intR at h
    rw [q5] at h
    exact h))
  obtain ⟨⟨n6, r6⟩, q6⟩ : ∃ t, valsR r5 = t := ⟨_, rfl⟩
  have H6 := Lib.hid (fun (U : World) (hU : Rd U rb r5) => (show Calls Try.prog 86 #[.pointer (some ⟨rb, 0, none⟩)] U fun e w' => ∃ A c, e = .returned (.slice A n6.length c) ∧ Fresh U.heap.size w' (fun V => Ints V (.slice A n6.length c) n6) ∧ RdTo U rb r6 w' from by
    have h := values_any hU
    rw [q6] at h
    exact h))
  have HE := Lib.hid (show endsR 2 r1 = (⟨2, n2, n3, n4, n5, n6⟩, r6) by unfold endsR; rw [if_neg (by decide)]; rw [if_pos (by decide)]; rw [q2]; dsimp only; rw [q3]; dsimp only; rw [q4]; dsimp only; rw [q5]; dsimp only; rw [q6]; dsimp only; rfl)
  rw [HE.out]
  have HB := Lib.hid (show Calls Try.prog 63 #[.pointer (some ⟨rb, 0, none⟩), .int .u64 1, .int .u64 3, .int .i64 3] (W.alloc zo) fun e w' => e = .returned (.int .i64 2) ∧ RdTo (W.alloc zo) rb r1 w' from by
    have h := between_any 1 3 3 (by decide) (rd_alloc h zo).1
    rw [hO] at h
    exact h)
  have HZ := Lib.hid (show Whole (W.alloc zo) W.heap.size 72 #[.int .i64 0, .int .i64 0, .int .i64 0, .slice none 0 0, .int .i64 0, .slice none 0 0] by unfold Whole; rw [heap_alloc_new, hzo])
  subst hzo
  clear h hO q2 q3 q4 q5 q6
  go_enter Try.func78, Try.ntmps78
  go_wp2_with fail
  refine HB.out.mono ?_
  rintro e w1 ⟨rfl, k1⟩
  obtain ⟨ob, hob⟩ : ∃ o, Obj.cells #[.int .i64 2, .int .i64 0, .int .i64 0, .slice none 0 0, .int .i64 0, .slice none 0 0] 72 (0, 0) = o := ⟨_, rfl⟩
  have M1 := Lib.hid (show Mk W rb r1 w1.heap.size W.heap.size 72 #[.int .i64 2, .int .i64 0, .int .i64 0, .slice none 0 0, .int .i64 0, .slice none 0 0] #[.int .i64 0, .int .i64 0, .int .i64 0, .slice none 0 0, .int .i64 0, .slice none 0 0] (w1.alloc ob) from by
    have z1 : W.heap.size + 1 ≤ w1.heap.size := by have := k1.2.size; rw [World.size_alloc] at this; exact this
    have k2 := (rd_alloc HH.out _).then_ (k1.then_ (rd_alloc k1.1 ob))
    refine ⟨k2.1, k2.2, by unfold Whole; rw [heap_alloc_new, hob], ?_, by omega, Nat.le_refl _, by omega, HH.out.lt⟩
    have q1 := (k1.2.block W.heap.size (by rw [World.size_alloc]; omega) (fun e => by have := Option.some.inj e; have := HH.out.lt; omega)).trans HZ.out
    exact (Lib.alloc_old w1 ob W.heap.size (by omega)).trans q1)
  subst hob
  clear k1
  go_wp2_with fail
  obtain ⟨W1, hW1⟩ : ∃ U, w1.alloc (.cells #[.int .i64 2, .int .i64 0, .int .i64 0, .slice none 0 0, .int .i64 0, .slice none 0 0] 72 (0, 0)) = U := ⟨_, rfl⟩
  rw [hW1] at M1 ⊢
  clear hW1
  refine (H2.out _ M1.out.rd).mono ?_
  rintro e w2 ⟨rfl, k2⟩
  have N2 := Lib.hid (M1.out.call k2)
  have b2_0 : w2.cell? ⟨w1.heap.size, 0, none⟩ = some (.int .i64 2) := N2.out.b.cell 0
  have b2_1 : w2.cell? ⟨w1.heap.size, 1, none⟩ = some (.int .i64 0) := N2.out.b.cell 1
  have b2_2 : w2.cell? ⟨w1.heap.size, 2, none⟩ = some (.int .i64 0) := N2.out.b.cell 2
  have b2_3 : w2.cell? ⟨w1.heap.size, 3, none⟩ = some (.slice none 0 0) := N2.out.b.cell 3
  have b2_4 : w2.cell? ⟨w1.heap.size, 4, none⟩ = some (.int .i64 0) := N2.out.b.cell 4
  have b2_5 : w2.cell? ⟨w1.heap.size, 5, none⟩ = some (.slice none 0 0) := N2.out.b.cell 5
  have f2_1 : w2.frozen? ⟨w1.heap.size, 1, none⟩ = false := N2.out.b.free 1
  have M2 := Lib.hid (show Mk W rb r2 (w1.heap.size) W.heap.size 72 #[.int .i64 2, .int .i64 n2, .int .i64 0, .slice none 0 0, .int .i64 0, .slice none 0 0] #[.int .i64 0, .int .i64 0, .int .i64 0, .slice none 0 0, .int .i64 0, .slice none 0 0] (w2.setCell ⟨w1.heap.size, 1, none⟩ (.int .i64 n2)) from (N2.out.put 1 (.int .i64 n2)))
  have LW2 := Lib.hid (show W1.heap.size ≤ (w2.setCell ⟨w1.heap.size, 1, none⟩ (.int .i64 n2)).heap.size from by simp only [World.size_setCell]; exact Nat.le_trans (Nat.le_refl _) k2.2.size)
  obtain ⟨W2, hW2⟩ : ∃ U, (w2.setCell ⟨w1.heap.size, 1, none⟩ (.int .i64 n2)) = U := ⟨_, rfl⟩
  rw [hW2] at M2 LW2
  clear k2
  go_wp2_with fail
  try rw [hW2]
  clear hW2
  refine (H3.out _ M2.out.rd).mono ?_
  rintro e w3 ⟨rfl, k3⟩
  have N3 := Lib.hid (M2.out.call k3)
  have b3_0 : w3.cell? ⟨w1.heap.size, 0, none⟩ = some (.int .i64 2) := N3.out.b.cell 0
  have b3_1 : w3.cell? ⟨w1.heap.size, 1, none⟩ = some (.int .i64 n2) := N3.out.b.cell 1
  have b3_2 : w3.cell? ⟨w1.heap.size, 2, none⟩ = some (.int .i64 0) := N3.out.b.cell 2
  have b3_3 : w3.cell? ⟨w1.heap.size, 3, none⟩ = some (.slice none 0 0) := N3.out.b.cell 3
  have b3_4 : w3.cell? ⟨w1.heap.size, 4, none⟩ = some (.int .i64 0) := N3.out.b.cell 4
  have b3_5 : w3.cell? ⟨w1.heap.size, 5, none⟩ = some (.slice none 0 0) := N3.out.b.cell 5
  have f3_2 : w3.frozen? ⟨w1.heap.size, 2, none⟩ = false := N3.out.b.free 2
  have M3 := Lib.hid (show Mk W rb r3 (w1.heap.size) W.heap.size 72 #[.int .i64 2, .int .i64 n2, .int .i64 n3, .slice none 0 0, .int .i64 0, .slice none 0 0] #[.int .i64 0, .int .i64 0, .int .i64 0, .slice none 0 0, .int .i64 0, .slice none 0 0] (w3.setCell ⟨w1.heap.size, 2, none⟩ (.int .i64 n3)) from (N3.out.put 2 (.int .i64 n3)))
  have LW3 := Lib.hid (show W1.heap.size ≤ (w3.setCell ⟨w1.heap.size, 2, none⟩ (.int .i64 n3)).heap.size from by simp only [World.size_setCell]; exact Nat.le_trans LW2.out k3.2.size)
  obtain ⟨W3, hW3⟩ : ∃ U, (w3.setCell ⟨w1.heap.size, 2, none⟩ (.int .i64 n3)) = U := ⟨_, rfl⟩
  rw [hW3] at M3 LW3
  clear k3
  go_wp2_with fail
  try rw [hW3]
  clear hW3
  refine (H4.out _ M3.out.rd).mono ?_
  rintro e w4 ⟨A4, c4, rfl, F4, k4⟩
  have N4 := Lib.hid (M3.out.call k4)
  have F4_ := Lib.hid F4
  have LEQ_F4 := Lib.hid (show W1.heap.size ≤ W3.heap.size from LW3.out)
  have b4_0 : w4.cell? ⟨w1.heap.size, 0, none⟩ = some (.int .i64 2) := N4.out.b.cell 0
  have b4_1 : w4.cell? ⟨w1.heap.size, 1, none⟩ = some (.int .i64 n2) := N4.out.b.cell 1
  have b4_2 : w4.cell? ⟨w1.heap.size, 2, none⟩ = some (.int .i64 n3) := N4.out.b.cell 2
  have b4_3 : w4.cell? ⟨w1.heap.size, 3, none⟩ = some (.slice none 0 0) := N4.out.b.cell 3
  have b4_4 : w4.cell? ⟨w1.heap.size, 4, none⟩ = some (.int .i64 0) := N4.out.b.cell 4
  have b4_5 : w4.cell? ⟨w1.heap.size, 5, none⟩ = some (.slice none 0 0) := N4.out.b.cell 5
  have f4_3 : w4.frozen? ⟨w1.heap.size, 3, none⟩ = false := N4.out.b.free 3
  have M4 := Lib.hid (show Mk W rb r4 (w1.heap.size) W.heap.size 72 #[.int .i64 2, .int .i64 n2, .int .i64 n3, .slice A4 n4.length c4, .int .i64 0, .slice none 0 0] #[.int .i64 0, .int .i64 0, .int .i64 0, .slice none 0 0, .int .i64 0, .slice none 0 0] (w4.setCell ⟨w1.heap.size, 3, none⟩ (.slice A4 n4.length c4)) from (N4.out.put 3 (.slice A4 n4.length c4)))
  have F4_p := Lib.hid ((F4_.out.put 3 (.slice A4 n4.length c4) (Nat.lt_of_lt_of_le M1.out.b.lt LEQ_F4.out)))
  have LW4 := Lib.hid (show W1.heap.size ≤ (w4.setCell ⟨w1.heap.size, 3, none⟩ (.slice A4 n4.length c4)).heap.size from by simp only [World.size_setCell]; exact Nat.le_trans LW3.out k4.2.size)
  obtain ⟨W4, hW4⟩ : ∃ U, (w4.setCell ⟨w1.heap.size, 3, none⟩ (.slice A4 n4.length c4)) = U := ⟨_, rfl⟩
  rw [hW4] at M4 LW4 F4_p
  clear F4
  clear k4
  go_wp2_with fail
  try rw [hW4]
  clear hW4
  refine (H5.out _ M4.out.rd).mono ?_
  rintro e w5 ⟨rfl, k5⟩
  have N5 := Lib.hid (M4.out.call k5)
  have F4_pc := Lib.hid (F4_p.out.later k5.2 (fun r e => by cases e; exact Nat.lt_of_lt_of_le M1.out.hrb (Nat.le_trans M1.out.g.size LEQ_F4.out)))
  have b5_0 : w5.cell? ⟨w1.heap.size, 0, none⟩ = some (.int .i64 2) := N5.out.b.cell 0
  have b5_1 : w5.cell? ⟨w1.heap.size, 1, none⟩ = some (.int .i64 n2) := N5.out.b.cell 1
  have b5_2 : w5.cell? ⟨w1.heap.size, 2, none⟩ = some (.int .i64 n3) := N5.out.b.cell 2
  have b5_3 : w5.cell? ⟨w1.heap.size, 3, none⟩ = some (.slice A4 n4.length c4) := N5.out.b.cell 3
  have b5_4 : w5.cell? ⟨w1.heap.size, 4, none⟩ = some (.int .i64 0) := N5.out.b.cell 4
  have b5_5 : w5.cell? ⟨w1.heap.size, 5, none⟩ = some (.slice none 0 0) := N5.out.b.cell 5
  have f5_4 : w5.frozen? ⟨w1.heap.size, 4, none⟩ = false := N5.out.b.free 4
  have M5 := Lib.hid (show Mk W rb r5 (w1.heap.size) W.heap.size 72 #[.int .i64 2, .int .i64 n2, .int .i64 n3, .slice A4 n4.length c4, .int .i64 n5, .slice none 0 0] #[.int .i64 0, .int .i64 0, .int .i64 0, .slice none 0 0, .int .i64 0, .slice none 0 0] (w5.setCell ⟨w1.heap.size, 4, none⟩ (.int .i64 n5)) from (N5.out.put 4 (.int .i64 n5)))
  have F4_pcp := Lib.hid ((F4_pc.out.put 4 (.int .i64 n5) (Nat.lt_of_lt_of_le M1.out.b.lt LEQ_F4.out)))
  have LW5 := Lib.hid (show W1.heap.size ≤ (w5.setCell ⟨w1.heap.size, 4, none⟩ (.int .i64 n5)).heap.size from by simp only [World.size_setCell]; exact Nat.le_trans LW4.out k5.2.size)
  obtain ⟨W5, hW5⟩ : ∃ U, (w5.setCell ⟨w1.heap.size, 4, none⟩ (.int .i64 n5)) = U := ⟨_, rfl⟩
  rw [hW5] at M5 LW5 F4_pcp
  clear k5
  go_wp2_with fail
  try rw [hW5]
  clear hW5
  refine (H6.out _ M5.out.rd).mono ?_
  rintro e w6 ⟨A6, c6, rfl, F6, k6⟩
  have N6 := Lib.hid (M5.out.call k6)
  have F4_pcpc := Lib.hid (F4_pcp.out.later k6.2 (fun r e => by cases e; exact Nat.lt_of_lt_of_le M1.out.hrb (Nat.le_trans M1.out.g.size LEQ_F4.out)))
  have F6_ := Lib.hid F6
  have LEQ_F6 := Lib.hid (show W1.heap.size ≤ W5.heap.size from LW5.out)
  have b6_0 : w6.cell? ⟨w1.heap.size, 0, none⟩ = some (.int .i64 2) := N6.out.b.cell 0
  have b6_1 : w6.cell? ⟨w1.heap.size, 1, none⟩ = some (.int .i64 n2) := N6.out.b.cell 1
  have b6_2 : w6.cell? ⟨w1.heap.size, 2, none⟩ = some (.int .i64 n3) := N6.out.b.cell 2
  have b6_3 : w6.cell? ⟨w1.heap.size, 3, none⟩ = some (.slice A4 n4.length c4) := N6.out.b.cell 3
  have b6_4 : w6.cell? ⟨w1.heap.size, 4, none⟩ = some (.int .i64 n5) := N6.out.b.cell 4
  have b6_5 : w6.cell? ⟨w1.heap.size, 5, none⟩ = some (.slice none 0 0) := N6.out.b.cell 5
  have f6_5 : w6.frozen? ⟨w1.heap.size, 5, none⟩ = false := N6.out.b.free 5
  have M6 := Lib.hid (show Mk W rb r6 (w1.heap.size) W.heap.size 72 #[.int .i64 2, .int .i64 n2, .int .i64 n3, .slice A4 n4.length c4, .int .i64 n5, .slice A6 n6.length c6] #[.int .i64 0, .int .i64 0, .int .i64 0, .slice none 0 0, .int .i64 0, .slice none 0 0] (w6.setCell ⟨w1.heap.size, 5, none⟩ (.slice A6 n6.length c6)) from (N6.out.put 5 (.slice A6 n6.length c6)))
  have F4_pcpcp := Lib.hid ((F4_pcpc.out.put 5 (.slice A6 n6.length c6) (Nat.lt_of_lt_of_le M1.out.b.lt LEQ_F4.out)))
  have F6_p := Lib.hid ((F6_.out.put 5 (.slice A6 n6.length c6) (Nat.lt_of_lt_of_le M1.out.b.lt LEQ_F6.out)))
  have LW6 := Lib.hid (show W1.heap.size ≤ (w6.setCell ⟨w1.heap.size, 5, none⟩ (.slice A6 n6.length c6)).heap.size from by simp only [World.size_setCell]; exact Nat.le_trans LW5.out k6.2.size)
  clear F6
  clear k6
  have HRW := Lib.hid M6.out.row
  have F4_pcpcpz := Lib.hid (F4_pcpcp.out.later (setRow_grown _ W.heap.size #[.int .i64 2, .int .i64 n2, .int .i64 n3, .slice A4 n4.length c4, .int .i64 n5, .slice A6 n6.length c6]) (fun r e => by cases e; exact Nat.lt_of_lt_of_le M1.out.z.lt LEQ_F4.out))
  have F6_pz := Lib.hid (F6_p.out.later (setRow_grown _ W.heap.size #[.int .i64 2, .int .i64 n2, .int .i64 n3, .slice A4 n4.length c4, .int .i64 n5, .slice A6 n6.length c6]) (fun r e => by cases e; exact Nat.lt_of_lt_of_le M1.out.z.lt LEQ_F6.out))
  go_wp2_with (refine store_whole (T := 72) rfl _ _ rfl W.heap.size #[.int .i64 2, .int .i64 n2, .int .i64 n3, .slice A4 n4.length c4, .int .i64 n5, .slice A6 n6.length c6] #[.int .i64 0, .int .i64 0, .int .i64 0, .slice none 0 0, .int .i64 0, .slice none 0 0] rfl rfl M6.out.z size_Tm rfl (by simp [Value.oneCell']) ?_)
  refine bodyPost_ret (results_cell_row Try.results78 _ _ W.heap.size 72 #[.int .i64 2, .int .i64 n2, .int .i64 n3, .slice A4 n4.length c4, .int .i64 n5, .slice A6 n6.length c6] (0, 0) _ rfl HRW.out.2 Try.underlying72 rfl size_Tm) rfl ?_
  exact ⟨_, rfl, ⟨_, _, _, _, rfl, F4_pcpcpz.out.thin (Nat.le_trans M1.out.g.size LEQ_F4.out), F6_pz.out.thin (Nat.le_trans M1.out.g.size LEQ_F6.out)⟩, HRW.out.1⟩
set_option maxRecDepth 100000 in
set_option maxHeartbeats 4000000 in
theorem end_3 {rb : Nat} {r : St} {W : World} (h : Rd W rb r) {r1 : St} (hO : betweenR 1 3 3 r = (3, r1)) :
    Calls Try.prog 78 #[.pointer (some ⟨rb, 0, none⟩)] W fun e w' => ∃ val, e = .returned val ∧ EpTm (endsR 3 r1).1 W.heap.size w' val ∧ RdTo W rb (endsR 3 r1).2 w' := by
  obtain ⟨zo, hzo⟩ : ∃ o, Obj.cells #[.int .i64 0, .int .i64 0, .int .i64 0, .slice none 0 0, .int .i64 0, .slice none 0 0] 72 (0, 0) = o := ⟨_, rfl⟩
  have HH := Lib.hid h
  obtain ⟨⟨n2, r2⟩, q2⟩ : ∃ t, numR r1 = t := ⟨_, rfl⟩
  have H2 := Lib.hid (fun (U : World) (hU : Rd U rb r1) => (show Calls Try.prog 60 #[.pointer (some ⟨rb, 0, none⟩)] U fun e w' => e = .returned (.int .i64 n2) ∧ RdTo U rb r2 w' from by
    have h := number_any hU
    unfold intR at h
    rw [q2] at h
    exact h))
  have HE := Lib.hid (show endsR 3 r1 = (⟨3, n2, 0, [], 0, []⟩, r2) by unfold endsR; rw [if_neg (by decide)]; rw [if_neg (by decide)]; rw [if_pos (by decide)]; rw [q2]; dsimp only; rfl)
  rw [HE.out]
  have HB := Lib.hid (show Calls Try.prog 63 #[.pointer (some ⟨rb, 0, none⟩), .int .u64 1, .int .u64 3, .int .i64 3] (W.alloc zo) fun e w' => e = .returned (.int .i64 3) ∧ RdTo (W.alloc zo) rb r1 w' from by
    have h := between_any 1 3 3 (by decide) (rd_alloc h zo).1
    rw [hO] at h
    exact h)
  have HZ := Lib.hid (show Whole (W.alloc zo) W.heap.size 72 #[.int .i64 0, .int .i64 0, .int .i64 0, .slice none 0 0, .int .i64 0, .slice none 0 0] by unfold Whole; rw [heap_alloc_new, hzo])
  subst hzo
  clear h hO q2
  go_enter Try.func78, Try.ntmps78
  go_wp2_with fail
  refine HB.out.mono ?_
  rintro e w1 ⟨rfl, k1⟩
  obtain ⟨ob, hob⟩ : ∃ o, Obj.cells #[.int .i64 3, .int .i64 0, .int .i64 0, .slice none 0 0, .int .i64 0, .slice none 0 0] 72 (0, 0) = o := ⟨_, rfl⟩
  have M1 := Lib.hid (show Mk W rb r1 w1.heap.size W.heap.size 72 #[.int .i64 3, .int .i64 0, .int .i64 0, .slice none 0 0, .int .i64 0, .slice none 0 0] #[.int .i64 0, .int .i64 0, .int .i64 0, .slice none 0 0, .int .i64 0, .slice none 0 0] (w1.alloc ob) from by
    have z1 : W.heap.size + 1 ≤ w1.heap.size := by have := k1.2.size; rw [World.size_alloc] at this; exact this
    have k2 := (rd_alloc HH.out _).then_ (k1.then_ (rd_alloc k1.1 ob))
    refine ⟨k2.1, k2.2, by unfold Whole; rw [heap_alloc_new, hob], ?_, by omega, Nat.le_refl _, by omega, HH.out.lt⟩
    have q1 := (k1.2.block W.heap.size (by rw [World.size_alloc]; omega) (fun e => by have := Option.some.inj e; have := HH.out.lt; omega)).trans HZ.out
    exact (Lib.alloc_old w1 ob W.heap.size (by omega)).trans q1)
  subst hob
  clear k1
  go_wp2_with fail
  obtain ⟨W1, hW1⟩ : ∃ U, w1.alloc (.cells #[.int .i64 3, .int .i64 0, .int .i64 0, .slice none 0 0, .int .i64 0, .slice none 0 0] 72 (0, 0)) = U := ⟨_, rfl⟩
  rw [hW1] at M1 ⊢
  clear hW1
  refine (H2.out _ M1.out.rd).mono ?_
  rintro e w2 ⟨rfl, k2⟩
  have N2 := Lib.hid (M1.out.call k2)
  have b2_0 : w2.cell? ⟨w1.heap.size, 0, none⟩ = some (.int .i64 3) := N2.out.b.cell 0
  have b2_1 : w2.cell? ⟨w1.heap.size, 1, none⟩ = some (.int .i64 0) := N2.out.b.cell 1
  have b2_2 : w2.cell? ⟨w1.heap.size, 2, none⟩ = some (.int .i64 0) := N2.out.b.cell 2
  have b2_3 : w2.cell? ⟨w1.heap.size, 3, none⟩ = some (.slice none 0 0) := N2.out.b.cell 3
  have b2_4 : w2.cell? ⟨w1.heap.size, 4, none⟩ = some (.int .i64 0) := N2.out.b.cell 4
  have b2_5 : w2.cell? ⟨w1.heap.size, 5, none⟩ = some (.slice none 0 0) := N2.out.b.cell 5
  have f2_1 : w2.frozen? ⟨w1.heap.size, 1, none⟩ = false := N2.out.b.free 1
  have M2 := Lib.hid (show Mk W rb r2 (w1.heap.size) W.heap.size 72 #[.int .i64 3, .int .i64 n2, .int .i64 0, .slice none 0 0, .int .i64 0, .slice none 0 0] #[.int .i64 0, .int .i64 0, .int .i64 0, .slice none 0 0, .int .i64 0, .slice none 0 0] (w2.setCell ⟨w1.heap.size, 1, none⟩ (.int .i64 n2)) from (N2.out.put 1 (.int .i64 n2)))
  have LW2 := Lib.hid (show W1.heap.size ≤ (w2.setCell ⟨w1.heap.size, 1, none⟩ (.int .i64 n2)).heap.size from by simp only [World.size_setCell]; exact Nat.le_trans (Nat.le_refl _) k2.2.size)
  clear k2
  have HRW := Lib.hid M2.out.row
  go_wp2_with (refine store_whole (T := 72) rfl _ _ rfl W.heap.size #[.int .i64 3, .int .i64 n2, .int .i64 0, .slice none 0 0, .int .i64 0, .slice none 0 0] #[.int .i64 0, .int .i64 0, .int .i64 0, .slice none 0 0, .int .i64 0, .slice none 0 0] rfl rfl M2.out.z size_Tm rfl (by simp [Value.oneCell']) ?_)
  refine bodyPost_ret (results_cell_row Try.results78 _ _ W.heap.size 72 #[.int .i64 3, .int .i64 n2, .int .i64 0, .slice none 0 0, .int .i64 0, .slice none 0 0] (0, 0) _ rfl HRW.out.2 Try.underlying72 rfl size_Tm) rfl ?_
  exact ⟨_, rfl, ⟨none, 0, none, 0, rfl, fun U _ => no_ints U, fun U _ => no_ints U⟩, HRW.out.1⟩
end Q
end Go.Proofs.Ytjldddpchiaalaa
