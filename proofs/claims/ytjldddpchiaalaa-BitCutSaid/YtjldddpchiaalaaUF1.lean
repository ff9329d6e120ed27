/- Package bit: a reader: a thing that is made of what is taken. -/
import Derived.Test.YtjldddpchiaalaaUD
namespace Go.Proofs.Ytjldddpchiaalaa
open Go.RowKit
namespace Q

set_option maxRecDepth 100000 in
set_option maxHeartbeats 4000000 in
theorem inst_0 {rb : Nat} {r : St} {W : World} (h : Rd W rb r) {r1 : St} (hO : betweenR 1 16 3 r = (0, r1)) :
    Calls Try.prog 77 #[.pointer (some ⟨rb, 0, none⟩)] W fun e w' => ∃ val, e = .returned val ∧ EpIn (insR 0 r1).1 W.heap.size w' val ∧ RdTo W rb (insR 0 r1).2 w' := by
  obtain ⟨zo, hzo⟩ : ∃ o, Obj.cells #[.int .i64 0, .int .i64 0, .int .i64 0, .int .u64 0, .string ⟨#[]⟩, .slice none 0 0] 76 (0, 0) = o := ⟨_, rfl⟩
  have HH := Lib.hid h
  have HE := Lib.hid (show insR 0 r1 = (⟨0, 0, 0, 0, ⟨#[]⟩, []⟩, r1) by unfold insR; rw [if_neg (by decide)]; rw [if_neg (by decide)]; rw [if_neg (by decide)]; rw [if_neg (by decide)]; rw [if_neg (by decide)]; rw [if_neg (by decide)]; rfl)
  rw [HE.out]
  have HB := Lib.hid (show Calls Try.prog 63 #[.pointer (some ⟨rb, 0, none⟩), .int .u64 1, .int .u64 16, .int .i64 3] (W.alloc zo) fun e w' => e = .returned (.int .i64 0) ∧ RdTo (W.alloc zo) rb r1 w' from by
    have h := between_any 1 16 3 (by decide) (rd_alloc h zo).1
    rw [hO] at h
    exact h)
  have HZ := Lib.hid (show Whole (W.alloc zo) W.heap.size 76 #[.int .i64 0, .int .i64 0, .int .i64 0, .int .u64 0, .string ⟨#[]⟩, .slice none 0 0] by unfold Whole; rw [heap_alloc_new, hzo])
  subst hzo
  clear h hO
  go_enter Try.func77, Try.ntmps77
  go_wp2_with fail
  refine HB.out.mono ?_
  rintro e w1 ⟨rfl, k1⟩
  obtain ⟨ob, hob⟩ : ∃ o, Obj.cells #[.int .i64 0, .int .i64 0, .int .i64 0, .int .u64 0, .string ⟨#[]⟩, .slice none 0 0] 76 (0, 0) = o := ⟨_, rfl⟩
  have M1 := Lib.hid (show Mk W rb r1 w1.heap.size W.heap.size 76 #[.int .i64 0, .int .i64 0, .int .i64 0, .int .u64 0, .string ⟨#[]⟩, .slice none 0 0] #[.int .i64 0, .int .i64 0, .int .i64 0, .int .u64 0, .string ⟨#[]⟩, .slice none 0 0] (w1.alloc ob) from by
    have z1 : W.heap.size + 1 ≤ w1.heap.size := by have := k1.2.size; rw [World.size_alloc] at this; exact this
    have k2 := (rd_alloc HH.out _).then_ (k1.then_ (rd_alloc k1.1 ob))
    refine ⟨k2.1, k2.2, by unfold Whole; rw [heap_alloc_new, hob], ?_, by omega, Nat.le_refl _, by omega, HH.out.lt⟩
    have q1 := (k1.2.block W.heap.size (by rw [World.size_alloc]; omega) (fun e => by have := Option.some.inj e; have := HH.out.lt; omega)).trans HZ.out
    exact (Lib.alloc_old w1 ob W.heap.size (by omega)).trans q1)
  subst hob
  clear k1
  have HRW := Lib.hid M1.out.row
  go_wp2_with (refine store_whole (T := 76) rfl _ _ rfl W.heap.size #[.int .i64 0, .int .i64 0, .int .i64 0, .int .u64 0, .string ⟨#[]⟩, .slice none 0 0] #[.int .i64 0, .int .i64 0, .int .i64 0, .int .u64 0, .string ⟨#[]⟩, .slice none 0 0] rfl rfl M1.out.z size_In rfl (by simp [Value.oneCell']) ?_)
  refine bodyPost_ret (results_cell_row Try.results77 _ _ W.heap.size 76 #[.int .i64 0, .int .i64 0, .int .i64 0, .int .u64 0, .string ⟨#[]⟩, .slice none 0 0] (0, 0) _ rfl HRW.out.2 Try.underlying76 rfl size_In) rfl ?_
  exact ⟨_, rfl, ⟨none, 0, rfl, fun U _ => no_ints U⟩, HRW.out.1⟩
set_option maxRecDepth 100000 in
set_option maxHeartbeats 4000000 in
theorem inst_1 {rb : Nat} {r : St} {W : World} (h : Rd W rb r) {r1 : St} (hO : betweenR 1 16 3 r = (1, r1)) :
    Calls Try.prog 77 #[.pointer (some ⟨rb, 0, none⟩)] W fun e w' => ∃ val, e = .returned val ∧ EpIn (insR 1 r1).1 W.heap.size w' val ∧ RdTo W rb (insR 1 r1).2 w' := by
  obtain ⟨zo, hzo⟩ : ∃ o, Obj.cells #[.int .i64 0, .int .i64 0, .int .i64 0, .int .u64 0, .string ⟨#[]⟩, .slice none 0 0] 76 (0, 0) = o := ⟨_, rfl⟩
  have HH := Lib.hid h
  obtain ⟨⟨n2, r2⟩, q2⟩ : ∃ t, wideR r1 = t := ⟨_, rfl⟩
  have H2 := Lib.hid (fun (U : World) (hU : Rd U rb r1) => (show Calls Try.prog 64 #[.pointer (some ⟨rb, 0, none⟩)] U fun e w' => e = .returned (.int .u64 n2) ∧ RdTo U rb r2 w' from by
    have h := wide_any hU
    rw [q2] at h
    exact h))
  have HE := Lib.hid (show insR 1 r1 = (⟨1, 0, 0, n2, ⟨#[]⟩, []⟩, r2) by unfold insR; rw [if_pos (by decide)]; rw [q2]; dsimp only; rfl)
  rw [HE.out]
  have HB := Lib.hid (show Calls Try.prog 63 #[.pointer (some ⟨rb, 0, none⟩), .int .u64 1, .int .u64 16, .int .i64 3] (W.alloc zo) fun e w' => e = .returned (.int .i64 1) ∧ RdTo (W.alloc zo) rb r1 w' from by
    have h := between_any 1 16 3 (by decide) (rd_alloc h zo).1
    rw [hO] at h
    exact h)
  have HZ := Lib.hid (show Whole (W.alloc zo) W.heap.size 76 #[.int .i64 0, .int .i64 0, .int .i64 0, .int .u64 0, .string ⟨#[]⟩, .slice none 0 0] by unfold Whole; rw [heap_alloc_new, hzo])
  subst hzo
  clear h hO q2
  go_enter Try.func77, Try.ntmps77
  go_wp2_with fail
  refine HB.out.mono ?_
  rintro e w1 ⟨rfl, k1⟩
  obtain ⟨ob, hob⟩ : ∃ o, Obj.cells #[.int .i64 1, .int .i64 0, .int .i64 0, .int .u64 0, .string ⟨#[]⟩, .slice none 0 0] 76 (0, 0) = o := ⟨_, rfl⟩
  have M1 := Lib.hid (show Mk W rb r1 w1.heap.size W.heap.size 76 #[.int .i64 1, .int .i64 0, .int .i64 0, .int .u64 0, .string ⟨#[]⟩, .slice none 0 0] #[.int .i64 0, .int .i64 0, .int .i64 0, .int .u64 0, .string ⟨#[]⟩, .slice none 0 0] (w1.alloc ob) from by
    have z1 : W.heap.size + 1 ≤ w1.heap.size := by have := k1.2.size; rw [World.size_alloc] at this; exact this
    have k2 := (rd_alloc HH.out _).then_ (k1.then_ (rd_alloc k1.1 ob))
    refine ⟨k2.1, k2.2, by unfold Whole; rw [heap_alloc_new, hob], ?_, by omega, Nat.le_refl _, by omega, HH.out.lt⟩
    have q1 := (k1.2.block W.heap.size (by rw [World.size_alloc]; omega) (fun e => by have := Option.some.inj e; have := HH.out.lt; omega)).trans HZ.out
    exact (Lib.alloc_old w1 ob W.heap.size (by omega)).trans q1)
  subst hob
  clear k1
  go_wp2_with fail
  obtain ⟨W1, hW1⟩ : ∃ U, w1.alloc (.cells #[.int .i64 1, .int .i64 0, .int .i64 0, .int .u64 0, .string ⟨#[]⟩, .slice none 0 0] 76 (0, 0)) = U := ⟨_, rfl⟩
  rw [hW1] at M1 ⊢
  clear hW1
  refine (H2.out _ M1.out.rd).mono ?_
  rintro e w2 ⟨rfl, k2⟩
  have N2 := Lib.hid (M1.out.call k2)
  have b2_0 : w2.cell? ⟨w1.heap.size, 0, none⟩ = some (.int .i64 1) := N2.out.b.cell 0
  have b2_1 : w2.cell? ⟨w1.heap.size, 1, none⟩ = some (.int .i64 0) := N2.out.b.cell 1
  have b2_2 : w2.cell? ⟨w1.heap.size, 2, none⟩ = some (.int .i64 0) := N2.out.b.cell 2
  have b2_3 : w2.cell? ⟨w1.heap.size, 3, none⟩ = some (.int .u64 0) := N2.out.b.cell 3
  have b2_4 : w2.cell? ⟨w1.heap.size, 4, none⟩ = some (.string ⟨#[]⟩) := N2.out.b.cell 4
  have b2_5 : w2.cell? ⟨w1.heap.size, 5, none⟩ = some (.slice none 0 0) := N2.out.b.cell 5
  have f2_3 : w2.frozen? ⟨w1.heap.size, 3, none⟩ = false := N2.out.b.free 3
  have M2 := Lib.hid (show Mk W rb r2 (w1.heap.size) W.heap.size 76 #[.int .i64 1, .int .i64 0, .int .i64 0, .int .u64 n2, .string ⟨#[]⟩, .slice none 0 0] #[.int .i64 0, .int .i64 0, .int .i64 0, .int .u64 0, .string ⟨#[]⟩, .slice none 0 0] (w2.setCell ⟨w1.heap.size, 3, none⟩ (.int .u64 n2)) from (N2.out.put 3 (.int .u64 n2)))
  have LW2 := Lib.hid (show W1.heap.size ≤ (w2.setCell ⟨w1.heap.size, 3, none⟩ (.int .u64 n2)).heap.size from by simp only [World.size_setCell]; exact Nat.le_trans (Nat.le_refl _) k2.2.size)
  clear k2
  have HRW := Lib.hid M2.out.row
  go_wp2_with (refine store_whole (T := 76) rfl _ _ rfl W.heap.size #[.int .i64 1, .int .i64 0, .int .i64 0, .int .u64 n2, .string ⟨#[]⟩, .slice none 0 0] #[.int .i64 0, .int .i64 0, .int .i64 0, .int .u64 0, .string ⟨#[]⟩, .slice none 0 0] rfl rfl M2.out.z size_In rfl (by simp [Value.oneCell']) ?_)
  refine bodyPost_ret (results_cell_row Try.results77 _ _ W.heap.size 76 #[.int .i64 1, .int .i64 0, .int .i64 0, .int .u64 n2, .string ⟨#[]⟩, .slice none 0 0] (0, 0) _ rfl HRW.out.2 Try.underlying76 rfl size_In) rfl ?_
  exact ⟨_, rfl, ⟨none, 0, rfl, fun U _ => no_ints U⟩, HRW.out.1⟩
set_option maxRecDepth 100000 in
set_option maxHeartbeats 4000000 in
theorem inst_2 {rb : Nat} {r : St} {W : World} (h : Rd W rb r) {r1 : St} (hO : betweenR 1 16 3 r = (2, r1)) :
    Calls Try.prog 77 #[.pointer (some ⟨rb, 0, none⟩)] W fun e w' => ∃ val, e = .returned val ∧ EpIn (insR 2 r1).1 W.heap.size w' val ∧ RdTo W rb (insR 2 r1).2 w' := by
  obtain ⟨zo, hzo⟩ : ∃ o, Obj.cells #[.int .i64 0, .int .i64 0, .int .i64 0, .int .u64 0, .string ⟨#[]⟩, .slice none 0 0] 76 (0, 0) = o := ⟨_, rfl⟩
  have HH := Lib.hid h
  obtain ⟨⟨n2, r2⟩, q2⟩ : ∃ t, numR r1 = t := ⟨_, rfl⟩
  have H2 := Lib.hid (fun (U : World) (hU : Rd U rb r1) => (show Calls Try.prog 60 #[.pointer (some ⟨rb, 0, none⟩)] U fun e w' => e = .returned (.int .i64 n2) ∧ RdTo U rb r2 w' from by
    have h := number_any hU
    unfold intR at h
    rw [q2] at h
    exact h))
  obtain ⟨⟨n3, r3⟩, q3⟩ : ∃ t, numR r2 = t := ⟨_, rfl⟩
  have H3 := Lib.hid (fun (U : World) (hU : Rd U rb r2) => (show Calls Try.prog 60 #[.pointer (some ⟨rb, 0, none⟩)] U fun e w' => e = .returned (.int .i64 n3) ∧ RdTo U rb r3 w' from by
    have h := number_any hU
    unfold intR at h
    rw [q3] at h
    exact h))
  have HE := Lib.hid (show insR 2 r1 = (⟨2, n2, n3, 0, ⟨#[]⟩, []⟩, r3) by unfold insR; rw [if_neg (by decide)]; rw [if_pos (by decide)]; rw [q2]; dsimp only; rw [q3]; dsimp only; rfl)
  rw [HE.out]
  have HB := Lib.hid (show Calls Try.prog 63 #[.pointer (some ⟨rb, 0, none⟩), .int .u64 1, .int .u64 16, .int .i64 3] (W.alloc zo) fun e w' => e = .returned (.int .i64 2) ∧ RdTo (W.alloc zo) rb r1 w' from by
    have h := between_any 1 16 3 (by decide) (rd_alloc h zo).1
    rw [hO] at h
    exact h)
  have HZ := Lib.hid (show Whole (W.alloc zo) W.heap.size 76 #[.int .i64 0, .int .i64 0, .int .i64 0, .int .u64 0, .string ⟨#[]⟩, .slice none 0 0] by unfold Whole; rw [heap_alloc_new, hzo])
  subst hzo
  clear h hO q2 q3
  go_enter Try.func77, Try.ntmps77
  go_wp2_with fail
  refine HB.out.mono ?_
  rintro e w1 ⟨rfl, k1⟩
  obtain ⟨ob, hob⟩ : ∃ o, Obj.cells #[.int .i64 2, .int .i64 0, .int .i64 0, .int .u64 0, .string ⟨#[]⟩, .slice none 0 0] 76 (0, 0) = o := ⟨_, rfl⟩
  have M1 := Lib.hid (show Mk W rb r1 w1.heap.size W.heap.size 76 #[.int .i64 2, .int .i64 0, .int .i64 0, .int .u64 0, .string ⟨#[]⟩, .slice none 0 0] #[.int .i64 0, .int .i64 0, .int .i64 0, .int .u64 0, .string ⟨#[]⟩, .slice none 0 0] (w1.alloc ob) from by
    have z1 : W.heap.size + 1 ≤ w1.heap.size := by have := k1.2.size; rw [World.size_alloc] at this; exact this
    have k2 := (rd_alloc HH.out _).then_ (k1.then_ (rd_alloc k1.1 ob))
    refine ⟨k2.1, k2.2, by unfold Whole; rw [heap_alloc_new, hob], ?_, by omega, Nat.le_refl _, by omega, HH.out.lt⟩
    have q1 := (k1.2.block W.heap.size (by rw [World.size_alloc]; omega) (fun e => by have := Option.some.inj e; have := HH.out.lt; omega)).trans HZ.out
    exact (Lib.alloc_old w1 ob W.heap.size (by omega)).trans q1)
  subst hob
  clear k1
  go_wp2_with fail
  obtain ⟨W1, hW1⟩ : ∃ U, w1.alloc (.cells #[.int .i64 2, .int .i64 0, .int .i64 0, .int .u64 0, .string ⟨#[]⟩, .slice none 0 0] 76 (0, 0)) = U := ⟨_, rfl⟩
  rw [hW1] at M1 ⊢
  clear hW1
  refine (H2.out _ M1.out.rd).mono ?_
  rintro e w2 ⟨rfl, k2⟩
  have N2 := Lib.hid (M1.out.call k2)
  have b2_0 : w2.cell? ⟨w1.heap.size, 0, none⟩ = some (.int .i64 2) := N2.out.b.cell 0
  have b2_1 : w2.cell? ⟨w1.heap.size, 1, none⟩ = some (.int .i64 0) := N2.out.b.cell 1
  have b2_2 : w2.cell? ⟨w1.heap.size, 2, none⟩ = some (.int .i64 0) := N2.out.b.cell 2
  have b2_3 : w2.cell? ⟨w1.heap.size, 3, none⟩ = some (.int .u64 0) := N2.out.b.cell 3
  have b2_4 : w2.cell? ⟨w1.heap.size, 4, none⟩ = some (.string ⟨#[]⟩) := N2.out.b.cell 4
  have b2_5 : w2.cell? ⟨w1.heap.size, 5, none⟩ = some (.slice none 0 0) := N2.out.b.cell 5
  have f2_1 : w2.frozen? ⟨w1.heap.size, 1, none⟩ = false := N2.out.b.free 1
  have M2 := Lib.hid (show Mk W rb r2 (w1.heap.size) W.heap.size 76 #[.int .i64 2, .int .i64 n2, .int .i64 0, .int .u64 0, .string ⟨#[]⟩, .slice none 0 0] #[.int .i64 0, .int .i64 0, .int .i64 0, .int .u64 0, .string ⟨#[]⟩, .slice none 0 0] (w2.setCell ⟨w1.heap.size, 1, none⟩ (.int .i64 n2)) from (N2.out.put 1 (.int .i64 n2)))
  have LW2 := Lib.hid (show W1.heap.size ≤ (w2.setCell ⟨w1.heap.size, 1, none⟩ (.int .i64 n2)).heap.size from by simp only [World.size_setCell]; exact Nat.le_trans (Nat.le_refl _) k2.2.size)
  obtain ⟨W2, hW2⟩ : ∃ U, (w2.setCell ⟨w1.heap.size, 1, none⟩ (.int .i64 n2)) = U := ⟨_, rfl⟩
  rw [hW2] at M2 LW2
  clear k2
  go_wp2_with fail
  try rw [hW2]
  clear hW2
  refine (H3.out _ M2.out.rd).mono ?_
  rintro e w3 ⟨rfl, k3⟩
  have N3 := Lib.hid (M2.out.call k3)
  have b3_0 : w3.cell? ⟨w1.heap.size, 0, none⟩ = some (.int .i64 2) := N3.out.b.cell 0
  have b3_1 : w3.cell? ⟨w1.heap.size, 1, none⟩ = some (.int .i64 n2) := N3.out.b.cell 1
  have b3_2 : w3.cell? ⟨w1.heap.size, 2, none⟩ = some (.int .i64 0) := N3.out.b.cell 2
  have b3_3 : w3.cell? ⟨w1.heap.size, 3, none⟩ = some (.int .u64 0) := N3.out.b.cell 3
  have b3_4 : w3.cell? ⟨w1.heap.size, 4, none⟩ = some (.string ⟨#[]⟩) := N3.out.b.cell 4
  have b3_5 : w3.cell? ⟨w1.heap.size, 5, none⟩ = some (.slice none 0 0) := N3.out.b.cell 5
  have f3_2 : w3.frozen? ⟨w1.heap.size, 2, none⟩ = false := N3.out.b.free 2
  have M3 := Lib.hid (show Mk W rb r3 (w1.heap.size) W.heap.size 76 #[.int .i64 2, .int .i64 n2, .int .i64 n3, .int .u64 0, .string ⟨#[]⟩, .slice none 0 0] #[.int .i64 0, .int .i64 0, .int .i64 0, .int .u64 0, .string ⟨#[]⟩, .slice none 0 0] (w3.setCell ⟨w1.heap.size, 2, none⟩ (.int .i64 n3)) from (N3.out.put 2 (.int .i64 n3)))
  have LW3 := Lib.hid (show W1.heap.size ≤ (w3.setCell ⟨w1.heap.size, 2, none⟩ (.int .i64 n3)).heap.size from by simp only [World.size_setCell]; exact Nat.le_trans LW2.out k3.2.size)
  clear k3
  have HRW := Lib.hid M3.out.row
  go_wp2_with (refine store_whole (T := 76) rfl _ _ rfl W.heap.size #[.int .i64 2, .int .i64 n2, .int .i64 n3, .int .u64 0, .string ⟨#[]⟩, .slice none 0 0] #[.int .i64 0, .int .i64 0, .int .i64 0, .int .u64 0, .string ⟨#[]⟩, .slice none 0 0] rfl rfl M3.out.z size_In rfl (by simp [Value.oneCell']) ?_)
  refine bodyPost_ret (results_cell_row Try.results77 _ _ W.heap.size 76 #[.int .i64 2, .int .i64 n2, .int .i64 n3, .int .u64 0, .string ⟨#[]⟩, .slice none 0 0] (0, 0) _ rfl HRW.out.2 Try.underlying76 rfl size_In) rfl ?_
  exact ⟨_, rfl, ⟨none, 0, rfl, fun U _ => no_ints U⟩, HRW.out.1⟩
set_option maxRecDepth 100000 in
set_option maxHeartbeats 4000000 in
theorem inst_3 {rb : Nat} {r : St} {W : World} (h : Rd W rb r) {r1 : St} (hO : betweenR 1 16 3 r = (3, r1)) :
    Calls Try.prog 77 #[.pointer (some ⟨rb, 0, none⟩)] W fun e w' => ∃ val, e = .returned val ∧ EpIn (insR 3 r1).1 W.heap.size w' val ∧ RdTo W rb (insR 3 r1).2 w' := by
  obtain ⟨zo, hzo⟩ : ∃ o, Obj.cells #[.int .i64 0, .int .i64 0, .int .i64 0, .int .u64 0, .string ⟨#[]⟩, .slice none 0 0] 76 (0, 0) = o := ⟨_, rfl⟩
  have HH := Lib.hid h
  obtain ⟨⟨n2, r2⟩, q2⟩ : ∃ t, numR r1 = t := ⟨_, rfl⟩
  have H2 := Lib.hid (fun (U : World) (hU : Rd U rb r1) => (show Calls Try.prog 60 #[.pointer (some ⟨rb, 0, none⟩)] U fun e w' => e = .returned (.int .i64 n2) ∧ RdTo U rb r2 w' from by
    have h := number_any hU
    unfold intR at h
    rw [q2] at h
    exact h))
  obtain ⟨⟨n3, r3⟩, q3⟩ : ∃ t, numR r2 = t := ⟨_, rfl⟩
  have H3 := Lib.hid (fun (U : World) (hU : Rd U rb r2) => (show Calls Try.prog 60 #[.pointer (some ⟨rb, 0, none⟩)] U fun e w' => e = .returned (.int .i64 n3) ∧ RdTo U rb r3 w' from by
    have h := number_any hU
    unfold intR at h
    rw [q3] at h
    exact h))
  have HE := Lib.hid (show insR 3 r1 = (⟨3, n2, n3, 0, ⟨#[]⟩, []⟩, r3) by unfold insR; rw [if_neg (by decide)]; rw [if_pos (by decide)]; rw [q2]; dsimp only; rw [q3]; dsimp only; rfl)
  rw [HE.out]
  have HB := Lib.hid (show Calls Try.prog 63 #[.pointer (some ⟨rb, 0, none⟩), .int .u64 1, .int .u64 16, .int .i64 3] (W.alloc zo) fun e w' => e = .returned (.int .i64 3) ∧ RdTo (W.alloc zo) rb r1 w' from by
    have h := between_any 1 16 3 (by decide) (rd_alloc h zo).1
    rw [hO] at h
    exact h)
  have HZ := Lib.hid (show Whole (W.alloc zo) W.heap.size 76 #[.int .i64 0, .int .i64 0, .int .i64 0, .int .u64 0, .string ⟨#[]⟩, .slice none 0 0] by unfold Whole; rw [heap_alloc_new, hzo])
  subst hzo
  clear h hO q2 q3
  go_enter Try.func77, Try.ntmps77
  go_wp2_with fail
  refine HB.out.mono ?_
  rintro e w1 ⟨rfl, k1⟩
  obtain ⟨ob, hob⟩ : ∃ o, Obj.cells #[.int .i64 3, .int .i64 0, .int .i64 0, .int .u64 0, .string ⟨#[]⟩, .slice none 0 0] 76 (0, 0) = o := ⟨_, rfl⟩
  have M1 := Lib.hid (show Mk W rb r1 w1.heap.size W.heap.size 76 #[.int .i64 3, .int .i64 0, .int .i64 0, .int .u64 0, .string ⟨#[]⟩, .slice none 0 0] #[.int .i64 0, .int .i64 0, .int .i64 0, .int .u64 0, .string ⟨#[]⟩, .slice none 0 0] (w1.alloc ob) from by
    have z1 : W.heap.size + 1 ≤ w1.heap.size := by have := k1.2.size; rw [World.size_alloc] at this; exact this
    have k2 := (rd_alloc HH.out _).then_ (k1.then_ (rd_alloc k1.1 ob))
    refine ⟨k2.1, k2.2, by unfold Whole; rw [heap_alloc_new, hob], ?_, by omega, Nat.le_refl _, by omega, HH.out.lt⟩
    have q1 := (k1.2.block W.heap.size (by rw [World.size_alloc]; omega) (fun e => by have := Option.some.inj e; have := HH.out.lt; omega)).trans HZ.out
    exact (Lib.alloc_old w1 ob W.heap.size (by omega)).trans q1)
  subst hob
  clear k1
  go_wp2_with fail
  obtain ⟨W1, hW1⟩ : ∃ U, w1.alloc (.cells #[.int .i64 3, .int .i64 0, .int .i64 0, .int .u64 0, .string ⟨#[]⟩, .slice none 0 0] 76 (0, 0)) = U := ⟨_, rfl⟩
  rw [hW1] at M1 ⊢
  clear hW1
  refine (H2.out _ M1.out.rd).mono ?_
  rintro e w2 ⟨rfl, k2⟩
  have N2 := Lib.hid (M1.out.call k2)
  have b2_0 : w2.cell? ⟨w1.heap.size, 0, none⟩ = some (.int .i64 3) := N2.out.b.cell 0
  have b2_1 : w2.cell? ⟨w1.heap.size, 1, none⟩ = some (.int .i64 0) := N2.out.b.cell 1
  have b2_2 : w2.cell? ⟨w1.heap.size, 2, none⟩ = some (.int .i64 0) := N2.out.b.cell 2
  have b2_3 : w2.cell? ⟨w1.heap.size, 3, none⟩ = some (.int .u64 0) := N2.out.b.cell 3
  have b2_4 : w2.cell? ⟨w1.heap.size, 4, none⟩ = some (.string ⟨#[]⟩) := N2.out.b.cell 4
  have b2_5 : w2.cell? ⟨w1.heap.size, 5, none⟩ = some (.slice none 0 0) := N2.out.b.cell 5
  have f2_1 : w2.frozen? ⟨w1.heap.size, 1, none⟩ = false := N2.out.b.free 1
  have M2 := Lib.hid (show Mk W rb r2 (w1.heap.size) W.heap.size 76 #[.int .i64 3, .int .i64 n2, .int .i64 0, .int .u64 0, .string ⟨#[]⟩, .slice none 0 0] #[.int .i64 0, .int .i64 0, .int .i64 0, .int .u64 0, .string ⟨#[]⟩, .slice none 0 0] (w2.setCell ⟨w1.heap.size, 1, none⟩ (.int .i64 n2)) from (N2.out.put 1 (.int .i64 n2)))
  have LW2 := Lib.hid (show W1.heap.size ≤ (w2.setCell ⟨w1.heap.size, 1, none⟩ (.int .i64 n2)).heap.size from by simp only [World.size_setCell]; exact Nat.le_trans (Nat.le_refl _) k2.2.size)
  obtain ⟨W2, hW2⟩ : ∃ U, (w2.setCell ⟨w1.heap.size, 1, none⟩ (.int .i64 n2)) = U := ⟨_, rfl⟩
  rw [hW2] at M2 LW2
  clear k2
  go_wp2_with fail
  try rw [hW2]
  clear hW2
  refine (H3.out _ M2.out.rd).mono ?_
  rintro e w3 ⟨rfl, k3⟩
  have N3 := Lib.hid (M2.out.call k3)
  have b3_0 : w3.cell? ⟨w1.heap.size, 0, none⟩ = some (.int .i64 3) := N3.out.b.cell 0
  have b3_1 : w3.cell? ⟨w1.heap.size, 1, none⟩ = some (.int .i64 n2) := N3.out.b.cell 1
  have b3_2 : w3.cell? ⟨w1.heap.size, 2, none⟩ = some (.int .i64 0) := N3.out.b.cell 2
  have b3_3 : w3.cell? ⟨w1.heap.size, 3, none⟩ = some (.int .u64 0) := N3.out.b.cell 3
  have b3_4 : w3.cell? ⟨w1.heap.size, 4, none⟩ = some (.string ⟨#[]⟩) := N3.out.b.cell 4
  have b3_5 : w3.cell? ⟨w1.heap.size, 5, none⟩ = some (.slice none 0 0) := N3.out.b.cell 5
  have f3_2 : w3.frozen? ⟨w1.heap.size, 2, none⟩ = false := N3.out.b.free 2
  have M3 := Lib.hid (show Mk W rb r3 (w1.heap.size) W.heap.size 76 #[.int .i64 3, .int .i64 n2, .int .i64 n3, .int .u64 0, .string ⟨#[]⟩, .slice none 0 0] #[.int .i64 0, .int .i64 0, .int .i64 0, .int .u64 0, .string ⟨#[]⟩, .slice none 0 0] (w3.setCell ⟨w1.heap.size, 2, none⟩ (.int .i64 n3)) from (N3.out.put 2 (.int .i64 n3)))
  have LW3 := Lib.hid (show W1.heap.size ≤ (w3.setCell ⟨w1.heap.size, 2, none⟩ (.int .i64 n3)).heap.size from by simp only [World.size_setCell]; exact Nat.le_trans LW2.out k3.2.size)
  clear k3
  have HRW := Lib.hid M3.out.row
  go_wp2_with (refine store_whole (T := 76) rfl _ _ rfl W.heap.size #[.int .i64 3, .int .i64 n2, .int .i64 n3, .int .u64 0, .string ⟨#[]⟩, .slice none 0 0] #[.int .i64 0, .int .i64 0, .int .i64 0, .int .u64 0, .string ⟨#[]⟩, .slice none 0 0] rfl rfl M3.out.z size_In rfl (by simp [Value.oneCell']) ?_)
  refine bodyPost_ret (results_cell_row Try.results77 _ _ W.heap.size 76 #[.int .i64 3, .int .i64 n2, .int .i64 n3, .int .u64 0, .string ⟨#[]⟩, .slice none 0 0] (0, 0) _ rfl HRW.out.2 Try.underlying76 rfl size_In) rfl ?_
  exact ⟨_, rfl, ⟨none, 0, rfl, fun U _ => no_ints U⟩, HRW.out.1⟩
set_option maxRecDepth 100000 in
set_option maxHeartbeats 4000000 in
theorem inst_4 {rb : Nat} {r : St} {W : World} (h : Rd W rb r) {r1 : St} (hO : betweenR 1 16 3 r = (4, r1)) :
    Calls Try.prog 77 #[.pointer (some ⟨rb, 0, none⟩)] W fun e w' => ∃ val, e = .returned val ∧ EpIn (insR 4 r1).1 W.heap.size w' val ∧ RdTo W rb (insR 4 r1).2 w' := by
  obtain ⟨zo, hzo⟩ : ∃ o, Obj.cells #[.int .i64 0, .int .i64 0, .int .i64 0, .int .u64 0, .string ⟨#[]⟩, .slice none 0 0] 76 (0, 0) = o := ⟨_, rfl⟩
  have HH := Lib.hid h
  obtain ⟨⟨n2, r2⟩, q2⟩ : ∃ t, numR r1 = t := ⟨_, rfl⟩
  have H2 := Lib.hid (fun (U : World) (hU : Rd U rb r1) => (show Calls Try.prog 60 #[.pointer (some ⟨rb, 0, none⟩)] U fun e w' => e = .returned (.int .i64 n2) ∧ RdTo U rb r2 w' from by
    have h := number_any hU
    unfold intR at h
    rw [q2] at h
    exact h))
  obtain ⟨⟨n3, r3⟩, q3⟩ : ∃ t, numR r2 = t := ⟨_, rfl⟩
  have H3 := Lib.hid (fun (U : World) (hU : Rd U rb r2) => (show Calls Try.prog 60 #[.pointer (some ⟨rb, 0, none⟩)] U fun e w' => e = .returned (.int .i64 n3) ∧ RdTo U rb r3 w' from by
    have h := number_any hU
    unfold intR at h
    rw [q3] at h
    exact h))
  have HE := Lib.hid (show insR 4 r1 = (⟨4, n2, n3, 0, ⟨#[]⟩, []⟩, r3) by unfold insR; rw [if_neg (by decide)]; rw [if_pos (by decide)]; rw [q2]; dsimp only; rw [q3]; dsimp only; rfl)
  rw [HE.out]
  have HB := Lib.hid (show Calls Try.prog 63 #[.pointer (some ⟨rb, 0, none⟩), .int .u64 1, .int .u64 16, .int .i64 3] (W.alloc zo) fun e w' => e = .returned (.int .i64 4) ∧ RdTo (W.alloc zo) rb r1 w' from by
    have h := between_any 1 16 3 (by decide) (rd_alloc h zo).1
    rw [hO] at h
    exact h)
  have HZ := Lib.hid (show Whole (W.alloc zo) W.heap.size 76 #[.int .i64 0, .int .i64 0, .int .i64 0, .int .u64 0, .string ⟨#[]⟩, .slice none 0 0] by unfold Whole; rw [heap_alloc_new, hzo])
  subst hzo
  clear h hO q2 q3
  go_enter Try.func77, Try.ntmps77
  go_wp2_with fail
  refine HB.out.mono ?_
  rintro e w1 ⟨rfl, k1⟩
  obtain ⟨ob, hob⟩ : ∃ o, Obj.cells #[.int .i64 4, .int .i64 0, .int .i64 0, .int .u64 0, .string ⟨#[]⟩, .slice none 0 0] 76 (0, 0) = o := ⟨_, rfl⟩
  have M1 := Lib.hid (show Mk W rb r1 w1.heap.size W.heap.size 76 #[.int .i64 4, .int .i64 0, .int .i64 0, .int .u64 0, .string ⟨#[]⟩, .slice none 0 0] #[.int .i64 0, .int .i64 0, .int .i64 0, .int .u64 0, .string ⟨#[]⟩, .slice none 0 0] (w1.alloc ob) from by
    have z1 : W.heap.size + 1 ≤ w1.heap.size := by have := k1.2.size; rw [World.size_alloc] at this; exact this
    have k2 := (rd_alloc HH.out _).then_ (k1.then_ (rd_alloc k1.1 ob))
    refine ⟨k2.1, k2.2, by unfold Whole; rw [heap_alloc_new, hob], ?_, by omega, Nat.le_refl _, by omega, HH.out.lt⟩
    have q1 := (k1.2.block W.heap.size (by rw [World.size_alloc]; omega) (fun e => by have := Option.some.inj e; have := HH.out.lt; omega)).trans HZ.out
    exact (Lib.alloc_old w1 ob W.heap.size (by omega)).trans q1)
  subst hob
  clear k1
  go_wp2_with fail
  obtain ⟨W1, hW1⟩ : ∃ U, w1.alloc (.cells #[.int .i64 4, .int .i64 0, .int .i64 0, .int .u64 0, .string ⟨#[]⟩, .slice none 0 0] 76 (0, 0)) = U := ⟨_, rfl⟩
  rw [hW1] at M1 ⊢
  clear hW1
  refine (H2.out _ M1.out.rd).mono ?_
  rintro e w2 ⟨rfl, k2⟩
  have N2 := Lib.hid (M1.out.call k2)
  have b2_0 : w2.cell? ⟨w1.heap.size, 0, none⟩ = some (.int .i64 4) := N2.out.b.cell 0
  have b2_1 : w2.cell? ⟨w1.heap.size, 1, none⟩ = some (.int .i64 0) := N2.out.b.cell 1
  have b2_2 : w2.cell? ⟨w1.heap.size, 2, none⟩ = some (.int .i64 0) := N2.out.b.cell 2
  have b2_3 : w2.cell? ⟨w1.heap.size, 3, none⟩ = some (.int .u64 0) := N2.out.b.cell 3
  have b2_4 : w2.cell? ⟨w1.heap.size, 4, none⟩ = some (.string ⟨#[]⟩) := N2.out.b.cell 4
  have b2_5 : w2.cell? ⟨w1.heap.size, 5, none⟩ = some (.slice none 0 0) := N2.out.b.cell 5
  have f2_1 : w2.frozen? ⟨w1.heap.size, 1, none⟩ = false := N2.out.b.free 1
  have M2 := Lib.hid (show Mk W rb r2 (w1.heap.size) W.heap.size 76 #[.int .i64 4, .int .i64 n2, .int .i64 0, .int .u64 0, .string ⟨#[]⟩, .slice none 0 0] #[.int .i64 0, .int .i64 0, .int .i64 0, .int .u64 0, .string ⟨#[]⟩, .slice none 0 0] (w2.setCell ⟨w1.heap.size, 1, none⟩ (.int .i64 n2)) from (N2.out.put 1 (.int .i64 n2)))
  have LW2 := Lib.hid (show W1.heap.size ≤ (w2.setCell ⟨w1.heap.size, 1, none⟩ (.int .i64 n2)).heap.size from by simp only [World.size_setCell]; exact Nat.le_trans (Nat.le_refl _) k2.2.size)
  obtain ⟨W2, hW2⟩ : ∃ U, (w2.setCell ⟨w1.heap.size, 1, none⟩ (.int .i64 n2)) = U := ⟨_, rfl⟩
  rw [hW2] at M2 LW2
  clear k2
  go_wp2_with fail
  try rw [hW2]
  clear hW2
  refine (H3.out _ M2.out.rd).mono ?_
  rintro e w3 ⟨rfl, k3⟩
  have N3 := Lib.hid (M2.out.call k3)
  have b3_0 : w3.cell? ⟨w1.heap.size, 0, none⟩ = some (.int .i64 4) := N3.out.b.cell 0
  have b3_1 : w3.cell? ⟨w1.heap.size, 1, none⟩ = some (.int .i64 n2) := N3.out.b.cell 1
  have b3_2 : w3.cell? ⟨w1.heap.size, 2, none⟩ = some (.int .i64 0) := N3.out.b.cell 2
  have b3_3 : w3.cell? ⟨w1.heap.size, 3, none⟩ = some (.int .u64 0) := N3.out.b.cell 3
  have b3_4 : w3.cell? ⟨w1.heap.size, 4, none⟩ = some (.string ⟨#[]⟩) := N3.out.b.cell 4
  have b3_5 : w3.cell? ⟨w1.heap.size, 5, none⟩ = some (.slice none 0 0) := N3.out.b.cell 5
  have f3_2 : w3.frozen? ⟨w1.heap.size, 2, none⟩ = false := N3.out.b.free 2
  have M3 := Lib.hid (show Mk W rb r3 (w1.heap.size) W.heap.size 76 #[.int .i64 4, .int .i64 n2, .int .i64 n3, .int .u64 0, .string ⟨#[]⟩, .slice none 0 0] #[.int .i64 0, .int .i64 0, .int .i64 0, .int .u64 0, .string ⟨#[]⟩, .slice none 0 0] (w3.setCell ⟨w1.heap.size, 2, none⟩ (.int .i64 n3)) from (N3.out.put 2 (.int .i64 n3)))
  have LW3 := Lib.hid (show W1.heap.size ≤ (w3.setCell ⟨w1.heap.size, 2, none⟩ (.int .i64 n3)).heap.size from by simp only [World.size_setCell]; exact Nat.le_trans LW2.out k3.2.size)
  clear k3
  have HRW := Lib.hid M3.out.row
  go_wp2_with (refine store_whole (T := 76) rfl _ _ rfl W.heap.size #[.int .i64 4, .int .i64 n2, .int .i64 n3, .int .u64 0, .string ⟨#[]⟩, .slice none 0 0] #[.int .i64 0, .int .i64 0, .int .i64 0, .int .u64 0, .string ⟨#[]⟩, .slice none 0 0] rfl rfl M3.out.z size_In rfl (by simp [Value.oneCell']) ?_)
  refine bodyPost_ret (results_cell_row Try.results77 _ _ W.heap.size 76 #[.int .i64 4, .int .i64 n2, .int .i64 n3, .int .u64 0, .string ⟨#[]⟩, .slice none 0 0] (0, 0) _ rfl HRW.out.2 Try.underlying76 rfl size_In) rfl ?_
  exact ⟨_, rfl, ⟨none, 0, rfl, fun U _ => no_ints U⟩, HRW.out.1⟩
set_option maxRecDepth 100000 in
set_option maxHeartbeats 4000000 in
theorem inst_5 {rb : Nat} {r : St} {W : World} (h : Rd W rb r) {r1 : St} (hO : betweenR 1 16 3 r = (5, r1)) :
    Calls Try.prog 77 #[.pointer (some ⟨rb, 0, none⟩)] W fun e w' => ∃ val, e = .returned val ∧ EpIn (insR 5 r1).1 W.heap.size w' val ∧ RdTo W rb (insR 5 r1).2 w' := by
  obtain ⟨zo, hzo⟩ : ∃ o, Obj.cells #[.int .i64 0, .int .i64 0, .int .i64 0, .int .u64 0, .string ⟨#[]⟩, .slice none 0 0] 76 (0, 0) = o := ⟨_, rfl⟩
  have HH := Lib.hid h
  obtain ⟨⟨n2, r2⟩, q2⟩ : ∃ t, numR r1 = t := ⟨_, rfl⟩
  have H2 := Lib.hid (fun (U : World) (hU : Rd U rb r1) => (show Calls Try.prog 60 #[.pointer (some ⟨rb, 0, none⟩)] U fun e w' => e = .returned (.int .i64 n2) ∧ RdTo U rb r2 w' from by
    have h := number_any hU
    unfold intR at h
    rw [q2] at h
    exact h))
  obtain ⟨⟨n3, r3⟩, q3⟩ : ∃ t, numR r2 = t := ⟨_, rfl⟩
  have H3 := Lib.hid (fun (U : World) (hU : Rd U rb r2) => (show Calls Try.prog 60 #[.pointer (some ⟨rb, 0, none⟩)] U fun e w' => e = .returned (.int .i64 n3) ∧ RdTo U rb r3 w' from by
    have h := number_any hU
    unfold intR at h
    rw [q3] at h
    exact h))
  have HE := Lib.hid (show insR 5 r1 = (⟨5, n2, n3, 0, ⟨#[]⟩, []⟩, r3) by unfold insR; rw [if_neg (by decide)]; rw [if_pos (by decide)]; rw [q2]; dsimp only; rw [q3]; dsimp only; rfl)
  rw [HE.out]
  have HB := Lib.hid (show Calls Try.prog 63 #[.pointer (some ⟨rb, 0, none⟩), .int .u64 1, .int .u64 16, .int .i64 3] (W.alloc zo) fun e w' => e = .returned (.int .i64 5) ∧ RdTo (W.alloc zo) rb r1 w' from by
    have h := between_any 1 16 3 (by decide) (rd_alloc h zo).1
    rw [hO] at h
    exact h)
  have HZ := Lib.hid (show Whole (W.alloc zo) W.heap.size 76 #[.int .i64 0, .int .i64 0, .int .i64 0, .int .u64 0, .string ⟨#[]⟩, .slice none 0 0] by unfold Whole; rw [heap_alloc_new, hzo])
  subst hzo
  clear h hO q2 q3
  go_enter Try.func77, Try.ntmps77
  go_wp2_with fail
  refine HB.out.mono ?_
  rintro e w1 ⟨rfl, k1⟩
  obtain ⟨ob, hob⟩ : ∃ o, Obj.cells #[.int .i64 5, .int .i64 0, .int .i64 0, .int .u64 0, .string ⟨#[]⟩, .slice none 0 0] 76 (0, 0) = o := ⟨_, rfl⟩
  have M1 := Lib.hid (show Mk W rb r1 w1.heap.size W.heap.size 76 #[.int .i64 5, .int .i64 0, .int .i64 0, .int .u64 0, .string ⟨#[]⟩, .slice none 0 0] #[.int .i64 0, .int .i64 0, .int .i64 0, .int .u64 0, .string ⟨#[]⟩, .slice none 0 0] (w1.alloc ob) from by
    have z1 : W.heap.size + 1 ≤ w1.heap.size := by have := k1.2.size; rw [World.size_alloc] at this; exact this
    have k2 := (rd_alloc HH.out _).then_ (k1.then_ (rd_alloc k1.1 ob))
    refine ⟨k2.1, k2.2, by unfold Whole; rw [heap_alloc_new, hob], ?_, by omega, Nat.le_refl _, by omega, HH.out.lt⟩
    have q1 := (k1.2.block W.heap.size (by rw [World.size_alloc]; omega) (fun e => by have := Option.some.inj e; have := HH.out.lt; omega)).trans HZ.out
    exact (Lib.alloc_old w1 ob W.heap.size (by omega)).trans q1)
  subst hob
  clear k1
  go_wp2_with fail
  obtain ⟨W1, hW1⟩ : ∃ U, w1.alloc (.cells #[.int .i64 5, .int .i64 0, .int .i64 0, .int .u64 0, .string ⟨#[]⟩, .slice none 0 0] 76 (0, 0)) = U := ⟨_, rfl⟩
  rw [hW1] at M1 ⊢
  clear hW1
  refine (H2.out _ M1.out.rd).mono ?_
  rintro e w2 ⟨rfl, k2⟩
  have N2 := Lib.hid (M1.out.call k2)
  have b2_0 : w2.cell? ⟨w1.heap.size, 0, none⟩ = some (.int .i64 5) := N2.out.b.cell 0
  have b2_1 : w2.cell? ⟨w1.heap.size, 1, none⟩ = some (.int .i64 0) := N2.out.b.cell 1
  have b2_2 : w2.cell? ⟨w1.heap.size, 2, none⟩ = some (.int .i64 0) := N2.out.b.cell 2
  have b2_3 : w2.cell? ⟨w1.heap.size, 3, none⟩ = some (.int .u64 0) := N2.out.b.cell 3
  have b2_4 : w2.cell? ⟨w1.heap.size, 4, none⟩ = some (.string ⟨#[]⟩) := N2.out.b.cell 4
  have b2_5 : w2.cell? ⟨w1.heap.size, 5, none⟩ = some (.slice none 0 0) := N2.out.b.cell 5
  have f2_1 : w2.frozen? ⟨w1.heap.size, 1, none⟩ = false := N2.out.b.free 1
  have M2 := Lib.hid (show Mk W rb r2 (w1.heap.size) W.heap.size 76 #[.int .i64 5, .int .i64 n2, .int .i64 0, .int .u64 0, .string ⟨#[]⟩, .slice none 0 0] #[.int .i64 0, .int .i64 0, .int .i64 0, .int .u64 0, .string ⟨#[]⟩, .slice none 0 0] (w2.setCell ⟨w1.heap.size, 1, none⟩ (.int .i64 n2)) from (N2.out.put 1 (.int .i64 n2)))
  have LW2 := Lib.hid (show W1.heap.size ≤ (w2.setCell ⟨w1.heap.size, 1, none⟩ (.int .i64 n2)).heap.size from by simp only [World.size_setCell]; exact Nat.le_trans (Nat.le_refl _) k2.2.size)
  obtain ⟨W2, hW2⟩ : ∃ U, (w2.setCell ⟨w1.heap.size, 1, none⟩ (.int .i64 n2)) = U := ⟨_, rfl⟩
  rw [hW2] at M2 LW2
  clear k2
  go_wp2_with fail
  try rw [hW2]
  clear hW2
  refine (H3.out _ M2.out.rd).mono ?_
  rintro e w3 ⟨rfl, k3⟩
  have N3 := Lib.hid (M2.out.call k3)
  have b3_0 : w3.cell? ⟨w1.heap.size, 0, none⟩ = some (.int .i64 5) := N3.out.b.cell 0
  have b3_1 : w3.cell? ⟨w1.heap.size, 1, none⟩ = some (.int .i64 n2) := N3.out.b.cell 1
  have b3_2 : w3.cell? ⟨w1.heap.size, 2, none⟩ = some (.int .i64 0) := N3.out.b.cell 2
  have b3_3 : w3.cell? ⟨w1.heap.size, 3, none⟩ = some (.int .u64 0) := N3.out.b.cell 3
  have b3_4 : w3.cell? ⟨w1.heap.size, 4, none⟩ = some (.string ⟨#[]⟩) := N3.out.b.cell 4
  have b3_5 : w3.cell? ⟨w1.heap.size, 5, none⟩ = some (.slice none 0 0) := N3.out.b.cell 5
  have f3_2 : w3.frozen? ⟨w1.heap.size, 2, none⟩ = false := N3.out.b.free 2
  have M3 := Lib.hid (show Mk W rb r3 (w1.heap.size) W.heap.size 76 #[.int .i64 5, .int .i64 n2, .int .i64 n3, .int .u64 0, .string ⟨#[]⟩, .slice none 0 0] #[.int .i64 0, .int .i64 0, .int .i64 0, .int .u64 0, .string ⟨#[]⟩, .slice none 0 0] (w3.setCell ⟨w1.heap.size, 2, none⟩ (.int .i64 n3)) from (N3.out.put 2 (.int .i64 n3)))
  have LW3 := Lib.hid (show W1.heap.size ≤ (w3.setCell ⟨w1.heap.size, 2, none⟩ (.int .i64 n3)).heap.size from by simp only [World.size_setCell]; exact Nat.le_trans LW2.out k3.2.size)
  clear k3
  have HRW := Lib.hid M3.out.row
  go_wp2_with (refine store_whole (T := 76) rfl _ _ rfl W.heap.size #[.int .i64 5, .int .i64 n2, .int .i64 n3, .int .u64 0, .string ⟨#[]⟩, .slice none 0 0] #[.int .i64 0, .int .i64 0, .int .i64 0, .int .u64 0, .string ⟨#[]⟩, .slice none 0 0] rfl rfl M3.out.z size_In rfl (by simp [Value.oneCell']) ?_)
  refine bodyPost_ret (results_cell_row Try.results77 _ _ W.heap.size 76 #[.int .i64 5, .int .i64 n2, .int .i64 n3, .int .u64 0, .string ⟨#[]⟩, .slice none 0 0] (0, 0) _ rfl HRW.out.2 Try.underlying76 rfl size_In) rfl ?_
  exact ⟨_, rfl, ⟨none, 0, rfl, fun U _ => no_ints U⟩, HRW.out.1⟩
end Q
end Go.Proofs.Ytjldddpchiaalaa
