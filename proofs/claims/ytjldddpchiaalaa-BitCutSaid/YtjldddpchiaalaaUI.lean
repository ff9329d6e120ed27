/- Package bit: a reader: a thing that is made of what is taken. -/
import Derived.Test.YtjldddpchiaalaaUH
namespace Go.Proofs.Ytjldddpchiaalaa
open Go.RowKit
namespace Q

set_option maxRecDepth 100000 in
set_option maxHeartbeats 4000000 in
theorem func_any {rb : Nat} {r : St} {W : World} (h : Rd W rb r) :
    Calls Try.prog 41 #[.pointer (some ⟨rb, 0, none⟩)] W fun e w' => ∃ val, e = .returned val ∧ EpFn (funcR r).1 W.heap.size w' val ∧ RdTo W rb (funcR r).2 w' := by
  obtain ⟨zo, hzo⟩ : ∃ o, Obj.cells #[.string ⟨#[]⟩, .int .i64 0, .int .i64 0, .slice none 0 0] 60 (0, 0) = o := ⟨_, rfl⟩
  have HH := Lib.hid h
  obtain ⟨⟨n1, r1⟩, q1⟩ : ∃ t, textR r = t := ⟨_, rfl⟩
  have H1 := Lib.hid (fun (U : World) (hU : Rd U rb r) => (show Calls Try.prog 59 #[.pointer (some ⟨rb, 0, none⟩)] U fun e w' => e = .returned (.string (strB n1)) ∧ RdTo U rb r1 w' from by
    have h := text_any hU
    rw [q1] at h
    exact h))
  obtain ⟨⟨n2, r2⟩, q2⟩ : ∃ t, numR r1 = t := ⟨_, rfl⟩
  have H2 := Lib.hid (fun (U : World) (hU : Rd U rb r1) => (show Calls Try.prog 60 #[.pointer (some ⟨rb, 0, none⟩)] U fun e w' => e = .returned (.int .i64 n2) ∧ RdTo U rb r2 w' from by
    have h := number_any hU
    unfold intR at h
    rw [q2] at h
    exact h))
  obtain ⟨⟨n3, r3⟩, q3⟩ : ∃ t, numR r2 = t := ⟨_, rfl⟩
  have H3 := Lib.hid (fun (U : World) (hU : Rd U rb r2) => (show Calls Try.prog 60 #[.pointer (some ⟨rb, 0, none⟩)] U fun e w' => e = .returned (.int .i64 n3) ∧ RdTo U rb r3 w' from by
    have h := number_any hU
    unfold intR at h
    rw [q3] at h
    exact h))
  obtain ⟨⟨n4, r4⟩, q4⟩ : ∃ t, rowR 16 blockR r3 = t := ⟨_, rfl⟩
  have H4 := Lib.hid (fun (U : World) (hU : Rd U rb r3) => (show Calls Try.prog 61 #[.pointer (some ⟨rb, 0, none⟩), .int .u64 16, .func (.func 62) #[.pointer (some ⟨rb, 0, none⟩)] #[]] U fun e w' => ∃ A c, e = .returned (.slice A n4.length c) ∧ Fresh U.heap.size w' (fun V => Blocks V (.slice A n4.length c) n4) ∧ RdTo U rb r4 w' from by
    have h := takeBk_any blockR 62 16 hU (by decide) cf_rblock (fun q V hV => block_any hV)
    rw [q4] at h
    exact h))
  have HE := Lib.hid (show funcR r = (⟨strB n1, n2, n3, n4⟩, r4) by unfold funcR; rw [q1]; dsimp only; rw [q2]; dsimp only; rw [q3]; dsimp only; rw [q4])
  rw [HE.out]
  have M1 := Lib.hid (show Mk W rb r (W.heap.size + 1) W.heap.size 60 #[.string ⟨#[]⟩, .int .i64 0, .int .i64 0, .slice none 0 0] #[.string ⟨#[]⟩, .int .i64 0, .int .i64 0, .slice none 0 0] ((W.alloc zo).alloc zo) from by
    have k2 := (rd_alloc h zo).then_ (rd_alloc (rd_alloc h zo).1 zo)
    refine ⟨k2.1, k2.2, ?_, ?_, by omega, Nat.le_refl _, by omega, h.lt⟩
    · have := heap_alloc_new (W.alloc zo) zo
      rw [World.size_alloc] at this
      unfold Whole; rw [this, hzo]
    · unfold Whole; rw [Lib.alloc_old _ zo _ (by rw [World.size_alloc]; omega), heap_alloc_new, hzo])
  obtain ⟨W1, hW1⟩ : ∃ U, (W.alloc zo).alloc zo = U := ⟨_, rfl⟩
  rw [hW1] at M1
  subst hzo
  clear h q1 q2 q3 q4
  go_enter Try.func41, Try.ntmps41
  go_wp2_with fail
  try rw [hW1]
  clear hW1
  refine (H1.out _ M1.out.rd).mono ?_
  rintro e w2 ⟨rfl, k2⟩
  have N2 := Lib.hid (M1.out.call k2)
  have b2_0 : w2.cell? ⟨W.heap.size + 1, 0, none⟩ = some (.string ⟨#[]⟩) := N2.out.b.cell 0
  have b2_1 : w2.cell? ⟨W.heap.size + 1, 1, none⟩ = some (.int .i64 0) := N2.out.b.cell 1
  have b2_2 : w2.cell? ⟨W.heap.size + 1, 2, none⟩ = some (.int .i64 0) := N2.out.b.cell 2
  have b2_3 : w2.cell? ⟨W.heap.size + 1, 3, none⟩ = some (.slice none 0 0) := N2.out.b.cell 3
  have f2_0 : w2.frozen? ⟨W.heap.size + 1, 0, none⟩ = false := N2.out.b.free 0
  have M2 := Lib.hid (show Mk W rb r1 (W.heap.size + 1) W.heap.size 60 #[.string (strB n1), .int .i64 0, .int .i64 0, .slice none 0 0] #[.string ⟨#[]⟩, .int .i64 0, .int .i64 0, .slice none 0 0] (w2.setCell ⟨W.heap.size + 1, 0, none⟩ (.string (strB n1))) from (N2.out.put 0 (.string (strB n1))))
  have LW2 := Lib.hid (show W1.heap.size ≤ (w2.setCell ⟨W.heap.size + 1, 0, none⟩ (.string (strB n1))).heap.size from by simp only [World.size_setCell]; exact Nat.le_trans (Nat.le_refl _) k2.2.size)
  obtain ⟨W2, hW2⟩ : ∃ U, (w2.setCell ⟨W.heap.size + 1, 0, none⟩ (.string (strB n1))) = U := ⟨_, rfl⟩
  rw [hW2] at M2 LW2
  clear k2
  go_wp2_with fail
  try rw [hW2]
  clear hW2
  refine (H2.out _ M2.out.rd).mono ?_
  rintro e w3 ⟨rfl, k3⟩
  have N3 := Lib.hid (M2.out.call k3)
  have b3_0 : w3.cell? ⟨W.heap.size + 1, 0, none⟩ = some (.string (strB n1)) := N3.out.b.cell 0
  have b3_1 : w3.cell? ⟨W.heap.size + 1, 1, none⟩ = some (.int .i64 0) := N3.out.b.cell 1
  have b3_2 : w3.cell? ⟨W.heap.size + 1, 2, none⟩ = some (.int .i64 0) := N3.out.b.cell 2
  have b3_3 : w3.cell? ⟨W.heap.size + 1, 3, none⟩ = some (.slice none 0 0) := N3.out.b.cell 3
  have f3_1 : w3.frozen? ⟨W.heap.size + 1, 1, none⟩ = false := N3.out.b.free 1
  have M3 := Lib.hid (show Mk W rb r2 (W.heap.size + 1) W.heap.size 60 #[.string (strB n1), .int .i64 n2, .int .i64 0, .slice none 0 0] #[.string ⟨#[]⟩, .int .i64 0, .int .i64 0, .slice none 0 0] (w3.setCell ⟨W.heap.size + 1, 1, none⟩ (.int .i64 n2)) from (N3.out.put 1 (.int .i64 n2)))
  have LW3 := Lib.hid (show W1.heap.size ≤ (w3.setCell ⟨W.heap.size + 1, 1, none⟩ (.int .i64 n2)).heap.size from by simp only [World.size_setCell]; exact Nat.le_trans LW2.out k3.2.size)
  obtain ⟨W3, hW3⟩ : ∃ U, (w3.setCell ⟨W.heap.size + 1, 1, none⟩ (.int .i64 n2)) = U := ⟨_, rfl⟩
  rw [hW3] at M3 LW3
  clear k3
  go_wp2_with fail
  try rw [hW3]
  clear hW3
  refine (H3.out _ M3.out.rd).mono ?_
  rintro e w4 ⟨rfl, k4⟩
  have N4 := Lib.hid (M3.out.call k4)
  have b4_0 : w4.cell? ⟨W.heap.size + 1, 0, none⟩ = some (.string (strB n1)) := N4.out.b.cell 0
  have b4_1 : w4.cell? ⟨W.heap.size + 1, 1, none⟩ = some (.int .i64 n2) := N4.out.b.cell 1
  have b4_2 : w4.cell? ⟨W.heap.size + 1, 2, none⟩ = some (.int .i64 0) := N4.out.b.cell 2
  have b4_3 : w4.cell? ⟨W.heap.size + 1, 3, none⟩ = some (.slice none 0 0) := N4.out.b.cell 3
  have f4_2 : w4.frozen? ⟨W.heap.size + 1, 2, none⟩ = false := N4.out.b.free 2
  have M4 := Lib.hid (show Mk W rb r3 (W.heap.size + 1) W.heap.size 60 #[.string (strB n1), .int .i64 n2, .int .i64 n3, .slice none 0 0] #[.string ⟨#[]⟩, .int .i64 0, .int .i64 0, .slice none 0 0] (w4.setCell ⟨W.heap.size + 1, 2, none⟩ (.int .i64 n3)) from (N4.out.put 2 (.int .i64 n3)))
  have LW4 := Lib.hid (show W1.heap.size ≤ (w4.setCell ⟨W.heap.size + 1, 2, none⟩ (.int .i64 n3)).heap.size from by simp only [World.size_setCell]; exact Nat.le_trans LW3.out k4.2.size)
  obtain ⟨W4, hW4⟩ : ∃ U, (w4.setCell ⟨W.heap.size + 1, 2, none⟩ (.int .i64 n3)) = U := ⟨_, rfl⟩
  rw [hW4] at M4 LW4
  clear k4
  go_wp2_with fail
  try rw [hW4]
  clear hW4
  refine (H4.out _ M4.out.rd).mono ?_
  rintro e w5 ⟨A5, c5, rfl, F5, k5⟩
  have N5 := Lib.hid (M4.out.call k5)
  have F5_ := Lib.hid F5
  have LEQ_F5 := Lib.hid (show W1.heap.size ≤ W4.heap.size from LW4.out)
  have b5_0 : w5.cell? ⟨W.heap.size + 1, 0, none⟩ = some (.string (strB n1)) := N5.out.b.cell 0
  have b5_1 : w5.cell? ⟨W.heap.size + 1, 1, none⟩ = some (.int .i64 n2) := N5.out.b.cell 1
  have b5_2 : w5.cell? ⟨W.heap.size + 1, 2, none⟩ = some (.int .i64 n3) := N5.out.b.cell 2
  have b5_3 : w5.cell? ⟨W.heap.size + 1, 3, none⟩ = some (.slice none 0 0) := N5.out.b.cell 3
  have f5_3 : w5.frozen? ⟨W.heap.size + 1, 3, none⟩ = false := N5.out.b.free 3
  have M5 := Lib.hid (show Mk W rb r4 (W.heap.size + 1) W.heap.size 60 #[.string (strB n1), .int .i64 n2, .int .i64 n3, .slice A5 n4.length c5] #[.string ⟨#[]⟩, .int .i64 0, .int .i64 0, .slice none 0 0] (w5.setCell ⟨W.heap.size + 1, 3, none⟩ (.slice A5 n4.length c5)) from (N5.out.put 3 (.slice A5 n4.length c5)))
  have F5_p := Lib.hid ((F5_.out.put 3 (.slice A5 n4.length c5) (Nat.lt_of_lt_of_le M1.out.b.lt LEQ_F5.out)))
  have LW5 := Lib.hid (show W1.heap.size ≤ (w5.setCell ⟨W.heap.size + 1, 3, none⟩ (.slice A5 n4.length c5)).heap.size from by simp only [World.size_setCell]; exact Nat.le_trans LW4.out k5.2.size)
  clear F5
  clear k5
  have HRW := Lib.hid M5.out.row
  have F5_pz := Lib.hid (F5_p.out.later (setRow_grown _ W.heap.size #[.string (strB n1), .int .i64 n2, .int .i64 n3, .slice A5 n4.length c5]) (fun r e => by cases e; exact Nat.lt_of_lt_of_le M1.out.z.lt LEQ_F5.out))
  go_wp2_with (refine store_whole (T := 60) rfl _ _ rfl W.heap.size #[.string (strB n1), .int .i64 n2, .int .i64 n3, .slice A5 n4.length c5] #[.string ⟨#[]⟩, .int .i64 0, .int .i64 0, .slice none 0 0] rfl rfl M5.out.z size_Fn rfl (by simp [Value.oneCell']) ?_)
  refine bodyPost_ret (results_cell_row Try.results41 _ _ W.heap.size 60 #[.string (strB n1), .int .i64 n2, .int .i64 n3, .slice A5 n4.length c5] (0, 0) _ rfl HRW.out.2 Try.underlying60 rfl size_Fn) rfl ?_
  exact ⟨_, rfl, ⟨_, _, rfl, F5_pz.out.thin (Nat.le_trans M1.out.g.size LEQ_F5.out)⟩, HRW.out.1⟩
end Q
end Go.Proofs.Ytjldddpchiaalaa
