/- Package bit: a reader: a thing that is made of what is taken. -/
import Derived.Test.YtjldddpchiaalaaUG
import Derived.Deep.MidRow
namespace Go.Proofs.Ytjldddpchiaalaa
open Go.RowKit
namespace Q

set_option maxRecDepth 100000 in
set_option maxHeartbeats 4000000 in
theorem block_any {rb : Nat} {r : St} {W : World} (h : Rd W rb r) :
    Calls Try.prog 62 #[.pointer (some ⟨rb, 0, none⟩)] W fun e w' => ∃ val, e = .returned val ∧ EpBk (blockR r).1 W.heap.size w' val ∧ RdTo W rb (blockR r).2 w' := by
  obtain ⟨zo, hzo⟩ : ∃ o, Obj.cells #[.int .i64 0, .slice none 0 0, .int .i64 0, .int .i64 0, .int .i64 0, .slice none 0 0, .int .i64 0, .slice none 0 0] 74 (0, 0) = o := ⟨_, rfl⟩
  have HH := Lib.hid h
  obtain ⟨⟨n1, r1⟩, q1⟩ : ∃ t, numR r = t := ⟨_, rfl⟩
  have H1 := Lib.hid (fun (U : World) (hU : Rd U rb r) => (show Calls Try.prog 60 #[.pointer (some ⟨rb, 0, none⟩)] U fun e w' => e = .returned (.int .i64 n1) ∧ RdTo U rb r1 w' from by
    have h := number_any hU
    unfold intR at h
    rw [q1] at h
    exact h))
  obtain ⟨⟨n2, r2⟩, q2⟩ : ∃ t, rowR 32 instR r1 = t := ⟨_, rfl⟩
  have H2 := Lib.hid (fun (U : World) (hU : Rd U rb r1) => (show Calls Try.prog 76 #[.pointer (some ⟨rb, 0, none⟩), .int .u64 32, .func (.func 77) #[.pointer (some ⟨rb, 0, none⟩)] #[]] U fun e w' => ∃ A c, e = .returned (.slice A n2.length c) ∧ Fresh U.heap.size w' (fun V => Insts V (.slice A n2.length c) n2) ∧ RdTo U rb r2 w' from by
    have h := takeIn_any instR 77 32 hU (by decide) cf_rinst (fun q V hV => inst_any hV)
    rw [q2] at h
    exact h))
  obtain ⟨⟨⟨tk, ta, tt, tl, te, tm⟩, r3⟩, q3⟩ : ∃ t, endR r2 = t := ⟨_, rfl⟩
  have H3 := Lib.hid (fun (U : World) (hU : Rd U rb r2) => (show Calls Try.prog 78 #[.pointer (some ⟨rb, 0, none⟩)] U fun e w' => ∃ A c A' c', e = .returned (.agg #[.int .i64 tk, .int .i64 ta, .int .i64 tt, .slice A tl.length c, .int .i64 te, .slice A' tm.length c']) ∧ Fresh U.heap.size w' (fun V => Ints V (.slice A tl.length c) tl) ∧ Fresh U.heap.size w' (fun V => Ints V (.slice A' tm.length c') tm) ∧ RdTo U rb r3 w' from by
    refine (end_any hU).mono ?_
    rintro e w' ⟨val, rfl, hE, hR⟩
    rw [q3] at hE hR
    obtain ⟨A, c, A', c', rfl, h1, h2⟩ := hE
    exact ⟨A, c, A', c', rfl, h1, h2, hR⟩))
  have HE := Lib.hid (show blockR r = (⟨n1, n2, ⟨tk, ta, tt, tl, te, tm⟩⟩, r3) by unfold blockR; rw [q1]; dsimp only; rw [q2]; dsimp only; rw [q3])
  rw [HE.out]
  have M1 := Lib.hid (show Mk W rb r (W.heap.size + 1) W.heap.size 74 #[.int .i64 0, .slice none 0 0, .int .i64 0, .int .i64 0, .int .i64 0, .slice none 0 0, .int .i64 0, .slice none 0 0] #[.int .i64 0, .slice none 0 0, .int .i64 0, .int .i64 0, .int .i64 0, .slice none 0 0, .int .i64 0, .slice none 0 0] ((W.alloc zo).alloc zo) from by
    have k2 := (rd_alloc h zo).then_ (rd_alloc (rd_alloc h zo).1 zo)
    refine ⟨k2.1, k2.2, ?_, ?_, by omega, Nat.le_refl _, by omega, h.lt⟩
    · have := heap_alloc_new (W.alloc zo) zo
      rw [World.size_alloc] at this
      unfold Whole; rw [this, hzo]
    · unfold Whole; rw [Lib.alloc_old _ zo _ (by rw [World.size_alloc]; omega), heap_alloc_new, hzo])
  obtain ⟨W1, hW1⟩ : ∃ U, (W.alloc zo).alloc zo = U := ⟨_, rfl⟩
  rw [hW1] at M1
  subst hzo
  clear h q1 q2 q3
  go_enter Try.func62, Try.ntmps62
  go_wp2_with fail
  try rw [hW1]
  clear hW1
  refine (H1.out _ M1.out.rd).mono ?_
  rintro e w2 ⟨rfl, k2⟩
  have N2 := Lib.hid (M1.out.call k2)
  have b2_0 : w2.cell? ⟨W.heap.size + 1, 0, none⟩ = some (.int .i64 0) := N2.out.b.cell 0
  have b2_1 : w2.cell? ⟨W.heap.size + 1, 1, none⟩ = some (.slice none 0 0) := N2.out.b.cell 1
  have b2_2 : w2.cell? ⟨W.heap.size + 1, 2, none⟩ = some (.int .i64 0) := N2.out.b.cell 2
  have b2_3 : w2.cell? ⟨W.heap.size + 1, 3, none⟩ = some (.int .i64 0) := N2.out.b.cell 3
  have b2_4 : w2.cell? ⟨W.heap.size + 1, 4, none⟩ = some (.int .i64 0) := N2.out.b.cell 4
  have b2_5 : w2.cell? ⟨W.heap.size + 1, 5, none⟩ = some (.slice none 0 0) := N2.out.b.cell 5
  have b2_6 : w2.cell? ⟨W.heap.size + 1, 6, none⟩ = some (.int .i64 0) := N2.out.b.cell 6
  have b2_7 : w2.cell? ⟨W.heap.size + 1, 7, none⟩ = some (.slice none 0 0) := N2.out.b.cell 7
  have f2_0 : w2.frozen? ⟨W.heap.size + 1, 0, none⟩ = false := N2.out.b.free 0
  have M2 := Lib.hid (show Mk W rb r1 (W.heap.size + 1) W.heap.size 74 #[.int .i64 n1, .slice none 0 0, .int .i64 0, .int .i64 0, .int .i64 0, .slice none 0 0, .int .i64 0, .slice none 0 0] #[.int .i64 0, .slice none 0 0, .int .i64 0, .int .i64 0, .int .i64 0, .slice none 0 0, .int .i64 0, .slice none 0 0] (w2.setCell ⟨W.heap.size + 1, 0, none⟩ (.int .i64 n1)) from (N2.out.put 0 (.int .i64 n1)))
  have LW2 := Lib.hid (show W1.heap.size ≤ (w2.setCell ⟨W.heap.size + 1, 0, none⟩ (.int .i64 n1)).heap.size from by simp only [World.size_setCell]; exact Nat.le_trans (Nat.le_refl _) k2.2.size)
  obtain ⟨W2, hW2⟩ : ∃ U, (w2.setCell ⟨W.heap.size + 1, 0, none⟩ (.int .i64 n1)) = U := ⟨_, rfl⟩
  rw [hW2] at M2 LW2
  clear k2
  go_wp2_with fail
  try rw [hW2]
  clear hW2
  refine (H2.out _ M2.out.rd).mono ?_
  rintro e w3 ⟨A3, c3, rfl, F3, k3⟩
  have N3 := Lib.hid (M2.out.call k3)
  have F3_ := Lib.hid F3
  have LEQ_F3 := Lib.hid (show W1.heap.size ≤ W2.heap.size from LW2.out)
  have b3_0 : w3.cell? ⟨W.heap.size + 1, 0, none⟩ = some (.int .i64 n1) := N3.out.b.cell 0
  have b3_1 : w3.cell? ⟨W.heap.size + 1, 1, none⟩ = some (.slice none 0 0) := N3.out.b.cell 1
  have b3_2 : w3.cell? ⟨W.heap.size + 1, 2, none⟩ = some (.int .i64 0) := N3.out.b.cell 2
  have b3_3 : w3.cell? ⟨W.heap.size + 1, 3, none⟩ = some (.int .i64 0) := N3.out.b.cell 3
  have b3_4 : w3.cell? ⟨W.heap.size + 1, 4, none⟩ = some (.int .i64 0) := N3.out.b.cell 4
  have b3_5 : w3.cell? ⟨W.heap.size + 1, 5, none⟩ = some (.slice none 0 0) := N3.out.b.cell 5
  have b3_6 : w3.cell? ⟨W.heap.size + 1, 6, none⟩ = some (.int .i64 0) := N3.out.b.cell 6
  have b3_7 : w3.cell? ⟨W.heap.size + 1, 7, none⟩ = some (.slice none 0 0) := N3.out.b.cell 7
  have f3_1 : w3.frozen? ⟨W.heap.size + 1, 1, none⟩ = false := N3.out.b.free 1
  have M3 := Lib.hid (show Mk W rb r2 (W.heap.size + 1) W.heap.size 74 #[.int .i64 n1, .slice A3 n2.length c3, .int .i64 0, .int .i64 0, .int .i64 0, .slice none 0 0, .int .i64 0, .slice none 0 0] #[.int .i64 0, .slice none 0 0, .int .i64 0, .int .i64 0, .int .i64 0, .slice none 0 0, .int .i64 0, .slice none 0 0] (w3.setCell ⟨W.heap.size + 1, 1, none⟩ (.slice A3 n2.length c3)) from (N3.out.put 1 (.slice A3 n2.length c3)))
  have F3_p := Lib.hid ((F3_.out.put 1 (.slice A3 n2.length c3) (Nat.lt_of_lt_of_le M1.out.b.lt LEQ_F3.out)))
  have LW3 := Lib.hid (show W1.heap.size ≤ (w3.setCell ⟨W.heap.size + 1, 1, none⟩ (.slice A3 n2.length c3)).heap.size from by simp only [World.size_setCell]; exact Nat.le_trans LW2.out k3.2.size)
  obtain ⟨W3, hW3⟩ : ∃ U, (w3.setCell ⟨W.heap.size + 1, 1, none⟩ (.slice A3 n2.length c3)) = U := ⟨_, rfl⟩
  rw [hW3] at M3 LW3 F3_p
  clear F3
  clear k3
  go_wp2_with fail
  try rw [hW3]
  clear hW3
  refine (H3.out _ M3.out.rd).mono ?_
  rintro e w4 ⟨A4, c4, B4, d4, rfl, F4, G4, k4⟩
  have N4 := Lib.hid (M3.out.call k4)
  have F3_pc := Lib.hid (F3_p.out.later k4.2 (fun r e => by cases e; exact Nat.lt_of_lt_of_le M1.out.hrb (Nat.le_trans M1.out.g.size LEQ_F3.out)))
  have F4_ := Lib.hid F4
  have LEQ_F4 := Lib.hid (show W1.heap.size ≤ W3.heap.size from LW3.out)
  have G4_ := Lib.hid G4
  have LEQ_G4 := Lib.hid (show W1.heap.size ≤ W3.heap.size from LW3.out)
  have b4_0 : w4.cell? ⟨W.heap.size + 1, 0, none⟩ = some (.int .i64 n1) := N4.out.b.cell 0
  have b4_1 : w4.cell? ⟨W.heap.size + 1, 1, none⟩ = some (.slice A3 n2.length c3) := N4.out.b.cell 1
  have b4_2 : w4.cell? ⟨W.heap.size + 1, 2, none⟩ = some (.int .i64 0) := N4.out.b.cell 2
  have b4_3 : w4.cell? ⟨W.heap.size + 1, 3, none⟩ = some (.int .i64 0) := N4.out.b.cell 3
  have b4_4 : w4.cell? ⟨W.heap.size + 1, 4, none⟩ = some (.int .i64 0) := N4.out.b.cell 4
  have b4_5 : w4.cell? ⟨W.heap.size + 1, 5, none⟩ = some (.slice none 0 0) := N4.out.b.cell 5
  have b4_6 : w4.cell? ⟨W.heap.size + 1, 6, none⟩ = some (.int .i64 0) := N4.out.b.cell 6
  have b4_7 : w4.cell? ⟨W.heap.size + 1, 7, none⟩ = some (.slice none 0 0) := N4.out.b.cell 7
  have f4_2 : w4.frozen? ⟨W.heap.size + 1, 2, none⟩ = false := N4.out.b.free 2
  have f4_3 : w4.frozen? ⟨W.heap.size + 1, 3, none⟩ = false := N4.out.b.free 3
  have f4_4 : w4.frozen? ⟨W.heap.size + 1, 4, none⟩ = false := N4.out.b.free 4
  have f4_5 : w4.frozen? ⟨W.heap.size + 1, 5, none⟩ = false := N4.out.b.free 5
  have f4_6 : w4.frozen? ⟨W.heap.size + 1, 6, none⟩ = false := N4.out.b.free 6
  have f4_7 : w4.frozen? ⟨W.heap.size + 1, 7, none⟩ = false := N4.out.b.free 7
  have M4 := Lib.hid (show Mk W rb r3 (W.heap.size + 1) W.heap.size 74 #[.int .i64 n1, .slice A3 n2.length c3, .int .i64 tk, .int .i64 ta, .int .i64 tt, .slice A4 tl.length c4, .int .i64 te, .slice B4 tm.length d4] #[.int .i64 0, .slice none 0 0, .int .i64 0, .int .i64 0, .int .i64 0, .slice none 0 0, .int .i64 0, .slice none 0 0] ((((((w4.setCell ⟨W.heap.size + 1, 2, none⟩ (.int .i64 tk)).setCell ⟨W.heap.size + 1, 3, none⟩ (.int .i64 ta)).setCell ⟨W.heap.size + 1, 4, none⟩ (.int .i64 tt)).setCell ⟨W.heap.size + 1, 5, none⟩ (.slice A4 tl.length c4)).setCell ⟨W.heap.size + 1, 6, none⟩ (.int .i64 te)).setCell ⟨W.heap.size + 1, 7, none⟩ (.slice B4 tm.length d4)) from ((((((N4.out.put 2 (.int .i64 tk)).put 3 (.int .i64 ta)).put 4 (.int .i64 tt)).put 5 (.slice A4 tl.length c4)).put 6 (.int .i64 te)).put 7 (.slice B4 tm.length d4)))
  have F3_pcp := Lib.hid (((((((F3_pc.out.put 2 (.int .i64 tk) (Nat.lt_of_lt_of_le M1.out.b.lt LEQ_F3.out)).put 3 (.int .i64 ta) (Nat.lt_of_lt_of_le M1.out.b.lt LEQ_F3.out)).put 4 (.int .i64 tt) (Nat.lt_of_lt_of_le M1.out.b.lt LEQ_F3.out)).put 5 (.slice A4 tl.length c4) (Nat.lt_of_lt_of_le M1.out.b.lt LEQ_F3.out)).put 6 (.int .i64 te) (Nat.lt_of_lt_of_le M1.out.b.lt LEQ_F3.out)).put 7 (.slice B4 tm.length d4) (Nat.lt_of_lt_of_le M1.out.b.lt LEQ_F3.out)))
  have F4_p := Lib.hid (((((((F4_.out.put 2 (.int .i64 tk) (Nat.lt_of_lt_of_le M1.out.b.lt LEQ_F4.out)).put 3 (.int .i64 ta) (Nat.lt_of_lt_of_le M1.out.b.lt LEQ_F4.out)).put 4 (.int .i64 tt) (Nat.lt_of_lt_of_le M1.out.b.lt LEQ_F4.out)).put 5 (.slice A4 tl.length c4) (Nat.lt_of_lt_of_le M1.out.b.lt LEQ_F4.out)).put 6 (.int .i64 te) (Nat.lt_of_lt_of_le M1.out.b.lt LEQ_F4.out)).put 7 (.slice B4 tm.length d4) (Nat.lt_of_lt_of_le M1.out.b.lt LEQ_F4.out)))
  have G4_p := Lib.hid (((((((G4_.out.put 2 (.int .i64 tk) (Nat.lt_of_lt_of_le M1.out.b.lt LEQ_G4.out)).put 3 (.int .i64 ta) (Nat.lt_of_lt_of_le M1.out.b.lt LEQ_G4.out)).put 4 (.int .i64 tt) (Nat.lt_of_lt_of_le M1.out.b.lt LEQ_G4.out)).put 5 (.slice A4 tl.length c4) (Nat.lt_of_lt_of_le M1.out.b.lt LEQ_G4.out)).put 6 (.int .i64 te) (Nat.lt_of_lt_of_le M1.out.b.lt LEQ_G4.out)).put 7 (.slice B4 tm.length d4) (Nat.lt_of_lt_of_le M1.out.b.lt LEQ_G4.out)))
  have LW4 := Lib.hid (show W1.heap.size ≤ ((((((w4.setCell ⟨W.heap.size + 1, 2, none⟩ (.int .i64 tk)).setCell ⟨W.heap.size + 1, 3, none⟩ (.int .i64 ta)).setCell ⟨W.heap.size + 1, 4, none⟩ (.int .i64 tt)).setCell ⟨W.heap.size + 1, 5, none⟩ (.slice A4 tl.length c4)).setCell ⟨W.heap.size + 1, 6, none⟩ (.int .i64 te)).setCell ⟨W.heap.size + 1, 7, none⟩ (.slice B4 tm.length d4)).heap.size from by simp only [World.size_setCell]; exact Nat.le_trans LW3.out k4.2.size)
  clear F4
  clear G4
  clear k4
  have HTH := Lib.hid (show w4.there (W.heap.size + 1) 2 6 from fun j hj => ⟨by
    rw [N4.out.b.cell (2 + j)]
    have : 2 + j < 8 := by omega
    simp [this], N4.out.b.free _⟩)
  obtain ⟨W4, hW4⟩ : ∃ U, w4.setCells (W.heap.size + 1) 2 [.int .i64 tk, .int .i64 ta, .int .i64 tt, .slice A4 tl.length c4, .int .i64 te, .slice B4 tm.length d4] = U := ⟨_, rfl⟩
  have hW5 : ((((((w4.setCell ⟨W.heap.size + 1, 2, none⟩ (.int .i64 tk)).setCell ⟨W.heap.size + 1, 3, none⟩ (.int .i64 ta)).setCell ⟨W.heap.size + 1, 4, none⟩ (.int .i64 tt)).setCell ⟨W.heap.size + 1, 5, none⟩ (.slice A4 tl.length c4)).setCell ⟨W.heap.size + 1, 6, none⟩ (.int .i64 te)).setCell ⟨W.heap.size + 1, 7, none⟩ (.slice B4 tm.length d4)) = W4 := hW4
  rw [hW5] at M4 LW4 F3_pcp F4_p G4_p
  clear hW5 b4_0 b4_1 b4_2 b4_3 b4_4 b4_5 b4_6 b4_7 f4_2 f4_3 f4_4 f4_5 f4_6 f4_7
  have z0 : W4.cell? ⟨W.heap.size + 1, 0, none⟩ = some (.int .i64 n1) := M4.out.b.cell 0
  have z1 : W4.cell? ⟨W.heap.size + 1, 1, none⟩ = some (.slice A3 n2.length c3) := M4.out.b.cell 1
  have z2 : W4.cell? ⟨W.heap.size + 1, 2, none⟩ = some (.int .i64 tk) := M4.out.b.cell 2
  have z3 : W4.cell? ⟨W.heap.size + 1, 3, none⟩ = some (.int .i64 ta) := M4.out.b.cell 3
  have z4 : W4.cell? ⟨W.heap.size + 1, 4, none⟩ = some (.int .i64 tt) := M4.out.b.cell 4
  have z5 : W4.cell? ⟨W.heap.size + 1, 5, none⟩ = some (.slice A4 tl.length c4) := M4.out.b.cell 5
  have z6 : W4.cell? ⟨W.heap.size + 1, 6, none⟩ = some (.int .i64 te) := M4.out.b.cell 6
  have z7 : W4.cell? ⟨W.heap.size + 1, 7, none⟩ = some (.slice B4 tm.length d4) := M4.out.b.cell 7
  have HRW := Lib.hid M4.out.row
  have F3_pcpz := Lib.hid (F3_pcp.out.later (setRow_grown _ W.heap.size #[.int .i64 n1, .slice A3 n2.length c3, .int .i64 tk, .int .i64 ta, .int .i64 tt, .slice A4 tl.length c4, .int .i64 te, .slice B4 tm.length d4]) (fun r e => by cases e; exact Nat.lt_of_lt_of_le M1.out.z.lt LEQ_F3.out))
  have F4_pz := Lib.hid (F4_p.out.later (setRow_grown _ W.heap.size #[.int .i64 n1, .slice A3 n2.length c3, .int .i64 tk, .int .i64 ta, .int .i64 tt, .slice A4 tl.length c4, .int .i64 te, .slice B4 tm.length d4]) (fun r e => by cases e; exact Nat.lt_of_lt_of_le M1.out.z.lt LEQ_F4.out))
  have G4_pz := Lib.hid (G4_p.out.later (setRow_grown _ W.heap.size #[.int .i64 n1, .slice A3 n2.length c3, .int .i64 tk, .int .i64 ta, .int .i64 tt, .slice A4 tl.length c4, .int .i64 te, .slice B4 tm.length d4]) (fun r e => by cases e; exact Nat.lt_of_lt_of_le M1.out.z.lt LEQ_G4.out))
  go_wp2_with (first | (refine wpList_store_mid rfl 72 _ _ rfl (W.heap.size + 1) 2 #[.int .i64 tk, .int .i64 ta, .int .i64 tt, .slice A4 tl.length c4, .int .i64 te, .slice B4 tm.length d4] rfl rfl HTH.out size_Tm (by simp [Value.oneCell']) ?_; rw [hW4]; clear hW4) | refine store_whole (T := 74) rfl _ _ rfl W.heap.size #[.int .i64 n1, .slice A3 n2.length c3, .int .i64 tk, .int .i64 ta, .int .i64 tt, .slice A4 tl.length c4, .int .i64 te, .slice B4 tm.length d4] #[.int .i64 0, .slice none 0 0, .int .i64 0, .int .i64 0, .int .i64 0, .slice none 0 0, .int .i64 0, .slice none 0 0] rfl rfl M4.out.z size_Bk rfl (by simp [Value.oneCell']) ?_)
  refine bodyPost_ret (results_cell_row Try.results62 _ _ W.heap.size 74 #[.int .i64 n1, .slice A3 n2.length c3, .int .i64 tk, .int .i64 ta, .int .i64 tt, .slice A4 tl.length c4, .int .i64 te, .slice B4 tm.length d4] (0, 0) _ rfl HRW.out.2 Try.underlying74 rfl size_Bk) rfl ?_
  exact ⟨_, rfl, ⟨_, _, _, _, _, _, rfl, F3_pcpz.out.thin (Nat.le_trans M1.out.g.size LEQ_F3.out), F4_pz.out.thin (Nat.le_trans M1.out.g.size LEQ_F4.out), G4_pz.out.thin (Nat.le_trans M1.out.g.size LEQ_G4.out)⟩, HRW.out.1⟩
end Q
end Go.Proofs.Ytjldddpchiaalaa
