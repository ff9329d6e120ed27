/- Package bit: a reader: a thing that is made of what is taken. -/
import Derived.Test.YtjldddpchiaalaaUI
namespace Go.Proofs.Ytjldddpchiaalaa
open Go.RowKit
namespace Q

set_option maxRecDepth 100000 in
set_option maxHeartbeats 4000000 in
theorem rmodule_any {rb : Nat} {r : St} {W : World} (h : Rd W rb r) :
    Calls Try.prog 19 #[.pointer (some ⟨rb, 0, none⟩)] W fun e w' => ∃ A c A' c', e = .returned (.agg #[.slice A (modR r).1.f.length c, .slice A' (modR r).1.g.length c']) ∧ Fresh W.heap.size w' (fun U => MdAt U (.slice A (modR r).1.f.length c) (.slice A' (modR r).1.g.length c') (modR r).1) ∧ RdTo W rb (modR r).2 w' := by
  obtain ⟨zo, hzo⟩ : ∃ o, Obj.cells #[.slice none 0 0, .slice none 0 0] 25 (0, 0) = o := ⟨_, rfl⟩
  have HH := Lib.hid h
  obtain ⟨⟨n1, r1⟩, q1⟩ : ∃ t, rowR 16 funcR r = t := ⟨_, rfl⟩
  have H1 := Lib.hid (fun (U : World) (hU : Rd U rb r) => (show Calls Try.prog 40 #[.pointer (some ⟨rb, 0, none⟩), .int .u64 16, .func (.func 41) #[.pointer (some ⟨rb, 0, none⟩)] #[]] U fun e w' => ∃ A c, e = .returned (.slice A n1.length c) ∧ Fresh U.heap.size w' (fun V => Funcs V (.slice A n1.length c) n1) ∧ RdTo U rb r1 w' from by
    have h := takeFn_any funcR 41 16 hU (by decide) cf_rfunc (fun q V hV => func_any hV)
    rw [q1] at h
    exact h))
  obtain ⟨⟨n2, r2⟩, q2⟩ : ∃ t, rowR 16 globR r1 = t := ⟨_, rfl⟩
  have H2 := Lib.hid (fun (U : World) (hU : Rd U rb r1) => (show Calls Try.prog 42 #[.pointer (some ⟨rb, 0, none⟩), .int .u64 16, .func (.func 43) #[.pointer (some ⟨rb, 0, none⟩)] #[]] U fun e w' => ∃ A c, e = .returned (.slice A n2.length c) ∧ Fresh U.heap.size w' (fun V => Globs V (.slice A n2.length c) n2) ∧ RdTo U rb r2 w' from by
    have h := takeGl_any globR 43 16 hU (by decide) cf_rglob (fun q V hV => glob_any hV)
    rw [q2] at h
    exact h))
  have HE := Lib.hid (show modR r = (⟨n1, n2⟩, r2) by unfold modR; rw [q1]; dsimp only; rw [q2])
  rw [HE.out]
  have M1 := Lib.hid (show Mk W rb r (W.heap.size + 1) W.heap.size 25 #[.slice none 0 0, .slice none 0 0] #[.slice none 0 0, .slice none 0 0] ((W.alloc zo).alloc zo) from by
    have k2 := (rd_alloc h zo).then_ (rd_alloc (rd_alloc h zo).1 zo)
    refine ⟨k2.1, k2.2, ?_, ?_, by omega, Nat.le_refl _, by omega, h.lt⟩
    · have := heap_alloc_new (W.alloc zo) zo
      rw [World.size_alloc] at this
      unfold Whole; rw [this, hzo]
    · unfold Whole; rw [Lib.alloc_old _ zo _ (by rw [World.size_alloc]; omega), heap_alloc_new, hzo])
  obtain ⟨W1, hW1⟩ : ∃ U, (W.alloc zo).alloc zo = U := ⟨_, rfl⟩
  rw [hW1] at M1
  subst hzo
  clear h q1 q2
  go_enter Try.func19, Try.ntmps19
  go_wp2_with fail
  try rw [hW1]
  clear hW1
  refine (H1.out _ M1.out.rd).mono ?_
  rintro e w2 ⟨A2, c2, rfl, F2, k2⟩
  have N2 := Lib.hid (M1.out.call k2)
  have F2_ := Lib.hid F2
  have LEQ_F2 := Lib.hid (show W1.heap.size ≤ W1.heap.size from Nat.le_refl _)
  have b2_0 : w2.cell? ⟨W.heap.size + 1, 0, none⟩ = some (.slice none 0 0) := N2.out.b.cell 0
  have b2_1 : w2.cell? ⟨W.heap.size + 1, 1, none⟩ = some (.slice none 0 0) := N2.out.b.cell 1
  have f2_0 : w2.frozen? ⟨W.heap.size + 1, 0, none⟩ = false := N2.out.b.free 0
  have M2 := Lib.hid (show Mk W rb r1 (W.heap.size + 1) W.heap.size 25 #[.slice A2 n1.length c2, .slice none 0 0] #[.slice none 0 0, .slice none 0 0] (w2.setCell ⟨W.heap.size + 1, 0, none⟩ (.slice A2 n1.length c2)) from (N2.out.put 0 (.slice A2 n1.length c2)))
  have F2_p := Lib.hid ((F2_.out.put 0 (.slice A2 n1.length c2) (Nat.lt_of_lt_of_le M1.out.b.lt LEQ_F2.out)))
  have LW2 := Lib.hid (show W1.heap.size ≤ (w2.setCell ⟨W.heap.size + 1, 0, none⟩ (.slice A2 n1.length c2)).heap.size from by simp only [World.size_setCell]; exact Nat.le_trans (Nat.le_refl _) k2.2.size)
  obtain ⟨W2, hW2⟩ : ∃ U, (w2.setCell ⟨W.heap.size + 1, 0, none⟩ (.slice A2 n1.length c2)) = U := ⟨_, rfl⟩
  rw [hW2] at M2 LW2 F2_p
  clear F2
  clear k2
  go_wp2_with fail
  try rw [hW2]
  clear hW2
  refine (H2.out _ M2.out.rd).mono ?_
  rintro e w3 ⟨A3, c3, rfl, F3, k3⟩
  have N3 := Lib.hid (M2.out.call k3)
  have F2_pc := Lib.hid (F2_p.out.later k3.2 (fun r e => by cases e; exact Nat.lt_of_lt_of_le M1.out.hrb (Nat.le_trans M1.out.g.size LEQ_F2.out)))
  have F3_ := Lib.hid F3
  have LEQ_F3 := Lib.hid (show W1.heap.size ≤ W2.heap.size from LW2.out)
  have b3_0 : w3.cell? ⟨W.heap.size + 1, 0, none⟩ = some (.slice A2 n1.length c2) := N3.out.b.cell 0
  have b3_1 : w3.cell? ⟨W.heap.size + 1, 1, none⟩ = some (.slice none 0 0) := N3.out.b.cell 1
  have f3_1 : w3.frozen? ⟨W.heap.size + 1, 1, none⟩ = false := N3.out.b.free 1
  have M3 := Lib.hid (show Mk W rb r2 (W.heap.size + 1) W.heap.size 25 #[.slice A2 n1.length c2, .slice A3 n2.length c3] #[.slice none 0 0, .slice none 0 0] (w3.setCell ⟨W.heap.size + 1, 1, none⟩ (.slice A3 n2.length c3)) from (N3.out.put 1 (.slice A3 n2.length c3)))
  have F2_pcp := Lib.hid ((F2_pc.out.put 1 (.slice A3 n2.length c3) (Nat.lt_of_lt_of_le M1.out.b.lt LEQ_F2.out)))
  have F3_p := Lib.hid ((F3_.out.put 1 (.slice A3 n2.length c3) (Nat.lt_of_lt_of_le M1.out.b.lt LEQ_F3.out)))
  have LW3 := Lib.hid (show W1.heap.size ≤ (w3.setCell ⟨W.heap.size + 1, 1, none⟩ (.slice A3 n2.length c3)).heap.size from by simp only [World.size_setCell]; exact Nat.le_trans LW2.out k3.2.size)
  clear F3
  clear k3
  have HRW := Lib.hid M3.out.row
  have F2_pcpz := Lib.hid (F2_pcp.out.later (setRow_grown _ W.heap.size #[.slice A2 n1.length c2, .slice A3 n2.length c3]) (fun r e => by cases e; exact Nat.lt_of_lt_of_le M1.out.z.lt LEQ_F2.out))
  have F3_pz := Lib.hid (F3_p.out.later (setRow_grown _ W.heap.size #[.slice A2 n1.length c2, .slice A3 n2.length c3]) (fun r e => by cases e; exact Nat.lt_of_lt_of_le M1.out.z.lt LEQ_F3.out))
  go_wp2_with (refine store_whole (T := 25) rfl _ _ rfl W.heap.size #[.slice A2 n1.length c2, .slice A3 n2.length c3] #[.slice none 0 0, .slice none 0 0] rfl rfl M3.out.z size_Md rfl (by simp [Value.oneCell']) ?_)
  refine bodyPost_ret (results_cell_row Try.results19 _ _ W.heap.size 25 #[.slice A2 n1.length c2, .slice A3 n2.length c3] (0, 0) _ rfl HRW.out.2 Try.underlying25 rfl size_Md) rfl ?_
  exact ⟨_, _, _, _, rfl, fun U hU => ⟨(F2_pcpz.out.thin (Nat.le_trans M1.out.g.size LEQ_F2.out)) U hU, (F3_pz.out.thin (Nat.le_trans M1.out.g.size LEQ_F3.out)) U hU⟩, HRW.out.1⟩
end Q
end Go.Proofs.Ytjldddpchiaalaa
