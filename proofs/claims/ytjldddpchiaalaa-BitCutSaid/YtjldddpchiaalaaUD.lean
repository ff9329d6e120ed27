/- Package bit: a reader: a thing that is made of what is taken. -/
import Derived.Test.YtjldddpchiaalaaUC
namespace Go.Proofs.Ytjldddpchiaalaa
open Go.RowKit
namespace Q

/-- where a call stands that makes a thing: the reader, the thing's own block, the answer's -/
structure Mk (W0 : World) (rb : Nat) (r : St) (B R : Nat) (T : TypeId) (cs zs : Array Value) (W : World) : Prop where
  rd : Rd W rb r
  g : W0.grownBy W (some rb)
  b : Whole W B T cs
  z : Whole W R T zs
  hb : W0.heap.size ≤ B
  hr : W0.heap.size ≤ R
  ne : B ≠ R
  hrb : rb < W0.heap.size
theorem Mk.call {W0 W W' : World} {rb B R : Nat} {r r' : St} {T : TypeId} {cs zs : Array Value} (h : Mk W0 rb r B R T cs zs W) (k : RdTo W rb r' W') : Mk W0 rb r' B R T cs zs W' :=
  ⟨k.1, h.g.trans k.2, (k.2.block B h.b.lt (fun e => by have := Option.some.inj e; have := h.hb; have := h.hrb; omega)).trans h.b, (k.2.block R h.z.lt (fun e => by have := Option.some.inj e; have := h.hr; have := h.hrb; omega)).trans h.z, h.hb, h.hr, h.ne, h.hrb⟩
theorem Rd.set {W : World} {rb : Nat} {r : St} (h : Rd W rb r) (p : Addr) (u : Value) (hp : rb ≠ p.block) : Rd (W.setCell p u) rb r := ⟨(Below.heap_setCell W p u rb hp).trans h.1, h.2⟩
theorem Mk.put {W0 W : World} {rb B R : Nat} {r : St} {T : TypeId} {cs zs : Array Value} (h : Mk W0 rb r B R T cs zs W) (j : Nat) (u : Value) : Mk W0 rb r B R T (cs.setIfInBounds j u) zs (W.setCell ⟨B, j, none⟩ u) :=
  have hne : rb ≠ B := by have := h.hb; have := h.hrb; omega
  ⟨h.rd.set _ _ hne, h.g.andThen (setc_grown W ⟨B, j, none⟩ u) (fun q hq => .inl (by cases hq; exact h.hb)), h.b.put j u, (Below.heap_setCell W ⟨B, j, none⟩ u R h.ne.symm).trans h.z, h.hb, h.hr, h.ne, h.hrb⟩
theorem Fresh.put {n : Nat} {W : World} {P : World → Prop} (h : Fresh n W P) {B : Nat} (j : Nat) (u : Value) (hB : B < n) : Fresh n (W.setCell ⟨B, j, none⟩ u) P :=
  h.later (setc_grown W ⟨B, j, none⟩ u) (fun r e => by cases e; exact hB)
theorem setRow_grown (W : World) (R : Nat) (cs : Array Value) : W.grownBy (W.setRow R cs) (some R) :=
  ⟨rfl, rfl, rfl, by simp [World.setRow], fun k _ hk => by simp [World.setRow, Array.getElem?_modify, show ¬ R = k from fun e => hk (by rw [e])]⟩
theorem Mk.row {W0 W : World} {rb B R : Nat} {r : St} {T : TypeId} {cs zs : Array Value} (h : Mk W0 rb r B R T cs zs W) : RdTo W0 rb r (W.setRow R cs) ∧ Whole (W.setRow R cs) R T cs := by
  have hne : rb ≠ R := by have := h.hr; have := h.hrb; omega
  refine ⟨⟨⟨((setRow_grown W R cs).block rb h.rd.lt (fun e => hne (Option.some.inj e))).trans h.rd.1, h.rd.2⟩, h.g.andThen (setRow_grown W R cs) (fun q hq => .inl (by cases hq; exact h.hr))⟩, ?_⟩
  have hz := h.z
  unfold Whole at hz ⊢
  simp [World.setRow, Array.getElem?_modify, hz]
theorem store_whole {ops : Array Oper} {rest : List Oper} {o : Oper} {a : Act} {w : World} {Q : Exit → Act → World → Prop} {T : TypeId} (hgd : o.guard = none) (x y : Operand) (ho : o.op = .store T x y)
    (R : Nat) (cs zs : Array Value) (hx : a.eval x = .pointer (some ⟨R, 0, none⟩)) (hy : a.eval y = .agg cs) (hM : Whole w R T zs) (hi : (Try.prog.info? T).map (·.size) = some cs.size) (hs : zs.size = cs.size) (h1 : cs.all (·.oneCell') = true)
    (h : wpList Try.prog ops Q rest (a.put o.dst undef) (w.setRow R cs)) : wpList Try.prog ops Q (o :: rest) a w :=
  wpList_plain hgd fun _ hK => wp_store_row _ x y ho R cs hx hy _ _ hM hi hs h1 (hK _ _ h)
theorem size_In : (Try.prog.info? 76).map (·.size) = some 6 := by kernel_rfl
theorem size_Tm : (Try.prog.info? 72).map (·.size) = some 6 := by kernel_rfl
theorem size_Bk : (Try.prog.info? 74).map (·.size) = some 8 := by kernel_rfl
theorem size_Fn : (Try.prog.info? 60).map (·.size) = some 4 := by kernel_rfl
theorem size_Gl : (Try.prog.info? 62).map (·.size) = some 4 := by kernel_rfl
theorem size_Md : (Try.prog.info? 25).map (·.size) = some 2 := by kernel_rfl
theorem rd_alloc {W : World} {rb : Nat} {r : St} (h : Rd W rb r) (o : Obj) : RdTo W rb r (W.alloc o) := h.below (balloc (Below.refl _ W) o)
theorem cf_number : ∀ args U, (callFunc 60 args).run Try.prog U = .ok (.enter 60 args) U := fun _ _ => by kernel_rfl
theorem cf_rinst : ∀ args U, (callFunc 77 args).run Try.prog U = .ok (.enter 77 args) U := fun _ _ => by kernel_rfl
theorem cf_rblock : ∀ args U, (callFunc 62 args).run Try.prog U = .ok (.enter 62 args) U := fun _ _ => by kernel_rfl
theorem cf_rfunc : ∀ args U, (callFunc 41 args).run Try.prog U = .ok (.enter 41 args) U := fun _ _ => by kernel_rfl
theorem cf_rglob : ∀ args U, (callFunc 43 args).run Try.prog U = .ok (.enter 43 args) U := fun _ _ => by kernel_rfl
set_option maxRecDepth 100000 in
theorem values_any {rb : Nat} {r : St} {W : World} (h : Rd W rb r) : Calls Try.prog 86 #[.pointer (some ⟨rb, 0, none⟩)] W fun e w' => ∃ A c, e = .returned (.slice A (valsR r).1.length c) ∧ Fresh W.heap.size w' (fun U => Ints U (.slice A (valsR r).1.length c) (valsR r).1) ∧ RdTo W rb (valsR r).2 w' := by
  have HT := Lib.hid (takeInt_any intR 60 6 h (by decide) cf_number (fun q U hU => (number_any hU).mono (by rintro e w' ⟨rfl, h2⟩; exact ⟨_, rfl, rfl, h2⟩)))
  unfold valsR
  clear h
  go_enter Try.func86, Try.ntmps86
  go_wp2_with fail
  refine HT.out.mono ?_
  rintro e w1 ⟨A, c, rfl, hF, hR⟩
  have HF := Lib.hid hF
  have HR := Lib.hid hR
  clear hF hR HT
  go_wp2_with fail
  go_ret
  exact ⟨_, _, rfl, HF.out, HR.out⟩
set_option maxRecDepth 100000 in
set_option maxHeartbeats 4000000 in
theorem glob_any {rb : Nat} {r : St} {W : World} (h : Rd W rb r) :
    Calls Try.prog 43 #[.pointer (some ⟨rb, 0, none⟩)] W fun e w' => ∃ val, e = .returned val ∧ EpGl (globR r).1 W.heap.size w' val ∧ RdTo W rb (globR r).2 w' := by
  obtain ⟨zo, hzo⟩ : ∃ o, Obj.cells #[.string ⟨#[]⟩, .int .i64 0, .bool false, .int .u64 0] 62 (0, 0) = o := ⟨_, rfl⟩
  have HH := Lib.hid h
  obtain ⟨⟨l1, r1⟩, q1⟩ : ∃ t, textR r = t := ⟨_, rfl⟩
  obtain ⟨⟨n2, r2⟩, q2⟩ : ∃ t, numR r1 = t := ⟨_, rfl⟩
  obtain ⟨⟨n3, r3⟩, q3⟩ : ∃ t, betweenR 0 1 3 r2 = t := ⟨_, rfl⟩
  obtain ⟨⟨n4, r4⟩, q4⟩ : ∃ t, wideR r3 = t := ⟨_, rfl⟩
  obtain ⟨hb, qb⟩ : ∃ t, decide (n3 = 1) = t := ⟨_, rfl⟩
  have HE := Lib.hid (show globR r = (⟨strB l1, n2, hb, n4⟩, r4) by unfold globR; rw [q1]; dsimp only; rw [q2]; dsimp only; rw [q3]; dsimp only; rw [q4, qb])
  rw [HE.out]
  have e1 : ((n3 : Int) == 1) = hb := by rw [← qb]; by_cases h : n3 = 1 <;> simp [h]; omega
  have H1 := Lib.hid (fun (U : World) (hU : Rd U rb r) => text_any hU)
  have H2 := Lib.hid (fun (U : World) (hU : Rd U rb r1) => number_any hU)
  have H3 := Lib.hid (fun (U : World) (hU : Rd U rb r2) => between_any 0 1 3 (by decide) hU)
  have H4 := Lib.hid (fun (U : World) (hU : Rd U rb r3) => wide_any hU)
  unfold intR at H2
  rw [q1] at H1
  rw [q2] at H2
  rw [q3] at H3
  rw [q4] at H4
  dsimp only at H1 H2 H3 H4
  have M1 := Lib.hid (show Mk W rb r (W.heap.size + 1) W.heap.size 62 #[.string ⟨#[]⟩, .int .i64 0, .bool false, .int .u64 0] #[.string ⟨#[]⟩, .int .i64 0, .bool false, .int .u64 0] ((W.alloc zo).alloc zo) from by
    have k2 := (rd_alloc h zo).then_ (rd_alloc (rd_alloc h zo).1 zo)
    refine ⟨k2.1, k2.2, ?_, ?_, by omega, Nat.le_refl _, by omega, h.lt⟩
    · have := heap_alloc_new (W.alloc zo) zo
      rw [World.size_alloc] at this
      unfold Whole; rw [this, hzo]
    · unfold Whole; rw [Lib.alloc_old _ zo _ (by rw [World.size_alloc]; omega), heap_alloc_new, hzo])
  obtain ⟨W1, hW1⟩ : ∃ U, (W.alloc zo).alloc zo = U := ⟨_, rfl⟩
  rw [hW1] at M1
  subst hzo
  clear h q1 q2 q3 q4 qb
  go_enter Try.func43, Try.ntmps43
  go_wp2_with fail
  try rw [hW1]
  clear hW1
  refine (H1.out _ M1.out.rd).mono ?_
  rintro e w2 ⟨rfl, k2⟩
  have N2 := Lib.hid (M1.out.call k2)
  have b2_0 : w2.cell? ⟨W.heap.size + 1, 0, none⟩ = some (.string ⟨#[]⟩) := N2.out.b.cell 0
  have b2_1 : w2.cell? ⟨W.heap.size + 1, 1, none⟩ = some (.int .i64 0) := N2.out.b.cell 1
  have b2_2 : w2.cell? ⟨W.heap.size + 1, 2, none⟩ = some (.bool false) := N2.out.b.cell 2
  have b2_3 : w2.cell? ⟨W.heap.size + 1, 3, none⟩ = some (.int .u64 0) := N2.out.b.cell 3
  have f2_0 : w2.frozen? ⟨W.heap.size + 1, 0, none⟩ = false := N2.out.b.free 0
  have M2 := Lib.hid (show Mk W rb r1 (W.heap.size + 1) W.heap.size 62 #[.string (strB l1), .int .i64 0, .bool false, .int .u64 0] #[.string ⟨#[]⟩, .int .i64 0, .bool false, .int .u64 0] (w2.setCell ⟨W.heap.size + 1, 0, none⟩ (.string (strB l1))) from (N2.out.put 0 (.string (strB l1))))
  have LW2 := Lib.hid (show W1.heap.size ≤ (w2.setCell ⟨W.heap.size + 1, 0, none⟩ (.string (strB l1))).heap.size from by simp only [World.size_setCell]; exact Nat.le_trans (Nat.le_refl _) k2.2.size)
  obtain ⟨W2, hW2⟩ : ∃ U, (w2.setCell ⟨W.heap.size + 1, 0, none⟩ (.string (strB l1))) = U := ⟨_, rfl⟩
  rw [hW2] at M2 LW2
  clear k2
  go_wp2_with fail
  try rw [hW2]
  clear hW2
  refine (H2.out _ M2.out.rd).mono ?_
  rintro e w3 ⟨rfl, k3⟩
  have N3 := Lib.hid (M2.out.call k3)
  have b3_0 : w3.cell? ⟨W.heap.size + 1, 0, none⟩ = some (.string (strB l1)) := N3.out.b.cell 0
  have b3_1 : w3.cell? ⟨W.heap.size + 1, 1, none⟩ = some (.int .i64 0) := N3.out.b.cell 1
  have b3_2 : w3.cell? ⟨W.heap.size + 1, 2, none⟩ = some (.bool false) := N3.out.b.cell 2
  have b3_3 : w3.cell? ⟨W.heap.size + 1, 3, none⟩ = some (.int .u64 0) := N3.out.b.cell 3
  have f3_1 : w3.frozen? ⟨W.heap.size + 1, 1, none⟩ = false := N3.out.b.free 1
  have M3 := Lib.hid (show Mk W rb r2 (W.heap.size + 1) W.heap.size 62 #[.string (strB l1), .int .i64 n2, .bool false, .int .u64 0] #[.string ⟨#[]⟩, .int .i64 0, .bool false, .int .u64 0] (w3.setCell ⟨W.heap.size + 1, 1, none⟩ (.int .i64 n2)) from (N3.out.put 1 (.int .i64 n2)))
  have LW3 := Lib.hid (show W1.heap.size ≤ (w3.setCell ⟨W.heap.size + 1, 1, none⟩ (.int .i64 n2)).heap.size from by simp only [World.size_setCell]; exact Nat.le_trans LW2.out k3.2.size)
  obtain ⟨W3, hW3⟩ : ∃ U, (w3.setCell ⟨W.heap.size + 1, 1, none⟩ (.int .i64 n2)) = U := ⟨_, rfl⟩
  rw [hW3] at M3 LW3
  clear k3
  go_wp2_with fail
  try rw [hW3]
  clear hW3
  refine (H3.out _ M3.out.rd).mono ?_
  rintro e w4 ⟨rfl, k4⟩
  have N4 := Lib.hid (M3.out.call k4)
  have b4_0 : w4.cell? ⟨W.heap.size + 1, 0, none⟩ = some (.string (strB l1)) := N4.out.b.cell 0
  have b4_1 : w4.cell? ⟨W.heap.size + 1, 1, none⟩ = some (.int .i64 n2) := N4.out.b.cell 1
  have b4_2 : w4.cell? ⟨W.heap.size + 1, 2, none⟩ = some (.bool false) := N4.out.b.cell 2
  have b4_3 : w4.cell? ⟨W.heap.size + 1, 3, none⟩ = some (.int .u64 0) := N4.out.b.cell 3
  have f4_2 : w4.frozen? ⟨W.heap.size + 1, 2, none⟩ = false := N4.out.b.free 2
  have M4 := Lib.hid (show Mk W rb r3 (W.heap.size + 1) W.heap.size 62 #[.string (strB l1), .int .i64 n2, .bool hb, .int .u64 0] #[.string ⟨#[]⟩, .int .i64 0, .bool false, .int .u64 0] (w4.setCell ⟨W.heap.size + 1, 2, none⟩ (.bool hb)) from (N4.out.put 2 (.bool hb)))
  have LW4 := Lib.hid (show W1.heap.size ≤ (w4.setCell ⟨W.heap.size + 1, 2, none⟩ (.bool hb)).heap.size from by simp only [World.size_setCell]; exact Nat.le_trans LW3.out k4.2.size)
  obtain ⟨W4, hW4⟩ : ∃ U, (w4.setCell ⟨W.heap.size + 1, 2, none⟩ (.bool hb)) = U := ⟨_, rfl⟩
  rw [hW4] at M4 LW4
  clear k4
  go_wp2_with fail
  try rw [hW4]
  clear hW4
  refine (H4.out _ M4.out.rd).mono ?_
  rintro e w5 ⟨rfl, k5⟩
  have N5 := Lib.hid (M4.out.call k5)
  have b5_0 : w5.cell? ⟨W.heap.size + 1, 0, none⟩ = some (.string (strB l1)) := N5.out.b.cell 0
  have b5_1 : w5.cell? ⟨W.heap.size + 1, 1, none⟩ = some (.int .i64 n2) := N5.out.b.cell 1
  have b5_2 : w5.cell? ⟨W.heap.size + 1, 2, none⟩ = some (.bool hb) := N5.out.b.cell 2
  have b5_3 : w5.cell? ⟨W.heap.size + 1, 3, none⟩ = some (.int .u64 0) := N5.out.b.cell 3
  have f5_3 : w5.frozen? ⟨W.heap.size + 1, 3, none⟩ = false := N5.out.b.free 3
  have M5 := Lib.hid (show Mk W rb r4 (W.heap.size + 1) W.heap.size 62 #[.string (strB l1), .int .i64 n2, .bool hb, .int .u64 n4] #[.string ⟨#[]⟩, .int .i64 0, .bool false, .int .u64 0] (w5.setCell ⟨W.heap.size + 1, 3, none⟩ (.int .u64 n4)) from (N5.out.put 3 (.int .u64 n4)))
  have LW5 := Lib.hid (show W1.heap.size ≤ (w5.setCell ⟨W.heap.size + 1, 3, none⟩ (.int .u64 n4)).heap.size from by simp only [World.size_setCell]; exact Nat.le_trans LW4.out k5.2.size)
  clear k5
  have HRW := Lib.hid M5.out.row
  go_wp2_with (refine store_whole (T := 62) rfl _ _ rfl W.heap.size #[.string (strB l1), .int .i64 n2, .bool hb, .int .u64 n4] #[.string ⟨#[]⟩, .int .i64 0, .bool false, .int .u64 0] rfl rfl M5.out.z size_Gl rfl (by simp [Value.oneCell']) ?_)
  refine bodyPost_ret (results_cell_row Try.results43 _ _ W.heap.size 62 #[.string (strB l1), .int .i64 n2, .bool hb, .int .u64 n4] (0, 0) _ rfl HRW.out.2 Try.underlying62 rfl size_Gl) rfl ?_
  exact ⟨_, rfl, rfl, HRW.out.1⟩
/-- what a call that takes an end gives back -/
def EpTm (x : Tm) (n : Nat) (w' : World) (val : Value) : Prop := ∃ A c A' c', val = .agg #[.int .i64 x.k, .int .i64 x.a, .int .i64 x.t, .slice A x.l.length c, .int .i64 x.e, .slice A' x.m.length c'] ∧ Fresh n w' (fun U => Ints U (.slice A x.l.length c) x.l) ∧ Fresh n w' (fun U => Ints U (.slice A' x.m.length c') x.m)
theorem no_ints (U : World) : Ints U (.slice none 0 0) [] := .inl ⟨rfl, .inl rfl⟩
end Q
end Go.Proofs.Ytjldddpchiaalaa
