/- EvalAhead: the walk. -/
import Derived.Test.YtkalgiaapkjplaaVH
import Derived.BigQuiet
namespace Go.Proofs.Ytkalgiaapkjplaa
open Go.RowKit

/-- a run that has gone on -/
structure Ext (s t : Rs) : Prop where
  out : s.out <+: t.out
  rd : s.read ≤ t.read
  de : s.deep ≤ t.deep
  st : s.steps ≤ t.steps
theorem Ext.refl (s : Rs) : Ext s s := ⟨List.prefix_refl _, Nat.le_refl _, Nat.le_refl _, Nat.le_refl _⟩
theorem Ext.trans {s t u : Rs} (h : Ext s t) (k : Ext t u) : Ext s u := ⟨h.out.trans k.out, Nat.le_trans h.rd k.rd, Nat.le_trans h.de k.de, Nat.le_trans h.st k.st⟩
theorem value_ext {inp : ByteArray} {s : Rs} {i : In} {vs : List Int} : s.out <+: (valueE inp s i vs).2.out ∧ s.read ≤ (valueE inp s i vs).2.read ∧ (valueE inp s i vs).2.deep = s.deep ∧ (valueE inp s i vs).2.steps = s.steps := by
  unfold valueE
  split; · exact ⟨List.prefix_refl _, Nat.le_refl _, rfl, rfl⟩
  split; · exact ⟨List.prefix_refl _, Nat.le_refl _, rfl, rfl⟩
  split; · exact ⟨List.prefix_refl _, Nat.le_refl _, rfl, rfl⟩
  split
  · unfold readE
    simp only
    split
    · exact ⟨List.prefix_refl _, by simp only; omega, rfl, rfl⟩
    · exact ⟨List.prefix_refl _, Nat.le_refl _, rfl, rfl⟩
  split; · exact ⟨List.prefix_append _ _, Nat.le_refl _, rfl, rfl⟩
  exact ⟨List.prefix_refl _, Nat.le_refl _, rfl, rfl⟩
theorem tick_ext {m : Md} {inp : ByteArray} {dp : Nat} {s : Rs} {c : Cl} {r : List Cl} : Ext s (tick m inp dp s c r).1 ∧ ((tick m inp dp s c r).2 = true → (tick m inp dp s c r).1.steps = s.steps + 1) := by
  unfold tick
  split
  · exact ⟨Ext.refl s, fun h => by cases h⟩
  · rename_i b _
    simp only
    split
    · rename_i i _
      by_cases ho : i.o = 14
      · rw [if_pos ho]
        by_cases hd' : r.length + 1 = dp
        · rw [if_pos hd']
          exact ⟨⟨List.prefix_refl _, Nat.le_refl _, Nat.le_refl _, by simp⟩, fun h => by cases h⟩
        · rw [if_neg hd']
          exact ⟨⟨List.prefix_refl _, Nat.le_refl _, by simp only; omega, by simp⟩, fun _ => rfl⟩
      · rw [if_neg ho]
        obtain ⟨a, b', c', d⟩ := value_ext (inp := inp) (s := { s with steps := s.steps + 1 }) (i := i) (vs := c.vs)
        simp only at a b' c' d
        exact ⟨⟨a, b', by simp only; omega, by simp only; omega⟩, fun _ => d⟩
    · simp only
      obtain ⟨a, b', c', d, -⟩ := end_bnd { s with steps := s.steps + 1 } c r b.e
      simp only at a b' c' d
      exact ⟨⟨by rw [b']; exact List.prefix_refl _, by omega, by omega, by omega⟩, fun _ => d⟩
theorem run_ext {m : Md} {inp : ByteArray} {dp : Nat} : ∀ (n : Nat) (s : Rs), Ext s (runE m inp dp n s).1 := by
  intro n
  induction n with
  | zero =>
    intro s
    unfold runE
    split <;> exact Ext.refl s
  | succ n ih =>
    intro s
    unfold runE
    split
    · exact Ext.refl s
    · rename_i c r _
      have ht := (tick_ext (m := m) (inp := inp) (dp := dp) (s := s) (c := c) (r := r)).1
      split
      · rename_i s' hq
        rw [hq] at ht
        exact ht.trans (ih s')
      · rename_i s' hq
        rw [hq] at ht
        exact ht
/-- more fuel: the same, or on from where it stopped -/
theorem run_split {m : Md} {inp : ByteArray} {dp : Nat} (k : Nat) : ∀ (n : Nat) (s : Rs),
    ((runE m inp dp n s).2 ≠ 12 → runE m inp dp (n + k) s = runE m inp dp n s) ∧
    ((runE m inp dp n s).2 = 12 → runE m inp dp (n + k) s = runE m inp dp k (runE m inp dp n s).1 ∧ (runE m inp dp n s).1.steps = s.steps + n) := by
  intro n
  induction n with
  | zero =>
    intro s
    obtain ⟨l, hl⟩ : ∃ l, s.cs = l := ⟨_, rfl⟩
    cases l with
    | nil =>
      have h0 : runE m inp dp 0 s = (s, 0) := by unfold runE; rw [hl]
      have hk : runE m inp dp (0 + k) s = (s, 0) := by
        rw [Nat.zero_add]
        cases k <;> (unfold runE; rw [hl])
      rw [h0, hk]
      exact ⟨fun _ => rfl, fun h => by simp at h⟩
    | cons c r =>
      have h0 : runE m inp dp 0 s = (s, 12) := by unfold runE; rw [hl]
      rw [h0, Nat.zero_add]
      exact ⟨fun h => absurd rfl h, fun _ => ⟨rfl, rfl⟩⟩
  | succ n ih =>
    intro s
    rw [show n + 1 + k = n + k + 1 by omega]
    obtain ⟨l, hl⟩ : ∃ l, s.cs = l := ⟨_, rfl⟩
    cases l with
    | nil =>
      have h0 : ∀ j, runE m inp dp (j + 1) s = (s, 0) := fun j => by unfold runE; rw [hl]
      rw [h0, h0]
      exact ⟨fun _ => rfl, fun h => by simp at h⟩
    | cons c r =>
      have ht := (tick_ext (m := m) (inp := inp) (dp := dp) (s := s) (c := c) (r := r)).2
      obtain ⟨⟨s', b⟩, hq⟩ : ∃ q, tick m inp dp s c r = q := ⟨_, rfl⟩
      rw [hq] at ht
      cases b with
      | true =>
        have h0 : ∀ j, runE m inp dp (j + 1) s = runE m inp dp j s' := fun j => by rw [runE, hl]; simp only [hq]
        rw [h0, h0]
        obtain ⟨i1, i2⟩ := ih s'
        have := ht rfl
        exact ⟨i1, fun h => ⟨(i2 h).1, by have := (i2 h).2; simp only at *; omega⟩⟩
      | false =>
        have h0 : ∀ j, runE m inp dp (j + 1) s = (s', 13) := fun j => by rw [runE, hl]; simp only [hq]
        rw [h0, h0]
        exact ⟨fun _ => rfl, fun h => by simp at h⟩
theorem check_code (m : Md) : checkE m = 0 ∨ checkE m = 1 ∨ checkE m = 4 ∨ checkE m = 8 ∨ checkE m = 9 ∨ checkE m = 10 := by
  unfold checkE foundE
  (repeat' split) <;> simp
theorem whole_code (m : Md) : wholeE m ≠ 12 ∧ wholeE m ≠ 13 := by
  have hc := check_code m
  unfold wholeE
  split
  · (repeat' split) <;> decide
  · omega

/-- two inputs that are the same as far as R, and go on -/
structure Agree (inp inq : ByteArray) (R : Nat) : Prop where
  h1 : R < inp.size
  h2 : R < inq.size
  eq : ∀ i (h : i < inp.size) (h' : i < inq.size), i ≤ R → inp[i] = inq[i]
theorem read_ahead {inp inq : ByteArray} {R : Nat} {s : Rs} (h : Agree inp inq R) (hs : s.read ≤ R) : readE inp s = readE inq s := by
  have a1 : s.read < inp.size := Nat.lt_of_le_of_lt hs h.h1
  have a2 : s.read < inq.size := Nat.lt_of_le_of_lt hs h.h2
  unfold readE byteE
  simp only [dif_pos a1, dif_pos a2, if_pos a1, if_pos a2, h.eq _ a1 a2 hs]
theorem value_ahead {inp inq : ByteArray} {R : Nat} {s : Rs} {i : In} {vs : List Int} (h : Agree inp inq R) (hs : s.read ≤ R) : valueE inp s i vs = valueE inq s i vs := by
  unfold valueE
  split; · rfl
  split; · rfl
  split; · rfl
  split
  · exact read_ahead h hs
  split <;> rfl
theorem tick_ahead {m : Md} {inp inq : ByteArray} {dp R : Nat} {s : Rs} {c : Cl} {r : List Cl} (h : Agree inp inq R) (hs : s.read ≤ R) : tick m inp dp s c r = tick m inq dp s c r := by
  unfold tick
  split
  · rfl
  · simp only
    split
    · rename_i i hi
      by_cases ho : i.o = 14
      · rw [if_pos ho, if_pos ho]
      · rw [if_neg ho, if_neg ho, value_ahead (s := { s with steps := s.steps + 1 }) (i := i) (vs := c.vs) h hs]
    · rfl
theorem run_ahead {m : Md} {inp inq : ByteArray} {dp R : Nat} (h : Agree inp inq R) : ∀ (n : Nat) (s : Rs), (runE m inp dp n s).1.read ≤ R → runE m inp dp n s = runE m inq dp n s := by
  intro n
  induction n with
  | zero =>
    intro s _
    unfold runE
    rfl
  | succ n ih =>
    intro s hr
    have hs : s.read ≤ R := Nat.le_trans (run_ext (m := m) (inp := inp) (dp := dp) (n + 1) s).rd hr
    obtain ⟨l, hl⟩ : ∃ l, s.cs = l := ⟨_, rfl⟩
    cases l with
    | nil => unfold runE; rw [hl]
    | cons c r =>
      have e := tick_ahead (m := m) (dp := dp) (s := s) (c := c) (r := r) h hs
      obtain ⟨⟨s', t⟩, hq⟩ : ∃ q, tick m inp dp s c r = q := ⟨_, rfl⟩
      rw [hq] at e
      cases t with
      | true =>
        have ea : runE m inp dp (n + 1) s = runE m inp dp n s' := by rw [runE, hl]; simp only [hq]
        have eb : runE m inq dp (n + 1) s = runE m inq dp n s' := by rw [runE, hl]; simp only [← e]
        rw [ea] at hr
        rw [ea, eb]
        exact ih s' hr
      | false =>
        have ea : runE m inp dp (n + 1) s = (s', 13) := by rw [runE, hl]; simp only [hq]
        have eb : runE m inq dp (n + 1) s = (s', 13) := by rw [runE, hl]; simp only [← e]
        rw [ea, eb]
def mostA (n : Int) : Int := if 2000 < n ∧ n ≤ 100000 then 2000 else n
set_option maxRecDepth 100000 in
set_option maxHeartbeats 1000000 in
theorem mosta_any (n : Int) (w : World) : Calls Try.prog 28 #[.int .i64 n] w fun e w' => e = .returned (.int .i64 (mostA n)) ∧ w = w' := by
  by_cases h1 : 2000 < n
  · have d1 : decide (2000 < n) = true := by simpa using h1
    by_cases h2 : n ≤ 100000
    · have d2 : decide (n ≤ 100000) = true := by simpa using h2
      rw [show mostA n = 2000 from if_pos ⟨h1, h2⟩]
      go_enter Try.func28, Try.ntmps28
      go_wp2_with fail
      go_ret
      exact ⟨rfl, rfl⟩
    · have d2 : decide (n ≤ 100000) = false := by simpa using h2
      rw [show mostA n = n from if_neg (fun h => h2 h.2)]
      go_enter Try.func28, Try.ntmps28
      go_wp2_with fail
      go_ret
      exact ⟨rfl, rfl⟩
  · have d1 : decide (2000 < n) = false := by simpa using h1
    rw [show mostA n = n from if_neg (fun h => h1 h.1)]
    go_enter Try.func28, Try.ntmps28
    go_wp2_with fail
    go_ret
    exact ⟨rfl, rfl⟩
theorem step_store_rowa {P : Program} {w : World} {ops : Array Oper} {o : Oper} {a : Act} {K : Act → World → Prop} {Q : Exit → Act → World → Prop} {E : Prop} (hgd : o.guard = none) (ty : TypeId) (x y : Operand) (ho : o.op = .store ty x y)
    (g : Nat) (cells : Array Value) (hx : a.eval x = .pointer (some ⟨g, 0, none⟩)) (hy : a.eval y = .agg cells)
    (t : TypeId) (old : Array Value) (hg : w.heap[g]? = some (.cells old t (0, 0))) (hi : (P.info? ty).map (·.size) = some cells.size)
    (hold : old.size = cells.size) (h1 : cells.all (·.oneCell') = true)
    (h : K (a.put o.dst undef) (w.setRow g cells)) : if Region.wanted o (yielded ops a.tmps) = true then Oper.wp P o a w K Q else E := by
  have hw : Region.wanted o (yielded ops a.tmps) = true := by simp [Region.wanted, hgd]
  rw [if_pos hw]
  exact wp_store_row ty x y ho g cells hx hy t old hg hi hold h1 h
theorem below_setRowa {w X : World} {n B : Nat} {cells : Array Value} (h : Below n w X) (hB : n ≤ B) : Below n w (X.setRow B cells) :=
  h.trans ⟨rfl, rfl, rfl, by simp, fun k hk => setRow_other X _ k _ (by omega)⟩
set_option maxRecDepth 100000 in
set_option maxHeartbeats 4000000 in
theorem ahead_end (m : Md) (inp more : ByteArray) (fu dp k : Int) (F G : Option Addr) (nf cf ng cg : Nat) (w : World) (hS : MdAt w (.slice F nf cf) (.slice G ng cg) m) (hk : mostA fu = k) (en : Bool) (co rd st de er : Int) (so : ByteArray) (hd : (inp.size : Int) ≤ rd) (hRa : ∀ W, MdAt W (.slice F nf cf) (.slice G ng cg) m → Calls Try.prog 27 #[.agg #[.slice F nf cf, .slice G ng cg], .string inp, .int .i64 k, .int .i64 dp] W fun e w' => e = .returned (.tuple #[.agg #[.bool en, .int .u64 co, .string so, .int .i64 rd, .int .i64 st, .int .i64 de], .int .i64 er]) ∧ Below W.heap.size W w') : Calls Try.prog 7 #[.agg #[.slice F nf cf, .slice G ng cg, .string inp, .string more, .int .i64 fu, .int .i64 dp]] w fun e w' => e = .returned (.bool true) ∧ Below w.heap.size w w' := by
  have d1 : decide ((inp.size : Int) ≤ rd) = true := by simpa using hd
  have HRA := Lib.hid hRa
  have HM := Lib.hid (fun W => mosta_any fu W)
  rw [hk] at HM
  have HSU := Lib.hid (fun (U : World) (hb : Below w.heap.size w U) => hS.next hb)
  clear hRa hS hk
  have HW := Lib.hid (fun (W : World) (hW : W = (w.alloc (.cells #[.slice F nf cf, .slice G ng cg, .string inp, .string more, .int .i64 fu, .int .i64 dp] 51)).alloc (.cells #[.slice F nf cf, .slice G ng cg] 33)) => (show Below w.heap.size w W ∧ W.heap[w.heap.size + 1]? = some (.cells #[.slice F nf cf, .slice G ng cg] 33 (0, 0)) from by
    subst hW
    have e := heap_alloc_new (w.alloc (.cells #[.slice F nf cf, .slice G ng cg, .string inp, .string more, .int .i64 fu, .int .i64 dp] 51)) (.cells #[.slice F nf cf, .slice G ng cg] 33)
    rw [World.size_alloc] at e
    exact ⟨balloc (balloc (Below.refl _ w) _) _, e⟩))
  go_enter Try.func7, Try.ntmps7
  go_wp2_with fail
  obtain ⟨W, hW⟩ : ∃ W, W = (w.alloc (.cells #[.slice F nf cf, .slice G ng cg, .string inp, .string more, .int .i64 fu, .int .i64 dp] 51)).alloc (.cells #[.slice F nf cf, .slice G ng cg] 33) := ⟨_, rfl⟩
  obtain ⟨hb0, hh0⟩ := HW.out W hW
  rw [← hW]
  clear hW HW
  refine (vshown_any W).mono ?_
  rintro r w1 ⟨rfl, hb⟩
  have HB := Lib.hid (show Below w.heap.size w w1 ∧ w1.heap[w.heap.size + 1]? = some (.cells #[.slice F nf cf, .slice G ng cg] 33 (0, 0)) from ⟨bthen hb0 hb, (hb.block _ (Array.getElem?_eq_some_iff.1 hh0).1).trans hh0⟩)
  clear hb0 hh0 hb
  have HSC := Lib.hid (fun (U : World) (hU : Below w1.heap.size w1 U) => (show U.cell? ⟨w.heap.size + 1, 0, none⟩ = some (.slice F nf cf) ∧ U.cell? ⟨w.heap.size + 1, 1, none⟩ = some (.slice G ng cg) from by
    have h := (hU.block _ (Array.getElem?_eq_some_iff.1 HB.out.2).1).trans HB.out.2
    exact ⟨Lib.cell_of_heap h 0, Lib.cell_of_heap h 1⟩))
  go_upto_region 7 with fail
  go_cut [9, 10] from 24 to 32 (fun v9 v10 wx => ∃ B, v9 = .pointer (some ⟨B, 0, none⟩) ∧ v10 = .int .i64 er ∧ wx.heap[B]? = some (.cells #[.bool en, .int .u64 co, .string so, .int .i64 rd, .int .i64 st, .int .i64 de] 43 (0, 0)) ∧ Below w.heap.size w wx ∧ wx.heap[w.heap.size + 1]? = some (.cells #[.slice F nf cf, .slice G ng cg] 33 (0, 0)))
  case first =>
    have HQ := Lib.hid HB.out
    refine wp_region_held_drew (S := (fun U => U.cell? ⟨w.heap.size + 1, 0, none⟩ = some (.slice F nf cf) ∧ U.cell? ⟨w.heap.size + 1, 1, none⟩ = some (.slice G ng cg))) (by kernel_rfl) (HSC.out _ (Below.refl _ w1).drew) (fun hHeld => ?_)
    have hub := Below.refl w1.drew.heap.size w1.drew
    refine wpAnyH_take (i := 0) (v := ?_) rfl (by kernel_rfl) (by kernel_rfl) (by kernel_rfl) (fun _ _ _ h => h) (Or.inl ⟨by rfl, ?_⟩) hHeld ?_
    rotate_left
    · intro W' hSw; (try dsimp only at hSw); go_simp; try (with_reducible rfl)
    (try simp only [Act.put, List.getElem_toArray, List.getElem_cons_zero, List.setIfInBounds_toArray, List.set_cons_zero, List.set_cons_succ])
    refine wpAnyH_take (i := 1) (v := ?_) rfl (by kernel_rfl) (by kernel_rfl) (by kernel_rfl) (fun _ _ _ h => h) (Or.inl ⟨by rfl, ?_⟩) hHeld ?_
    rotate_left
    · intro W' hSw; (try dsimp only at hSw); go_simp; try (with_reducible rfl)
    (try simp only [Act.put, List.getElem_toArray, List.getElem_cons_zero, List.getElem_cons_succ, List.setIfInBounds_toArray, List.set_cons_zero, List.set_cons_succ])
    refine wpAnyH_take (i := 2) (v := ?_) rfl (by kernel_rfl) (by kernel_rfl) (by kernel_rfl) (fun _ _ _ h => h) (Or.inl ⟨by rfl, ?_⟩) hHeld ?_
    rotate_left
    · intro W' hSw; (try dsimp only at hSw); go_simp; try (with_reducible rfl)
    (try simp only [Act.put, List.getElem_toArray, List.getElem_cons_zero, List.getElem_cons_succ, List.setIfInBounds_toArray, List.set_cons_zero, List.set_cons_succ])
    refine wpAnyH_take (i := 4) (v := ?_) rfl (by kernel_rfl) (by kernel_rfl) (by kernel_rfl) (fun _ _ _ h => h) (Or.inl ⟨by rfl, ?_⟩) hHeld ?_
    rotate_left
    · intro W' hSw; (try dsimp only at hSw); go_simp; try (with_reducible rfl)
    (try simp only [Act.put, List.getElem_toArray, List.getElem_cons_zero, List.getElem_cons_succ, List.setIfInBounds_toArray, List.set_cons_zero, List.set_cons_succ])
    refine wpAnyH_ready (rs := [3, 9]) (by kernel_rfl) (by simp) ?_
    refine AllReadyH.cons rfl (fun K hK => ?_) (AllReadyH.cons rfl (fun K hK => ?_) AllReadyH.nil)
    · go_simp
      refine Calls.mono (HM.out _) ?_
      rintro r u1 ⟨rfl, rfl⟩
      refine hK.out _ _ hHeld (fun _ => ?_)
      clear hK
      (try simp only [Act.put, List.getElem_toArray, List.getElem_cons_zero, List.getElem_cons_succ, List.setIfInBounds_toArray, List.set_cons_zero, List.set_cons_succ])
      refine wpAnyH_ready (rs := [5, 9]) (by kernel_rfl) (by simp) ?_
      refine AllReadyH.cons rfl (fun K hK => ?_) (AllReadyH.cons rfl (fun K hK => ?_) AllReadyH.nil)
      · go_simp
        refine Calls.mono (HRA.out _ (HSU.out _ (bthen HQ.out.1 (bthen (Below.refl _ w1).drew hub)))) ?_
        rintro r u3 ⟨rfl, hb3⟩
        have hub3 := bthen hub hb3
        clear hb3
        refine hK.out _ _ (HSC.out _ (bthen (Below.refl _ w1).drew hub3)) (fun hHeld3 => ?_)
        clear hK
        (try simp only [Act.put, List.getElem_toArray, List.getElem_cons_zero, List.getElem_cons_succ, List.setIfInBounds_toArray, List.set_cons_zero, List.set_cons_succ])
        refine wpAnyH_take (i := 6) (v := ?_) rfl (by kernel_rfl) (by kernel_rfl) (by kernel_rfl) (fun _ _ _ h => h) (Or.inl ⟨by rfl, ?_⟩) hHeld3 ?_
        rotate_left
        · intro W' hSw; (try dsimp only at hSw); go_simp; try (with_reducible rfl)
        (try simp only [Act.put, List.getElem_toArray, List.getElem_cons_zero, List.getElem_cons_succ, List.setIfInBounds_toArray, List.set_cons_zero, List.set_cons_succ])
        refine wpAnyH_take (i := 7) (v := ?_) rfl (by kernel_rfl) (by kernel_rfl) (by kernel_rfl) (fun _ _ _ h => h) (Or.inl ⟨by rfl, ?_⟩) hHeld3 ?_
        rotate_left
        · intro W' hSw; (try dsimp only at hSw); go_simp; try (with_reducible rfl)
        (try simp only [Act.put, List.getElem_toArray, List.getElem_cons_zero, List.getElem_cons_succ, List.setIfInBounds_toArray, List.set_cons_zero, List.set_cons_succ])
        refine wpAnyH_take (i := 8) (v := ?_) rfl (by kernel_rfl) (by kernel_rfl) (by kernel_rfl) (fun _ _ _ h => h) (Or.inl ⟨by rfl, ?_⟩) hHeld3 ?_
        rotate_left
        · intro W' hSw; (try dsimp only at hSw); go_simp; try (with_reducible rfl)
        (try simp only [Act.put, List.getElem_toArray, List.getElem_cons_zero, List.getElem_cons_succ, List.setIfInBounds_toArray, List.set_cons_zero, List.set_cons_succ])
        refine wpAnyH_ready (rs := [9]) (by kernel_rfl) (by simp) ?_
        refine AllReadyH.cons rfl (fun K hK => ?_) AllReadyH.nil
        go_simp
        have hz3 := heap_alloc_new u3 (.cells #[.bool false, .int .u64 0, .string ⟨#[]⟩, .int .i64 0, .int .i64 0, .int .i64 0] 43)
        have hle3 : w1.heap.size ≤ u3.heap.size := hub3.size
        have hub3 := bthen hub3 (balloc (Below.refl _ _) (.cells #[.bool false, .int .u64 0, .string ⟨#[]⟩, .int .i64 0, .int .i64 0, .int .i64 0] 43))
        refine hK.out _ _ (HSC.out _ (bthen (Below.refl _ w1).drew hub3)) (fun hHeld4 => ?_)
        clear hK
        (try simp only [Act.put, List.getElem_toArray, List.getElem_cons_zero, List.getElem_cons_succ, List.setIfInBounds_toArray, List.set_cons_zero, List.set_cons_succ])
        refine wpAnyH_ready (rs := [10]) (by kernel_rfl) (by simp) ?_
        refine AllReadyH.cons rfl (fun K hK => ?_) AllReadyH.nil
        have hBw := bthen (Below.refl _ w1).drew hub3
        refine step_store_rowa rfl _ _ _ rfl _ #[.bool en, .int .u64 co, .string so, .int .i64 rd, .int .i64 st, .int .i64 de] (by rfl) (by rfl) _ _ hz3 trace_info rfl (by simp [Value.oneCell']) ?_
        refine hK.out _ _ (HSC.out _ (below_setRowa hBw hle3)) (fun hHeld5 => ?_)
        clear hK
        (try simp only [Act.put, List.getElem_toArray, List.getElem_cons_zero, List.getElem_cons_succ])
        refine wpAnyH_take (i := 11) (v := ?_) rfl (by kernel_rfl) (by kernel_rfl) (by kernel_rfl) (fun _ _ _ h => h) (Or.inl ⟨by rfl, ?_⟩) hHeld5 ?_
        rotate_left
        · intro W' hSw; (try dsimp only at hSw); go_simp; try (with_reducible rfl)
        (try simp only [Act.put, List.getElem_toArray, List.getElem_cons_zero, List.getElem_cons_succ, List.setIfInBounds_toArray, List.set_cons_zero, List.set_cons_succ])
        refine wpAnyH_done (by kernel_rfl) ?_ _
        have hX := below_setRowa (cells := #[.bool en, .int .u64 co, .string so, .int .i64 rd, .int .i64 st, .int .i64 de]) hBw hle3
        go_wp2_with fail
        go_meet
        exact ⟨_, rfl, rfl, setRow_heap _ _ _ _ _ _ hz3, bthen HQ.out.1 hX, (hX.block _ (Array.getElem?_eq_some_iff.1 HQ.out.2).1).trans HQ.out.2⟩
      · go_simp
        have hz := heap_alloc_new w1.drew (.cells #[.bool false, .int .u64 0, .string ⟨#[]⟩, .int .i64 0, .int .i64 0, .int .i64 0] 43)
        have hub := bthen hub (balloc (Below.refl _ _) (.cells #[.bool false, .int .u64 0, .string ⟨#[]⟩, .int .i64 0, .int .i64 0, .int .i64 0] 43))
        refine hK.out _ _ (HSC.out _ (bthen (Below.refl _ w1).drew hub)) (fun hHeld => ?_)
        clear hK
        (try simp only [Act.put, List.getElem_toArray, List.getElem_cons_zero, List.getElem_cons_succ, List.setIfInBounds_toArray, List.set_cons_zero, List.set_cons_succ])
        refine wpAnyH_ready (rs := [5]) (by kernel_rfl) (by simp) ?_
        refine AllReadyH.cons rfl (fun K hK => ?_) AllReadyH.nil
        go_simp
        refine Calls.mono (HRA.out _ (HSU.out _ (bthen HQ.out.1 (bthen (Below.refl _ w1).drew hub)))) ?_
        rintro r u3 ⟨rfl, hb3⟩
        have hub3 := bthen hub hb3
        have hz3 := (hb3.block _ (Array.getElem?_eq_some_iff.1 hz).1).trans hz
        clear hb3
        refine hK.out _ _ (HSC.out _ (bthen (Below.refl _ w1).drew hub3)) (fun hHeld3 => ?_)
        clear hK
        (try simp only [Act.put, List.getElem_toArray, List.getElem_cons_zero, List.getElem_cons_succ, List.setIfInBounds_toArray, List.set_cons_zero, List.set_cons_succ])
        refine wpAnyH_take (i := 6) (v := ?_) rfl (by kernel_rfl) (by kernel_rfl) (by kernel_rfl) (fun _ _ _ h => h) (Or.inl ⟨by rfl, ?_⟩) hHeld3 ?_
        rotate_left
        · intro W' hSw; (try dsimp only at hSw); go_simp; try (with_reducible rfl)
        (try simp only [Act.put, List.getElem_toArray, List.getElem_cons_zero, List.getElem_cons_succ, List.setIfInBounds_toArray, List.set_cons_zero, List.set_cons_succ])
        refine wpAnyH_take (i := 7) (v := ?_) rfl (by kernel_rfl) (by kernel_rfl) (by kernel_rfl) (fun _ _ _ h => h) (Or.inl ⟨by rfl, ?_⟩) hHeld3 ?_
        rotate_left
        · intro W' hSw; (try dsimp only at hSw); go_simp; try (with_reducible rfl)
        (try simp only [Act.put, List.getElem_toArray, List.getElem_cons_zero, List.getElem_cons_succ, List.setIfInBounds_toArray, List.set_cons_zero, List.set_cons_succ])
        refine wpAnyH_take (i := 8) (v := ?_) rfl (by kernel_rfl) (by kernel_rfl) (by kernel_rfl) (fun _ _ _ h => h) (Or.inl ⟨by rfl, ?_⟩) hHeld3 ?_
        rotate_left
        · intro W' hSw; (try dsimp only at hSw); go_simp; try (with_reducible rfl)
        (try simp only [Act.put, List.getElem_toArray, List.getElem_cons_zero, List.getElem_cons_succ, List.setIfInBounds_toArray, List.set_cons_zero, List.set_cons_succ])
        refine wpAnyH_ready (rs := [10]) (by kernel_rfl) (by simp) ?_
        refine AllReadyH.cons rfl (fun K hK => ?_) AllReadyH.nil
        have hBw := bthen (Below.refl _ w1).drew hub3
        refine step_store_rowa rfl _ _ _ rfl _ #[.bool en, .int .u64 co, .string so, .int .i64 rd, .int .i64 st, .int .i64 de] (by rfl) (by rfl) _ _ hz3 trace_info rfl (by simp [Value.oneCell']) ?_
        refine hK.out _ _ (HSC.out _ (below_setRowa hBw (Nat.le_refl _))) (fun hHeld5 => ?_)
        clear hK
        (try simp only [Act.put, List.getElem_toArray, List.getElem_cons_zero, List.getElem_cons_succ])
        refine wpAnyH_take (i := 11) (v := ?_) rfl (by kernel_rfl) (by kernel_rfl) (by kernel_rfl) (fun _ _ _ h => h) (Or.inl ⟨by rfl, ?_⟩) hHeld5 ?_
        rotate_left
        · intro W' hSw; (try dsimp only at hSw); go_simp; try (with_reducible rfl)
        (try simp only [Act.put, List.getElem_toArray, List.getElem_cons_zero, List.getElem_cons_succ, List.setIfInBounds_toArray, List.set_cons_zero, List.set_cons_succ])
        refine wpAnyH_done (by kernel_rfl) ?_ _
        have hX := below_setRowa (cells := #[.bool en, .int .u64 co, .string so, .int .i64 rd, .int .i64 st, .int .i64 de]) hBw (Nat.le_refl _)
        go_wp2_with fail
        go_meet
        exact ⟨_, rfl, rfl, setRow_heap _ _ _ _ _ _ hz3, bthen HQ.out.1 hX, (hX.block _ (Array.getElem?_eq_some_iff.1 HQ.out.2).1).trans HQ.out.2⟩
    · go_simp
      have hz := heap_alloc_new w1.drew (.cells #[.bool false, .int .u64 0, .string ⟨#[]⟩, .int .i64 0, .int .i64 0, .int .i64 0] 43)
      have hub := bthen hub (balloc (Below.refl _ _) (.cells #[.bool false, .int .u64 0, .string ⟨#[]⟩, .int .i64 0, .int .i64 0, .int .i64 0] 43))
      refine hK.out _ _ (HSC.out _ (bthen (Below.refl _ w1).drew hub)) (fun hHeld => ?_)
      clear hK
      (try simp only [Act.put, List.getElem_toArray, List.getElem_cons_zero, List.getElem_cons_succ, List.setIfInBounds_toArray, List.set_cons_zero, List.set_cons_succ])
      refine wpAnyH_ready (rs := [3]) (by kernel_rfl) (by simp) ?_
      refine AllReadyH.cons rfl (fun K hK => ?_) AllReadyH.nil
      go_simp
      refine Calls.mono (HM.out _) ?_
      rintro r u1 ⟨rfl, rfl⟩
      refine hK.out _ _ hHeld (fun _ => ?_)
      clear hK
      (try simp only [Act.put, List.getElem_toArray, List.getElem_cons_zero, List.getElem_cons_succ, List.setIfInBounds_toArray, List.set_cons_zero, List.set_cons_succ])
      refine wpAnyH_ready (rs := [5]) (by kernel_rfl) (by simp) ?_
      refine AllReadyH.cons rfl (fun K hK => ?_) AllReadyH.nil
      go_simp
      refine Calls.mono (HRA.out _ (HSU.out _ (bthen HQ.out.1 (bthen (Below.refl _ w1).drew hub)))) ?_
      rintro r u3 ⟨rfl, hb3⟩
      have hub3 := bthen hub hb3
      have hz3 := (hb3.block _ (Array.getElem?_eq_some_iff.1 hz).1).trans hz
      clear hb3
      refine hK.out _ _ (HSC.out _ (bthen (Below.refl _ w1).drew hub3)) (fun hHeld3 => ?_)
      clear hK
      (try simp only [Act.put, List.getElem_toArray, List.getElem_cons_zero, List.getElem_cons_succ, List.setIfInBounds_toArray, List.set_cons_zero, List.set_cons_succ])
      refine wpAnyH_take (i := 6) (v := ?_) rfl (by kernel_rfl) (by kernel_rfl) (by kernel_rfl) (fun _ _ _ h => h) (Or.inl ⟨by rfl, ?_⟩) hHeld3 ?_
      rotate_left
      · intro W' hSw; (try dsimp only at hSw); go_simp; try (with_reducible rfl)
      (try simp only [Act.put, List.getElem_toArray, List.getElem_cons_zero, List.getElem_cons_succ, List.setIfInBounds_toArray, List.set_cons_zero, List.set_cons_succ])
      refine wpAnyH_take (i := 7) (v := ?_) rfl (by kernel_rfl) (by kernel_rfl) (by kernel_rfl) (fun _ _ _ h => h) (Or.inl ⟨by rfl, ?_⟩) hHeld3 ?_
      rotate_left
      · intro W' hSw; (try dsimp only at hSw); go_simp; try (with_reducible rfl)
      (try simp only [Act.put, List.getElem_toArray, List.getElem_cons_zero, List.getElem_cons_succ, List.setIfInBounds_toArray, List.set_cons_zero, List.set_cons_succ])
      refine wpAnyH_take (i := 8) (v := ?_) rfl (by kernel_rfl) (by kernel_rfl) (by kernel_rfl) (fun _ _ _ h => h) (Or.inl ⟨by rfl, ?_⟩) hHeld3 ?_
      rotate_left
      · intro W' hSw; (try dsimp only at hSw); go_simp; try (with_reducible rfl)
      (try simp only [Act.put, List.getElem_toArray, List.getElem_cons_zero, List.getElem_cons_succ, List.setIfInBounds_toArray, List.set_cons_zero, List.set_cons_succ])
      refine wpAnyH_ready (rs := [10]) (by kernel_rfl) (by simp) ?_
      refine AllReadyH.cons rfl (fun K hK => ?_) AllReadyH.nil
      have hBw := bthen (Below.refl _ w1).drew hub3
      refine step_store_rowa rfl _ _ _ rfl _ #[.bool en, .int .u64 co, .string so, .int .i64 rd, .int .i64 st, .int .i64 de] (by rfl) (by rfl) _ _ hz3 trace_info rfl (by simp [Value.oneCell']) ?_
      refine hK.out _ _ (HSC.out _ (below_setRowa hBw (Nat.le_refl _))) (fun hHeld5 => ?_)
      clear hK
      (try simp only [Act.put, List.getElem_toArray, List.getElem_cons_zero, List.getElem_cons_succ])
      refine wpAnyH_take (i := 11) (v := ?_) rfl (by kernel_rfl) (by kernel_rfl) (by kernel_rfl) (fun _ _ _ h => h) (Or.inl ⟨by rfl, ?_⟩) hHeld5 ?_
      rotate_left
      · intro W' hSw; (try dsimp only at hSw); go_simp; try (with_reducible rfl)
      (try simp only [Act.put, List.getElem_toArray, List.getElem_cons_zero, List.getElem_cons_succ, List.setIfInBounds_toArray, List.set_cons_zero, List.set_cons_succ])
      refine wpAnyH_done (by kernel_rfl) ?_ _
      have hX := below_setRowa (cells := #[.bool en, .int .u64 co, .string so, .int .i64 rd, .int .i64 st, .int .i64 de]) hBw (Nat.le_refl _)
      go_wp2_with fail
      go_meet
      exact ⟨_, rfl, rfl, setRow_heap _ _ _ _ _ _ hz3, bthen HQ.out.1 hX, (hX.block _ (Array.getElem?_eq_some_iff.1 HQ.out.2).1).trans HQ.out.2⟩
  case rest =>
  obtain ⟨Z, rfl, rfl, hZ, hb, hm⟩ := hcut
  have HB2 := Lib.hid (And.intro hb (And.intro hm hZ))
  clear hZ hb hm HSC HB
  generalize wc = w2 at *
  have a3 := Lib.cell_of_heap HB2.out.2.2 3
  simp only [List.getElem?_toArray, List.getElem?_cons_zero, List.getElem?_cons_succ] at a3
  go_wp2_with fail
  go_ret
  exact ⟨rfl, HB2.out.1⟩
set_option maxRecDepth 100000 in
set_option maxHeartbeats 4000000 in
theorem ahead_more (m : Md) (inp more : ByteArray) (fu dp k : Int) (F G : Option Addr) (nf cf ng cg : Nat) (w : World) (hS : MdAt w (.slice F nf cf) (.slice G ng cg) m) (hk : mostA fu = k) (en : Bool) (co st de er : Int) (rd : Nat) (so : ByteArray) (hd : rd < inp.size) (hsz : inp.size ≤ 9223372036854775807) (hsum : (inp.extract 0 (rd + 1)).size + more.size ≤ 9223372036854775807) (hRa : ∀ W, MdAt W (.slice F nf cf) (.slice G ng cg) m → Calls Try.prog 27 #[.agg #[.slice F nf cf, .slice G ng cg], .string inp, .int .i64 k, .int .i64 dp] W fun e w' => e = .returned (.tuple #[.agg #[.bool en, .int .u64 co, .string so, .int .i64 rd, .int .i64 st, .int .i64 de], .int .i64 er]) ∧ Below W.heap.size W w') (hRb : ∀ W, MdAt W (.slice F nf cf) (.slice G ng cg) m → Calls Try.prog 27 #[.agg #[.slice F nf cf, .slice G ng cg], .string (inp.extract 0 (rd + 1) ++ more), .int .i64 k, .int .i64 dp] W fun e w' => e = .returned (.tuple #[.agg #[.bool en, .int .u64 co, .string so, .int .i64 rd, .int .i64 st, .int .i64 de], .int .i64 er]) ∧ Below W.heap.size W w') : Calls Try.prog 7 #[.agg #[.slice F nf cf, .slice G ng cg, .string inp, .string more, .int .i64 fu, .int .i64 dp]] w fun e w' => e = .returned (.bool true) ∧ Below w.heap.size w w' := by
  have d1 : decide ((inp.size : Int) ≤ (rd : Int)) = false := by simp; omega
  have d2 : decide (inp.size ≤ rd) = false := by simp; omega
  have b1 : IntKind.i64.wrap ((rd : Int) + 1) = ((rd + 1 : Nat) : Int) := by rw [IntKind.wrap_i64]; omega
  have b2 : rd + 1 ≤ inp.size := by omega
  have s7 : rd + 1 + more.size ≤ 9223372036854775807 := by have := hsum; rw [ByteArray.size_extract] at this; omega
  have HRB := Lib.hid hRb
  clear hRb hsum
  have HRA := Lib.hid hRa
  have HM := Lib.hid (fun W => mosta_any fu W)
  rw [hk] at HM
  have HSU := Lib.hid (fun (U : World) (hb : Below w.heap.size w U) => hS.next hb)
  clear hRa hS hk
  have HW := Lib.hid (fun (W : World) (hW : W = (w.alloc (.cells #[.slice F nf cf, .slice G ng cg, .string inp, .string more, .int .i64 fu, .int .i64 dp] 51)).alloc (.cells #[.slice F nf cf, .slice G ng cg] 33)) => (show Below w.heap.size w W ∧ W.heap[w.heap.size + 1]? = some (.cells #[.slice F nf cf, .slice G ng cg] 33 (0, 0)) from by
    subst hW
    have e := heap_alloc_new (w.alloc (.cells #[.slice F nf cf, .slice G ng cg, .string inp, .string more, .int .i64 fu, .int .i64 dp] 51)) (.cells #[.slice F nf cf, .slice G ng cg] 33)
    rw [World.size_alloc] at e
    exact ⟨balloc (balloc (Below.refl _ w) _) _, e⟩))
  go_enter Try.func7, Try.ntmps7
  go_wp2_with fail
  obtain ⟨W, hW⟩ : ∃ W, W = (w.alloc (.cells #[.slice F nf cf, .slice G ng cg, .string inp, .string more, .int .i64 fu, .int .i64 dp] 51)).alloc (.cells #[.slice F nf cf, .slice G ng cg] 33) := ⟨_, rfl⟩
  obtain ⟨hb0, hh0⟩ := HW.out W hW
  rw [← hW]
  clear hW HW
  refine (vshown_any W).mono ?_
  rintro r w1 ⟨rfl, hb⟩
  have HB := Lib.hid (show Below w.heap.size w w1 ∧ w1.heap[w.heap.size + 1]? = some (.cells #[.slice F nf cf, .slice G ng cg] 33 (0, 0)) from ⟨bthen hb0 hb, (hb.block _ (Array.getElem?_eq_some_iff.1 hh0).1).trans hh0⟩)
  clear hb0 hh0 hb
  have HSC := Lib.hid (fun (U : World) (hU : Below w1.heap.size w1 U) => (show U.cell? ⟨w.heap.size + 1, 0, none⟩ = some (.slice F nf cf) ∧ U.cell? ⟨w.heap.size + 1, 1, none⟩ = some (.slice G ng cg) from by
    have h := (hU.block _ (Array.getElem?_eq_some_iff.1 HB.out.2).1).trans HB.out.2
    exact ⟨Lib.cell_of_heap h 0, Lib.cell_of_heap h 1⟩))
  go_upto_region 7 with fail
  go_cut [9, 10] from 24 to 32 (fun v9 v10 wx => ∃ B, v9 = .pointer (some ⟨B, 0, none⟩) ∧ v10 = .int .i64 er ∧ wx.heap[B]? = some (.cells #[.bool en, .int .u64 co, .string so, .int .i64 rd, .int .i64 st, .int .i64 de] 43 (0, 0)) ∧ Below w.heap.size w wx ∧ wx.heap[w.heap.size + 1]? = some (.cells #[.slice F nf cf, .slice G ng cg] 33 (0, 0)))
  case first =>
    have HQ := Lib.hid HB.out
    refine wp_region_held_drew (S := (fun U => U.cell? ⟨w.heap.size + 1, 0, none⟩ = some (.slice F nf cf) ∧ U.cell? ⟨w.heap.size + 1, 1, none⟩ = some (.slice G ng cg))) (by kernel_rfl) (HSC.out _ (Below.refl _ w1).drew) (fun hHeld => ?_)
    have hub := Below.refl w1.drew.heap.size w1.drew
    refine wpAnyH_take (i := 0) (v := ?_) rfl (by kernel_rfl) (by kernel_rfl) (by kernel_rfl) (fun _ _ _ h => h) (Or.inl ⟨by rfl, ?_⟩) hHeld ?_
    rotate_left
    · intro W' hSw; (try dsimp only at hSw); go_simp; try (with_reducible rfl)
    (try simp only [Act.put, List.getElem_toArray, List.getElem_cons_zero, List.setIfInBounds_toArray, List.set_cons_zero, List.set_cons_succ])
    refine wpAnyH_take (i := 1) (v := ?_) rfl (by kernel_rfl) (by kernel_rfl) (by kernel_rfl) (fun _ _ _ h => h) (Or.inl ⟨by rfl, ?_⟩) hHeld ?_
    rotate_left
    · intro W' hSw; (try dsimp only at hSw); go_simp; try (with_reducible rfl)
    (try simp only [Act.put, List.getElem_toArray, List.getElem_cons_zero, List.getElem_cons_succ, List.setIfInBounds_toArray, List.set_cons_zero, List.set_cons_succ])
    refine wpAnyH_take (i := 2) (v := ?_) rfl (by kernel_rfl) (by kernel_rfl) (by kernel_rfl) (fun _ _ _ h => h) (Or.inl ⟨by rfl, ?_⟩) hHeld ?_
    rotate_left
    · intro W' hSw; (try dsimp only at hSw); go_simp; try (with_reducible rfl)
    (try simp only [Act.put, List.getElem_toArray, List.getElem_cons_zero, List.getElem_cons_succ, List.setIfInBounds_toArray, List.set_cons_zero, List.set_cons_succ])
    refine wpAnyH_take (i := 4) (v := ?_) rfl (by kernel_rfl) (by kernel_rfl) (by kernel_rfl) (fun _ _ _ h => h) (Or.inl ⟨by rfl, ?_⟩) hHeld ?_
    rotate_left
    · intro W' hSw; (try dsimp only at hSw); go_simp; try (with_reducible rfl)
    (try simp only [Act.put, List.getElem_toArray, List.getElem_cons_zero, List.getElem_cons_succ, List.setIfInBounds_toArray, List.set_cons_zero, List.set_cons_succ])
    refine wpAnyH_ready (rs := [3, 9]) (by kernel_rfl) (by simp) ?_
    refine AllReadyH.cons rfl (fun K hK => ?_) (AllReadyH.cons rfl (fun K hK => ?_) AllReadyH.nil)
    · go_simp
      refine Calls.mono (HM.out _) ?_
      rintro r u1 ⟨rfl, rfl⟩
      refine hK.out _ _ hHeld (fun _ => ?_)
      clear hK
      (try simp only [Act.put, List.getElem_toArray, List.getElem_cons_zero, List.getElem_cons_succ, List.setIfInBounds_toArray, List.set_cons_zero, List.set_cons_succ])
      refine wpAnyH_ready (rs := [5, 9]) (by kernel_rfl) (by simp) ?_
      refine AllReadyH.cons rfl (fun K hK => ?_) (AllReadyH.cons rfl (fun K hK => ?_) AllReadyH.nil)
      · go_simp
        refine Calls.mono (HRA.out _ (HSU.out _ (bthen HQ.out.1 (bthen (Below.refl _ w1).drew hub)))) ?_
        rintro r u3 ⟨rfl, hb3⟩
        have hub3 := bthen hub hb3
        clear hb3
        refine hK.out _ _ (HSC.out _ (bthen (Below.refl _ w1).drew hub3)) (fun hHeld3 => ?_)
        clear hK
        (try simp only [Act.put, List.getElem_toArray, List.getElem_cons_zero, List.getElem_cons_succ, List.setIfInBounds_toArray, List.set_cons_zero, List.set_cons_succ])
        refine wpAnyH_take (i := 6) (v := ?_) rfl (by kernel_rfl) (by kernel_rfl) (by kernel_rfl) (fun _ _ _ h => h) (Or.inl ⟨by rfl, ?_⟩) hHeld3 ?_
        rotate_left
        · intro W' hSw; (try dsimp only at hSw); go_simp; try (with_reducible rfl)
        (try simp only [Act.put, List.getElem_toArray, List.getElem_cons_zero, List.getElem_cons_succ, List.setIfInBounds_toArray, List.set_cons_zero, List.set_cons_succ])
        refine wpAnyH_take (i := 7) (v := ?_) rfl (by kernel_rfl) (by kernel_rfl) (by kernel_rfl) (fun _ _ _ h => h) (Or.inl ⟨by rfl, ?_⟩) hHeld3 ?_
        rotate_left
        · intro W' hSw; (try dsimp only at hSw); go_simp; try (with_reducible rfl)
        (try simp only [Act.put, List.getElem_toArray, List.getElem_cons_zero, List.getElem_cons_succ, List.setIfInBounds_toArray, List.set_cons_zero, List.set_cons_succ])
        refine wpAnyH_take (i := 8) (v := ?_) rfl (by kernel_rfl) (by kernel_rfl) (by kernel_rfl) (fun _ _ _ h => h) (Or.inl ⟨by rfl, ?_⟩) hHeld3 ?_
        rotate_left
        · intro W' hSw; (try dsimp only at hSw); go_simp; try (with_reducible rfl)
        (try simp only [Act.put, List.getElem_toArray, List.getElem_cons_zero, List.getElem_cons_succ, List.setIfInBounds_toArray, List.set_cons_zero, List.set_cons_succ])
        refine wpAnyH_ready (rs := [9]) (by kernel_rfl) (by simp) ?_
        refine AllReadyH.cons rfl (fun K hK => ?_) AllReadyH.nil
        go_simp
        have hz3 := heap_alloc_new u3 (.cells #[.bool false, .int .u64 0, .string ⟨#[]⟩, .int .i64 0, .int .i64 0, .int .i64 0] 43)
        have hle3 : w1.heap.size ≤ u3.heap.size := hub3.size
        have hub3 := bthen hub3 (balloc (Below.refl _ _) (.cells #[.bool false, .int .u64 0, .string ⟨#[]⟩, .int .i64 0, .int .i64 0, .int .i64 0] 43))
        refine hK.out _ _ (HSC.out _ (bthen (Below.refl _ w1).drew hub3)) (fun hHeld4 => ?_)
        clear hK
        (try simp only [Act.put, List.getElem_toArray, List.getElem_cons_zero, List.getElem_cons_succ, List.setIfInBounds_toArray, List.set_cons_zero, List.set_cons_succ])
        refine wpAnyH_ready (rs := [10]) (by kernel_rfl) (by simp) ?_
        refine AllReadyH.cons rfl (fun K hK => ?_) AllReadyH.nil
        have hBw := bthen (Below.refl _ w1).drew hub3
        refine step_store_rowa rfl _ _ _ rfl _ #[.bool en, .int .u64 co, .string so, .int .i64 rd, .int .i64 st, .int .i64 de] (by rfl) (by rfl) _ _ hz3 trace_info rfl (by simp [Value.oneCell']) ?_
        refine hK.out _ _ (HSC.out _ (below_setRowa hBw hle3)) (fun hHeld5 => ?_)
        clear hK
        (try simp only [Act.put, List.getElem_toArray, List.getElem_cons_zero, List.getElem_cons_succ])
        refine wpAnyH_take (i := 11) (v := ?_) rfl (by kernel_rfl) (by kernel_rfl) (by kernel_rfl) (fun _ _ _ h => h) (Or.inl ⟨by rfl, ?_⟩) hHeld5 ?_
        rotate_left
        · intro W' hSw; (try dsimp only at hSw); go_simp; try (with_reducible rfl)
        (try simp only [Act.put, List.getElem_toArray, List.getElem_cons_zero, List.getElem_cons_succ, List.setIfInBounds_toArray, List.set_cons_zero, List.set_cons_succ])
        refine wpAnyH_done (by kernel_rfl) ?_ _
        have hX := below_setRowa (cells := #[.bool en, .int .u64 co, .string so, .int .i64 rd, .int .i64 st, .int .i64 de]) hBw hle3
        go_wp2_with fail
        go_meet
        exact ⟨_, rfl, rfl, setRow_heap _ _ _ _ _ _ hz3, bthen HQ.out.1 hX, (hX.block _ (Array.getElem?_eq_some_iff.1 HQ.out.2).1).trans HQ.out.2⟩
      · go_simp
        have hz := heap_alloc_new w1.drew (.cells #[.bool false, .int .u64 0, .string ⟨#[]⟩, .int .i64 0, .int .i64 0, .int .i64 0] 43)
        have hub := bthen hub (balloc (Below.refl _ _) (.cells #[.bool false, .int .u64 0, .string ⟨#[]⟩, .int .i64 0, .int .i64 0, .int .i64 0] 43))
        refine hK.out _ _ (HSC.out _ (bthen (Below.refl _ w1).drew hub)) (fun hHeld => ?_)
        clear hK
        (try simp only [Act.put, List.getElem_toArray, List.getElem_cons_zero, List.getElem_cons_succ, List.setIfInBounds_toArray, List.set_cons_zero, List.set_cons_succ])
        refine wpAnyH_ready (rs := [5]) (by kernel_rfl) (by simp) ?_
        refine AllReadyH.cons rfl (fun K hK => ?_) AllReadyH.nil
        go_simp
        refine Calls.mono (HRA.out _ (HSU.out _ (bthen HQ.out.1 (bthen (Below.refl _ w1).drew hub)))) ?_
        rintro r u3 ⟨rfl, hb3⟩
        have hub3 := bthen hub hb3
        have hz3 := (hb3.block _ (Array.getElem?_eq_some_iff.1 hz).1).trans hz
        clear hb3
        refine hK.out _ _ (HSC.out _ (bthen (Below.refl _ w1).drew hub3)) (fun hHeld3 => ?_)
        clear hK
        (try simp only [Act.put, List.getElem_toArray, List.getElem_cons_zero, List.getElem_cons_succ, List.setIfInBounds_toArray, List.set_cons_zero, List.set_cons_succ])
        refine wpAnyH_take (i := 6) (v := ?_) rfl (by kernel_rfl) (by kernel_rfl) (by kernel_rfl) (fun _ _ _ h => h) (Or.inl ⟨by rfl, ?_⟩) hHeld3 ?_
        rotate_left
        · intro W' hSw; (try dsimp only at hSw); go_simp; try (with_reducible rfl)
        (try simp only [Act.put, List.getElem_toArray, List.getElem_cons_zero, List.getElem_cons_succ, List.setIfInBounds_toArray, List.set_cons_zero, List.set_cons_succ])
        refine wpAnyH_take (i := 7) (v := ?_) rfl (by kernel_rfl) (by kernel_rfl) (by kernel_rfl) (fun _ _ _ h => h) (Or.inl ⟨by rfl, ?_⟩) hHeld3 ?_
        rotate_left
        · intro W' hSw; (try dsimp only at hSw); go_simp; try (with_reducible rfl)
        (try simp only [Act.put, List.getElem_toArray, List.getElem_cons_zero, List.getElem_cons_succ, List.setIfInBounds_toArray, List.set_cons_zero, List.set_cons_succ])
        refine wpAnyH_take (i := 8) (v := ?_) rfl (by kernel_rfl) (by kernel_rfl) (by kernel_rfl) (fun _ _ _ h => h) (Or.inl ⟨by rfl, ?_⟩) hHeld3 ?_
        rotate_left
        · intro W' hSw; (try dsimp only at hSw); go_simp; try (with_reducible rfl)
        (try simp only [Act.put, List.getElem_toArray, List.getElem_cons_zero, List.getElem_cons_succ, List.setIfInBounds_toArray, List.set_cons_zero, List.set_cons_succ])
        refine wpAnyH_ready (rs := [10]) (by kernel_rfl) (by simp) ?_
        refine AllReadyH.cons rfl (fun K hK => ?_) AllReadyH.nil
        have hBw := bthen (Below.refl _ w1).drew hub3
        refine step_store_rowa rfl _ _ _ rfl _ #[.bool en, .int .u64 co, .string so, .int .i64 rd, .int .i64 st, .int .i64 de] (by rfl) (by rfl) _ _ hz3 trace_info rfl (by simp [Value.oneCell']) ?_
        refine hK.out _ _ (HSC.out _ (below_setRowa hBw (Nat.le_refl _))) (fun hHeld5 => ?_)
        clear hK
        (try simp only [Act.put, List.getElem_toArray, List.getElem_cons_zero, List.getElem_cons_succ])
        refine wpAnyH_take (i := 11) (v := ?_) rfl (by kernel_rfl) (by kernel_rfl) (by kernel_rfl) (fun _ _ _ h => h) (Or.inl ⟨by rfl, ?_⟩) hHeld5 ?_
        rotate_left
        · intro W' hSw; (try dsimp only at hSw); go_simp; try (with_reducible rfl)
        (try simp only [Act.put, List.getElem_toArray, List.getElem_cons_zero, List.getElem_cons_succ, List.setIfInBounds_toArray, List.set_cons_zero, List.set_cons_succ])
        refine wpAnyH_done (by kernel_rfl) ?_ _
        have hX := below_setRowa (cells := #[.bool en, .int .u64 co, .string so, .int .i64 rd, .int .i64 st, .int .i64 de]) hBw (Nat.le_refl _)
        go_wp2_with fail
        go_meet
        exact ⟨_, rfl, rfl, setRow_heap _ _ _ _ _ _ hz3, bthen HQ.out.1 hX, (hX.block _ (Array.getElem?_eq_some_iff.1 HQ.out.2).1).trans HQ.out.2⟩
    · go_simp
      have hz := heap_alloc_new w1.drew (.cells #[.bool false, .int .u64 0, .string ⟨#[]⟩, .int .i64 0, .int .i64 0, .int .i64 0] 43)
      have hub := bthen hub (balloc (Below.refl _ _) (.cells #[.bool false, .int .u64 0, .string ⟨#[]⟩, .int .i64 0, .int .i64 0, .int .i64 0] 43))
      refine hK.out _ _ (HSC.out _ (bthen (Below.refl _ w1).drew hub)) (fun hHeld => ?_)
      clear hK
      (try simp only [Act.put, List.getElem_toArray, List.getElem_cons_zero, List.getElem_cons_succ, List.setIfInBounds_toArray, List.set_cons_zero, List.set_cons_succ])
      refine wpAnyH_ready (rs := [3]) (by kernel_rfl) (by simp) ?_
      refine AllReadyH.cons rfl (fun K hK => ?_) AllReadyH.nil
      go_simp
      refine Calls.mono (HM.out _) ?_
      rintro r u1 ⟨rfl, rfl⟩
      refine hK.out _ _ hHeld (fun _ => ?_)
      clear hK
      (try simp only [Act.put, List.getElem_toArray, List.getElem_cons_zero, List.getElem_cons_succ, List.setIfInBounds_toArray, List.set_cons_zero, List.set_cons_succ])
      refine wpAnyH_ready (rs := [5]) (by kernel_rfl) (by simp) ?_
      refine AllReadyH.cons rfl (fun K hK => ?_) AllReadyH.nil
      go_simp
      refine Calls.mono (HRA.out _ (HSU.out _ (bthen HQ.out.1 (bthen (Below.refl _ w1).drew hub)))) ?_
      rintro r u3 ⟨rfl, hb3⟩
      have hub3 := bthen hub hb3
      have hz3 := (hb3.block _ (Array.getElem?_eq_some_iff.1 hz).1).trans hz
      clear hb3
      refine hK.out _ _ (HSC.out _ (bthen (Below.refl _ w1).drew hub3)) (fun hHeld3 => ?_)
      clear hK
      (try simp only [Act.put, List.getElem_toArray, List.getElem_cons_zero, List.getElem_cons_succ, List.setIfInBounds_toArray, List.set_cons_zero, List.set_cons_succ])
      refine wpAnyH_take (i := 6) (v := ?_) rfl (by kernel_rfl) (by kernel_rfl) (by kernel_rfl) (fun _ _ _ h => h) (Or.inl ⟨by rfl, ?_⟩) hHeld3 ?_
      rotate_left
      · intro W' hSw; (try dsimp only at hSw); go_simp; try (with_reducible rfl)
      (try simp only [Act.put, List.getElem_toArray, List.getElem_cons_zero, List.getElem_cons_succ, List.setIfInBounds_toArray, List.set_cons_zero, List.set_cons_succ])
      refine wpAnyH_take (i := 7) (v := ?_) rfl (by kernel_rfl) (by kernel_rfl) (by kernel_rfl) (fun _ _ _ h => h) (Or.inl ⟨by rfl, ?_⟩) hHeld3 ?_
      rotate_left
      · intro W' hSw; (try dsimp only at hSw); go_simp; try (with_reducible rfl)
      (try simp only [Act.put, List.getElem_toArray, List.getElem_cons_zero, List.getElem_cons_succ, List.setIfInBounds_toArray, List.set_cons_zero, List.set_cons_succ])
      refine wpAnyH_take (i := 8) (v := ?_) rfl (by kernel_rfl) (by kernel_rfl) (by kernel_rfl) (fun _ _ _ h => h) (Or.inl ⟨by rfl, ?_⟩) hHeld3 ?_
      rotate_left
      · intro W' hSw; (try dsimp only at hSw); go_simp; try (with_reducible rfl)
      (try simp only [Act.put, List.getElem_toArray, List.getElem_cons_zero, List.getElem_cons_succ, List.setIfInBounds_toArray, List.set_cons_zero, List.set_cons_succ])
      refine wpAnyH_ready (rs := [10]) (by kernel_rfl) (by simp) ?_
      refine AllReadyH.cons rfl (fun K hK => ?_) AllReadyH.nil
      have hBw := bthen (Below.refl _ w1).drew hub3
      refine step_store_rowa rfl _ _ _ rfl _ #[.bool en, .int .u64 co, .string so, .int .i64 rd, .int .i64 st, .int .i64 de] (by rfl) (by rfl) _ _ hz3 trace_info rfl (by simp [Value.oneCell']) ?_
      refine hK.out _ _ (HSC.out _ (below_setRowa hBw (Nat.le_refl _))) (fun hHeld5 => ?_)
      clear hK
      (try simp only [Act.put, List.getElem_toArray, List.getElem_cons_zero, List.getElem_cons_succ])
      refine wpAnyH_take (i := 11) (v := ?_) rfl (by kernel_rfl) (by kernel_rfl) (by kernel_rfl) (fun _ _ _ h => h) (Or.inl ⟨by rfl, ?_⟩) hHeld5 ?_
      rotate_left
      · intro W' hSw; (try dsimp only at hSw); go_simp; try (with_reducible rfl)
      (try simp only [Act.put, List.getElem_toArray, List.getElem_cons_zero, List.getElem_cons_succ, List.setIfInBounds_toArray, List.set_cons_zero, List.set_cons_succ])
      refine wpAnyH_done (by kernel_rfl) ?_ _
      have hX := below_setRowa (cells := #[.bool en, .int .u64 co, .string so, .int .i64 rd, .int .i64 st, .int .i64 de]) hBw (Nat.le_refl _)
      go_wp2_with fail
      go_meet
      exact ⟨_, rfl, rfl, setRow_heap _ _ _ _ _ _ hz3, bthen HQ.out.1 hX, (hX.block _ (Array.getElem?_eq_some_iff.1 HQ.out.2).1).trans HQ.out.2⟩
  case rest =>
  obtain ⟨Z, rfl, rfl, hZ, hb, hm⟩ := hcut
  have HB2 := Lib.hid (And.intro hb (And.intro hm hZ))
  clear hZ hb hm HSC HB
  generalize wc = w2 at *
  have a3 := Lib.cell_of_heap HB2.out.2.2 3
  simp only [List.getElem?_toArray, List.getElem?_cons_zero, List.getElem?_cons_succ] at a3
  have HSC2 := Lib.hid (fun (U : World) (hU : Below w2.heap.size w2 U) => (show U.cell? ⟨w.heap.size + 1, 0, none⟩ = some (.slice F nf cf) ∧ U.cell? ⟨w.heap.size + 1, 1, none⟩ = some (.slice G ng cg) ∧ U.cell? ⟨Z, 3, none⟩ = some (.int .i64 rd) from by
    have h := (hU.block _ (Array.getElem?_eq_some_iff.1 HB2.out.2.1).1).trans HB2.out.2.1
    have h2 := (hU.block _ (Array.getElem?_eq_some_iff.1 HB2.out.2.2).1).trans HB2.out.2.2
    exact ⟨Lib.cell_of_heap h 0, Lib.cell_of_heap h 1, Lib.cell_of_heap h2 3⟩))
  go_upto_region 10 with fail
  go_cut [11, 12] from 39 to 53 (fun v11 v12 wx => ∃ B, v11 = .pointer (some ⟨B, 0, none⟩) ∧ v12 = .int .i64 er ∧ wx.heap[B]? = some (.cells #[.bool en, .int .u64 co, .string so, .int .i64 rd, .int .i64 st, .int .i64 de] 43 (0, 0)) ∧ Below w.heap.size w wx ∧ wx.heap[Z]? = some (.cells #[.bool en, .int .u64 co, .string so, .int .i64 rd, .int .i64 st, .int .i64 de] 43 (0, 0)))
  case first =>
    have HQ := Lib.hid HB2.out
    refine wp_region_held_drew (S := (fun U => U.cell? ⟨w.heap.size + 1, 0, none⟩ = some (.slice F nf cf) ∧ U.cell? ⟨w.heap.size + 1, 1, none⟩ = some (.slice G ng cg) ∧ U.cell? ⟨Z, 3, none⟩ = some (.int .i64 rd))) (by kernel_rfl) (HSC2.out _ (Below.refl _ w2).drew) (fun hHeld => ?_)
    have hub := Below.refl w2.drew.heap.size w2.drew
    refine wpAnyH_take (i := 0) (v := ?_) rfl (by kernel_rfl) (by kernel_rfl) (by kernel_rfl) (fun _ _ _ h => h) (Or.inl ⟨by rfl, ?_⟩) hHeld ?_
    rotate_left
    · intro W' hSw; (try dsimp only at hSw); go_simp; try (with_reducible rfl)
    (try simp only [Act.put, List.getElem_toArray, List.getElem_cons_zero, List.setIfInBounds_toArray, List.set_cons_zero, List.set_cons_succ])
    refine wpAnyH_take (i := 1) (v := ?_) rfl (by kernel_rfl) (by kernel_rfl) (by kernel_rfl) (fun _ _ _ h => h) (Or.inl ⟨by rfl, ?_⟩) hHeld ?_
    rotate_left
    · intro W' hSw; (try dsimp only at hSw); go_simp; try (with_reducible rfl)
    (try simp only [Act.put, List.getElem_toArray, List.getElem_cons_zero, List.getElem_cons_succ, List.setIfInBounds_toArray, List.set_cons_zero, List.set_cons_succ])
    refine wpAnyH_take (i := 2) (v := ?_) rfl (by kernel_rfl) (by kernel_rfl) (by kernel_rfl) (fun _ _ _ h => h) (Or.inl ⟨by rfl, ?_⟩) hHeld ?_
    rotate_left
    · intro W' hSw; (try dsimp only at hSw); go_simp; try (with_reducible rfl)
    (try simp only [Act.put, List.getElem_toArray, List.getElem_cons_zero, List.getElem_cons_succ, List.setIfInBounds_toArray, List.set_cons_zero, List.set_cons_succ])
    refine wpAnyH_take (i := 3) (v := ?_) rfl (by kernel_rfl) (by kernel_rfl) (by kernel_rfl) (fun _ _ _ h => h) (Or.inl ⟨by rfl, ?_⟩) hHeld ?_
    rotate_left
    · intro W' hSw; (try dsimp only at hSw); go_simp; try (with_reducible rfl)
    (try simp only [Act.put, List.getElem_toArray, List.getElem_cons_zero, List.getElem_cons_succ, List.setIfInBounds_toArray, List.set_cons_zero, List.set_cons_succ])
    refine wpAnyH_take (i := 4) (v := .int .i64 ((rd + 1 : Nat) : Int)) rfl (by kernel_rfl) (by kernel_rfl) (by kernel_rfl) (fun _ _ _ h => h) (Or.inl ⟨by rfl, ?_⟩) hHeld ?_
    · intro W' hSw; (try dsimp only at hSw); go_simp; try (with_reducible rfl)
    (try simp only [Act.put, List.getElem_toArray, List.getElem_cons_zero, List.getElem_cons_succ, List.setIfInBounds_toArray, List.set_cons_zero, List.set_cons_succ])
    refine wpAnyH_take (i := 5) (v := .string (inp.extract 0 (rd + 1))) rfl (by kernel_rfl) (by kernel_rfl) (by kernel_rfl) (fun _ _ _ h => h) (Or.inl ⟨by rfl, ?_⟩) hHeld ?_
    · intro W' hSw; (try dsimp only at hSw); go_simp; intro h5; exfalso; have h6 := h5 (by omega); omega
    (try simp only [Act.put, List.getElem_toArray, List.getElem_cons_zero, List.getElem_cons_succ, List.setIfInBounds_toArray, List.set_cons_zero, List.set_cons_succ])
    refine wpAnyH_take (i := 6) (v := ?_) rfl (by kernel_rfl) (by kernel_rfl) (by kernel_rfl) (fun _ _ _ h => h) (Or.inl ⟨by rfl, ?_⟩) hHeld ?_
    rotate_left
    · intro W' hSw; (try dsimp only at hSw); go_simp; try (with_reducible rfl)
    (try simp only [Act.put, List.getElem_toArray, List.getElem_cons_zero, List.getElem_cons_succ, List.setIfInBounds_toArray, List.set_cons_zero, List.set_cons_succ])
    refine wpAnyH_take (i := 7) (v := .string (inp.extract 0 (rd + 1) ++ more)) rfl (by kernel_rfl) (by kernel_rfl) (by kernel_rfl) (fun _ _ _ h => h) (Or.inl ⟨by rfl, ?_⟩) hHeld ?_
    · intro W' hSw; (try dsimp only at hSw); go_simp; first | done | exact s7
    (try simp only [Act.put, List.getElem_toArray, List.getElem_cons_zero, List.getElem_cons_succ, List.setIfInBounds_toArray, List.set_cons_zero, List.set_cons_succ])
    refine wpAnyH_take (i := 8) (v := ?_) rfl (by kernel_rfl) (by kernel_rfl) (by kernel_rfl) (fun _ _ _ h => h) (Or.inl ⟨by rfl, ?_⟩) hHeld ?_
    rotate_left
    · intro W' hSw; (try dsimp only at hSw); go_simp; try (with_reducible rfl)
    (try simp only [Act.put, List.getElem_toArray, List.getElem_cons_zero, List.getElem_cons_succ, List.setIfInBounds_toArray, List.set_cons_zero, List.set_cons_succ])
    refine wpAnyH_take (i := 10) (v := ?_) rfl (by kernel_rfl) (by kernel_rfl) (by kernel_rfl) (fun _ _ _ h => h) (Or.inl ⟨by rfl, ?_⟩) hHeld ?_
    rotate_left
    · intro W' hSw; (try dsimp only at hSw); go_simp; try (with_reducible rfl)
    (try simp only [Act.put, List.getElem_toArray, List.getElem_cons_zero, List.getElem_cons_succ, List.setIfInBounds_toArray, List.set_cons_zero, List.set_cons_succ])
    refine wpAnyH_ready (rs := [9, 15]) (by kernel_rfl) (by simp) ?_
    refine AllReadyH.cons rfl (fun K hK => ?_) (AllReadyH.cons rfl (fun K hK => ?_) AllReadyH.nil)
    · go_simp
      refine Calls.mono (HM.out _) ?_
      rintro r u1 ⟨rfl, rfl⟩
      refine hK.out _ _ hHeld (fun _ => ?_)
      clear hK
      (try simp only [Act.put, List.getElem_toArray, List.getElem_cons_zero, List.getElem_cons_succ, List.setIfInBounds_toArray, List.set_cons_zero, List.set_cons_succ])
      refine wpAnyH_ready (rs := [11, 15]) (by kernel_rfl) (by simp) ?_
      refine AllReadyH.cons rfl (fun K hK => ?_) (AllReadyH.cons rfl (fun K hK => ?_) AllReadyH.nil)
      · go_simp
        refine Calls.mono (HRB.out _ (HSU.out _ (bthen HQ.out.1 (bthen (Below.refl _ w2).drew hub)))) ?_
        rintro r u3 ⟨rfl, hb3⟩
        have hub3 := bthen hub hb3
        clear hb3
        refine hK.out _ _ (HSC2.out _ (bthen (Below.refl _ w2).drew hub3)) (fun hHeld3 => ?_)
        clear hK
        (try simp only [Act.put, List.getElem_toArray, List.getElem_cons_zero, List.getElem_cons_succ, List.setIfInBounds_toArray, List.set_cons_zero, List.set_cons_succ])
        refine wpAnyH_take (i := 12) (v := ?_) rfl (by kernel_rfl) (by kernel_rfl) (by kernel_rfl) (fun _ _ _ h => h) (Or.inl ⟨by rfl, ?_⟩) hHeld3 ?_
        rotate_left
        · intro W' hSw; (try dsimp only at hSw); go_simp; try (with_reducible rfl)
        (try simp only [Act.put, List.getElem_toArray, List.getElem_cons_zero, List.getElem_cons_succ, List.setIfInBounds_toArray, List.set_cons_zero, List.set_cons_succ])
        refine wpAnyH_take (i := 13) (v := ?_) rfl (by kernel_rfl) (by kernel_rfl) (by kernel_rfl) (fun _ _ _ h => h) (Or.inl ⟨by rfl, ?_⟩) hHeld3 ?_
        rotate_left
        · intro W' hSw; (try dsimp only at hSw); go_simp; try (with_reducible rfl)
        (try simp only [Act.put, List.getElem_toArray, List.getElem_cons_zero, List.getElem_cons_succ, List.setIfInBounds_toArray, List.set_cons_zero, List.set_cons_succ])
        refine wpAnyH_take (i := 14) (v := ?_) rfl (by kernel_rfl) (by kernel_rfl) (by kernel_rfl) (fun _ _ _ h => h) (Or.inl ⟨by rfl, ?_⟩) hHeld3 ?_
        rotate_left
        · intro W' hSw; (try dsimp only at hSw); go_simp; try (with_reducible rfl)
        (try simp only [Act.put, List.getElem_toArray, List.getElem_cons_zero, List.getElem_cons_succ, List.setIfInBounds_toArray, List.set_cons_zero, List.set_cons_succ])
        refine wpAnyH_ready (rs := [15]) (by kernel_rfl) (by simp) ?_
        refine AllReadyH.cons rfl (fun K hK => ?_) AllReadyH.nil
        go_simp
        have hz3 := heap_alloc_new u3 (.cells #[.bool false, .int .u64 0, .string ⟨#[]⟩, .int .i64 0, .int .i64 0, .int .i64 0] 43)
        have hle3 : w2.heap.size ≤ u3.heap.size := hub3.size
        have hub3 := bthen hub3 (balloc (Below.refl _ _) (.cells #[.bool false, .int .u64 0, .string ⟨#[]⟩, .int .i64 0, .int .i64 0, .int .i64 0] 43))
        refine hK.out _ _ (HSC2.out _ (bthen (Below.refl _ w2).drew hub3)) (fun hHeld4 => ?_)
        clear hK
        (try simp only [Act.put, List.getElem_toArray, List.getElem_cons_zero, List.getElem_cons_succ, List.setIfInBounds_toArray, List.set_cons_zero, List.set_cons_succ])
        refine wpAnyH_ready (rs := [16]) (by kernel_rfl) (by simp) ?_
        refine AllReadyH.cons rfl (fun K hK => ?_) AllReadyH.nil
        have hBw := bthen (Below.refl _ w2).drew hub3
        refine step_store_rowa rfl _ _ _ rfl _ #[.bool en, .int .u64 co, .string so, .int .i64 rd, .int .i64 st, .int .i64 de] (by rfl) (by rfl) _ _ hz3 trace_info rfl (by simp [Value.oneCell']) ?_
        refine hK.out _ _ (HSC2.out _ (below_setRowa hBw hle3)) (fun hHeld5 => ?_)
        clear hK
        (try simp only [Act.put, List.getElem_toArray, List.getElem_cons_zero, List.getElem_cons_succ])
        refine wpAnyH_take (i := 17) (v := ?_) rfl (by kernel_rfl) (by kernel_rfl) (by kernel_rfl) (fun _ _ _ h => h) (Or.inl ⟨by rfl, ?_⟩) hHeld5 ?_
        rotate_left
        · intro W' hSw; (try dsimp only at hSw); go_simp; try (with_reducible rfl)
        (try simp only [Act.put, List.getElem_toArray, List.getElem_cons_zero, List.getElem_cons_succ, List.setIfInBounds_toArray, List.set_cons_zero, List.set_cons_succ])
        refine wpAnyH_done (by kernel_rfl) ?_ _
        have hX := below_setRowa (cells := #[.bool en, .int .u64 co, .string so, .int .i64 rd, .int .i64 st, .int .i64 de]) hBw hle3
        go_wp2_with fail
        go_meet
        exact ⟨_, rfl, rfl, setRow_heap _ _ _ _ _ _ hz3, bthen HQ.out.1 hX, (hX.block _ (Array.getElem?_eq_some_iff.1 HQ.out.2.2).1).trans HQ.out.2.2⟩
      · go_simp
        have hz := heap_alloc_new w2.drew (.cells #[.bool false, .int .u64 0, .string ⟨#[]⟩, .int .i64 0, .int .i64 0, .int .i64 0] 43)
        have hub := bthen hub (balloc (Below.refl _ _) (.cells #[.bool false, .int .u64 0, .string ⟨#[]⟩, .int .i64 0, .int .i64 0, .int .i64 0] 43))
        refine hK.out _ _ (HSC2.out _ (bthen (Below.refl _ w2).drew hub)) (fun hHeld => ?_)
        clear hK
        (try simp only [Act.put, List.getElem_toArray, List.getElem_cons_zero, List.getElem_cons_succ, List.setIfInBounds_toArray, List.set_cons_zero, List.set_cons_succ])
        refine wpAnyH_ready (rs := [11]) (by kernel_rfl) (by simp) ?_
        refine AllReadyH.cons rfl (fun K hK => ?_) AllReadyH.nil
        go_simp
        refine Calls.mono (HRB.out _ (HSU.out _ (bthen HQ.out.1 (bthen (Below.refl _ w2).drew hub)))) ?_
        rintro r u3 ⟨rfl, hb3⟩
        have hub3 := bthen hub hb3
        have hz3 := (hb3.block _ (Array.getElem?_eq_some_iff.1 hz).1).trans hz
        clear hb3
        refine hK.out _ _ (HSC2.out _ (bthen (Below.refl _ w2).drew hub3)) (fun hHeld3 => ?_)
        clear hK
        (try simp only [Act.put, List.getElem_toArray, List.getElem_cons_zero, List.getElem_cons_succ, List.setIfInBounds_toArray, List.set_cons_zero, List.set_cons_succ])
        refine wpAnyH_take (i := 12) (v := ?_) rfl (by kernel_rfl) (by kernel_rfl) (by kernel_rfl) (fun _ _ _ h => h) (Or.inl ⟨by rfl, ?_⟩) hHeld3 ?_
        rotate_left
        · intro W' hSw; (try dsimp only at hSw); go_simp; try (with_reducible rfl)
        (try simp only [Act.put, List.getElem_toArray, List.getElem_cons_zero, List.getElem_cons_succ, List.setIfInBounds_toArray, List.set_cons_zero, List.set_cons_succ])
        refine wpAnyH_take (i := 13) (v := ?_) rfl (by kernel_rfl) (by kernel_rfl) (by kernel_rfl) (fun _ _ _ h => h) (Or.inl ⟨by rfl, ?_⟩) hHeld3 ?_
        rotate_left
        · intro W' hSw; (try dsimp only at hSw); go_simp; try (with_reducible rfl)
        (try simp only [Act.put, List.getElem_toArray, List.getElem_cons_zero, List.getElem_cons_succ, List.setIfInBounds_toArray, List.set_cons_zero, List.set_cons_succ])
        refine wpAnyH_take (i := 14) (v := ?_) rfl (by kernel_rfl) (by kernel_rfl) (by kernel_rfl) (fun _ _ _ h => h) (Or.inl ⟨by rfl, ?_⟩) hHeld3 ?_
        rotate_left
        · intro W' hSw; (try dsimp only at hSw); go_simp; try (with_reducible rfl)
        (try simp only [Act.put, List.getElem_toArray, List.getElem_cons_zero, List.getElem_cons_succ, List.setIfInBounds_toArray, List.set_cons_zero, List.set_cons_succ])
        refine wpAnyH_ready (rs := [16]) (by kernel_rfl) (by simp) ?_
        refine AllReadyH.cons rfl (fun K hK => ?_) AllReadyH.nil
        have hBw := bthen (Below.refl _ w2).drew hub3
        refine step_store_rowa rfl _ _ _ rfl _ #[.bool en, .int .u64 co, .string so, .int .i64 rd, .int .i64 st, .int .i64 de] (by rfl) (by rfl) _ _ hz3 trace_info rfl (by simp [Value.oneCell']) ?_
        refine hK.out _ _ (HSC2.out _ (below_setRowa hBw (Nat.le_refl _))) (fun hHeld5 => ?_)
        clear hK
        (try simp only [Act.put, List.getElem_toArray, List.getElem_cons_zero, List.getElem_cons_succ])
        refine wpAnyH_take (i := 17) (v := ?_) rfl (by kernel_rfl) (by kernel_rfl) (by kernel_rfl) (fun _ _ _ h => h) (Or.inl ⟨by rfl, ?_⟩) hHeld5 ?_
        rotate_left
        · intro W' hSw; (try dsimp only at hSw); go_simp; try (with_reducible rfl)
        (try simp only [Act.put, List.getElem_toArray, List.getElem_cons_zero, List.getElem_cons_succ, List.setIfInBounds_toArray, List.set_cons_zero, List.set_cons_succ])
        refine wpAnyH_done (by kernel_rfl) ?_ _
        have hX := below_setRowa (cells := #[.bool en, .int .u64 co, .string so, .int .i64 rd, .int .i64 st, .int .i64 de]) hBw (Nat.le_refl _)
        go_wp2_with fail
        go_meet
        exact ⟨_, rfl, rfl, setRow_heap _ _ _ _ _ _ hz3, bthen HQ.out.1 hX, (hX.block _ (Array.getElem?_eq_some_iff.1 HQ.out.2.2).1).trans HQ.out.2.2⟩
    · go_simp
      have hz := heap_alloc_new w2.drew (.cells #[.bool false, .int .u64 0, .string ⟨#[]⟩, .int .i64 0, .int .i64 0, .int .i64 0] 43)
      have hub := bthen hub (balloc (Below.refl _ _) (.cells #[.bool false, .int .u64 0, .string ⟨#[]⟩, .int .i64 0, .int .i64 0, .int .i64 0] 43))
      refine hK.out _ _ (HSC2.out _ (bthen (Below.refl _ w2).drew hub)) (fun hHeld => ?_)
      clear hK
      (try simp only [Act.put, List.getElem_toArray, List.getElem_cons_zero, List.getElem_cons_succ, List.setIfInBounds_toArray, List.set_cons_zero, List.set_cons_succ])
      refine wpAnyH_ready (rs := [9]) (by kernel_rfl) (by simp) ?_
      refine AllReadyH.cons rfl (fun K hK => ?_) AllReadyH.nil
      go_simp
      refine Calls.mono (HM.out _) ?_
      rintro r u1 ⟨rfl, rfl⟩
      refine hK.out _ _ hHeld (fun _ => ?_)
      clear hK
      (try simp only [Act.put, List.getElem_toArray, List.getElem_cons_zero, List.getElem_cons_succ, List.setIfInBounds_toArray, List.set_cons_zero, List.set_cons_succ])
      refine wpAnyH_ready (rs := [11]) (by kernel_rfl) (by simp) ?_
      refine AllReadyH.cons rfl (fun K hK => ?_) AllReadyH.nil
      go_simp
      refine Calls.mono (HRB.out _ (HSU.out _ (bthen HQ.out.1 (bthen (Below.refl _ w2).drew hub)))) ?_
      rintro r u3 ⟨rfl, hb3⟩
      have hub3 := bthen hub hb3
      have hz3 := (hb3.block _ (Array.getElem?_eq_some_iff.1 hz).1).trans hz
      clear hb3
      refine hK.out _ _ (HSC2.out _ (bthen (Below.refl _ w2).drew hub3)) (fun hHeld3 => ?_)
      clear hK
      (try simp only [Act.put, List.getElem_toArray, List.getElem_cons_zero, List.getElem_cons_succ, List.setIfInBounds_toArray, List.set_cons_zero, List.set_cons_succ])
      refine wpAnyH_take (i := 12) (v := ?_) rfl (by kernel_rfl) (by kernel_rfl) (by kernel_rfl) (fun _ _ _ h => h) (Or.inl ⟨by rfl, ?_⟩) hHeld3 ?_
      rotate_left
      · intro W' hSw; (try dsimp only at hSw); go_simp; try (with_reducible rfl)
      (try simp only [Act.put, List.getElem_toArray, List.getElem_cons_zero, List.getElem_cons_succ, List.setIfInBounds_toArray, List.set_cons_zero, List.set_cons_succ])
      refine wpAnyH_take (i := 13) (v := ?_) rfl (by kernel_rfl) (by kernel_rfl) (by kernel_rfl) (fun _ _ _ h => h) (Or.inl ⟨by rfl, ?_⟩) hHeld3 ?_
      rotate_left
      · intro W' hSw; (try dsimp only at hSw); go_simp; try (with_reducible rfl)
      (try simp only [Act.put, List.getElem_toArray, List.getElem_cons_zero, List.getElem_cons_succ, List.setIfInBounds_toArray, List.set_cons_zero, List.set_cons_succ])
      refine wpAnyH_take (i := 14) (v := ?_) rfl (by kernel_rfl) (by kernel_rfl) (by kernel_rfl) (fun _ _ _ h => h) (Or.inl ⟨by rfl, ?_⟩) hHeld3 ?_
      rotate_left
      · intro W' hSw; (try dsimp only at hSw); go_simp; try (with_reducible rfl)
      (try simp only [Act.put, List.getElem_toArray, List.getElem_cons_zero, List.getElem_cons_succ, List.setIfInBounds_toArray, List.set_cons_zero, List.set_cons_succ])
      refine wpAnyH_ready (rs := [16]) (by kernel_rfl) (by simp) ?_
      refine AllReadyH.cons rfl (fun K hK => ?_) AllReadyH.nil
      have hBw := bthen (Below.refl _ w2).drew hub3
      refine step_store_rowa rfl _ _ _ rfl _ #[.bool en, .int .u64 co, .string so, .int .i64 rd, .int .i64 st, .int .i64 de] (by rfl) (by rfl) _ _ hz3 trace_info rfl (by simp [Value.oneCell']) ?_
      refine hK.out _ _ (HSC2.out _ (below_setRowa hBw (Nat.le_refl _))) (fun hHeld5 => ?_)
      clear hK
      (try simp only [Act.put, List.getElem_toArray, List.getElem_cons_zero, List.getElem_cons_succ])
      refine wpAnyH_take (i := 17) (v := ?_) rfl (by kernel_rfl) (by kernel_rfl) (by kernel_rfl) (fun _ _ _ h => h) (Or.inl ⟨by rfl, ?_⟩) hHeld5 ?_
      rotate_left
      · intro W' hSw; (try dsimp only at hSw); go_simp; try (with_reducible rfl)
      (try simp only [Act.put, List.getElem_toArray, List.getElem_cons_zero, List.getElem_cons_succ, List.setIfInBounds_toArray, List.set_cons_zero, List.set_cons_succ])
      refine wpAnyH_done (by kernel_rfl) ?_ _
      have hX := below_setRowa (cells := #[.bool en, .int .u64 co, .string so, .int .i64 rd, .int .i64 st, .int .i64 de]) hBw (Nat.le_refl _)
      go_wp2_with fail
      go_meet
      exact ⟨_, rfl, rfl, setRow_heap _ _ _ _ _ _ hz3, bthen HQ.out.1 hX, (hX.block _ (Array.getElem?_eq_some_iff.1 HQ.out.2.2).1).trans HQ.out.2.2⟩
  case rest =>
  obtain ⟨Y, rfl, rfl, hY, hb, hm⟩ := hcut
  have HB5 := Lib.hid (And.intro hb (And.intro hm hY))
  clear hY hb hm HSC2 HB2 a3
  generalize wc = W5 at *
  have a0 := Lib.cell_of_heap HB5.out.2.1 0
  have a1 := Lib.cell_of_heap HB5.out.2.1 1
  have a2 := Lib.cell_of_heap HB5.out.2.1 2
  have a3 := Lib.cell_of_heap HB5.out.2.1 3
  have a4 := Lib.cell_of_heap HB5.out.2.1 4
  have a5 := Lib.cell_of_heap HB5.out.2.1 5
  have b0 := Lib.cell_of_heap HB5.out.2.2 0
  have b1 := Lib.cell_of_heap HB5.out.2.2 1
  have b2 := Lib.cell_of_heap HB5.out.2.2 2
  have b3 := Lib.cell_of_heap HB5.out.2.2 3
  have b4 := Lib.cell_of_heap HB5.out.2.2 4
  have b5 := Lib.cell_of_heap HB5.out.2.2 5
  simp only [List.getElem?_toArray, List.getElem?_cons_zero, List.getElem?_cons_succ] at a0 a1 a2 a3 a4 a5 b0 b1 b2 b3 b4 b5
  go_wp2_with fail
  go_ret
  exact ⟨rfl, HB5.out.1⟩
theorem ahead_all (m : Md) (inp more : ByteArray) (fu dp : Int) (F G : Option Addr) (nf cf ng cg : Nat) (w : World) (hok : MdOk m) (hr : MdR m) (hin : inp.size ≤ 140737488351232) (hmo : more.size ≤ 140737488351232) (hnf : m.f.length = nf) (hng : m.g.length = ng) (hS : MdAt w (.slice F nf cf) (.slice G ng cg) m) : Calls Try.prog 7 #[.agg #[.slice F nf cf, .slice G ng cg, .string inp, .string more, .int .i64 fu, .int .i64 dp]] w fun e w' => e = .returned (.bool true) ∧ Below w.heap.size w w' := by
  obtain ⟨k, hk⟩ : ∃ k, mostA fu = k := ⟨_, rfl⟩
  have hRa := fun (W : World) (hS : MdAt W (.slice F nf cf) (.slice G ng cg) m) => run_any m inp k dp F G nf cf ng cg W hok hr (by omega) hnf hng hS
  obtain ⟨⟨T, e⟩, hT⟩ : ∃ x, trE m inp k dp = x := ⟨_, rfl⟩
  rw [hT] at hRa
  by_cases hd : inp.size ≤ T.read
  · exact ahead_end m inp more fu dp k F G nf cf ng cg w hS hk _ _ _ _ _ e _ (show (inp.size : Int) ≤ (T.read : Int) by omega) hRa
  · have hsz : (inp.extract 0 (T.read + 1)).size = T.read + 1 := by rw [ByteArray.size_extract]; omega
    have hRb := fun (W : World) (hS : MdAt W (.slice F nf cf) (.slice G ng cg) m) => run_any m (inp.extract 0 (T.read + 1) ++ more) k dp F G nf cf ng cg W hok hr (by rw [ByteArray.size_append, hsz]; omega) hnf hng hS
    have he : trE m (inp.extract 0 (T.read + 1) ++ more) k dp = (T, e) := by
      unfold trE at hT ⊢
      by_cases h1 : k < 0 ∨ 100000 < k ∨ dp < 1 ∨ 64 < dp
      · rw [if_pos h1] at hT ⊢
        exact hT
      rw [if_neg h1] at hT ⊢
      by_cases h2 : wholeE m = 0
      · rw [if_pos h2] at hT ⊢
        have hA : Agree inp (inp.extract 0 (T.read + 1) ++ more) T.read := ⟨by omega, by rw [ByteArray.size_append, hsz]; omega, fun i h h' hi => by
          rw [ByteArray.getElem_append_left (by rw [hsz]; omega), ByteArray.getElem_extract]
          simp⟩
        rw [← run_ahead hA _ _ (by rw [hT]; exact Nat.le_refl _)]
        exact hT
      · rw [if_neg h2] at hT ⊢
        exact hT
    rw [he] at hRb
    exact ahead_more m inp more fu dp k F G nf cf ng cg w hS hk _ _ _ _ e T.read _ (by omega) (by omega) (by rw [hsz]; omega) hRa hRb
end Go.Proofs.Ytkalgiaapkjplaa
