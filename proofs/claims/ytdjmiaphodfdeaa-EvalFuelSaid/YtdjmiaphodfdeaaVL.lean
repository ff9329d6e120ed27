/- EvalFuel: the walk. -/
import Derived.Test.YtdjmiaphodfdeaaVH
import Derived.BigQuiet
namespace Go.Proofs.Ytdjmiaphodfdeaa
open Go.RowKit

/-- a run that has gone on -/
structure Ext (s t : Rs) : Prop where
  out : s.out <+: t.out
  rd : s.read ≤ t.read
  de : s.deep ≤ t.deep
  st : s.steps ≤ t.steps
theorem Ext.refl (s : Rs) : Ext s s := ⟨List.prefix_refl _, Nat.le_refl _, Nat.le_refl _, Nat.le_refl _⟩
theorem Ext.trans {s t u : Rs} (h : Ext s t) (k : Ext t u) : Ext s u := ⟨h.out.trans k.out, Nat.le_trans h.rd k.rd, Nat.le_trans h.de k.de, Nat.le_trans h.st k.st⟩
theorem value_ext {inp : ByteArray} {s : Rs} {i : In} {vs : List Int} : s.out <+: (valueE inp s i vs).2.out ∧ s.read ≤ (valueE inp s i vs).2.read ∧ (valueE inp s i vs).2.deep = s.deep ∧ (valueE inp s i vs).2.steps = s.steps := by
  unfold valueE
  split; · exact ⟨List.prefix_refl _, Nat.le_refl _, rfl, rfl⟩
  split; · exact ⟨List.prefix_refl _, Nat.le_refl _, rfl, rfl⟩
  split; · exact ⟨List.prefix_refl _, Nat.le_refl _, rfl, rfl⟩
  split
  · unfold readE
    simp only
    split
    · exact ⟨List.prefix_refl _, by simp only; omega, rfl, rfl⟩
    · exact ⟨List.prefix_refl _, Nat.le_refl _, rfl, rfl⟩
  split; · exact ⟨List.prefix_append _ _, Nat.le_refl _, rfl, rfl⟩
  exact ⟨List.prefix_refl _, Nat.le_refl _, rfl, rfl⟩
theorem tick_ext {m : Md} {inp : ByteArray} {dp : Nat} {s : Rs} {c : Cl} {r : List Cl} : Ext s (tick m inp dp s c r).1 ∧ ((tick m inp dp s c r).2 = true → (tick m inp dp s c r).1.steps = s.steps + 1) := by
  unfold tick
  split
  · exact ⟨Ext.refl s, fun h => by cases h⟩
  · rename_i b _
    simp only
    split
    · rename_i i _
      by_cases ho : i.o = 14
      · rw [if_pos ho]
        by_cases hd' : r.length + 1 = dp
        · rw [if_pos hd']
          exact ⟨⟨List.prefix_refl _, Nat.le_refl _, Nat.le_refl _, by simp⟩, fun h => by cases h⟩
        · rw [if_neg hd']
          exact ⟨⟨List.prefix_refl _, Nat.le_refl _, by simp only; omega, by simp⟩, fun _ => rfl⟩
      · rw [if_neg ho]
        obtain ⟨a, b', c', d⟩ := value_ext (inp := inp) (s := { s with steps := s.steps + 1 }) (i := i) (vs := c.vs)
        simp only at a b' c' d
        exact ⟨⟨a, b', by simp only; omega, by simp only; omega⟩, fun _ => d⟩
    · simp only
      obtain ⟨a, b', c', d, -⟩ := end_bnd { s with steps := s.steps + 1 } c r b.e
      simp only at a b' c' d
      exact ⟨⟨by rw [b']; exact List.prefix_refl _, by omega, by omega, by omega⟩, fun _ => d⟩
theorem run_ext {m : Md} {inp : ByteArray} {dp : Nat} : ∀ (n : Nat) (s : Rs), Ext s (runE m inp dp n s).1 := by
  intro n
  induction n with
  | zero =>
    intro s
    unfold runE
    split <;> exact Ext.refl s
  | succ n ih =>
    intro s
    unfold runE
    split
    · exact Ext.refl s
    · rename_i c r _
      have ht := (tick_ext (m := m) (inp := inp) (dp := dp) (s := s) (c := c) (r := r)).1
      split
      · rename_i s' hq
        rw [hq] at ht
        exact ht.trans (ih s')
      · rename_i s' hq
        rw [hq] at ht
        exact ht
/-- more fuel: the same, or on from where it stopped -/
theorem run_split {m : Md} {inp : ByteArray} {dp : Nat} (k : Nat) : ∀ (n : Nat) (s : Rs),
    ((runE m inp dp n s).2 ≠ 12 → runE m inp dp (n + k) s = runE m inp dp n s) ∧
    ((runE m inp dp n s).2 = 12 → runE m inp dp (n + k) s = runE m inp dp k (runE m inp dp n s).1 ∧ (runE m inp dp n s).1.steps = s.steps + n) := by
  intro n
  induction n with
  | zero =>
    intro s
    obtain ⟨l, hl⟩ : ∃ l, s.cs = l := ⟨_, rfl⟩
    cases l with
    | nil =>
      have h0 : runE m inp dp 0 s = (s, 0) := by unfold runE; rw [hl]
      have hk : runE m inp dp (0 + k) s = (s, 0) := by
        rw [Nat.zero_add]
        cases k <;> (unfold runE; rw [hl])
      rw [h0, hk]
      exact ⟨fun _ => rfl, fun h => by simp at h⟩
    | cons c r =>
      have h0 : runE m inp dp 0 s = (s, 12) := by unfold runE; rw [hl]
      rw [h0, Nat.zero_add]
      exact ⟨fun h => absurd rfl h, fun _ => ⟨rfl, rfl⟩⟩
  | succ n ih =>
    intro s
    rw [show n + 1 + k = n + k + 1 by omega]
    obtain ⟨l, hl⟩ : ∃ l, s.cs = l := ⟨_, rfl⟩
    cases l with
    | nil =>
      have h0 : ∀ j, runE m inp dp (j + 1) s = (s, 0) := fun j => by unfold runE; rw [hl]
      rw [h0, h0]
      exact ⟨fun _ => rfl, fun h => by simp at h⟩
    | cons c r =>
      have ht := (tick_ext (m := m) (inp := inp) (dp := dp) (s := s) (c := c) (r := r)).2
      obtain ⟨⟨s', b⟩, hq⟩ : ∃ q, tick m inp dp s c r = q := ⟨_, rfl⟩
      rw [hq] at ht
      cases b with
      | true =>
        have h0 : ∀ j, runE m inp dp (j + 1) s = runE m inp dp j s' := fun j => by rw [runE, hl]; simp only [hq]
        rw [h0, h0]
        obtain ⟨i1, i2⟩ := ih s'
        have := ht rfl
        exact ⟨i1, fun h => ⟨(i2 h).1, by have := (i2 h).2; simp only at *; omega⟩⟩
      | false =>
        have h0 : ∀ j, runE m inp dp (j + 1) s = (s', 13) := fun j => by rw [runE, hl]; simp only [hq]
        rw [h0, h0]
        exact ⟨fun _ => rfl, fun h => by simp at h⟩
theorem check_code (m : Md) : checkE m = 0 ∨ checkE m = 1 ∨ checkE m = 4 ∨ checkE m = 8 ∨ checkE m = 9 ∨ checkE m = 10 := by
  unfold checkE foundE
  (repeat' split) <;> simp
theorem whole_code (m : Md) : wholeE m ≠ 12 ∧ wholeE m ≠ 13 := by
  have hc := check_code m
  unfold wholeE
  split
  · (repeat' split) <;> decide
  · omega
end Go.Proofs.Ytdjmiaphodfdeaa

namespace Go.Proofs.Ytdjmiaphodfdeaa
open Go.RowKit

set_option maxRecDepth 100000 in
set_option maxHeartbeats 4000000 in
theorem fuel_o1 (_m : Md) (inp : ByteArray) (a b deep : Int) (F G : Option Addr) (nf cf ng cg : Nat) (w : World) (h : a < 0) : Calls Try.prog 9 #[.agg #[.slice F nf cf, .slice G ng cg, .string inp, .int .i64 a, .int .i64 b, .int .i64 deep]] w fun e w' => e = .returned (.bool true) ∧ Below w.heap.size w w' := by
  have d1 : decide (a < 0) = true := by simpa using h
  have HW := Lib.hid (fun (W : World) (hW : W = (w.alloc (.cells #[.slice F nf cf, .slice G ng cg, .string inp, .int .i64 a, .int .i64 b, .int .i64 deep] 66)).alloc (.cells #[.slice F nf cf, .slice G ng cg] 47)) => (show Below w.heap.size w W ∧ W.heap[w.heap.size + 1]? = some (.cells #[.slice F nf cf, .slice G ng cg] 47 (0, 0)) from by
    subst hW
    have e := heap_alloc_new (w.alloc (.cells #[.slice F nf cf, .slice G ng cg, .string inp, .int .i64 a, .int .i64 b, .int .i64 deep] 66)) (.cells #[.slice F nf cf, .slice G ng cg] 47)
    rw [World.size_alloc] at e
    exact ⟨balloc (balloc (Below.refl _ w) _) _, e⟩))
  go_enter Try.func9, Try.ntmps9
  go_wp2_with fail
  obtain ⟨W, hW⟩ : ∃ W, W = (w.alloc (.cells #[.slice F nf cf, .slice G ng cg, .string inp, .int .i64 a, .int .i64 b, .int .i64 deep] 66)).alloc (.cells #[.slice F nf cf, .slice G ng cg] 47) := ⟨_, rfl⟩
  obtain ⟨hb0, hh0⟩ := HW.out W hW
  rw [← hW]
  clear hW HW
  refine (vshown_any W).mono ?_
  rintro r w1 ⟨rfl, hb⟩
  have HB := Lib.hid (show Below w.heap.size w w1 ∧ w1.heap[w.heap.size + 1]? = some (.cells #[.slice F nf cf, .slice G ng cg] 47 (0, 0)) from ⟨bthen hb0 hb, (hb.block _ (Array.getElem?_eq_some_iff.1 hh0).1).trans hh0⟩)
  clear hb0 hh0 hb
  go_wp2_with fail
  go_ret
  exact ⟨rfl, HB.out.1⟩
set_option maxRecDepth 100000 in
set_option maxHeartbeats 4000000 in
theorem fuel_o2 (_m : Md) (inp : ByteArray) (a b deep : Int) (F G : Option Addr) (nf cf ng cg : Nat) (w : World) (h1 : ¬ a < 0) (h : b < a) : Calls Try.prog 9 #[.agg #[.slice F nf cf, .slice G ng cg, .string inp, .int .i64 a, .int .i64 b, .int .i64 deep]] w fun e w' => e = .returned (.bool true) ∧ Below w.heap.size w w' := by
  have d1 : decide (a < 0) = false := by simpa using h1
  have d2 : decide (b < a) = true := by simpa using h
  have HW := Lib.hid (fun (W : World) (hW : W = (w.alloc (.cells #[.slice F nf cf, .slice G ng cg, .string inp, .int .i64 a, .int .i64 b, .int .i64 deep] 66)).alloc (.cells #[.slice F nf cf, .slice G ng cg] 47)) => (show Below w.heap.size w W ∧ W.heap[w.heap.size + 1]? = some (.cells #[.slice F nf cf, .slice G ng cg] 47 (0, 0)) from by
    subst hW
    have e := heap_alloc_new (w.alloc (.cells #[.slice F nf cf, .slice G ng cg, .string inp, .int .i64 a, .int .i64 b, .int .i64 deep] 66)) (.cells #[.slice F nf cf, .slice G ng cg] 47)
    rw [World.size_alloc] at e
    exact ⟨balloc (balloc (Below.refl _ w) _) _, e⟩))
  go_enter Try.func9, Try.ntmps9
  go_wp2_with fail
  obtain ⟨W, hW⟩ : ∃ W, W = (w.alloc (.cells #[.slice F nf cf, .slice G ng cg, .string inp, .int .i64 a, .int .i64 b, .int .i64 deep] 66)).alloc (.cells #[.slice F nf cf, .slice G ng cg] 47) := ⟨_, rfl⟩
  obtain ⟨hb0, hh0⟩ := HW.out W hW
  rw [← hW]
  clear hW HW
  refine (vshown_any W).mono ?_
  rintro r w1 ⟨rfl, hb⟩
  have HB := Lib.hid (show Below w.heap.size w w1 ∧ w1.heap[w.heap.size + 1]? = some (.cells #[.slice F nf cf, .slice G ng cg] 47 (0, 0)) from ⟨bthen hb0 hb, (hb.block _ (Array.getElem?_eq_some_iff.1 hh0).1).trans hh0⟩)
  clear hb0 hh0 hb
  go_wp2_with fail
  go_ret
  exact ⟨rfl, HB.out.1⟩
set_option maxRecDepth 100000 in
set_option maxHeartbeats 4000000 in
theorem fuel_o3 (_m : Md) (inp : ByteArray) (a b deep : Int) (F G : Option Addr) (nf cf ng cg : Nat) (w : World) (h1 : ¬ a < 0) (h2 : ¬ b < a) (h : 2000 < b) : Calls Try.prog 9 #[.agg #[.slice F nf cf, .slice G ng cg, .string inp, .int .i64 a, .int .i64 b, .int .i64 deep]] w fun e w' => e = .returned (.bool true) ∧ Below w.heap.size w w' := by
  have d1 : decide (a < 0) = false := by simpa using h1
  have d2 : decide (b < a) = false := by simpa using h2
  have d3 : decide (2000 < b) = true := by simpa using h
  have HW := Lib.hid (fun (W : World) (hW : W = (w.alloc (.cells #[.slice F nf cf, .slice G ng cg, .string inp, .int .i64 a, .int .i64 b, .int .i64 deep] 66)).alloc (.cells #[.slice F nf cf, .slice G ng cg] 47)) => (show Below w.heap.size w W ∧ W.heap[w.heap.size + 1]? = some (.cells #[.slice F nf cf, .slice G ng cg] 47 (0, 0)) from by
    subst hW
    have e := heap_alloc_new (w.alloc (.cells #[.slice F nf cf, .slice G ng cg, .string inp, .int .i64 a, .int .i64 b, .int .i64 deep] 66)) (.cells #[.slice F nf cf, .slice G ng cg] 47)
    rw [World.size_alloc] at e
    exact ⟨balloc (balloc (Below.refl _ w) _) _, e⟩))
  go_enter Try.func9, Try.ntmps9
  go_wp2_with fail
  obtain ⟨W, hW⟩ : ∃ W, W = (w.alloc (.cells #[.slice F nf cf, .slice G ng cg, .string inp, .int .i64 a, .int .i64 b, .int .i64 deep] 66)).alloc (.cells #[.slice F nf cf, .slice G ng cg] 47) := ⟨_, rfl⟩
  obtain ⟨hb0, hh0⟩ := HW.out W hW
  rw [← hW]
  clear hW HW
  refine (vshown_any W).mono ?_
  rintro r w1 ⟨rfl, hb⟩
  have HB := Lib.hid (show Below w.heap.size w w1 ∧ w1.heap[w.heap.size + 1]? = some (.cells #[.slice F nf cf, .slice G ng cg] 47 (0, 0)) from ⟨bthen hb0 hb, (hb.block _ (Array.getElem?_eq_some_iff.1 hh0).1).trans hh0⟩)
  clear hb0 hh0 hb
  go_wp2_with fail
  go_ret
  exact ⟨rfl, HB.out.1⟩
set_option maxRecDepth 100000 in
set_option maxHeartbeats 4000000 in
theorem fuel_same (m : Md) (inp : ByteArray) (a b deep : Int) (F G : Option Addr) (nf cf ng cg : Nat) (w : World) (hS : MdAt w (.slice F nf cf) (.slice G ng cg) m) (h1 : ¬ a < 0) (h2 : ¬ b < a) (h3 : ¬ 2000 < b) (en : Bool) (co rd st dp er : Int) (so : ByteArray) (he : er ≠ 12) (hRa : ∀ W, MdAt W (.slice F nf cf) (.slice G ng cg) m → Calls Try.prog 32 #[.agg #[.slice F nf cf, .slice G ng cg], .string inp, .int .i64 a, .int .i64 deep] W fun e w' => e = .returned (.tuple #[.agg #[.bool en, .int .u64 co, .string so, .int .i64 rd, .int .i64 st, .int .i64 dp], .int .i64 er]) ∧ Below W.heap.size W w') (hRb : ∀ W, MdAt W (.slice F nf cf) (.slice G ng cg) m → Calls Try.prog 32 #[.agg #[.slice F nf cf, .slice G ng cg], .string inp, .int .i64 b, .int .i64 deep] W fun e w' => e = .returned (.tuple #[.agg #[.bool en, .int .u64 co, .string so, .int .i64 rd, .int .i64 st, .int .i64 dp], .int .i64 er]) ∧ Below W.heap.size W w') : Calls Try.prog 9 #[.agg #[.slice F nf cf, .slice G ng cg, .string inp, .int .i64 a, .int .i64 b, .int .i64 deep]] w fun e w' => e = .returned (.bool true) ∧ Below w.heap.size w w' := by
  have d1 : decide (a < 0) = false := by simpa using h1
  have d2 : decide (b < a) = false := by simpa using h2
  have d3 : decide (2000 < b) = false := by simpa using h3
  have HRA := Lib.hid hRa
  have HRB := Lib.hid hRb
  have HSU := Lib.hid (fun (U : World) (hb : Below w.heap.size w U) => hS.next hb)
  clear hRa hRb hS h1 h2 h3
  have d4 : (er != 12) = true := by simpa using he
  have HW := Lib.hid (fun (W : World) (hW : W = (w.alloc (.cells #[.slice F nf cf, .slice G ng cg, .string inp, .int .i64 a, .int .i64 b, .int .i64 deep] 66)).alloc (.cells #[.slice F nf cf, .slice G ng cg] 47)) => (show Below w.heap.size w W ∧ W.heap[w.heap.size + 1]? = some (.cells #[.slice F nf cf, .slice G ng cg] 47 (0, 0)) from by
    subst hW
    have e := heap_alloc_new (w.alloc (.cells #[.slice F nf cf, .slice G ng cg, .string inp, .int .i64 a, .int .i64 b, .int .i64 deep] 66)) (.cells #[.slice F nf cf, .slice G ng cg] 47)
    rw [World.size_alloc] at e
    exact ⟨balloc (balloc (Below.refl _ w) _) _, e⟩))
  go_enter Try.func9, Try.ntmps9
  go_wp2_with fail
  obtain ⟨W, hW⟩ : ∃ W, W = (w.alloc (.cells #[.slice F nf cf, .slice G ng cg, .string inp, .int .i64 a, .int .i64 b, .int .i64 deep] 66)).alloc (.cells #[.slice F nf cf, .slice G ng cg] 47) := ⟨_, rfl⟩
  obtain ⟨hb0, hh0⟩ := HW.out W hW
  rw [← hW]
  clear hW HW
  refine (vshown_any W).mono ?_
  rintro r w1 ⟨rfl, hb⟩
  have HB := Lib.hid (show Below w.heap.size w w1 ∧ w1.heap[w.heap.size + 1]? = some (.cells #[.slice F nf cf, .slice G ng cg] 47 (0, 0)) from ⟨bthen hb0 hb, (hb.block _ (Array.getElem?_eq_some_iff.1 hh0).1).trans hh0⟩)
  clear hb0 hh0 hb
  have c0 := Lib.cell_of_heap HB.out.2 0
  have c1 := Lib.cell_of_heap HB.out.2 1
  simp only [List.getElem?_toArray, List.getElem?_cons_zero, List.getElem?_cons_succ] at c0 c1
  go_wp2_with fail
  refine (HRA.out _ (HSU.out _ HB.out.1)).mono ?_
  rintro r w2 ⟨rfl, hb⟩
  have HB2 := Lib.hid (show Below w.heap.size w w2 ∧ w2.heap[w.heap.size + 1]? = some (.cells #[.slice F nf cf, .slice G ng cg] 47 (0, 0)) from ⟨bthen HB.out.1 hb, (hb.block _ (Array.getElem?_eq_some_iff.1 HB.out.2).1).trans HB.out.2⟩)
  clear hb c0 c1
  have HA3 := Lib.hid (fun (W : World) (hW : W = w2.alloc (.cells #[.bool en, .int .u64 co, .string so, .int .i64 rd, .int .i64 st, .int .i64 dp] 56)) => (show Below w.heap.size w W ∧ W.heap[w.heap.size + 1]? = some (.cells #[.slice F nf cf, .slice G ng cg] 47 (0, 0)) ∧ W.heap[w2.heap.size]? = some (.cells #[.bool en, .int .u64 co, .string so, .int .i64 rd, .int .i64 st, .int .i64 dp] 56 (0, 0)) from by
    subst hW
    have hb := balloc (Below.refl _ w2) (.cells #[.bool en, .int .u64 co, .string so, .int .i64 rd, .int .i64 st, .int .i64 dp] 56)
    exact ⟨bthen HB2.out.1 hb, (hb.block _ (Array.getElem?_eq_some_iff.1 HB2.out.2).1).trans HB2.out.2, heap_alloc_new w2 _⟩))
  have c0 := Lib.cell_of_heap HB2.out.2 0
  have c1 := Lib.cell_of_heap HB2.out.2 1
  simp only [List.getElem?_toArray, List.getElem?_cons_zero, List.getElem?_cons_succ] at c0 c1
  go_upto_region 10 with fail
  obtain ⟨W3, hW3⟩ : ∃ W, W = w2.alloc (.cells #[.bool en, .int .u64 co, .string so, .int .i64 rd, .int .i64 st, .int .i64 dp] 56) := ⟨_, rfl⟩
  have HB3 := Lib.hid (HA3.out W3 hW3)
  rw [← hW3]
  clear c0 c1 hW3 HA3
  obtain ⟨Z, hZ⟩ : ∃ Z, w2.heap.size = Z := ⟨_, rfl⟩
  rw [hZ] at HB3 ⊢
  clear hZ
  have c0 := Lib.cell_of_heap HB3.out.2.1 0
  have c1 := Lib.cell_of_heap HB3.out.2.1 1
  simp only [List.getElem?_toArray, List.getElem?_cons_zero, List.getElem?_cons_succ] at c0 c1
  go_wp2_with fail
  refine (HRB.out _ (HSU.out _ HB3.out.1)).mono ?_
  rintro r w4 ⟨rfl, hb⟩
  have HB4 := Lib.hid (show Below w.heap.size w w4 ∧ w4.heap[Z]? = some (.cells #[.bool en, .int .u64 co, .string so, .int .i64 rd, .int .i64 st, .int .i64 dp] 56 (0, 0)) from ⟨bthen HB3.out.1 hb, (hb.block _ (Array.getElem?_eq_some_iff.1 HB3.out.2.2).1).trans HB3.out.2.2⟩)
  clear hb c0 c1
  have HA5 := Lib.hid (fun (W : World) (hW : W = w4.alloc (.cells #[.bool en, .int .u64 co, .string so, .int .i64 rd, .int .i64 st, .int .i64 dp] 56)) => (show Below w.heap.size w W ∧ W.heap[Z]? = some (.cells #[.bool en, .int .u64 co, .string so, .int .i64 rd, .int .i64 st, .int .i64 dp] 56 (0, 0)) ∧ W.heap[w4.heap.size]? = some (.cells #[.bool en, .int .u64 co, .string so, .int .i64 rd, .int .i64 st, .int .i64 dp] 56 (0, 0)) from by
    subst hW
    have hb := balloc (Below.refl _ w4) (.cells #[.bool en, .int .u64 co, .string so, .int .i64 rd, .int .i64 st, .int .i64 dp] 56)
    exact ⟨bthen HB4.out.1 hb, (hb.block _ (Array.getElem?_eq_some_iff.1 HB4.out.2).1).trans HB4.out.2, heap_alloc_new w4 _⟩))
  go_upto_region 11 with fail
  obtain ⟨W5, hW5⟩ : ∃ W, W = w4.alloc (.cells #[.bool en, .int .u64 co, .string so, .int .i64 rd, .int .i64 st, .int .i64 dp] 56) := ⟨_, rfl⟩
  have HB5 := Lib.hid (HA5.out W5 hW5)
  rw [← hW5]
  clear hW5 HA5
  obtain ⟨Y, hY⟩ : ∃ Y, w4.heap.size = Y := ⟨_, rfl⟩
  rw [hY] at HB5 ⊢
  clear hY
  have a0 := Lib.cell_of_heap HB5.out.2.1 0
  have a1 := Lib.cell_of_heap HB5.out.2.1 1
  have a2 := Lib.cell_of_heap HB5.out.2.1 2
  have a3 := Lib.cell_of_heap HB5.out.2.1 3
  have a4 := Lib.cell_of_heap HB5.out.2.1 4
  have a5 := Lib.cell_of_heap HB5.out.2.1 5
  have b0 := Lib.cell_of_heap HB5.out.2.2 0
  have b1 := Lib.cell_of_heap HB5.out.2.2 1
  have b2 := Lib.cell_of_heap HB5.out.2.2 2
  have b3 := Lib.cell_of_heap HB5.out.2.2 3
  have b4 := Lib.cell_of_heap HB5.out.2.2 4
  have b5 := Lib.cell_of_heap HB5.out.2.2 5
  simp only [List.getElem?_toArray, List.getElem?_cons_zero, List.getElem?_cons_succ] at a0 a1 a2 a3 a4 a5 b0 b1 b2 b3 b4 b5
  go_wp2_with fail
  go_ret
  exact ⟨rfl, HB5.out.1⟩
set_option maxRecDepth 100000 in
set_option maxHeartbeats 4000000 in
theorem fuel_more (m : Md) (inp : ByteArray) (a b deep : Int) (F G : Option Addr) (nf cf ng cg : Nat) (w : World) (hS : MdAt w (.slice F nf cf) (.slice G ng cg) m) (h1 : ¬ a < 0) (h2 : ¬ b < a) (h3 : ¬ 2000 < b) (en2 : Bool) (co rd dp co2 rd2 st2 dp2 f : Int) (so so2 : ByteArray) (hh : so.size ≤ so2.size ∧ so2.extract 0 so.size = so ∧ rd ≤ rd2 ∧ dp ≤ dp2 ∧ a ≤ st2) (hRa : ∀ W, MdAt W (.slice F nf cf) (.slice G ng cg) m → Calls Try.prog 32 #[.agg #[.slice F nf cf, .slice G ng cg], .string inp, .int .i64 a, .int .i64 deep] W fun e w' => e = .returned (.tuple #[.agg #[.bool false, .int .u64 co, .string so, .int .i64 rd, .int .i64 a, .int .i64 dp], .int .i64 12]) ∧ Below W.heap.size W w') (hRb : ∀ W, MdAt W (.slice F nf cf) (.slice G ng cg) m → Calls Try.prog 32 #[.agg #[.slice F nf cf, .slice G ng cg], .string inp, .int .i64 b, .int .i64 deep] W fun e w' => e = .returned (.tuple #[.agg #[.bool en2, .int .u64 co2, .string so2, .int .i64 rd2, .int .i64 st2, .int .i64 dp2], .int .i64 f]) ∧ Below W.heap.size W w') : Calls Try.prog 9 #[.agg #[.slice F nf cf, .slice G ng cg, .string inp, .int .i64 a, .int .i64 b, .int .i64 deep]] w fun e w' => e = .returned (.bool true) ∧ Below w.heap.size w w' := by
  have d1 : decide (a < 0) = false := by simpa using h1
  have d2 : decide (b < a) = false := by simpa using h2
  have d3 : decide (2000 < b) = false := by simpa using h3
  have HRA := Lib.hid hRa
  have HRB := Lib.hid hRb
  have HSU := Lib.hid (fun (U : World) (hb : Below w.heap.size w U) => hS.next hb)
  clear hRa hRb hS h1 h2 h3
  have HW := Lib.hid (fun (W : World) (hW : W = (w.alloc (.cells #[.slice F nf cf, .slice G ng cg, .string inp, .int .i64 a, .int .i64 b, .int .i64 deep] 66)).alloc (.cells #[.slice F nf cf, .slice G ng cg] 47)) => (show Below w.heap.size w W ∧ W.heap[w.heap.size + 1]? = some (.cells #[.slice F nf cf, .slice G ng cg] 47 (0, 0)) from by
    subst hW
    have e := heap_alloc_new (w.alloc (.cells #[.slice F nf cf, .slice G ng cg, .string inp, .int .i64 a, .int .i64 b, .int .i64 deep] 66)) (.cells #[.slice F nf cf, .slice G ng cg] 47)
    rw [World.size_alloc] at e
    exact ⟨balloc (balloc (Below.refl _ w) _) _, e⟩))
  go_enter Try.func9, Try.ntmps9
  go_wp2_with fail
  obtain ⟨W, hW⟩ : ∃ W, W = (w.alloc (.cells #[.slice F nf cf, .slice G ng cg, .string inp, .int .i64 a, .int .i64 b, .int .i64 deep] 66)).alloc (.cells #[.slice F nf cf, .slice G ng cg] 47) := ⟨_, rfl⟩
  obtain ⟨hb0, hh0⟩ := HW.out W hW
  rw [← hW]
  clear hW HW
  refine (vshown_any W).mono ?_
  rintro r w1 ⟨rfl, hb⟩
  have HB := Lib.hid (show Below w.heap.size w w1 ∧ w1.heap[w.heap.size + 1]? = some (.cells #[.slice F nf cf, .slice G ng cg] 47 (0, 0)) from ⟨bthen hb0 hb, (hb.block _ (Array.getElem?_eq_some_iff.1 hh0).1).trans hh0⟩)
  clear hb0 hh0 hb
  have c0 := Lib.cell_of_heap HB.out.2 0
  have c1 := Lib.cell_of_heap HB.out.2 1
  simp only [List.getElem?_toArray, List.getElem?_cons_zero, List.getElem?_cons_succ] at c0 c1
  go_wp2_with fail
  refine (HRA.out _ (HSU.out _ HB.out.1)).mono ?_
  rintro r w2 ⟨rfl, hb⟩
  have HB2 := Lib.hid (show Below w.heap.size w w2 ∧ w2.heap[w.heap.size + 1]? = some (.cells #[.slice F nf cf, .slice G ng cg] 47 (0, 0)) from ⟨bthen HB.out.1 hb, (hb.block _ (Array.getElem?_eq_some_iff.1 HB.out.2).1).trans HB.out.2⟩)
  clear hb c0 c1
  have HA3 := Lib.hid (fun (W : World) (hW : W = w2.alloc (.cells #[.bool false, .int .u64 co, .string so, .int .i64 rd, .int .i64 a, .int .i64 dp] 56)) => (show Below w.heap.size w W ∧ W.heap[w.heap.size + 1]? = some (.cells #[.slice F nf cf, .slice G ng cg] 47 (0, 0)) ∧ W.heap[w2.heap.size]? = some (.cells #[.bool false, .int .u64 co, .string so, .int .i64 rd, .int .i64 a, .int .i64 dp] 56 (0, 0)) from by
    subst hW
    have hb := balloc (Below.refl _ w2) (.cells #[.bool false, .int .u64 co, .string so, .int .i64 rd, .int .i64 a, .int .i64 dp] 56)
    exact ⟨bthen HB2.out.1 hb, (hb.block _ (Array.getElem?_eq_some_iff.1 HB2.out.2).1).trans HB2.out.2, heap_alloc_new w2 _⟩))
  have c0 := Lib.cell_of_heap HB2.out.2 0
  have c1 := Lib.cell_of_heap HB2.out.2 1
  simp only [List.getElem?_toArray, List.getElem?_cons_zero, List.getElem?_cons_succ] at c0 c1
  go_upto_region 10 with fail
  obtain ⟨W3, hW3⟩ : ∃ W, W = w2.alloc (.cells #[.bool false, .int .u64 co, .string so, .int .i64 rd, .int .i64 a, .int .i64 dp] 56) := ⟨_, rfl⟩
  have HB3 := Lib.hid (HA3.out W3 hW3)
  rw [← hW3]
  clear c0 c1 hW3 HA3
  obtain ⟨Z, hZ⟩ : ∃ Z, w2.heap.size = Z := ⟨_, rfl⟩
  rw [hZ] at HB3 ⊢
  clear hZ
  have c0 := Lib.cell_of_heap HB3.out.2.1 0
  have c1 := Lib.cell_of_heap HB3.out.2.1 1
  simp only [List.getElem?_toArray, List.getElem?_cons_zero, List.getElem?_cons_succ] at c0 c1
  go_wp2_with fail
  refine (HRB.out _ (HSU.out _ HB3.out.1)).mono ?_
  rintro r w4 ⟨rfl, hb⟩
  have HB4 := Lib.hid (show Below w.heap.size w w4 ∧ w4.heap[Z]? = some (.cells #[.bool false, .int .u64 co, .string so, .int .i64 rd, .int .i64 a, .int .i64 dp] 56 (0, 0)) from ⟨bthen HB3.out.1 hb, (hb.block _ (Array.getElem?_eq_some_iff.1 HB3.out.2.2).1).trans HB3.out.2.2⟩)
  clear hb c0 c1
  have HA5 := Lib.hid (fun (W : World) (hW : W = w4.alloc (.cells #[.bool en2, .int .u64 co2, .string so2, .int .i64 rd2, .int .i64 st2, .int .i64 dp2] 56)) => (show Below w.heap.size w W ∧ W.heap[Z]? = some (.cells #[.bool false, .int .u64 co, .string so, .int .i64 rd, .int .i64 a, .int .i64 dp] 56 (0, 0)) ∧ W.heap[w4.heap.size]? = some (.cells #[.bool en2, .int .u64 co2, .string so2, .int .i64 rd2, .int .i64 st2, .int .i64 dp2] 56 (0, 0)) from by
    subst hW
    have hb := balloc (Below.refl _ w4) (.cells #[.bool en2, .int .u64 co2, .string so2, .int .i64 rd2, .int .i64 st2, .int .i64 dp2] 56)
    exact ⟨bthen HB4.out.1 hb, (hb.block _ (Array.getElem?_eq_some_iff.1 HB4.out.2).1).trans HB4.out.2, heap_alloc_new w4 _⟩))
  go_upto_region 11 with fail
  obtain ⟨W5, hW5⟩ : ∃ W, W = w4.alloc (.cells #[.bool en2, .int .u64 co2, .string so2, .int .i64 rd2, .int .i64 st2, .int .i64 dp2] 56) := ⟨_, rfl⟩
  have HB5 := Lib.hid (HA5.out W5 hW5)
  rw [← hW5]
  clear hW5 HA5
  obtain ⟨Y, hY⟩ : ∃ Y, w4.heap.size = Y := ⟨_, rfl⟩
  rw [hY] at HB5 ⊢
  clear hY
  have a0 := Lib.cell_of_heap HB5.out.2.1 0
  have a1 := Lib.cell_of_heap HB5.out.2.1 1
  have a2 := Lib.cell_of_heap HB5.out.2.1 2
  have a3 := Lib.cell_of_heap HB5.out.2.1 3
  have a4 := Lib.cell_of_heap HB5.out.2.1 4
  have a5 := Lib.cell_of_heap HB5.out.2.1 5
  have b0 := Lib.cell_of_heap HB5.out.2.2 0
  have b1 := Lib.cell_of_heap HB5.out.2.2 1
  have b2 := Lib.cell_of_heap HB5.out.2.2 2
  have b3 := Lib.cell_of_heap HB5.out.2.2 3
  have b4 := Lib.cell_of_heap HB5.out.2.2 4
  have b5 := Lib.cell_of_heap HB5.out.2.2 5
  simp only [List.getElem?_toArray, List.getElem?_cons_zero, List.getElem?_cons_succ] at a0 a1 a2 a3 a4 a5 b0 b1 b2 b3 b4 b5
  obtain ⟨e1, e2, e3, e4, e5⟩ := hh
  have k2 : (so2.extract 0 so.size == so) = true := (jba_beq _ _).2 e2
  have k1 : decide (so.size ≤ so2.size) = true := by simpa using e1
  have k3 : decide (rd ≤ rd2) = true := by simpa using e3
  have k4 : decide (dp ≤ dp2) = true := by simpa using e4
  have k5 : decide (a ≤ st2) = true := by simpa using e5
  go_wp2_with fail
  go_quiet (fail)
  go_wp2_with fail
  go_ret
  exact ⟨rfl, HB5.out.1.trans ⟨rfl, rfl, rfl, Nat.le_refl _, fun _ _ => rfl⟩⟩
theorem str_prefix {l l' : List Int} (h : l <+: l') : (strOfNums l').extract 0 (strOfNums l).size = strOfNums l := by
  obtain ⟨t, rfl⟩ := h
  apply ByteArray.ext
  apply Array.ext'
  simp [strOfNums, ByteArray.size]
theorem fuel_all (m : Md) (inp : ByteArray) (a b deep : Int) (F G : Option Addr) (nf cf ng cg : Nat) (w : World) (hok : MdOk m) (hr : MdR m) (hin : inp.size < 9223372036854775808) (hnf : m.f.length = nf) (hng : m.g.length = ng) (hS : MdAt w (.slice F nf cf) (.slice G ng cg) m) : Calls Try.prog 9 #[.agg #[.slice F nf cf, .slice G ng cg, .string inp, .int .i64 a, .int .i64 b, .int .i64 deep]] w fun e w' => e = .returned (.bool true) ∧ Below w.heap.size w w' := by
  by_cases h1 : a < 0
  · exact fuel_o1 m inp a b deep F G nf cf ng cg w h1
  by_cases h2 : b < a
  · exact fuel_o2 m inp a b deep F G nf cf ng cg w h1 h2
  by_cases h3 : 2000 < b
  · exact fuel_o3 m inp a b deep F G nf cf ng cg w h1 h2 h3
  have hRa := fun (W : World) (hS : MdAt W (.slice F nf cf) (.slice G ng cg) m) => run_any m inp a deep F G nf cf ng cg W hok hr hin hnf hng hS
  have hRb := fun (W : World) (hS : MdAt W (.slice F nf cf) (.slice G ng cg) m) => run_any m inp b deep F G nf cf ng cg W hok hr hin hnf hng hS
  by_cases hbad : deep < 1 ∨ 64 < deep
  · rw [show trE m inp a deep = (⟨false, 0, 0, 0, 0, [], fun _ => 0, []⟩, 1) by unfold trE; rw [if_pos (by omega)]] at hRa
    rw [show trE m inp b deep = (⟨false, 0, 0, 0, 0, [], fun _ => 0, []⟩, 1) by unfold trE; rw [if_pos (by omega)]] at hRb
    exact fuel_same m inp a b deep F G nf cf ng cg w hS h1 h2 h3 _ _ _ _ _ 1 _ (by decide) hRa hRb
  by_cases hw : wholeE m = 0
  · rw [show trE m inp a deep = runE m inp deep.toNat a.toNat (s1E m (blksOf m mainN)) by unfold trE; rw [if_neg (by omega), if_pos hw]] at hRa
    rw [show trE m inp b deep = runE m inp deep.toNat (a.toNat + (b - a).toNat) (s1E m (blksOf m mainN)) by unfold trE; rw [if_neg (by omega), if_pos hw, show b.toNat = a.toNat + (b - a).toNat by omega]] at hRb
    obtain ⟨s1, s2⟩ := run_split (m := m) (inp := inp) (dp := deep.toNat) (b - a).toNat a.toNat (s1E m (blksOf m mainN))
    have hc := run_cnt (m := m) (inp := inp) (dp := deep.toNat) a.toNat (s1E m (blksOf m mainN)) ⟨Nat.zero_le _, Nat.le_refl _, by simp only [s1E]; omega, Nat.le_refl _⟩ (by simp only [s1E, List.length_singleton]; omega) (.inr ⟨by simp [s1E], rfl, rfl⟩)
    obtain ⟨⟨T, e⟩, hT⟩ : ∃ x, runE m inp deep.toNat a.toNat (s1E m (blksOf m mainN)) = x := ⟨_, rfl⟩
    rw [hT] at hc hRa s1 s2
    by_cases h12 : e = 12
    · subst h12
      obtain ⟨q1, q2⟩ := s2 rfl
      have hx := run_ext (m := m) (inp := inp) (dp := deep.toNat) (b - a).toNat T
      rw [q1] at hRb
      have hen : T.en = false := by
        rcases hc.2.2 with ⟨h, -⟩ | ⟨-, h, -⟩
        · cases h
        · exact h
      have hst : (T.steps : Int) = a := by simp only [s1E] at q2; omega
      unfold trV trC at hRa hRb
      simp only at hRa hRb
      rw [hen, hst] at hRa
      have hl := hx.out.length_le
      have e1 := hx.rd
      have e2 := hx.de
      have e3 := hx.st
      refine fuel_more m inp a b deep F G nf cf ng cg w hS h1 h2 h3 _ _ _ _ _ _ _ _ _ _ _ ⟨by rw [strOfNums_size, strOfNums_size]; exact hl, str_prefix hx.out, by omega, by omega, by omega⟩ hRa hRb
    · rw [s1 h12] at hRb
      exact fuel_same m inp a b deep F G nf cf ng cg w hS h1 h2 h3 _ _ _ _ _ e _ h12 hRa hRb
  · rw [show trE m inp a deep = (⟨false, 0, 0, 0, 0, [], fun _ => 0, []⟩, wholeE m) by unfold trE; rw [if_neg (by omega), if_neg hw]] at hRa
    rw [show trE m inp b deep = (⟨false, 0, 0, 0, 0, [], fun _ => 0, []⟩, wholeE m) by unfold trE; rw [if_neg (by omega), if_neg hw]] at hRb
    exact fuel_same m inp a b deep F G nf cf ng cg w hS h1 h2 h3 _ _ _ _ _ (wholeE m) _ (whole_code m).1 hRa hRb
end Go.Proofs.Ytdjmiaphodfdeaa
