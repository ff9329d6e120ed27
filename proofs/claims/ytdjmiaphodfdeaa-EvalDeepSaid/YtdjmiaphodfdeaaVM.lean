/- EvalDeep: the walk. -/
import Derived.Test.YtdjmiaphodfdeaaVH
import Derived.BigQuiet
namespace Go.Proofs.Ytdjmiaphodfdeaa
open Go.RowKit

/-- a run that has gone on -/
structure Ext (s t : Rs) : Prop where
  out : s.out <+: t.out
  rd : s.read ≤ t.read
  de : s.deep ≤ t.deep
  st : s.steps ≤ t.steps
theorem Ext.refl (s : Rs) : Ext s s := ⟨List.prefix_refl _, Nat.le_refl _, Nat.le_refl _, Nat.le_refl _⟩
theorem Ext.trans {s t u : Rs} (h : Ext s t) (k : Ext t u) : Ext s u := ⟨h.out.trans k.out, Nat.le_trans h.rd k.rd, Nat.le_trans h.de k.de, Nat.le_trans h.st k.st⟩
theorem value_ext {inp : ByteArray} {s : Rs} {i : In} {vs : List Int} : s.out <+: (valueE inp s i vs).2.out ∧ s.read ≤ (valueE inp s i vs).2.read ∧ (valueE inp s i vs).2.deep = s.deep ∧ (valueE inp s i vs).2.steps = s.steps := by
  unfold valueE
  split; · exact ⟨List.prefix_refl _, Nat.le_refl _, rfl, rfl⟩
  split; · exact ⟨List.prefix_refl _, Nat.le_refl _, rfl, rfl⟩
  split; · exact ⟨List.prefix_refl _, Nat.le_refl _, rfl, rfl⟩
  split
  · unfold readE
    simp only
    split
    · exact ⟨List.prefix_refl _, by simp only; omega, rfl, rfl⟩
    · exact ⟨List.prefix_refl _, Nat.le_refl _, rfl, rfl⟩
  split; · exact ⟨List.prefix_append _ _, Nat.le_refl _, rfl, rfl⟩
  exact ⟨List.prefix_refl _, Nat.le_refl _, rfl, rfl⟩
theorem tick_ext {m : Md} {inp : ByteArray} {dp : Nat} {s : Rs} {c : Cl} {r : List Cl} : Ext s (tick m inp dp s c r).1 ∧ ((tick m inp dp s c r).2 = true → (tick m inp dp s c r).1.steps = s.steps + 1) := by
  unfold tick
  split
  · exact ⟨Ext.refl s, fun h => by cases h⟩
  · rename_i b _
    simp only
    split
    · rename_i i _
      by_cases ho : i.o = 14
      · rw [if_pos ho]
        by_cases hd' : r.length + 1 = dp
        · rw [if_pos hd']
          exact ⟨⟨List.prefix_refl _, Nat.le_refl _, Nat.le_refl _, by simp⟩, fun h => by cases h⟩
        · rw [if_neg hd']
          exact ⟨⟨List.prefix_refl _, Nat.le_refl _, by simp only; omega, by simp⟩, fun _ => rfl⟩
      · rw [if_neg ho]
        obtain ⟨a, b', c', d⟩ := value_ext (inp := inp) (s := { s with steps := s.steps + 1 }) (i := i) (vs := c.vs)
        simp only at a b' c' d
        exact ⟨⟨a, b', by simp only; omega, by simp only; omega⟩, fun _ => d⟩
    · simp only
      obtain ⟨a, b', c', d, -⟩ := end_bnd { s with steps := s.steps + 1 } c r b.e
      simp only at a b' c' d
      exact ⟨⟨by rw [b']; exact List.prefix_refl _, by omega, by omega, by omega⟩, fun _ => d⟩
theorem run_ext {m : Md} {inp : ByteArray} {dp : Nat} : ∀ (n : Nat) (s : Rs), Ext s (runE m inp dp n s).1 := by
  intro n
  induction n with
  | zero =>
    intro s
    unfold runE
    split <;> exact Ext.refl s
  | succ n ih =>
    intro s
    unfold runE
    split
    · exact Ext.refl s
    · rename_i c r _
      have ht := (tick_ext (m := m) (inp := inp) (dp := dp) (s := s) (c := c) (r := r)).1
      split
      · rename_i s' hq
        rw [hq] at ht
        exact ht.trans (ih s')
      · rename_i s' hq
        rw [hq] at ht
        exact ht
/-- more fuel: the same, or on from where it stopped -/
theorem run_split {m : Md} {inp : ByteArray} {dp : Nat} (k : Nat) : ∀ (n : Nat) (s : Rs),
    ((runE m inp dp n s).2 ≠ 12 → runE m inp dp (n + k) s = runE m inp dp n s) ∧
    ((runE m inp dp n s).2 = 12 → runE m inp dp (n + k) s = runE m inp dp k (runE m inp dp n s).1 ∧ (runE m inp dp n s).1.steps = s.steps + n) := by
  intro n
  induction n with
  | zero =>
    intro s
    obtain ⟨l, hl⟩ : ∃ l, s.cs = l := ⟨_, rfl⟩
    cases l with
    | nil =>
      have h0 : runE m inp dp 0 s = (s, 0) := by unfold runE; rw [hl]
      have hk : runE m inp dp (0 + k) s = (s, 0) := by
        rw [Nat.zero_add]
        cases k <;> (unfold runE; rw [hl])
      rw [h0, hk]
      exact ⟨fun _ => rfl, fun h => by simp at h⟩
    | cons c r =>
      have h0 : runE m inp dp 0 s = (s, 12) := by unfold runE; rw [hl]
      rw [h0, Nat.zero_add]
      exact ⟨fun h => absurd rfl h, fun _ => ⟨rfl, rfl⟩⟩
  | succ n ih =>
    intro s
    rw [show n + 1 + k = n + k + 1 by omega]
    obtain ⟨l, hl⟩ : ∃ l, s.cs = l := ⟨_, rfl⟩
    cases l with
    | nil =>
      have h0 : ∀ j, runE m inp dp (j + 1) s = (s, 0) := fun j => by unfold runE; rw [hl]
      rw [h0, h0]
      exact ⟨fun _ => rfl, fun h => by simp at h⟩
    | cons c r =>
      have ht := (tick_ext (m := m) (inp := inp) (dp := dp) (s := s) (c := c) (r := r)).2
      obtain ⟨⟨s', b⟩, hq⟩ : ∃ q, tick m inp dp s c r = q := ⟨_, rfl⟩
      rw [hq] at ht
      cases b with
      | true =>
        have h0 : ∀ j, runE m inp dp (j + 1) s = runE m inp dp j s' := fun j => by rw [runE, hl]; simp only [hq]
        rw [h0, h0]
        obtain ⟨i1, i2⟩ := ih s'
        have := ht rfl
        exact ⟨i1, fun h => ⟨(i2 h).1, by have := (i2 h).2; simp only at *; omega⟩⟩
      | false =>
        have h0 : ∀ j, runE m inp dp (j + 1) s = (s', 13) := fun j => by rw [runE, hl]; simp only [hq]
        rw [h0, h0]
        exact ⟨fun _ => rfl, fun h => by simp at h⟩
theorem check_code (m : Md) : checkE m = 0 ∨ checkE m = 1 ∨ checkE m = 4 ∨ checkE m = 8 ∨ checkE m = 9 ∨ checkE m = 10 := by
  unfold checkE foundE
  (repeat' split) <;> simp
theorem whole_code (m : Md) : wholeE m ≠ 12 ∧ wholeE m ≠ 13 := by
  have hc := check_code m
  unfold wholeE
  split
  · (repeat' split) <;> decide
  · omega
end Go.Proofs.Ytdjmiaphodfdeaa

namespace Go.Proofs.Ytdjmiaphodfdeaa
open Go.RowKit

/-- a step with calls that may go deeper: the same, unless it was too deep -/
theorem tick_deeper {m : Md} {inp : ByteArray} {a b : Nat} {s : Rs} {c : Cl} {r : List Cl} (hl : r.length + 1 ≤ a) (hab : a ≤ b) :
    tick m inp a s c r = tick m inp b s c r ∨ (tick m inp a s c r).2 = false := by
  unfold tick
  split
  · exact .inl rfl
  · simp only
    split
    · rename_i i _
      by_cases ho : i.o = 14
      · rw [if_pos ho, if_pos ho]
        by_cases hd : r.length + 1 = a
        · rw [if_pos hd]
          exact .inr rfl
        · rw [if_neg hd, if_neg (by omega)]
          exact .inl rfl
      · rw [if_neg ho, if_neg ho]
        exact .inl rfl
    · exact .inl rfl
theorem tick_out {m : Md} {inp : ByteArray} {a : Nat} {s : Rs} {c : Cl} {r : List Cl} (h : (tick m inp a s c r).2 = false) : (tick m inp a s c r).1.out = s.out := by
  unfold tick at h ⊢
  split
  · rfl
  · rename_i b hb
    rw [hb] at h
    simp only at h ⊢
    split
    · rename_i i hi
      rw [hi] at h
      simp only at h
      by_cases ho : i.o = 14
      · rw [if_pos ho] at h ⊢
        by_cases hd : r.length + 1 = a
        · rw [if_pos hd]
        · rw [if_neg hd] at h
          cases h
      · rw [if_neg ho] at h
        cases h
    · rename_i hi
      rw [hi] at h
      cases h
/-- a run with calls that may go deeper: the same, or the first was too deep and wrote a beginning -/
theorem run_deeper {m : Md} {inp : ByteArray} {a b : Nat} (hab : a ≤ b) : ∀ (n : Nat) (s : Rs), Cnt inp a s → s.cs.length ≤ a → Goes s →
    runE m inp a n s = runE m inp b n s ∨ ((runE m inp a n s).2 = 13 ∧ (runE m inp a n s).1.out <+: (runE m inp b n s).1.out) := by
  intro n
  induction n with
  | zero =>
    intro s _ _ _
    exact .inl (by unfold runE; rfl)
  | succ n ih =>
    intro s h hl hg
    rcases hg with ⟨h0, he⟩ | ⟨h0, he⟩
    · exact .inl (by unfold runE; rw [h0])
    · obtain ⟨c, r, hcr⟩ := List.exists_cons_of_ne_nil h0
      have ht := tick_cnt (m := m) hcr h hl he
      have hd := tick_deeper (m := m) (inp := inp) (s := s) (c := c) (r := r) (by rw [hcr, List.length_cons] at hl; exact hl) hab
      have ho := tick_out (m := m) (inp := inp) (a := a) (s := s) (c := c) (r := r)
      obtain ⟨⟨s', t⟩, hq⟩ : ∃ q, tick m inp a s c r = q := ⟨_, rfl⟩
      rw [hq] at ht hd ho
      cases t with
      | true =>
        rcases hd with hd | hd
        · have ea : runE m inp a (n + 1) s = runE m inp a n s' := by rw [runE, hcr]; simp only [hq]
          have eb : runE m inp b (n + 1) s = runE m inp b n s' := by rw [runE, hcr]; simp only [← hd]
          rw [ea, eb]
          obtain ⟨t1, t2, t3, -, -⟩ := ht
          exact ih s' t1 t2 t3
        · cases hd
      | false =>
        have ea : runE m inp a (n + 1) s = (s', 13) := by rw [runE, hcr]; simp only [hq]
        rw [ea]
        refine .inr ⟨rfl, ?_⟩
        have e := ho rfl
        simp only at e ⊢
        rw [e]
        exact (run_ext (n + 1) s).out
end Go.Proofs.Ytdjmiaphodfdeaa

namespace Go.Proofs.Ytdjmiaphodfdeaa
open Go.RowKit

theorem str_prefix {l l' : List Int} (h : l <+: l') : (strOfNums l').extract 0 (strOfNums l).size = strOfNums l := by
  obtain ⟨t, rfl⟩ := h
  apply ByteArray.ext
  apply Array.ext'
  simp [strOfNums, ByteArray.size]
def mostD (n : Int) : Int := if 2000 < n ∧ n ≤ 100000 then 2000 else n
set_option maxRecDepth 100000 in
set_option maxHeartbeats 1000000 in
theorem mostd_any (n : Int) (w : World) : Calls Try.prog 33 #[.int .i64 n] w fun e w' => e = .returned (.int .i64 (mostD n)) ∧ w = w' := by
  by_cases h1 : 2000 < n
  · have d1 : decide (2000 < n) = true := by simpa using h1
    by_cases h2 : n ≤ 100000
    · have d2 : decide (n ≤ 100000) = true := by simpa using h2
      rw [show mostD n = 2000 from if_pos ⟨h1, h2⟩]
      go_enter Try.func33, Try.ntmps33
      go_wp2_with fail
      go_ret
      exact ⟨rfl, rfl⟩
    · have d2 : decide (n ≤ 100000) = false := by simpa using h2
      rw [show mostD n = n from if_neg (fun h => h2 h.2)]
      go_enter Try.func33, Try.ntmps33
      go_wp2_with fail
      go_ret
      exact ⟨rfl, rfl⟩
  · have d1 : decide (2000 < n) = false := by simpa using h1
    rw [show mostD n = n from if_neg (fun h => h1 h.1)]
    go_enter Try.func33, Try.ntmps33
    go_wp2_with fail
    go_ret
    exact ⟨rfl, rfl⟩
theorem step_store_rowd {P : Program} {w : World} {ops : Array Oper} {o : Oper} {a : Act} {K : Act → World → Prop} {Q : Exit → Act → World → Prop} {E : Prop} (hgd : o.guard = none) (ty : TypeId) (x y : Operand) (ho : o.op = .store ty x y)
    (g : Nat) (cells : Array Value) (hx : a.eval x = .pointer (some ⟨g, 0, none⟩)) (hy : a.eval y = .agg cells)
    (t : TypeId) (old : Array Value) (hg : w.heap[g]? = some (.cells old t (0, 0))) (hi : (P.info? ty).map (·.size) = some cells.size)
    (hold : old.size = cells.size) (h1 : cells.all (·.oneCell') = true)
    (h : K (a.put o.dst undef) (w.setRow g cells)) : if Region.wanted o (yielded ops a.tmps) = true then Oper.wp P o a w K Q else E := by
  have hw : Region.wanted o (yielded ops a.tmps) = true := by simp [Region.wanted, hgd]
  rw [if_pos hw]
  exact wp_store_row ty x y ho g cells hx hy t old hg hi hold h1 h
theorem below_setRowd {w X : World} {n B : Nat} {cells : Array Value} (h : Below n w X) (hB : n ≤ B) : Below n w (X.setRow B cells) :=
  h.trans ⟨rfl, rfl, rfl, by simp, fun k hk => setRow_other X _ k _ (by omega)⟩
set_option maxRecDepth 100000 in
set_option maxHeartbeats 4000000 in
theorem deep_o1 (_m : Md) (inp : ByteArray) (fu a b : Int) (F G : Option Addr) (nf cf ng cg : Nat) (w : World) (h : a < 1) : Calls Try.prog 12 #[.agg #[.slice F nf cf, .slice G ng cg, .string inp, .int .i64 fu, .int .i64 a, .int .i64 b]] w fun e w' => e = .returned (.bool true) ∧ Below w.heap.size w w' := by
  have d1 : decide (a < 1) = true := by simpa using h
  have HW := Lib.hid (fun (W : World) (hW : W = (w.alloc (.cells #[.slice F nf cf, .slice G ng cg, .string inp, .int .i64 fu, .int .i64 a, .int .i64 b] 74)).alloc (.cells #[.slice F nf cf, .slice G ng cg] 47)) => (show Below w.heap.size w W ∧ W.heap[w.heap.size + 1]? = some (.cells #[.slice F nf cf, .slice G ng cg] 47 (0, 0)) from by
    subst hW
    have e := heap_alloc_new (w.alloc (.cells #[.slice F nf cf, .slice G ng cg, .string inp, .int .i64 fu, .int .i64 a, .int .i64 b] 74)) (.cells #[.slice F nf cf, .slice G ng cg] 47)
    rw [World.size_alloc] at e
    exact ⟨balloc (balloc (Below.refl _ w) _) _, e⟩))
  go_enter Try.func12, Try.ntmps12
  go_wp2_with fail
  obtain ⟨W, hW⟩ : ∃ W, W = (w.alloc (.cells #[.slice F nf cf, .slice G ng cg, .string inp, .int .i64 fu, .int .i64 a, .int .i64 b] 74)).alloc (.cells #[.slice F nf cf, .slice G ng cg] 47) := ⟨_, rfl⟩
  obtain ⟨hb0, hh0⟩ := HW.out W hW
  rw [← hW]
  clear hW HW
  refine (vshown_any W).mono ?_
  rintro r w1 ⟨rfl, hb⟩
  have HB := Lib.hid (show Below w.heap.size w w1 ∧ w1.heap[w.heap.size + 1]? = some (.cells #[.slice F nf cf, .slice G ng cg] 47 (0, 0)) from ⟨bthen hb0 hb, (hb.block _ (Array.getElem?_eq_some_iff.1 hh0).1).trans hh0⟩)
  clear hb0 hh0 hb
  go_wp2_with fail
  go_ret
  exact ⟨rfl, HB.out.1⟩
set_option maxRecDepth 100000 in
set_option maxHeartbeats 4000000 in
theorem deep_o2 (_m : Md) (inp : ByteArray) (fu a b : Int) (F G : Option Addr) (nf cf ng cg : Nat) (w : World) (h1 : ¬ a < 1) (h : b < a) : Calls Try.prog 12 #[.agg #[.slice F nf cf, .slice G ng cg, .string inp, .int .i64 fu, .int .i64 a, .int .i64 b]] w fun e w' => e = .returned (.bool true) ∧ Below w.heap.size w w' := by
  have d1 : decide (a < 1) = false := by simpa using h1
  have d2 : decide (b < a) = true := by simpa using h
  have HW := Lib.hid (fun (W : World) (hW : W = (w.alloc (.cells #[.slice F nf cf, .slice G ng cg, .string inp, .int .i64 fu, .int .i64 a, .int .i64 b] 74)).alloc (.cells #[.slice F nf cf, .slice G ng cg] 47)) => (show Below w.heap.size w W ∧ W.heap[w.heap.size + 1]? = some (.cells #[.slice F nf cf, .slice G ng cg] 47 (0, 0)) from by
    subst hW
    have e := heap_alloc_new (w.alloc (.cells #[.slice F nf cf, .slice G ng cg, .string inp, .int .i64 fu, .int .i64 a, .int .i64 b] 74)) (.cells #[.slice F nf cf, .slice G ng cg] 47)
    rw [World.size_alloc] at e
    exact ⟨balloc (balloc (Below.refl _ w) _) _, e⟩))
  go_enter Try.func12, Try.ntmps12
  go_wp2_with fail
  obtain ⟨W, hW⟩ : ∃ W, W = (w.alloc (.cells #[.slice F nf cf, .slice G ng cg, .string inp, .int .i64 fu, .int .i64 a, .int .i64 b] 74)).alloc (.cells #[.slice F nf cf, .slice G ng cg] 47) := ⟨_, rfl⟩
  obtain ⟨hb0, hh0⟩ := HW.out W hW
  rw [← hW]
  clear hW HW
  refine (vshown_any W).mono ?_
  rintro r w1 ⟨rfl, hb⟩
  have HB := Lib.hid (show Below w.heap.size w w1 ∧ w1.heap[w.heap.size + 1]? = some (.cells #[.slice F nf cf, .slice G ng cg] 47 (0, 0)) from ⟨bthen hb0 hb, (hb.block _ (Array.getElem?_eq_some_iff.1 hh0).1).trans hh0⟩)
  clear hb0 hh0 hb
  go_wp2_with fail
  go_ret
  exact ⟨rfl, HB.out.1⟩
set_option maxRecDepth 100000 in
set_option maxHeartbeats 4000000 in
theorem deep_o3 (_m : Md) (inp : ByteArray) (fu a b : Int) (F G : Option Addr) (nf cf ng cg : Nat) (w : World) (h1 : ¬ a < 1) (h2 : ¬ b < a) (h : 64 < b) : Calls Try.prog 12 #[.agg #[.slice F nf cf, .slice G ng cg, .string inp, .int .i64 fu, .int .i64 a, .int .i64 b]] w fun e w' => e = .returned (.bool true) ∧ Below w.heap.size w w' := by
  have d1 : decide (a < 1) = false := by simpa using h1
  have d2 : decide (b < a) = false := by simpa using h2
  have d3 : decide (64 < b) = true := by simpa using h
  have HW := Lib.hid (fun (W : World) (hW : W = (w.alloc (.cells #[.slice F nf cf, .slice G ng cg, .string inp, .int .i64 fu, .int .i64 a, .int .i64 b] 74)).alloc (.cells #[.slice F nf cf, .slice G ng cg] 47)) => (show Below w.heap.size w W ∧ W.heap[w.heap.size + 1]? = some (.cells #[.slice F nf cf, .slice G ng cg] 47 (0, 0)) from by
    subst hW
    have e := heap_alloc_new (w.alloc (.cells #[.slice F nf cf, .slice G ng cg, .string inp, .int .i64 fu, .int .i64 a, .int .i64 b] 74)) (.cells #[.slice F nf cf, .slice G ng cg] 47)
    rw [World.size_alloc] at e
    exact ⟨balloc (balloc (Below.refl _ w) _) _, e⟩))
  go_enter Try.func12, Try.ntmps12
  go_wp2_with fail
  obtain ⟨W, hW⟩ : ∃ W, W = (w.alloc (.cells #[.slice F nf cf, .slice G ng cg, .string inp, .int .i64 fu, .int .i64 a, .int .i64 b] 74)).alloc (.cells #[.slice F nf cf, .slice G ng cg] 47) := ⟨_, rfl⟩
  obtain ⟨hb0, hh0⟩ := HW.out W hW
  rw [← hW]
  clear hW HW
  refine (vshown_any W).mono ?_
  rintro r w1 ⟨rfl, hb⟩
  have HB := Lib.hid (show Below w.heap.size w w1 ∧ w1.heap[w.heap.size + 1]? = some (.cells #[.slice F nf cf, .slice G ng cg] 47 (0, 0)) from ⟨bthen hb0 hb, (hb.block _ (Array.getElem?_eq_some_iff.1 hh0).1).trans hh0⟩)
  clear hb0 hh0 hb
  go_wp2_with fail
  go_ret
  exact ⟨rfl, HB.out.1⟩
set_option maxRecDepth 100000 in
set_option maxHeartbeats 4000000 in
theorem deep_same (m : Md) (inp : ByteArray) (fu a b k : Int) (F G : Option Addr) (nf cf ng cg : Nat) (w : World) (hS : MdAt w (.slice F nf cf) (.slice G ng cg) m) (hk : mostD fu = k) (h1 : ¬ a < 1) (h2 : ¬ b < a) (h3 : ¬ 64 < b) (en : Bool) (co rd st dp er : Int) (so : ByteArray) (he : er ≠ 13) (hRa : ∀ W, MdAt W (.slice F nf cf) (.slice G ng cg) m → Calls Try.prog 32 #[.agg #[.slice F nf cf, .slice G ng cg], .string inp, .int .i64 k, .int .i64 a] W fun e w' => e = .returned (.tuple #[.agg #[.bool en, .int .u64 co, .string so, .int .i64 rd, .int .i64 st, .int .i64 dp], .int .i64 er]) ∧ Below W.heap.size W w') (hRb : ∀ W, MdAt W (.slice F nf cf) (.slice G ng cg) m → Calls Try.prog 32 #[.agg #[.slice F nf cf, .slice G ng cg], .string inp, .int .i64 k, .int .i64 b] W fun e w' => e = .returned (.tuple #[.agg #[.bool en, .int .u64 co, .string so, .int .i64 rd, .int .i64 st, .int .i64 dp], .int .i64 er]) ∧ Below W.heap.size W w') : Calls Try.prog 12 #[.agg #[.slice F nf cf, .slice G ng cg, .string inp, .int .i64 fu, .int .i64 a, .int .i64 b]] w fun e w' => e = .returned (.bool true) ∧ Below w.heap.size w w' := by
  have d1 : decide (a < 1) = false := by simpa using h1
  have d2 : decide (b < a) = false := by simpa using h2
  have d3 : decide (64 < b) = false := by simpa using h3
  have HRA := Lib.hid hRa
  have HRB := Lib.hid hRb
  have HM := Lib.hid (fun W => mostd_any fu W)
  rw [hk] at HM
  have HSU := Lib.hid (fun (U : World) (hb : Below w.heap.size w U) => hS.next hb)
  clear hRa hRb hS h1 h2 h3 hk
  have d4 : (er == 13) = false := by simpa using he
  have HW := Lib.hid (fun (W : World) (hW : W = (w.alloc (.cells #[.slice F nf cf, .slice G ng cg, .string inp, .int .i64 fu, .int .i64 a, .int .i64 b] 74)).alloc (.cells #[.slice F nf cf, .slice G ng cg] 47)) => (show Below w.heap.size w W ∧ W.heap[w.heap.size + 1]? = some (.cells #[.slice F nf cf, .slice G ng cg] 47 (0, 0)) from by
    subst hW
    have e := heap_alloc_new (w.alloc (.cells #[.slice F nf cf, .slice G ng cg, .string inp, .int .i64 fu, .int .i64 a, .int .i64 b] 74)) (.cells #[.slice F nf cf, .slice G ng cg] 47)
    rw [World.size_alloc] at e
    exact ⟨balloc (balloc (Below.refl _ w) _) _, e⟩))
  go_enter Try.func12, Try.ntmps12
  go_wp2_with fail
  obtain ⟨W, hW⟩ : ∃ W, W = (w.alloc (.cells #[.slice F nf cf, .slice G ng cg, .string inp, .int .i64 fu, .int .i64 a, .int .i64 b] 74)).alloc (.cells #[.slice F nf cf, .slice G ng cg] 47) := ⟨_, rfl⟩
  obtain ⟨hb0, hh0⟩ := HW.out W hW
  rw [← hW]
  clear hW HW
  refine (vshown_any W).mono ?_
  rintro r w1 ⟨rfl, hb⟩
  have HB := Lib.hid (show Below w.heap.size w w1 ∧ w1.heap[w.heap.size + 1]? = some (.cells #[.slice F nf cf, .slice G ng cg] 47 (0, 0)) from ⟨bthen hb0 hb, (hb.block _ (Array.getElem?_eq_some_iff.1 hh0).1).trans hh0⟩)
  clear hb0 hh0 hb
  have HSC := Lib.hid (fun (U : World) (hU : Below w1.heap.size w1 U) => (show U.cell? ⟨w.heap.size + 1, 0, none⟩ = some (.slice F nf cf) ∧ U.cell? ⟨w.heap.size + 1, 1, none⟩ = some (.slice G ng cg) from by
    have h := (hU.block _ (Array.getElem?_eq_some_iff.1 HB.out.2).1).trans HB.out.2
    exact ⟨Lib.cell_of_heap h 0, Lib.cell_of_heap h 1⟩))
  go_upto_region 9 with fail
  go_cut [9, 10] from 36 to 44 (fun v9 v10 wx => ∃ B, v9 = .pointer (some ⟨B, 0, none⟩) ∧ v10 = .int .i64 er ∧ wx.heap[B]? = some (.cells #[.bool en, .int .u64 co, .string so, .int .i64 rd, .int .i64 st, .int .i64 dp] 56 (0, 0)) ∧ Below w.heap.size w wx ∧ wx.heap[w.heap.size + 1]? = some (.cells #[.slice F nf cf, .slice G ng cg] 47 (0, 0)))
  case first =>
    have HQ := Lib.hid HB.out
    refine wp_region_held_drew (S := (fun U => U.cell? ⟨w.heap.size + 1, 0, none⟩ = some (.slice F nf cf) ∧ U.cell? ⟨w.heap.size + 1, 1, none⟩ = some (.slice G ng cg))) (by kernel_rfl) (HSC.out _ (Below.refl _ w1).drew) (fun hHeld => ?_)
    have hub := Below.refl w1.drew.heap.size w1.drew
    refine wpAnyH_take (i := 0) (v := ?_) rfl (by kernel_rfl) (by kernel_rfl) (by kernel_rfl) (fun _ _ _ h => h) (Or.inl ⟨by rfl, ?_⟩) hHeld ?_
    rotate_left
    · intro W' hSw; (try dsimp only at hSw); go_simp; try (with_reducible rfl)
    (try simp only [Act.put, List.getElem_toArray, List.getElem_cons_zero, List.setIfInBounds_toArray, List.set_cons_zero, List.set_cons_succ])
    refine wpAnyH_take (i := 1) (v := ?_) rfl (by kernel_rfl) (by kernel_rfl) (by kernel_rfl) (fun _ _ _ h => h) (Or.inl ⟨by rfl, ?_⟩) hHeld ?_
    rotate_left
    · intro W' hSw; (try dsimp only at hSw); go_simp; try (with_reducible rfl)
    (try simp only [Act.put, List.getElem_toArray, List.getElem_cons_zero, List.getElem_cons_succ, List.setIfInBounds_toArray, List.set_cons_zero, List.set_cons_succ])
    refine wpAnyH_take (i := 2) (v := ?_) rfl (by kernel_rfl) (by kernel_rfl) (by kernel_rfl) (fun _ _ _ h => h) (Or.inl ⟨by rfl, ?_⟩) hHeld ?_
    rotate_left
    · intro W' hSw; (try dsimp only at hSw); go_simp; try (with_reducible rfl)
    (try simp only [Act.put, List.getElem_toArray, List.getElem_cons_zero, List.getElem_cons_succ, List.setIfInBounds_toArray, List.set_cons_zero, List.set_cons_succ])
    refine wpAnyH_take (i := 4) (v := ?_) rfl (by kernel_rfl) (by kernel_rfl) (by kernel_rfl) (fun _ _ _ h => h) (Or.inl ⟨by rfl, ?_⟩) hHeld ?_
    rotate_left
    · intro W' hSw; (try dsimp only at hSw); go_simp; try (with_reducible rfl)
    (try simp only [Act.put, List.getElem_toArray, List.getElem_cons_zero, List.getElem_cons_succ, List.setIfInBounds_toArray, List.set_cons_zero, List.set_cons_succ])
    refine wpAnyH_ready (rs := [3, 9]) (by kernel_rfl) (by simp) ?_
    refine AllReadyH.cons rfl (fun K hK => ?_) (AllReadyH.cons rfl (fun K hK => ?_) AllReadyH.nil)
    · go_simp
      refine Calls.mono (HM.out _) ?_
      rintro r u1 ⟨rfl, rfl⟩
      refine hK.out _ _ hHeld (fun _ => ?_)
      clear hK
      (try simp only [Act.put, List.getElem_toArray, List.getElem_cons_zero, List.getElem_cons_succ, List.setIfInBounds_toArray, List.set_cons_zero, List.set_cons_succ])
      refine wpAnyH_ready (rs := [5, 9]) (by kernel_rfl) (by simp) ?_
      refine AllReadyH.cons rfl (fun K hK => ?_) (AllReadyH.cons rfl (fun K hK => ?_) AllReadyH.nil)
      · go_simp
        refine Calls.mono (HRA.out _ (HSU.out _ (bthen HQ.out.1 (bthen (Below.refl _ w1).drew hub)))) ?_
        rintro r u3 ⟨rfl, hb3⟩
        have hub3 := bthen hub hb3
        clear hb3
        refine hK.out _ _ (HSC.out _ (bthen (Below.refl _ w1).drew hub3)) (fun hHeld3 => ?_)
        clear hK
        (try simp only [Act.put, List.getElem_toArray, List.getElem_cons_zero, List.getElem_cons_succ, List.setIfInBounds_toArray, List.set_cons_zero, List.set_cons_succ])
        refine wpAnyH_take (i := 6) (v := ?_) rfl (by kernel_rfl) (by kernel_rfl) (by kernel_rfl) (fun _ _ _ h => h) (Or.inl ⟨by rfl, ?_⟩) hHeld3 ?_
        rotate_left
        · intro W' hSw; (try dsimp only at hSw); go_simp; try (with_reducible rfl)
        (try simp only [Act.put, List.getElem_toArray, List.getElem_cons_zero, List.getElem_cons_succ, List.setIfInBounds_toArray, List.set_cons_zero, List.set_cons_succ])
        refine wpAnyH_take (i := 7) (v := ?_) rfl (by kernel_rfl) (by kernel_rfl) (by kernel_rfl) (fun _ _ _ h => h) (Or.inl ⟨by rfl, ?_⟩) hHeld3 ?_
        rotate_left
        · intro W' hSw; (try dsimp only at hSw); go_simp; try (with_reducible rfl)
        (try simp only [Act.put, List.getElem_toArray, List.getElem_cons_zero, List.getElem_cons_succ, List.setIfInBounds_toArray, List.set_cons_zero, List.set_cons_succ])
        refine wpAnyH_take (i := 8) (v := ?_) rfl (by kernel_rfl) (by kernel_rfl) (by kernel_rfl) (fun _ _ _ h => h) (Or.inl ⟨by rfl, ?_⟩) hHeld3 ?_
        rotate_left
        · intro W' hSw; (try dsimp only at hSw); go_simp; try (with_reducible rfl)
        (try simp only [Act.put, List.getElem_toArray, List.getElem_cons_zero, List.getElem_cons_succ, List.setIfInBounds_toArray, List.set_cons_zero, List.set_cons_succ])
        refine wpAnyH_ready (rs := [9]) (by kernel_rfl) (by simp) ?_
        refine AllReadyH.cons rfl (fun K hK => ?_) AllReadyH.nil
        go_simp
        have hz3 := heap_alloc_new u3 (.cells #[.bool false, .int .u64 0, .string ⟨#[]⟩, .int .i64 0, .int .i64 0, .int .i64 0] 56)
        have hle3 : w1.heap.size ≤ u3.heap.size := hub3.size
        have hub3 := bthen hub3 (balloc (Below.refl _ _) (.cells #[.bool false, .int .u64 0, .string ⟨#[]⟩, .int .i64 0, .int .i64 0, .int .i64 0] 56))
        refine hK.out _ _ (HSC.out _ (bthen (Below.refl _ w1).drew hub3)) (fun hHeld4 => ?_)
        clear hK
        (try simp only [Act.put, List.getElem_toArray, List.getElem_cons_zero, List.getElem_cons_succ, List.setIfInBounds_toArray, List.set_cons_zero, List.set_cons_succ])
        refine wpAnyH_ready (rs := [10]) (by kernel_rfl) (by simp) ?_
        refine AllReadyH.cons rfl (fun K hK => ?_) AllReadyH.nil
        have hBw := bthen (Below.refl _ w1).drew hub3
        refine step_store_rowd rfl _ _ _ rfl _ #[.bool en, .int .u64 co, .string so, .int .i64 rd, .int .i64 st, .int .i64 dp] (by rfl) (by rfl) _ _ hz3 trace_info rfl (by simp [Value.oneCell']) ?_
        refine hK.out _ _ (HSC.out _ (below_setRowd hBw hle3)) (fun hHeld5 => ?_)
        clear hK
        (try simp only [Act.put, List.getElem_toArray, List.getElem_cons_zero, List.getElem_cons_succ])
        refine wpAnyH_take (i := 11) (v := ?_) rfl (by kernel_rfl) (by kernel_rfl) (by kernel_rfl) (fun _ _ _ h => h) (Or.inl ⟨by rfl, ?_⟩) hHeld5 ?_
        rotate_left
        · intro W' hSw; (try dsimp only at hSw); go_simp; try (with_reducible rfl)
        (try simp only [Act.put, List.getElem_toArray, List.getElem_cons_zero, List.getElem_cons_succ, List.setIfInBounds_toArray, List.set_cons_zero, List.set_cons_succ])
        refine wpAnyH_done (by kernel_rfl) ?_ _
        have hX := below_setRowd (cells := #[.bool en, .int .u64 co, .string so, .int .i64 rd, .int .i64 st, .int .i64 dp]) hBw hle3
        go_wp2_with fail
        go_meet
        exact ⟨_, rfl, rfl, setRow_heap _ _ _ _ _ _ hz3, bthen HQ.out.1 hX, (hX.block _ (Array.getElem?_eq_some_iff.1 HQ.out.2).1).trans HQ.out.2⟩
      · go_simp
        have hz := heap_alloc_new w1.drew (.cells #[.bool false, .int .u64 0, .string ⟨#[]⟩, .int .i64 0, .int .i64 0, .int .i64 0] 56)
        have hub := bthen hub (balloc (Below.refl _ _) (.cells #[.bool false, .int .u64 0, .string ⟨#[]⟩, .int .i64 0, .int .i64 0, .int .i64 0] 56))
        refine hK.out _ _ (HSC.out _ (bthen (Below.refl _ w1).drew hub)) (fun hHeld => ?_)
        clear hK
        (try simp only [Act.put, List.getElem_toArray, List.getElem_cons_zero, List.getElem_cons_succ, List.setIfInBounds_toArray, List.set_cons_zero, List.set_cons_succ])
        refine wpAnyH_ready (rs := [5]) (by kernel_rfl) (by simp) ?_
        refine AllReadyH.cons rfl (fun K hK => ?_) AllReadyH.nil
        go_simp
        refine Calls.mono (HRA.out _ (HSU.out _ (bthen HQ.out.1 (bthen (Below.refl _ w1).drew hub)))) ?_
        rintro r u3 ⟨rfl, hb3⟩
        have hub3 := bthen hub hb3
        have hz3 := (hb3.block _ (Array.getElem?_eq_some_iff.1 hz).1).trans hz
        clear hb3
        refine hK.out _ _ (HSC.out _ (bthen (Below.refl _ w1).drew hub3)) (fun hHeld3 => ?_)
        clear hK
        (try simp only [Act.put, List.getElem_toArray, List.getElem_cons_zero, List.getElem_cons_succ, List.setIfInBounds_toArray, List.set_cons_zero, List.set_cons_succ])
        refine wpAnyH_take (i := 6) (v := ?_) rfl (by kernel_rfl) (by kernel_rfl) (by kernel_rfl) (fun _ _ _ h => h) (Or.inl ⟨by rfl, ?_⟩) hHeld3 ?_
        rotate_left
        · intro W' hSw; (try dsimp only at hSw); go_simp; try (with_reducible rfl)
        (try simp only [Act.put, List.getElem_toArray, List.getElem_cons_zero, List.getElem_cons_succ, List.setIfInBounds_toArray, List.set_cons_zero, List.set_cons_succ])
        refine wpAnyH_take (i := 7) (v := ?_) rfl (by kernel_rfl) (by kernel_rfl) (by kernel_rfl) (fun _ _ _ h => h) (Or.inl ⟨by rfl, ?_⟩) hHeld3 ?_
        rotate_left
        · intro W' hSw; (try dsimp only at hSw); go_simp; try (with_reducible rfl)
        (try simp only [Act.put, List.getElem_toArray, List.getElem_cons_zero, List.getElem_cons_succ, List.setIfInBounds_toArray, List.set_cons_zero, List.set_cons_succ])
        refine wpAnyH_take (i := 8) (v := ?_) rfl (by kernel_rfl) (by kernel_rfl) (by kernel_rfl) (fun _ _ _ h => h) (Or.inl ⟨by rfl, ?_⟩) hHeld3 ?_
        rotate_left
        · intro W' hSw; (try dsimp only at hSw); go_simp; try (with_reducible rfl)
        (try simp only [Act.put, List.getElem_toArray, List.getElem_cons_zero, List.getElem_cons_succ, List.setIfInBounds_toArray, List.set_cons_zero, List.set_cons_succ])
        refine wpAnyH_ready (rs := [10]) (by kernel_rfl) (by simp) ?_
        refine AllReadyH.cons rfl (fun K hK => ?_) AllReadyH.nil
        have hBw := bthen (Below.refl _ w1).drew hub3
        refine step_store_rowd rfl _ _ _ rfl _ #[.bool en, .int .u64 co, .string so, .int .i64 rd, .int .i64 st, .int .i64 dp] (by rfl) (by rfl) _ _ hz3 trace_info rfl (by simp [Value.oneCell']) ?_
        refine hK.out _ _ (HSC.out _ (below_setRowd hBw (Nat.le_refl _))) (fun hHeld5 => ?_)
        clear hK
        (try simp only [Act.put, List.getElem_toArray, List.getElem_cons_zero, List.getElem_cons_succ])
        refine wpAnyH_take (i := 11) (v := ?_) rfl (by kernel_rfl) (by kernel_rfl) (by kernel_rfl) (fun _ _ _ h => h) (Or.inl ⟨by rfl, ?_⟩) hHeld5 ?_
        rotate_left
        · intro W' hSw; (try dsimp only at hSw); go_simp; try (with_reducible rfl)
        (try simp only [Act.put, List.getElem_toArray, List.getElem_cons_zero, List.getElem_cons_succ, List.setIfInBounds_toArray, List.set_cons_zero, List.set_cons_succ])
        refine wpAnyH_done (by kernel_rfl) ?_ _
        have hX := below_setRowd (cells := #[.bool en, .int .u64 co, .string so, .int .i64 rd, .int .i64 st, .int .i64 dp]) hBw (Nat.le_refl _)
        go_wp2_with fail
        go_meet
        exact ⟨_, rfl, rfl, setRow_heap _ _ _ _ _ _ hz3, bthen HQ.out.1 hX, (hX.block _ (Array.getElem?_eq_some_iff.1 HQ.out.2).1).trans HQ.out.2⟩
    · go_simp
      have hz := heap_alloc_new w1.drew (.cells #[.bool false, .int .u64 0, .string ⟨#[]⟩, .int .i64 0, .int .i64 0, .int .i64 0] 56)
      have hub := bthen hub (balloc (Below.refl _ _) (.cells #[.bool false, .int .u64 0, .string ⟨#[]⟩, .int .i64 0, .int .i64 0, .int .i64 0] 56))
      refine hK.out _ _ (HSC.out _ (bthen (Below.refl _ w1).drew hub)) (fun hHeld => ?_)
      clear hK
      (try simp only [Act.put, List.getElem_toArray, List.getElem_cons_zero, List.getElem_cons_succ, List.setIfInBounds_toArray, List.set_cons_zero, List.set_cons_succ])
      refine wpAnyH_ready (rs := [3]) (by kernel_rfl) (by simp) ?_
      refine AllReadyH.cons rfl (fun K hK => ?_) AllReadyH.nil
      go_simp
      refine Calls.mono (HM.out _) ?_
      rintro r u1 ⟨rfl, rfl⟩
      refine hK.out _ _ hHeld (fun _ => ?_)
      clear hK
      (try simp only [Act.put, List.getElem_toArray, List.getElem_cons_zero, List.getElem_cons_succ, List.setIfInBounds_toArray, List.set_cons_zero, List.set_cons_succ])
      refine wpAnyH_ready (rs := [5]) (by kernel_rfl) (by simp) ?_
      refine AllReadyH.cons rfl (fun K hK => ?_) AllReadyH.nil
      go_simp
      refine Calls.mono (HRA.out _ (HSU.out _ (bthen HQ.out.1 (bthen (Below.refl _ w1).drew hub)))) ?_
      rintro r u3 ⟨rfl, hb3⟩
      have hub3 := bthen hub hb3
      have hz3 := (hb3.block _ (Array.getElem?_eq_some_iff.1 hz).1).trans hz
      clear hb3
      refine hK.out _ _ (HSC.out _ (bthen (Below.refl _ w1).drew hub3)) (fun hHeld3 => ?_)
      clear hK
      (try simp only [Act.put, List.getElem_toArray, List.getElem_cons_zero, List.getElem_cons_succ, List.setIfInBounds_toArray, List.set_cons_zero, List.set_cons_succ])
      refine wpAnyH_take (i := 6) (v := ?_) rfl (by kernel_rfl) (by kernel_rfl) (by kernel_rfl) (fun _ _ _ h => h) (Or.inl ⟨by rfl, ?_⟩) hHeld3 ?_
      rotate_left
      · intro W' hSw; (try dsimp only at hSw); go_simp; try (with_reducible rfl)
      (try simp only [Act.put, List.getElem_toArray, List.getElem_cons_zero, List.getElem_cons_succ, List.setIfInBounds_toArray, List.set_cons_zero, List.set_cons_succ])
      refine wpAnyH_take (i := 7) (v := ?_) rfl (by kernel_rfl) (by kernel_rfl) (by kernel_rfl) (fun _ _ _ h => h) (Or.inl ⟨by rfl, ?_⟩) hHeld3 ?_
      rotate_left
      · intro W' hSw; (try dsimp only at hSw); go_simp; try (with_reducible rfl)
      (try simp only [Act.put, List.getElem_toArray, List.getElem_cons_zero, List.getElem_cons_succ, List.setIfInBounds_toArray, List.set_cons_zero, List.set_cons_succ])
      refine wpAnyH_take (i := 8) (v := ?_) rfl (by kernel_rfl) (by kernel_rfl) (by kernel_rfl) (fun _ _ _ h => h) (Or.inl ⟨by rfl, ?_⟩) hHeld3 ?_
      rotate_left
      · intro W' hSw; (try dsimp only at hSw); go_simp; try (with_reducible rfl)
      (try simp only [Act.put, List.getElem_toArray, List.getElem_cons_zero, List.getElem_cons_succ, List.setIfInBounds_toArray, List.set_cons_zero, List.set_cons_succ])
      refine wpAnyH_ready (rs := [10]) (by kernel_rfl) (by simp) ?_
      refine AllReadyH.cons rfl (fun K hK => ?_) AllReadyH.nil
      have hBw := bthen (Below.refl _ w1).drew hub3
      refine step_store_rowd rfl _ _ _ rfl _ #[.bool en, .int .u64 co, .string so, .int .i64 rd, .int .i64 st, .int .i64 dp] (by rfl) (by rfl) _ _ hz3 trace_info rfl (by simp [Value.oneCell']) ?_
      refine hK.out _ _ (HSC.out _ (below_setRowd hBw (Nat.le_refl _))) (fun hHeld5 => ?_)
      clear hK
      (try simp only [Act.put, List.getElem_toArray, List.getElem_cons_zero, List.getElem_cons_succ])
      refine wpAnyH_take (i := 11) (v := ?_) rfl (by kernel_rfl) (by kernel_rfl) (by kernel_rfl) (fun _ _ _ h => h) (Or.inl ⟨by rfl, ?_⟩) hHeld5 ?_
      rotate_left
      · intro W' hSw; (try dsimp only at hSw); go_simp; try (with_reducible rfl)
      (try simp only [Act.put, List.getElem_toArray, List.getElem_cons_zero, List.getElem_cons_succ, List.setIfInBounds_toArray, List.set_cons_zero, List.set_cons_succ])
      refine wpAnyH_done (by kernel_rfl) ?_ _
      have hX := below_setRowd (cells := #[.bool en, .int .u64 co, .string so, .int .i64 rd, .int .i64 st, .int .i64 dp]) hBw (Nat.le_refl _)
      go_wp2_with fail
      go_meet
      exact ⟨_, rfl, rfl, setRow_heap _ _ _ _ _ _ hz3, bthen HQ.out.1 hX, (hX.block _ (Array.getElem?_eq_some_iff.1 HQ.out.2).1).trans HQ.out.2⟩
  case rest =>
  obtain ⟨Z, rfl, rfl, hZ, hb, hm⟩ := hcut
  have HB2 := Lib.hid (And.intro hb (And.intro hm hZ))
  clear hZ hb hm HSC HB
  generalize wc = w2 at *
  have HSC2 := Lib.hid (fun (U : World) (hU : Below w2.heap.size w2 U) => (show U.cell? ⟨w.heap.size + 1, 0, none⟩ = some (.slice F nf cf) ∧ U.cell? ⟨w.heap.size + 1, 1, none⟩ = some (.slice G ng cg) from by
    have h := (hU.block _ (Array.getElem?_eq_some_iff.1 HB2.out.2.1).1).trans HB2.out.2.1
    exact ⟨Lib.cell_of_heap h 0, Lib.cell_of_heap h 1⟩))
  go_upto_region 10 with fail
  go_cut [11, 12] from 45 to 53 (fun v11 v12 wx => ∃ B, v11 = .pointer (some ⟨B, 0, none⟩) ∧ v12 = .int .i64 er ∧ wx.heap[B]? = some (.cells #[.bool en, .int .u64 co, .string so, .int .i64 rd, .int .i64 st, .int .i64 dp] 56 (0, 0)) ∧ Below w.heap.size w wx ∧ wx.heap[Z]? = some (.cells #[.bool en, .int .u64 co, .string so, .int .i64 rd, .int .i64 st, .int .i64 dp] 56 (0, 0)))
  case first =>
    have HQ := Lib.hid HB2.out
    refine wp_region_held_drew (S := (fun U => U.cell? ⟨w.heap.size + 1, 0, none⟩ = some (.slice F nf cf) ∧ U.cell? ⟨w.heap.size + 1, 1, none⟩ = some (.slice G ng cg))) (by kernel_rfl) (HSC2.out _ (Below.refl _ w2).drew) (fun hHeld => ?_)
    have hub := Below.refl w2.drew.heap.size w2.drew
    refine wpAnyH_take (i := 0) (v := ?_) rfl (by kernel_rfl) (by kernel_rfl) (by kernel_rfl) (fun _ _ _ h => h) (Or.inl ⟨by rfl, ?_⟩) hHeld ?_
    rotate_left
    · intro W' hSw; (try dsimp only at hSw); go_simp; try (with_reducible rfl)
    (try simp only [Act.put, List.getElem_toArray, List.getElem_cons_zero, List.setIfInBounds_toArray, List.set_cons_zero, List.set_cons_succ])
    refine wpAnyH_take (i := 1) (v := ?_) rfl (by kernel_rfl) (by kernel_rfl) (by kernel_rfl) (fun _ _ _ h => h) (Or.inl ⟨by rfl, ?_⟩) hHeld ?_
    rotate_left
    · intro W' hSw; (try dsimp only at hSw); go_simp; try (with_reducible rfl)
    (try simp only [Act.put, List.getElem_toArray, List.getElem_cons_zero, List.getElem_cons_succ, List.setIfInBounds_toArray, List.set_cons_zero, List.set_cons_succ])
    refine wpAnyH_take (i := 2) (v := ?_) rfl (by kernel_rfl) (by kernel_rfl) (by kernel_rfl) (fun _ _ _ h => h) (Or.inl ⟨by rfl, ?_⟩) hHeld ?_
    rotate_left
    · intro W' hSw; (try dsimp only at hSw); go_simp; try (with_reducible rfl)
    (try simp only [Act.put, List.getElem_toArray, List.getElem_cons_zero, List.getElem_cons_succ, List.setIfInBounds_toArray, List.set_cons_zero, List.set_cons_succ])
    refine wpAnyH_take (i := 4) (v := ?_) rfl (by kernel_rfl) (by kernel_rfl) (by kernel_rfl) (fun _ _ _ h => h) (Or.inl ⟨by rfl, ?_⟩) hHeld ?_
    rotate_left
    · intro W' hSw; (try dsimp only at hSw); go_simp; try (with_reducible rfl)
    (try simp only [Act.put, List.getElem_toArray, List.getElem_cons_zero, List.getElem_cons_succ, List.setIfInBounds_toArray, List.set_cons_zero, List.set_cons_succ])
    refine wpAnyH_ready (rs := [3, 9]) (by kernel_rfl) (by simp) ?_
    refine AllReadyH.cons rfl (fun K hK => ?_) (AllReadyH.cons rfl (fun K hK => ?_) AllReadyH.nil)
    · go_simp
      refine Calls.mono (HM.out _) ?_
      rintro r u1 ⟨rfl, rfl⟩
      refine hK.out _ _ hHeld (fun _ => ?_)
      clear hK
      (try simp only [Act.put, List.getElem_toArray, List.getElem_cons_zero, List.getElem_cons_succ, List.setIfInBounds_toArray, List.set_cons_zero, List.set_cons_succ])
      refine wpAnyH_ready (rs := [5, 9]) (by kernel_rfl) (by simp) ?_
      refine AllReadyH.cons rfl (fun K hK => ?_) (AllReadyH.cons rfl (fun K hK => ?_) AllReadyH.nil)
      · go_simp
        refine Calls.mono (HRB.out _ (HSU.out _ (bthen HQ.out.1 (bthen (Below.refl _ w2).drew hub)))) ?_
        rintro r u3 ⟨rfl, hb3⟩
        have hub3 := bthen hub hb3
        clear hb3
        refine hK.out _ _ (HSC2.out _ (bthen (Below.refl _ w2).drew hub3)) (fun hHeld3 => ?_)
        clear hK
        (try simp only [Act.put, List.getElem_toArray, List.getElem_cons_zero, List.getElem_cons_succ, List.setIfInBounds_toArray, List.set_cons_zero, List.set_cons_succ])
        refine wpAnyH_take (i := 6) (v := ?_) rfl (by kernel_rfl) (by kernel_rfl) (by kernel_rfl) (fun _ _ _ h => h) (Or.inl ⟨by rfl, ?_⟩) hHeld3 ?_
        rotate_left
        · intro W' hSw; (try dsimp only at hSw); go_simp; try (with_reducible rfl)
        (try simp only [Act.put, List.getElem_toArray, List.getElem_cons_zero, List.getElem_cons_succ, List.setIfInBounds_toArray, List.set_cons_zero, List.set_cons_succ])
        refine wpAnyH_take (i := 7) (v := ?_) rfl (by kernel_rfl) (by kernel_rfl) (by kernel_rfl) (fun _ _ _ h => h) (Or.inl ⟨by rfl, ?_⟩) hHeld3 ?_
        rotate_left
        · intro W' hSw; (try dsimp only at hSw); go_simp; try (with_reducible rfl)
        (try simp only [Act.put, List.getElem_toArray, List.getElem_cons_zero, List.getElem_cons_succ, List.setIfInBounds_toArray, List.set_cons_zero, List.set_cons_succ])
        refine wpAnyH_take (i := 8) (v := ?_) rfl (by kernel_rfl) (by kernel_rfl) (by kernel_rfl) (fun _ _ _ h => h) (Or.inl ⟨by rfl, ?_⟩) hHeld3 ?_
        rotate_left
        · intro W' hSw; (try dsimp only at hSw); go_simp; try (with_reducible rfl)
        (try simp only [Act.put, List.getElem_toArray, List.getElem_cons_zero, List.getElem_cons_succ, List.setIfInBounds_toArray, List.set_cons_zero, List.set_cons_succ])
        refine wpAnyH_ready (rs := [9]) (by kernel_rfl) (by simp) ?_
        refine AllReadyH.cons rfl (fun K hK => ?_) AllReadyH.nil
        go_simp
        have hz3 := heap_alloc_new u3 (.cells #[.bool false, .int .u64 0, .string ⟨#[]⟩, .int .i64 0, .int .i64 0, .int .i64 0] 56)
        have hle3 : w2.heap.size ≤ u3.heap.size := hub3.size
        have hub3 := bthen hub3 (balloc (Below.refl _ _) (.cells #[.bool false, .int .u64 0, .string ⟨#[]⟩, .int .i64 0, .int .i64 0, .int .i64 0] 56))
        refine hK.out _ _ (HSC2.out _ (bthen (Below.refl _ w2).drew hub3)) (fun hHeld4 => ?_)
        clear hK
        (try simp only [Act.put, List.getElem_toArray, List.getElem_cons_zero, List.getElem_cons_succ, List.setIfInBounds_toArray, List.set_cons_zero, List.set_cons_succ])
        refine wpAnyH_ready (rs := [10]) (by kernel_rfl) (by simp) ?_
        refine AllReadyH.cons rfl (fun K hK => ?_) AllReadyH.nil
        have hBw := bthen (Below.refl _ w2).drew hub3
        refine step_store_rowd rfl _ _ _ rfl _ #[.bool en, .int .u64 co, .string so, .int .i64 rd, .int .i64 st, .int .i64 dp] (by rfl) (by rfl) _ _ hz3 trace_info rfl (by simp [Value.oneCell']) ?_
        refine hK.out _ _ (HSC2.out _ (below_setRowd hBw hle3)) (fun hHeld5 => ?_)
        clear hK
        (try simp only [Act.put, List.getElem_toArray, List.getElem_cons_zero, List.getElem_cons_succ])
        refine wpAnyH_take (i := 11) (v := ?_) rfl (by kernel_rfl) (by kernel_rfl) (by kernel_rfl) (fun _ _ _ h => h) (Or.inl ⟨by rfl, ?_⟩) hHeld5 ?_
        rotate_left
        · intro W' hSw; (try dsimp only at hSw); go_simp; try (with_reducible rfl)
        (try simp only [Act.put, List.getElem_toArray, List.getElem_cons_zero, List.getElem_cons_succ, List.setIfInBounds_toArray, List.set_cons_zero, List.set_cons_succ])
        refine wpAnyH_done (by kernel_rfl) ?_ _
        have hX := below_setRowd (cells := #[.bool en, .int .u64 co, .string so, .int .i64 rd, .int .i64 st, .int .i64 dp]) hBw hle3
        go_wp2_with fail
        go_meet
        exact ⟨_, rfl, rfl, setRow_heap _ _ _ _ _ _ hz3, bthen HQ.out.1 hX, (hX.block _ (Array.getElem?_eq_some_iff.1 HQ.out.2.2).1).trans HQ.out.2.2⟩
      · go_simp
        have hz := heap_alloc_new w2.drew (.cells #[.bool false, .int .u64 0, .string ⟨#[]⟩, .int .i64 0, .int .i64 0, .int .i64 0] 56)
        have hub := bthen hub (balloc (Below.refl _ _) (.cells #[.bool false, .int .u64 0, .string ⟨#[]⟩, .int .i64 0, .int .i64 0, .int .i64 0] 56))
        refine hK.out _ _ (HSC2.out _ (bthen (Below.refl _ w2).drew hub)) (fun hHeld => ?_)
        clear hK
        (try simp only [Act.put, List.getElem_toArray, List.getElem_cons_zero, List.getElem_cons_succ, List.setIfInBounds_toArray, List.set_cons_zero, List.set_cons_succ])
        refine wpAnyH_ready (rs := [5]) (by kernel_rfl) (by simp) ?_
        refine AllReadyH.cons rfl (fun K hK => ?_) AllReadyH.nil
        go_simp
        refine Calls.mono (HRB.out _ (HSU.out _ (bthen HQ.out.1 (bthen (Below.refl _ w2).drew hub)))) ?_
        rintro r u3 ⟨rfl, hb3⟩
        have hub3 := bthen hub hb3
        have hz3 := (hb3.block _ (Array.getElem?_eq_some_iff.1 hz).1).trans hz
        clear hb3
        refine hK.out _ _ (HSC2.out _ (bthen (Below.refl _ w2).drew hub3)) (fun hHeld3 => ?_)
        clear hK
        (try simp only [Act.put, List.getElem_toArray, List.getElem_cons_zero, List.getElem_cons_succ, List.setIfInBounds_toArray, List.set_cons_zero, List.set_cons_succ])
        refine wpAnyH_take (i := 6) (v := ?_) rfl (by kernel_rfl) (by kernel_rfl) (by kernel_rfl) (fun _ _ _ h => h) (Or.inl ⟨by rfl, ?_⟩) hHeld3 ?_
        rotate_left
        · intro W' hSw; (try dsimp only at hSw); go_simp; try (with_reducible rfl)
        (try simp only [Act.put, List.getElem_toArray, List.getElem_cons_zero, List.getElem_cons_succ, List.setIfInBounds_toArray, List.set_cons_zero, List.set_cons_succ])
        refine wpAnyH_take (i := 7) (v := ?_) rfl (by kernel_rfl) (by kernel_rfl) (by kernel_rfl) (fun _ _ _ h => h) (Or.inl ⟨by rfl, ?_⟩) hHeld3 ?_
        rotate_left
        · intro W' hSw; (try dsimp only at hSw); go_simp; try (with_reducible rfl)
        (try simp only [Act.put, List.getElem_toArray, List.getElem_cons_zero, List.getElem_cons_succ, List.setIfInBounds_toArray, List.set_cons_zero, List.set_cons_succ])
        refine wpAnyH_take (i := 8) (v := ?_) rfl (by kernel_rfl) (by kernel_rfl) (by kernel_rfl) (fun _ _ _ h => h) (Or.inl ⟨by rfl, ?_⟩) hHeld3 ?_
        rotate_left
        · intro W' hSw; (try dsimp only at hSw); go_simp; try (with_reducible rfl)
        (try simp only [Act.put, List.getElem_toArray, List.getElem_cons_zero, List.getElem_cons_succ, List.setIfInBounds_toArray, List.set_cons_zero, List.set_cons_succ])
        refine wpAnyH_ready (rs := [10]) (by kernel_rfl) (by simp) ?_
        refine AllReadyH.cons rfl (fun K hK => ?_) AllReadyH.nil
        have hBw := bthen (Below.refl _ w2).drew hub3
        refine step_store_rowd rfl _ _ _ rfl _ #[.bool en, .int .u64 co, .string so, .int .i64 rd, .int .i64 st, .int .i64 dp] (by rfl) (by rfl) _ _ hz3 trace_info rfl (by simp [Value.oneCell']) ?_
        refine hK.out _ _ (HSC2.out _ (below_setRowd hBw (Nat.le_refl _))) (fun hHeld5 => ?_)
        clear hK
        (try simp only [Act.put, List.getElem_toArray, List.getElem_cons_zero, List.getElem_cons_succ])
        refine wpAnyH_take (i := 11) (v := ?_) rfl (by kernel_rfl) (by kernel_rfl) (by kernel_rfl) (fun _ _ _ h => h) (Or.inl ⟨by rfl, ?_⟩) hHeld5 ?_
        rotate_left
        · intro W' hSw; (try dsimp only at hSw); go_simp; try (with_reducible rfl)
        (try simp only [Act.put, List.getElem_toArray, List.getElem_cons_zero, List.getElem_cons_succ, List.setIfInBounds_toArray, List.set_cons_zero, List.set_cons_succ])
        refine wpAnyH_done (by kernel_rfl) ?_ _
        have hX := below_setRowd (cells := #[.bool en, .int .u64 co, .string so, .int .i64 rd, .int .i64 st, .int .i64 dp]) hBw (Nat.le_refl _)
        go_wp2_with fail
        go_meet
        exact ⟨_, rfl, rfl, setRow_heap _ _ _ _ _ _ hz3, bthen HQ.out.1 hX, (hX.block _ (Array.getElem?_eq_some_iff.1 HQ.out.2.2).1).trans HQ.out.2.2⟩
    · go_simp
      have hz := heap_alloc_new w2.drew (.cells #[.bool false, .int .u64 0, .string ⟨#[]⟩, .int .i64 0, .int .i64 0, .int .i64 0] 56)
      have hub := bthen hub (balloc (Below.refl _ _) (.cells #[.bool false, .int .u64 0, .string ⟨#[]⟩, .int .i64 0, .int .i64 0, .int .i64 0] 56))
      refine hK.out _ _ (HSC2.out _ (bthen (Below.refl _ w2).drew hub)) (fun hHeld => ?_)
      clear hK
      (try simp only [Act.put, List.getElem_toArray, List.getElem_cons_zero, List.getElem_cons_succ, List.setIfInBounds_toArray, List.set_cons_zero, List.set_cons_succ])
      refine wpAnyH_ready (rs := [3]) (by kernel_rfl) (by simp) ?_
      refine AllReadyH.cons rfl (fun K hK => ?_) AllReadyH.nil
      go_simp
      refine Calls.mono (HM.out _) ?_
      rintro r u1 ⟨rfl, rfl⟩
      refine hK.out _ _ hHeld (fun _ => ?_)
      clear hK
      (try simp only [Act.put, List.getElem_toArray, List.getElem_cons_zero, List.getElem_cons_succ, List.setIfInBounds_toArray, List.set_cons_zero, List.set_cons_succ])
      refine wpAnyH_ready (rs := [5]) (by kernel_rfl) (by simp) ?_
      refine AllReadyH.cons rfl (fun K hK => ?_) AllReadyH.nil
      go_simp
      refine Calls.mono (HRB.out _ (HSU.out _ (bthen HQ.out.1 (bthen (Below.refl _ w2).drew hub)))) ?_
      rintro r u3 ⟨rfl, hb3⟩
      have hub3 := bthen hub hb3
      have hz3 := (hb3.block _ (Array.getElem?_eq_some_iff.1 hz).1).trans hz
      clear hb3
      refine hK.out _ _ (HSC2.out _ (bthen (Below.refl _ w2).drew hub3)) (fun hHeld3 => ?_)
      clear hK
      (try simp only [Act.put, List.getElem_toArray, List.getElem_cons_zero, List.getElem_cons_succ, List.setIfInBounds_toArray, List.set_cons_zero, List.set_cons_succ])
      refine wpAnyH_take (i := 6) (v := ?_) rfl (by kernel_rfl) (by kernel_rfl) (by kernel_rfl) (fun _ _ _ h => h) (Or.inl ⟨by rfl, ?_⟩) hHeld3 ?_
      rotate_left
      · intro W' hSw; (try dsimp only at hSw); go_simp; try (with_reducible rfl)
      (try simp only [Act.put, List.getElem_toArray, List.getElem_cons_zero, List.getElem_cons_succ, List.setIfInBounds_toArray, List.set_cons_zero, List.set_cons_succ])
      refine wpAnyH_take (i := 7) (v := ?_) rfl (by kernel_rfl) (by kernel_rfl) (by kernel_rfl) (fun _ _ _ h => h) (Or.inl ⟨by rfl, ?_⟩) hHeld3 ?_
      rotate_left
      · intro W' hSw; (try dsimp only at hSw); go_simp; try (with_reducible rfl)
      (try simp only [Act.put, List.getElem_toArray, List.getElem_cons_zero, List.getElem_cons_succ, List.setIfInBounds_toArray, List.set_cons_zero, List.set_cons_succ])
      refine wpAnyH_take (i := 8) (v := ?_) rfl (by kernel_rfl) (by kernel_rfl) (by kernel_rfl) (fun _ _ _ h => h) (Or.inl ⟨by rfl, ?_⟩) hHeld3 ?_
      rotate_left
      · intro W' hSw; (try dsimp only at hSw); go_simp; try (with_reducible rfl)
      (try simp only [Act.put, List.getElem_toArray, List.getElem_cons_zero, List.getElem_cons_succ, List.setIfInBounds_toArray, List.set_cons_zero, List.set_cons_succ])
      refine wpAnyH_ready (rs := [10]) (by kernel_rfl) (by simp) ?_
      refine AllReadyH.cons rfl (fun K hK => ?_) AllReadyH.nil
      have hBw := bthen (Below.refl _ w2).drew hub3
      refine step_store_rowd rfl _ _ _ rfl _ #[.bool en, .int .u64 co, .string so, .int .i64 rd, .int .i64 st, .int .i64 dp] (by rfl) (by rfl) _ _ hz3 trace_info rfl (by simp [Value.oneCell']) ?_
      refine hK.out _ _ (HSC2.out _ (below_setRowd hBw (Nat.le_refl _))) (fun hHeld5 => ?_)
      clear hK
      (try simp only [Act.put, List.getElem_toArray, List.getElem_cons_zero, List.getElem_cons_succ])
      refine wpAnyH_take (i := 11) (v := ?_) rfl (by kernel_rfl) (by kernel_rfl) (by kernel_rfl) (fun _ _ _ h => h) (Or.inl ⟨by rfl, ?_⟩) hHeld5 ?_
      rotate_left
      · intro W' hSw; (try dsimp only at hSw); go_simp; try (with_reducible rfl)
      (try simp only [Act.put, List.getElem_toArray, List.getElem_cons_zero, List.getElem_cons_succ, List.setIfInBounds_toArray, List.set_cons_zero, List.set_cons_succ])
      refine wpAnyH_done (by kernel_rfl) ?_ _
      have hX := below_setRowd (cells := #[.bool en, .int .u64 co, .string so, .int .i64 rd, .int .i64 st, .int .i64 dp]) hBw (Nat.le_refl _)
      go_wp2_with fail
      go_meet
      exact ⟨_, rfl, rfl, setRow_heap _ _ _ _ _ _ hz3, bthen HQ.out.1 hX, (hX.block _ (Array.getElem?_eq_some_iff.1 HQ.out.2.2).1).trans HQ.out.2.2⟩
  case rest =>
  obtain ⟨Y, rfl, rfl, hY, hb, hm⟩ := hcut
  have HB5 := Lib.hid (And.intro hb (And.intro hm hY))
  clear hY hb hm HSC2 HB2
  generalize wc = W5 at *
  have a0 := Lib.cell_of_heap HB5.out.2.1 0
  have a1 := Lib.cell_of_heap HB5.out.2.1 1
  have a2 := Lib.cell_of_heap HB5.out.2.1 2
  have a3 := Lib.cell_of_heap HB5.out.2.1 3
  have a4 := Lib.cell_of_heap HB5.out.2.1 4
  have a5 := Lib.cell_of_heap HB5.out.2.1 5
  have b0 := Lib.cell_of_heap HB5.out.2.2 0
  have b1 := Lib.cell_of_heap HB5.out.2.2 1
  have b2 := Lib.cell_of_heap HB5.out.2.2 2
  have b3 := Lib.cell_of_heap HB5.out.2.2 3
  have b4 := Lib.cell_of_heap HB5.out.2.2 4
  have b5 := Lib.cell_of_heap HB5.out.2.2 5
  simp only [List.getElem?_toArray, List.getElem?_cons_zero, List.getElem?_cons_succ] at a0 a1 a2 a3 a4 a5 b0 b1 b2 b3 b4 b5
  go_wp2_with fail
  go_ret
  exact ⟨rfl, HB5.out.1⟩
set_option maxRecDepth 100000 in
set_option maxHeartbeats 4000000 in
theorem deep_more (m : Md) (inp : ByteArray) (fu a b k : Int) (F G : Option Addr) (nf cf ng cg : Nat) (w : World) (hS : MdAt w (.slice F nf cf) (.slice G ng cg) m) (hk : mostD fu = k) (h1 : ¬ a < 1) (h2 : ¬ b < a) (h3 : ¬ 64 < b) (en en2 : Bool) (co rd st dp co2 rd2 st2 dp2 f : Int) (so so2 : ByteArray) (hh : so.size ≤ so2.size ∧ so2.extract 0 so.size = so) (hRa : ∀ W, MdAt W (.slice F nf cf) (.slice G ng cg) m → Calls Try.prog 32 #[.agg #[.slice F nf cf, .slice G ng cg], .string inp, .int .i64 k, .int .i64 a] W fun e w' => e = .returned (.tuple #[.agg #[.bool en, .int .u64 co, .string so, .int .i64 rd, .int .i64 st, .int .i64 dp], .int .i64 13]) ∧ Below W.heap.size W w') (hRb : ∀ W, MdAt W (.slice F nf cf) (.slice G ng cg) m → Calls Try.prog 32 #[.agg #[.slice F nf cf, .slice G ng cg], .string inp, .int .i64 k, .int .i64 b] W fun e w' => e = .returned (.tuple #[.agg #[.bool en2, .int .u64 co2, .string so2, .int .i64 rd2, .int .i64 st2, .int .i64 dp2], .int .i64 f]) ∧ Below W.heap.size W w') : Calls Try.prog 12 #[.agg #[.slice F nf cf, .slice G ng cg, .string inp, .int .i64 fu, .int .i64 a, .int .i64 b]] w fun e w' => e = .returned (.bool true) ∧ Below w.heap.size w w' := by
  have d1 : decide (a < 1) = false := by simpa using h1
  have d2 : decide (b < a) = false := by simpa using h2
  have d3 : decide (64 < b) = false := by simpa using h3
  have HRA := Lib.hid hRa
  have HRB := Lib.hid hRb
  have HM := Lib.hid (fun W => mostd_any fu W)
  rw [hk] at HM
  have HSU := Lib.hid (fun (U : World) (hb : Below w.heap.size w U) => hS.next hb)
  clear hRa hRb hS h1 h2 h3 hk
  have HW := Lib.hid (fun (W : World) (hW : W = (w.alloc (.cells #[.slice F nf cf, .slice G ng cg, .string inp, .int .i64 fu, .int .i64 a, .int .i64 b] 74)).alloc (.cells #[.slice F nf cf, .slice G ng cg] 47)) => (show Below w.heap.size w W ∧ W.heap[w.heap.size + 1]? = some (.cells #[.slice F nf cf, .slice G ng cg] 47 (0, 0)) from by
    subst hW
    have e := heap_alloc_new (w.alloc (.cells #[.slice F nf cf, .slice G ng cg, .string inp, .int .i64 fu, .int .i64 a, .int .i64 b] 74)) (.cells #[.slice F nf cf, .slice G ng cg] 47)
    rw [World.size_alloc] at e
    exact ⟨balloc (balloc (Below.refl _ w) _) _, e⟩))
  go_enter Try.func12, Try.ntmps12
  go_wp2_with fail
  obtain ⟨W, hW⟩ : ∃ W, W = (w.alloc (.cells #[.slice F nf cf, .slice G ng cg, .string inp, .int .i64 fu, .int .i64 a, .int .i64 b] 74)).alloc (.cells #[.slice F nf cf, .slice G ng cg] 47) := ⟨_, rfl⟩
  obtain ⟨hb0, hh0⟩ := HW.out W hW
  rw [← hW]
  clear hW HW
  refine (vshown_any W).mono ?_
  rintro r w1 ⟨rfl, hb⟩
  have HB := Lib.hid (show Below w.heap.size w w1 ∧ w1.heap[w.heap.size + 1]? = some (.cells #[.slice F nf cf, .slice G ng cg] 47 (0, 0)) from ⟨bthen hb0 hb, (hb.block _ (Array.getElem?_eq_some_iff.1 hh0).1).trans hh0⟩)
  clear hb0 hh0 hb
  have HSC := Lib.hid (fun (U : World) (hU : Below w1.heap.size w1 U) => (show U.cell? ⟨w.heap.size + 1, 0, none⟩ = some (.slice F nf cf) ∧ U.cell? ⟨w.heap.size + 1, 1, none⟩ = some (.slice G ng cg) from by
    have h := (hU.block _ (Array.getElem?_eq_some_iff.1 HB.out.2).1).trans HB.out.2
    exact ⟨Lib.cell_of_heap h 0, Lib.cell_of_heap h 1⟩))
  go_upto_region 9 with fail
  go_cut [9, 10] from 36 to 44 (fun v9 v10 wx => ∃ B, v9 = .pointer (some ⟨B, 0, none⟩) ∧ v10 = .int .i64 13 ∧ wx.heap[B]? = some (.cells #[.bool en, .int .u64 co, .string so, .int .i64 rd, .int .i64 st, .int .i64 dp] 56 (0, 0)) ∧ Below w.heap.size w wx ∧ wx.heap[w.heap.size + 1]? = some (.cells #[.slice F nf cf, .slice G ng cg] 47 (0, 0)))
  case first =>
    have HQ := Lib.hid HB.out
    refine wp_region_held_drew (S := (fun U => U.cell? ⟨w.heap.size + 1, 0, none⟩ = some (.slice F nf cf) ∧ U.cell? ⟨w.heap.size + 1, 1, none⟩ = some (.slice G ng cg))) (by kernel_rfl) (HSC.out _ (Below.refl _ w1).drew) (fun hHeld => ?_)
    have hub := Below.refl w1.drew.heap.size w1.drew
    refine wpAnyH_take (i := 0) (v := ?_) rfl (by kernel_rfl) (by kernel_rfl) (by kernel_rfl) (fun _ _ _ h => h) (Or.inl ⟨by rfl, ?_⟩) hHeld ?_
    rotate_left
    · intro W' hSw; (try dsimp only at hSw); go_simp; try (with_reducible rfl)
    (try simp only [Act.put, List.getElem_toArray, List.getElem_cons_zero, List.setIfInBounds_toArray, List.set_cons_zero, List.set_cons_succ])
    refine wpAnyH_take (i := 1) (v := ?_) rfl (by kernel_rfl) (by kernel_rfl) (by kernel_rfl) (fun _ _ _ h => h) (Or.inl ⟨by rfl, ?_⟩) hHeld ?_
    rotate_left
    · intro W' hSw; (try dsimp only at hSw); go_simp; try (with_reducible rfl)
    (try simp only [Act.put, List.getElem_toArray, List.getElem_cons_zero, List.getElem_cons_succ, List.setIfInBounds_toArray, List.set_cons_zero, List.set_cons_succ])
    refine wpAnyH_take (i := 2) (v := ?_) rfl (by kernel_rfl) (by kernel_rfl) (by kernel_rfl) (fun _ _ _ h => h) (Or.inl ⟨by rfl, ?_⟩) hHeld ?_
    rotate_left
    · intro W' hSw; (try dsimp only at hSw); go_simp; try (with_reducible rfl)
    (try simp only [Act.put, List.getElem_toArray, List.getElem_cons_zero, List.getElem_cons_succ, List.setIfInBounds_toArray, List.set_cons_zero, List.set_cons_succ])
    refine wpAnyH_take (i := 4) (v := ?_) rfl (by kernel_rfl) (by kernel_rfl) (by kernel_rfl) (fun _ _ _ h => h) (Or.inl ⟨by rfl, ?_⟩) hHeld ?_
    rotate_left
    · intro W' hSw; (try dsimp only at hSw); go_simp; try (with_reducible rfl)
    (try simp only [Act.put, List.getElem_toArray, List.getElem_cons_zero, List.getElem_cons_succ, List.setIfInBounds_toArray, List.set_cons_zero, List.set_cons_succ])
    refine wpAnyH_ready (rs := [3, 9]) (by kernel_rfl) (by simp) ?_
    refine AllReadyH.cons rfl (fun K hK => ?_) (AllReadyH.cons rfl (fun K hK => ?_) AllReadyH.nil)
    · go_simp
      refine Calls.mono (HM.out _) ?_
      rintro r u1 ⟨rfl, rfl⟩
      refine hK.out _ _ hHeld (fun _ => ?_)
      clear hK
      (try simp only [Act.put, List.getElem_toArray, List.getElem_cons_zero, List.getElem_cons_succ, List.setIfInBounds_toArray, List.set_cons_zero, List.set_cons_succ])
      refine wpAnyH_ready (rs := [5, 9]) (by kernel_rfl) (by simp) ?_
      refine AllReadyH.cons rfl (fun K hK => ?_) (AllReadyH.cons rfl (fun K hK => ?_) AllReadyH.nil)
      · go_simp
        refine Calls.mono (HRA.out _ (HSU.out _ (bthen HQ.out.1 (bthen (Below.refl _ w1).drew hub)))) ?_
        rintro r u3 ⟨rfl, hb3⟩
        have hub3 := bthen hub hb3
        clear hb3
        refine hK.out _ _ (HSC.out _ (bthen (Below.refl _ w1).drew hub3)) (fun hHeld3 => ?_)
        clear hK
        (try simp only [Act.put, List.getElem_toArray, List.getElem_cons_zero, List.getElem_cons_succ, List.setIfInBounds_toArray, List.set_cons_zero, List.set_cons_succ])
        refine wpAnyH_take (i := 6) (v := ?_) rfl (by kernel_rfl) (by kernel_rfl) (by kernel_rfl) (fun _ _ _ h => h) (Or.inl ⟨by rfl, ?_⟩) hHeld3 ?_
        rotate_left
        · intro W' hSw; (try dsimp only at hSw); go_simp; try (with_reducible rfl)
        (try simp only [Act.put, List.getElem_toArray, List.getElem_cons_zero, List.getElem_cons_succ, List.setIfInBounds_toArray, List.set_cons_zero, List.set_cons_succ])
        refine wpAnyH_take (i := 7) (v := ?_) rfl (by kernel_rfl) (by kernel_rfl) (by kernel_rfl) (fun _ _ _ h => h) (Or.inl ⟨by rfl, ?_⟩) hHeld3 ?_
        rotate_left
        · intro W' hSw; (try dsimp only at hSw); go_simp; try (with_reducible rfl)
        (try simp only [Act.put, List.getElem_toArray, List.getElem_cons_zero, List.getElem_cons_succ, List.setIfInBounds_toArray, List.set_cons_zero, List.set_cons_succ])
        refine wpAnyH_take (i := 8) (v := ?_) rfl (by kernel_rfl) (by kernel_rfl) (by kernel_rfl) (fun _ _ _ h => h) (Or.inl ⟨by rfl, ?_⟩) hHeld3 ?_
        rotate_left
        · intro W' hSw; (try dsimp only at hSw); go_simp; try (with_reducible rfl)
        (try simp only [Act.put, List.getElem_toArray, List.getElem_cons_zero, List.getElem_cons_succ, List.setIfInBounds_toArray, List.set_cons_zero, List.set_cons_succ])
        refine wpAnyH_ready (rs := [9]) (by kernel_rfl) (by simp) ?_
        refine AllReadyH.cons rfl (fun K hK => ?_) AllReadyH.nil
        go_simp
        have hz3 := heap_alloc_new u3 (.cells #[.bool false, .int .u64 0, .string ⟨#[]⟩, .int .i64 0, .int .i64 0, .int .i64 0] 56)
        have hle3 : w1.heap.size ≤ u3.heap.size := hub3.size
        have hub3 := bthen hub3 (balloc (Below.refl _ _) (.cells #[.bool false, .int .u64 0, .string ⟨#[]⟩, .int .i64 0, .int .i64 0, .int .i64 0] 56))
        refine hK.out _ _ (HSC.out _ (bthen (Below.refl _ w1).drew hub3)) (fun hHeld4 => ?_)
        clear hK
        (try simp only [Act.put, List.getElem_toArray, List.getElem_cons_zero, List.getElem_cons_succ, List.setIfInBounds_toArray, List.set_cons_zero, List.set_cons_succ])
        refine wpAnyH_ready (rs := [10]) (by kernel_rfl) (by simp) ?_
        refine AllReadyH.cons rfl (fun K hK => ?_) AllReadyH.nil
        have hBw := bthen (Below.refl _ w1).drew hub3
        refine step_store_rowd rfl _ _ _ rfl _ #[.bool en, .int .u64 co, .string so, .int .i64 rd, .int .i64 st, .int .i64 dp] (by rfl) (by rfl) _ _ hz3 trace_info rfl (by simp [Value.oneCell']) ?_
        refine hK.out _ _ (HSC.out _ (below_setRowd hBw hle3)) (fun hHeld5 => ?_)
        clear hK
        (try simp only [Act.put, List.getElem_toArray, List.getElem_cons_zero, List.getElem_cons_succ])
        refine wpAnyH_take (i := 11) (v := ?_) rfl (by kernel_rfl) (by kernel_rfl) (by kernel_rfl) (fun _ _ _ h => h) (Or.inl ⟨by rfl, ?_⟩) hHeld5 ?_
        rotate_left
        · intro W' hSw; (try dsimp only at hSw); go_simp; try (with_reducible rfl)
        (try simp only [Act.put, List.getElem_toArray, List.getElem_cons_zero, List.getElem_cons_succ, List.setIfInBounds_toArray, List.set_cons_zero, List.set_cons_succ])
        refine wpAnyH_done (by kernel_rfl) ?_ _
        have hX := below_setRowd (cells := #[.bool en, .int .u64 co, .string so, .int .i64 rd, .int .i64 st, .int .i64 dp]) hBw hle3
        go_wp2_with fail
        go_meet
        exact ⟨_, rfl, rfl, setRow_heap _ _ _ _ _ _ hz3, bthen HQ.out.1 hX, (hX.block _ (Array.getElem?_eq_some_iff.1 HQ.out.2).1).trans HQ.out.2⟩
      · go_simp
        have hz := heap_alloc_new w1.drew (.cells #[.bool false, .int .u64 0, .string ⟨#[]⟩, .int .i64 0, .int .i64 0, .int .i64 0] 56)
        have hub := bthen hub (balloc (Below.refl _ _) (.cells #[.bool false, .int .u64 0, .string ⟨#[]⟩, .int .i64 0, .int .i64 0, .int .i64 0] 56))
        refine hK.out _ _ (HSC.out _ (bthen (Below.refl _ w1).drew hub)) (fun hHeld => ?_)
        clear hK
        (try simp only [Act.put, List.getElem_toArray, List.getElem_cons_zero, List.getElem_cons_succ, List.setIfInBounds_toArray, List.set_cons_zero, List.set_cons_succ])
        refine wpAnyH_ready (rs := [5]) (by kernel_rfl) (by simp) ?_
        refine AllReadyH.cons rfl (fun K hK => ?_) AllReadyH.nil
        go_simp
        refine Calls.mono (HRA.out _ (HSU.out _ (bthen HQ.out.1 (bthen (Below.refl _ w1).drew hub)))) ?_
        rintro r u3 ⟨rfl, hb3⟩
        have hub3 := bthen hub hb3
        have hz3 := (hb3.block _ (Array.getElem?_eq_some_iff.1 hz).1).trans hz
        clear hb3
        refine hK.out _ _ (HSC.out _ (bthen (Below.refl _ w1).drew hub3)) (fun hHeld3 => ?_)
        clear hK
        (try simp only [Act.put, List.getElem_toArray, List.getElem_cons_zero, List.getElem_cons_succ, List.setIfInBounds_toArray, List.set_cons_zero, List.set_cons_succ])
        refine wpAnyH_take (i := 6) (v := ?_) rfl (by kernel_rfl) (by kernel_rfl) (by kernel_rfl) (fun _ _ _ h => h) (Or.inl ⟨by rfl, ?_⟩) hHeld3 ?_
        rotate_left
        · intro W' hSw; (try dsimp only at hSw); go_simp; try (with_reducible rfl)
        (try simp only [Act.put, List.getElem_toArray, List.getElem_cons_zero, List.getElem_cons_succ, List.setIfInBounds_toArray, List.set_cons_zero, List.set_cons_succ])
        refine wpAnyH_take (i := 7) (v := ?_) rfl (by kernel_rfl) (by kernel_rfl) (by kernel_rfl) (fun _ _ _ h => h) (Or.inl ⟨by rfl, ?_⟩) hHeld3 ?_
        rotate_left
        · intro W' hSw; (try dsimp only at hSw); go_simp; try (with_reducible rfl)
        (try simp only [Act.put, List.getElem_toArray, List.getElem_cons_zero, List.getElem_cons_succ, List.setIfInBounds_toArray, List.set_cons_zero, List.set_cons_succ])
        refine wpAnyH_take (i := 8) (v := ?_) rfl (by kernel_rfl) (by kernel_rfl) (by kernel_rfl) (fun _ _ _ h => h) (Or.inl ⟨by rfl, ?_⟩) hHeld3 ?_
        rotate_left
        · intro W' hSw; (try dsimp only at hSw); go_simp; try (with_reducible rfl)
        (try simp only [Act.put, List.getElem_toArray, List.getElem_cons_zero, List.getElem_cons_succ, List.setIfInBounds_toArray, List.set_cons_zero, List.set_cons_succ])
        refine wpAnyH_ready (rs := [10]) (by kernel_rfl) (by simp) ?_
        refine AllReadyH.cons rfl (fun K hK => ?_) AllReadyH.nil
        have hBw := bthen (Below.refl _ w1).drew hub3
        refine step_store_rowd rfl _ _ _ rfl _ #[.bool en, .int .u64 co, .string so, .int .i64 rd, .int .i64 st, .int .i64 dp] (by rfl) (by rfl) _ _ hz3 trace_info rfl (by simp [Value.oneCell']) ?_
        refine hK.out _ _ (HSC.out _ (below_setRowd hBw (Nat.le_refl _))) (fun hHeld5 => ?_)
        clear hK
        (try simp only [Act.put, List.getElem_toArray, List.getElem_cons_zero, List.getElem_cons_succ])
        refine wpAnyH_take (i := 11) (v := ?_) rfl (by kernel_rfl) (by kernel_rfl) (by kernel_rfl) (fun _ _ _ h => h) (Or.inl ⟨by rfl, ?_⟩) hHeld5 ?_
        rotate_left
        · intro W' hSw; (try dsimp only at hSw); go_simp; try (with_reducible rfl)
        (try simp only [Act.put, List.getElem_toArray, List.getElem_cons_zero, List.getElem_cons_succ, List.setIfInBounds_toArray, List.set_cons_zero, List.set_cons_succ])
        refine wpAnyH_done (by kernel_rfl) ?_ _
        have hX := below_setRowd (cells := #[.bool en, .int .u64 co, .string so, .int .i64 rd, .int .i64 st, .int .i64 dp]) hBw (Nat.le_refl _)
        go_wp2_with fail
        go_meet
        exact ⟨_, rfl, rfl, setRow_heap _ _ _ _ _ _ hz3, bthen HQ.out.1 hX, (hX.block _ (Array.getElem?_eq_some_iff.1 HQ.out.2).1).trans HQ.out.2⟩
    · go_simp
      have hz := heap_alloc_new w1.drew (.cells #[.bool false, .int .u64 0, .string ⟨#[]⟩, .int .i64 0, .int .i64 0, .int .i64 0] 56)
      have hub := bthen hub (balloc (Below.refl _ _) (.cells #[.bool false, .int .u64 0, .string ⟨#[]⟩, .int .i64 0, .int .i64 0, .int .i64 0] 56))
      refine hK.out _ _ (HSC.out _ (bthen (Below.refl _ w1).drew hub)) (fun hHeld => ?_)
      clear hK
      (try simp only [Act.put, List.getElem_toArray, List.getElem_cons_zero, List.getElem_cons_succ, List.setIfInBounds_toArray, List.set_cons_zero, List.set_cons_succ])
      refine wpAnyH_ready (rs := [3]) (by kernel_rfl) (by simp) ?_
      refine AllReadyH.cons rfl (fun K hK => ?_) AllReadyH.nil
      go_simp
      refine Calls.mono (HM.out _) ?_
      rintro r u1 ⟨rfl, rfl⟩
      refine hK.out _ _ hHeld (fun _ => ?_)
      clear hK
      (try simp only [Act.put, List.getElem_toArray, List.getElem_cons_zero, List.getElem_cons_succ, List.setIfInBounds_toArray, List.set_cons_zero, List.set_cons_succ])
      refine wpAnyH_ready (rs := [5]) (by kernel_rfl) (by simp) ?_
      refine AllReadyH.cons rfl (fun K hK => ?_) AllReadyH.nil
      go_simp
      refine Calls.mono (HRA.out _ (HSU.out _ (bthen HQ.out.1 (bthen (Below.refl _ w1).drew hub)))) ?_
      rintro r u3 ⟨rfl, hb3⟩
      have hub3 := bthen hub hb3
      have hz3 := (hb3.block _ (Array.getElem?_eq_some_iff.1 hz).1).trans hz
      clear hb3
      refine hK.out _ _ (HSC.out _ (bthen (Below.refl _ w1).drew hub3)) (fun hHeld3 => ?_)
      clear hK
      (try simp only [Act.put, List.getElem_toArray, List.getElem_cons_zero, List.getElem_cons_succ, List.setIfInBounds_toArray, List.set_cons_zero, List.set_cons_succ])
      refine wpAnyH_take (i := 6) (v := ?_) rfl (by kernel_rfl) (by kernel_rfl) (by kernel_rfl) (fun _ _ _ h => h) (Or.inl ⟨by rfl, ?_⟩) hHeld3 ?_
      rotate_left
      · intro W' hSw; (try dsimp only at hSw); go_simp; try (with_reducible rfl)
      (try simp only [Act.put, List.getElem_toArray, List.getElem_cons_zero, List.getElem_cons_succ, List.setIfInBounds_toArray, List.set_cons_zero, List.set_cons_succ])
      refine wpAnyH_take (i := 7) (v := ?_) rfl (by kernel_rfl) (by kernel_rfl) (by kernel_rfl) (fun _ _ _ h => h) (Or.inl ⟨by rfl, ?_⟩) hHeld3 ?_
      rotate_left
      · intro W' hSw; (try dsimp only at hSw); go_simp; try (with_reducible rfl)
      (try simp only [Act.put, List.getElem_toArray, List.getElem_cons_zero, List.getElem_cons_succ, List.setIfInBounds_toArray, List.set_cons_zero, List.set_cons_succ])
      refine wpAnyH_take (i := 8) (v := ?_) rfl (by kernel_rfl) (by kernel_rfl) (by kernel_rfl) (fun _ _ _ h => h) (Or.inl ⟨by rfl, ?_⟩) hHeld3 ?_
      rotate_left
      · intro W' hSw; (try dsimp only at hSw); go_simp; try (with_reducible rfl)
      (try simp only [Act.put, List.getElem_toArray, List.getElem_cons_zero, List.getElem_cons_succ, List.setIfInBounds_toArray, List.set_cons_zero, List.set_cons_succ])
      refine wpAnyH_ready (rs := [10]) (by kernel_rfl) (by simp) ?_
      refine AllReadyH.cons rfl (fun K hK => ?_) AllReadyH.nil
      have hBw := bthen (Below.refl _ w1).drew hub3
      refine step_store_rowd rfl _ _ _ rfl _ #[.bool en, .int .u64 co, .string so, .int .i64 rd, .int .i64 st, .int .i64 dp] (by rfl) (by rfl) _ _ hz3 trace_info rfl (by simp [Value.oneCell']) ?_
      refine hK.out _ _ (HSC.out _ (below_setRowd hBw (Nat.le_refl _))) (fun hHeld5 => ?_)
      clear hK
      (try simp only [Act.put, List.getElem_toArray, List.getElem_cons_zero, List.getElem_cons_succ])
      refine wpAnyH_take (i := 11) (v := ?_) rfl (by kernel_rfl) (by kernel_rfl) (by kernel_rfl) (fun _ _ _ h => h) (Or.inl ⟨by rfl, ?_⟩) hHeld5 ?_
      rotate_left
      · intro W' hSw; (try dsimp only at hSw); go_simp; try (with_reducible rfl)
      (try simp only [Act.put, List.getElem_toArray, List.getElem_cons_zero, List.getElem_cons_succ, List.setIfInBounds_toArray, List.set_cons_zero, List.set_cons_succ])
      refine wpAnyH_done (by kernel_rfl) ?_ _
      have hX := below_setRowd (cells := #[.bool en, .int .u64 co, .string so, .int .i64 rd, .int .i64 st, .int .i64 dp]) hBw (Nat.le_refl _)
      go_wp2_with fail
      go_meet
      exact ⟨_, rfl, rfl, setRow_heap _ _ _ _ _ _ hz3, bthen HQ.out.1 hX, (hX.block _ (Array.getElem?_eq_some_iff.1 HQ.out.2).1).trans HQ.out.2⟩
  case rest =>
  obtain ⟨Z, rfl, rfl, hZ, hb, hm⟩ := hcut
  have HB2 := Lib.hid (And.intro hb (And.intro hm hZ))
  clear hZ hb hm HSC HB
  generalize wc = w2 at *
  have HSC2 := Lib.hid (fun (U : World) (hU : Below w2.heap.size w2 U) => (show U.cell? ⟨w.heap.size + 1, 0, none⟩ = some (.slice F nf cf) ∧ U.cell? ⟨w.heap.size + 1, 1, none⟩ = some (.slice G ng cg) from by
    have h := (hU.block _ (Array.getElem?_eq_some_iff.1 HB2.out.2.1).1).trans HB2.out.2.1
    exact ⟨Lib.cell_of_heap h 0, Lib.cell_of_heap h 1⟩))
  go_upto_region 10 with fail
  go_cut [11, 12] from 45 to 53 (fun v11 v12 wx => ∃ B, v11 = .pointer (some ⟨B, 0, none⟩) ∧ v12 = .int .i64 f ∧ wx.heap[B]? = some (.cells #[.bool en2, .int .u64 co2, .string so2, .int .i64 rd2, .int .i64 st2, .int .i64 dp2] 56 (0, 0)) ∧ Below w.heap.size w wx ∧ wx.heap[Z]? = some (.cells #[.bool en, .int .u64 co, .string so, .int .i64 rd, .int .i64 st, .int .i64 dp] 56 (0, 0)))
  case first =>
    have HQ := Lib.hid HB2.out
    refine wp_region_held_drew (S := (fun U => U.cell? ⟨w.heap.size + 1, 0, none⟩ = some (.slice F nf cf) ∧ U.cell? ⟨w.heap.size + 1, 1, none⟩ = some (.slice G ng cg))) (by kernel_rfl) (HSC2.out _ (Below.refl _ w2).drew) (fun hHeld => ?_)
    have hub := Below.refl w2.drew.heap.size w2.drew
    refine wpAnyH_take (i := 0) (v := ?_) rfl (by kernel_rfl) (by kernel_rfl) (by kernel_rfl) (fun _ _ _ h => h) (Or.inl ⟨by rfl, ?_⟩) hHeld ?_
    rotate_left
    · intro W' hSw; (try dsimp only at hSw); go_simp; try (with_reducible rfl)
    (try simp only [Act.put, List.getElem_toArray, List.getElem_cons_zero, List.setIfInBounds_toArray, List.set_cons_zero, List.set_cons_succ])
    refine wpAnyH_take (i := 1) (v := ?_) rfl (by kernel_rfl) (by kernel_rfl) (by kernel_rfl) (fun _ _ _ h => h) (Or.inl ⟨by rfl, ?_⟩) hHeld ?_
    rotate_left
    · intro W' hSw; (try dsimp only at hSw); go_simp; try (with_reducible rfl)
    (try simp only [Act.put, List.getElem_toArray, List.getElem_cons_zero, List.getElem_cons_succ, List.setIfInBounds_toArray, List.set_cons_zero, List.set_cons_succ])
    refine wpAnyH_take (i := 2) (v := ?_) rfl (by kernel_rfl) (by kernel_rfl) (by kernel_rfl) (fun _ _ _ h => h) (Or.inl ⟨by rfl, ?_⟩) hHeld ?_
    rotate_left
    · intro W' hSw; (try dsimp only at hSw); go_simp; try (with_reducible rfl)
    (try simp only [Act.put, List.getElem_toArray, List.getElem_cons_zero, List.getElem_cons_succ, List.setIfInBounds_toArray, List.set_cons_zero, List.set_cons_succ])
    refine wpAnyH_take (i := 4) (v := ?_) rfl (by kernel_rfl) (by kernel_rfl) (by kernel_rfl) (fun _ _ _ h => h) (Or.inl ⟨by rfl, ?_⟩) hHeld ?_
    rotate_left
    · intro W' hSw; (try dsimp only at hSw); go_simp; try (with_reducible rfl)
    (try simp only [Act.put, List.getElem_toArray, List.getElem_cons_zero, List.getElem_cons_succ, List.setIfInBounds_toArray, List.set_cons_zero, List.set_cons_succ])
    refine wpAnyH_ready (rs := [3, 9]) (by kernel_rfl) (by simp) ?_
    refine AllReadyH.cons rfl (fun K hK => ?_) (AllReadyH.cons rfl (fun K hK => ?_) AllReadyH.nil)
    · go_simp
      refine Calls.mono (HM.out _) ?_
      rintro r u1 ⟨rfl, rfl⟩
      refine hK.out _ _ hHeld (fun _ => ?_)
      clear hK
      (try simp only [Act.put, List.getElem_toArray, List.getElem_cons_zero, List.getElem_cons_succ, List.setIfInBounds_toArray, List.set_cons_zero, List.set_cons_succ])
      refine wpAnyH_ready (rs := [5, 9]) (by kernel_rfl) (by simp) ?_
      refine AllReadyH.cons rfl (fun K hK => ?_) (AllReadyH.cons rfl (fun K hK => ?_) AllReadyH.nil)
      · go_simp
        refine Calls.mono (HRB.out _ (HSU.out _ (bthen HQ.out.1 (bthen (Below.refl _ w2).drew hub)))) ?_
        rintro r u3 ⟨rfl, hb3⟩
        have hub3 := bthen hub hb3
        clear hb3
        refine hK.out _ _ (HSC2.out _ (bthen (Below.refl _ w2).drew hub3)) (fun hHeld3 => ?_)
        clear hK
        (try simp only [Act.put, List.getElem_toArray, List.getElem_cons_zero, List.getElem_cons_succ, List.setIfInBounds_toArray, List.set_cons_zero, List.set_cons_succ])
        refine wpAnyH_take (i := 6) (v := ?_) rfl (by kernel_rfl) (by kernel_rfl) (by kernel_rfl) (fun _ _ _ h => h) (Or.inl ⟨by rfl, ?_⟩) hHeld3 ?_
        rotate_left
        · intro W' hSw; (try dsimp only at hSw); go_simp; try (with_reducible rfl)
        (try simp only [Act.put, List.getElem_toArray, List.getElem_cons_zero, List.getElem_cons_succ, List.setIfInBounds_toArray, List.set_cons_zero, List.set_cons_succ])
        refine wpAnyH_take (i := 7) (v := ?_) rfl (by kernel_rfl) (by kernel_rfl) (by kernel_rfl) (fun _ _ _ h => h) (Or.inl ⟨by rfl, ?_⟩) hHeld3 ?_
        rotate_left
        · intro W' hSw; (try dsimp only at hSw); go_simp; try (with_reducible rfl)
        (try simp only [Act.put, List.getElem_toArray, List.getElem_cons_zero, List.getElem_cons_succ, List.setIfInBounds_toArray, List.set_cons_zero, List.set_cons_succ])
        refine wpAnyH_take (i := 8) (v := ?_) rfl (by kernel_rfl) (by kernel_rfl) (by kernel_rfl) (fun _ _ _ h => h) (Or.inl ⟨by rfl, ?_⟩) hHeld3 ?_
        rotate_left
        · intro W' hSw; (try dsimp only at hSw); go_simp; try (with_reducible rfl)
        (try simp only [Act.put, List.getElem_toArray, List.getElem_cons_zero, List.getElem_cons_succ, List.setIfInBounds_toArray, List.set_cons_zero, List.set_cons_succ])
        refine wpAnyH_ready (rs := [9]) (by kernel_rfl) (by simp) ?_
        refine AllReadyH.cons rfl (fun K hK => ?_) AllReadyH.nil
        go_simp
        have hz3 := heap_alloc_new u3 (.cells #[.bool false, .int .u64 0, .string ⟨#[]⟩, .int .i64 0, .int .i64 0, .int .i64 0] 56)
        have hle3 : w2.heap.size ≤ u3.heap.size := hub3.size
        have hub3 := bthen hub3 (balloc (Below.refl _ _) (.cells #[.bool false, .int .u64 0, .string ⟨#[]⟩, .int .i64 0, .int .i64 0, .int .i64 0] 56))
        refine hK.out _ _ (HSC2.out _ (bthen (Below.refl _ w2).drew hub3)) (fun hHeld4 => ?_)
        clear hK
        (try simp only [Act.put, List.getElem_toArray, List.getElem_cons_zero, List.getElem_cons_succ, List.setIfInBounds_toArray, List.set_cons_zero, List.set_cons_succ])
        refine wpAnyH_ready (rs := [10]) (by kernel_rfl) (by simp) ?_
        refine AllReadyH.cons rfl (fun K hK => ?_) AllReadyH.nil
        have hBw := bthen (Below.refl _ w2).drew hub3
        refine step_store_rowd rfl _ _ _ rfl _ #[.bool en2, .int .u64 co2, .string so2, .int .i64 rd2, .int .i64 st2, .int .i64 dp2] (by rfl) (by rfl) _ _ hz3 trace_info rfl (by simp [Value.oneCell']) ?_
        refine hK.out _ _ (HSC2.out _ (below_setRowd hBw hle3)) (fun hHeld5 => ?_)
        clear hK
        (try simp only [Act.put, List.getElem_toArray, List.getElem_cons_zero, List.getElem_cons_succ])
        refine wpAnyH_take (i := 11) (v := ?_) rfl (by kernel_rfl) (by kernel_rfl) (by kernel_rfl) (fun _ _ _ h => h) (Or.inl ⟨by rfl, ?_⟩) hHeld5 ?_
        rotate_left
        · intro W' hSw; (try dsimp only at hSw); go_simp; try (with_reducible rfl)
        (try simp only [Act.put, List.getElem_toArray, List.getElem_cons_zero, List.getElem_cons_succ, List.setIfInBounds_toArray, List.set_cons_zero, List.set_cons_succ])
        refine wpAnyH_done (by kernel_rfl) ?_ _
        have hX := below_setRowd (cells := #[.bool en2, .int .u64 co2, .string so2, .int .i64 rd2, .int .i64 st2, .int .i64 dp2]) hBw hle3
        go_wp2_with fail
        go_meet
        exact ⟨_, rfl, rfl, setRow_heap _ _ _ _ _ _ hz3, bthen HQ.out.1 hX, (hX.block _ (Array.getElem?_eq_some_iff.1 HQ.out.2.2).1).trans HQ.out.2.2⟩
      · go_simp
        have hz := heap_alloc_new w2.drew (.cells #[.bool false, .int .u64 0, .string ⟨#[]⟩, .int .i64 0, .int .i64 0, .int .i64 0] 56)
        have hub := bthen hub (balloc (Below.refl _ _) (.cells #[.bool false, .int .u64 0, .string ⟨#[]⟩, .int .i64 0, .int .i64 0, .int .i64 0] 56))
        refine hK.out _ _ (HSC2.out _ (bthen (Below.refl _ w2).drew hub)) (fun hHeld => ?_)
        clear hK
        (try simp only [Act.put, List.getElem_toArray, List.getElem_cons_zero, List.getElem_cons_succ, List.setIfInBounds_toArray, List.set_cons_zero, List.set_cons_succ])
        refine wpAnyH_ready (rs := [5]) (by kernel_rfl) (by simp) ?_
        refine AllReadyH.cons rfl (fun K hK => ?_) AllReadyH.nil
        go_simp
        refine Calls.mono (HRB.out _ (HSU.out _ (bthen HQ.out.1 (bthen (Below.refl _ w2).drew hub)))) ?_
        rintro r u3 ⟨rfl, hb3⟩
        have hub3 := bthen hub hb3
        have hz3 := (hb3.block _ (Array.getElem?_eq_some_iff.1 hz).1).trans hz
        clear hb3
        refine hK.out _ _ (HSC2.out _ (bthen (Below.refl _ w2).drew hub3)) (fun hHeld3 => ?_)
        clear hK
        (try simp only [Act.put, List.getElem_toArray, List.getElem_cons_zero, List.getElem_cons_succ, List.setIfInBounds_toArray, List.set_cons_zero, List.set_cons_succ])
        refine wpAnyH_take (i := 6) (v := ?_) rfl (by kernel_rfl) (by kernel_rfl) (by kernel_rfl) (fun _ _ _ h => h) (Or.inl ⟨by rfl, ?_⟩) hHeld3 ?_
        rotate_left
        · intro W' hSw; (try dsimp only at hSw); go_simp; try (with_reducible rfl)
        (try simp only [Act.put, List.getElem_toArray, List.getElem_cons_zero, List.getElem_cons_succ, List.setIfInBounds_toArray, List.set_cons_zero, List.set_cons_succ])
        refine wpAnyH_take (i := 7) (v := ?_) rfl (by kernel_rfl) (by kernel_rfl) (by kernel_rfl) (fun _ _ _ h => h) (Or.inl ⟨by rfl, ?_⟩) hHeld3 ?_
        rotate_left
        · intro W' hSw; (try dsimp only at hSw); go_simp; try (with_reducible rfl)
        (try simp only [Act.put, List.getElem_toArray, List.getElem_cons_zero, List.getElem_cons_succ, List.setIfInBounds_toArray, List.set_cons_zero, List.set_cons_succ])
        refine wpAnyH_take (i := 8) (v := ?_) rfl (by kernel_rfl) (by kernel_rfl) (by kernel_rfl) (fun _ _ _ h => h) (Or.inl ⟨by rfl, ?_⟩) hHeld3 ?_
        rotate_left
        · intro W' hSw; (try dsimp only at hSw); go_simp; try (with_reducible rfl)
        (try simp only [Act.put, List.getElem_toArray, List.getElem_cons_zero, List.getElem_cons_succ, List.setIfInBounds_toArray, List.set_cons_zero, List.set_cons_succ])
        refine wpAnyH_ready (rs := [10]) (by kernel_rfl) (by simp) ?_
        refine AllReadyH.cons rfl (fun K hK => ?_) AllReadyH.nil
        have hBw := bthen (Below.refl _ w2).drew hub3
        refine step_store_rowd rfl _ _ _ rfl _ #[.bool en2, .int .u64 co2, .string so2, .int .i64 rd2, .int .i64 st2, .int .i64 dp2] (by rfl) (by rfl) _ _ hz3 trace_info rfl (by simp [Value.oneCell']) ?_
        refine hK.out _ _ (HSC2.out _ (below_setRowd hBw (Nat.le_refl _))) (fun hHeld5 => ?_)
        clear hK
        (try simp only [Act.put, List.getElem_toArray, List.getElem_cons_zero, List.getElem_cons_succ])
        refine wpAnyH_take (i := 11) (v := ?_) rfl (by kernel_rfl) (by kernel_rfl) (by kernel_rfl) (fun _ _ _ h => h) (Or.inl ⟨by rfl, ?_⟩) hHeld5 ?_
        rotate_left
        · intro W' hSw; (try dsimp only at hSw); go_simp; try (with_reducible rfl)
        (try simp only [Act.put, List.getElem_toArray, List.getElem_cons_zero, List.getElem_cons_succ, List.setIfInBounds_toArray, List.set_cons_zero, List.set_cons_succ])
        refine wpAnyH_done (by kernel_rfl) ?_ _
        have hX := below_setRowd (cells := #[.bool en2, .int .u64 co2, .string so2, .int .i64 rd2, .int .i64 st2, .int .i64 dp2]) hBw (Nat.le_refl _)
        go_wp2_with fail
        go_meet
        exact ⟨_, rfl, rfl, setRow_heap _ _ _ _ _ _ hz3, bthen HQ.out.1 hX, (hX.block _ (Array.getElem?_eq_some_iff.1 HQ.out.2.2).1).trans HQ.out.2.2⟩
    · go_simp
      have hz := heap_alloc_new w2.drew (.cells #[.bool false, .int .u64 0, .string ⟨#[]⟩, .int .i64 0, .int .i64 0, .int .i64 0] 56)
      have hub := bthen hub (balloc (Below.refl _ _) (.cells #[.bool false, .int .u64 0, .string ⟨#[]⟩, .int .i64 0, .int .i64 0, .int .i64 0] 56))
      refine hK.out _ _ (HSC2.out _ (bthen (Below.refl _ w2).drew hub)) (fun hHeld => ?_)
      clear hK
      (try simp only [Act.put, List.getElem_toArray, List.getElem_cons_zero, List.getElem_cons_succ, List.setIfInBounds_toArray, List.set_cons_zero, List.set_cons_succ])
      refine wpAnyH_ready (rs := [3]) (by kernel_rfl) (by simp) ?_
      refine AllReadyH.cons rfl (fun K hK => ?_) AllReadyH.nil
      go_simp
      refine Calls.mono (HM.out _) ?_
      rintro r u1 ⟨rfl, rfl⟩
      refine hK.out _ _ hHeld (fun _ => ?_)
      clear hK
      (try simp only [Act.put, List.getElem_toArray, List.getElem_cons_zero, List.getElem_cons_succ, List.setIfInBounds_toArray, List.set_cons_zero, List.set_cons_succ])
      refine wpAnyH_ready (rs := [5]) (by kernel_rfl) (by simp) ?_
      refine AllReadyH.cons rfl (fun K hK => ?_) AllReadyH.nil
      go_simp
      refine Calls.mono (HRB.out _ (HSU.out _ (bthen HQ.out.1 (bthen (Below.refl _ w2).drew hub)))) ?_
      rintro r u3 ⟨rfl, hb3⟩
      have hub3 := bthen hub hb3
      have hz3 := (hb3.block _ (Array.getElem?_eq_some_iff.1 hz).1).trans hz
      clear hb3
      refine hK.out _ _ (HSC2.out _ (bthen (Below.refl _ w2).drew hub3)) (fun hHeld3 => ?_)
      clear hK
      (try simp only [Act.put, List.getElem_toArray, List.getElem_cons_zero, List.getElem_cons_succ, List.setIfInBounds_toArray, List.set_cons_zero, List.set_cons_succ])
      refine wpAnyH_take (i := 6) (v := ?_) rfl (by kernel_rfl) (by kernel_rfl) (by kernel_rfl) (fun _ _ _ h => h) (Or.inl ⟨by rfl, ?_⟩) hHeld3 ?_
      rotate_left
      · intro W' hSw; (try dsimp only at hSw); go_simp; try (with_reducible rfl)
      (try simp only [Act.put, List.getElem_toArray, List.getElem_cons_zero, List.getElem_cons_succ, List.setIfInBounds_toArray, List.set_cons_zero, List.set_cons_succ])
      refine wpAnyH_take (i := 7) (v := ?_) rfl (by kernel_rfl) (by kernel_rfl) (by kernel_rfl) (fun _ _ _ h => h) (Or.inl ⟨by rfl, ?_⟩) hHeld3 ?_
      rotate_left
      · intro W' hSw; (try dsimp only at hSw); go_simp; try (with_reducible rfl)
      (try simp only [Act.put, List.getElem_toArray, List.getElem_cons_zero, List.getElem_cons_succ, List.setIfInBounds_toArray, List.set_cons_zero, List.set_cons_succ])
      refine wpAnyH_take (i := 8) (v := ?_) rfl (by kernel_rfl) (by kernel_rfl) (by kernel_rfl) (fun _ _ _ h => h) (Or.inl ⟨by rfl, ?_⟩) hHeld3 ?_
      rotate_left
      · intro W' hSw; (try dsimp only at hSw); go_simp; try (with_reducible rfl)
      (try simp only [Act.put, List.getElem_toArray, List.getElem_cons_zero, List.getElem_cons_succ, List.setIfInBounds_toArray, List.set_cons_zero, List.set_cons_succ])
      refine wpAnyH_ready (rs := [10]) (by kernel_rfl) (by simp) ?_
      refine AllReadyH.cons rfl (fun K hK => ?_) AllReadyH.nil
      have hBw := bthen (Below.refl _ w2).drew hub3
      refine step_store_rowd rfl _ _ _ rfl _ #[.bool en2, .int .u64 co2, .string so2, .int .i64 rd2, .int .i64 st2, .int .i64 dp2] (by rfl) (by rfl) _ _ hz3 trace_info rfl (by simp [Value.oneCell']) ?_
      refine hK.out _ _ (HSC2.out _ (below_setRowd hBw (Nat.le_refl _))) (fun hHeld5 => ?_)
      clear hK
      (try simp only [Act.put, List.getElem_toArray, List.getElem_cons_zero, List.getElem_cons_succ])
      refine wpAnyH_take (i := 11) (v := ?_) rfl (by kernel_rfl) (by kernel_rfl) (by kernel_rfl) (fun _ _ _ h => h) (Or.inl ⟨by rfl, ?_⟩) hHeld5 ?_
      rotate_left
      · intro W' hSw; (try dsimp only at hSw); go_simp; try (with_reducible rfl)
      (try simp only [Act.put, List.getElem_toArray, List.getElem_cons_zero, List.getElem_cons_succ, List.setIfInBounds_toArray, List.set_cons_zero, List.set_cons_succ])
      refine wpAnyH_done (by kernel_rfl) ?_ _
      have hX := below_setRowd (cells := #[.bool en2, .int .u64 co2, .string so2, .int .i64 rd2, .int .i64 st2, .int .i64 dp2]) hBw (Nat.le_refl _)
      go_wp2_with fail
      go_meet
      exact ⟨_, rfl, rfl, setRow_heap _ _ _ _ _ _ hz3, bthen HQ.out.1 hX, (hX.block _ (Array.getElem?_eq_some_iff.1 HQ.out.2.2).1).trans HQ.out.2.2⟩
  case rest =>
  obtain ⟨Y, rfl, rfl, hY, hb, hm⟩ := hcut
  have HB5 := Lib.hid (And.intro hb (And.intro hm hY))
  clear hY hb hm HSC2 HB2
  generalize wc = W5 at *
  have a0 := Lib.cell_of_heap HB5.out.2.1 0
  have a1 := Lib.cell_of_heap HB5.out.2.1 1
  have a2 := Lib.cell_of_heap HB5.out.2.1 2
  have a3 := Lib.cell_of_heap HB5.out.2.1 3
  have a4 := Lib.cell_of_heap HB5.out.2.1 4
  have a5 := Lib.cell_of_heap HB5.out.2.1 5
  have b0 := Lib.cell_of_heap HB5.out.2.2 0
  have b1 := Lib.cell_of_heap HB5.out.2.2 1
  have b2 := Lib.cell_of_heap HB5.out.2.2 2
  have b3 := Lib.cell_of_heap HB5.out.2.2 3
  have b4 := Lib.cell_of_heap HB5.out.2.2 4
  have b5 := Lib.cell_of_heap HB5.out.2.2 5
  simp only [List.getElem?_toArray, List.getElem?_cons_zero, List.getElem?_cons_succ] at a0 a1 a2 a3 a4 a5 b0 b1 b2 b3 b4 b5
  obtain ⟨e1, e2⟩ := hh
  have k2 : (so2.extract 0 so.size == so) = true := (jba_beq _ _).2 e2
  have k1 : decide (so.size ≤ so2.size) = true := by simpa using e1
  go_wp2_with fail
  go_quiet (fail)
  go_wp2_with fail
  go_ret
  exact ⟨rfl, HB5.out.1.trans ⟨rfl, rfl, rfl, Nat.le_refl _, fun _ _ => rfl⟩⟩
theorem deep_all (m : Md) (inp : ByteArray) (fu a b : Int) (F G : Option Addr) (nf cf ng cg : Nat) (w : World) (hok : MdOk m) (hr : MdR m) (hin : inp.size < 9223372036854775808) (hnf : m.f.length = nf) (hng : m.g.length = ng) (hS : MdAt w (.slice F nf cf) (.slice G ng cg) m) : Calls Try.prog 12 #[.agg #[.slice F nf cf, .slice G ng cg, .string inp, .int .i64 fu, .int .i64 a, .int .i64 b]] w fun e w' => e = .returned (.bool true) ∧ Below w.heap.size w w' := by
  by_cases h1 : a < 1
  · exact deep_o1 m inp fu a b F G nf cf ng cg w h1
  by_cases h2 : b < a
  · exact deep_o2 m inp fu a b F G nf cf ng cg w h1 h2
  by_cases h3 : 64 < b
  · exact deep_o3 m inp fu a b F G nf cf ng cg w h1 h2 h3
  obtain ⟨k, hk⟩ : ∃ k, mostD fu = k := ⟨_, rfl⟩
  have hRa := fun (W : World) (hS : MdAt W (.slice F nf cf) (.slice G ng cg) m) => run_any m inp k a F G nf cf ng cg W hok hr hin hnf hng hS
  have hRb := fun (W : World) (hS : MdAt W (.slice F nf cf) (.slice G ng cg) m) => run_any m inp k b F G nf cf ng cg W hok hr hin hnf hng hS
  by_cases hbad : k < 0 ∨ 100000 < k
  · rw [show trE m inp k a = (⟨false, 0, 0, 0, 0, [], fun _ => 0, []⟩, 1) by unfold trE; rw [if_pos (by omega)]] at hRa
    rw [show trE m inp k b = (⟨false, 0, 0, 0, 0, [], fun _ => 0, []⟩, 1) by unfold trE; rw [if_pos (by omega)]] at hRb
    exact deep_same m inp fu a b k F G nf cf ng cg w hS hk h1 h2 h3 _ _ _ _ _ 1 _ (by decide) hRa hRb
  by_cases hw : wholeE m = 0
  · rw [show trE m inp k a = runE m inp a.toNat k.toNat (s1E m (blksOf m mainN)) by unfold trE; rw [if_neg (by omega), if_pos hw]] at hRa
    rw [show trE m inp k b = runE m inp b.toNat k.toNat (s1E m (blksOf m mainN)) by unfold trE; rw [if_neg (by omega), if_pos hw]] at hRb
    have hd := run_deeper (m := m) (inp := inp) (a := a.toNat) (b := b.toNat) (by omega) k.toNat (s1E m (blksOf m mainN)) ⟨Nat.zero_le _, Nat.le_refl _, by simp only [s1E]; omega, Nat.le_refl _⟩ (by simp only [s1E, List.length_singleton]; omega) (.inr ⟨by simp [s1E], rfl, rfl⟩)
    obtain ⟨⟨T, e⟩, hT⟩ : ∃ x, runE m inp a.toNat k.toNat (s1E m (blksOf m mainN)) = x := ⟨_, rfl⟩
    rw [hT] at hRa hd
    by_cases h13 : e = 13
    · subst h13
      obtain ⟨⟨U, f⟩, hU⟩ : ∃ x, runE m inp b.toNat k.toNat (s1E m (blksOf m mainN)) = x := ⟨_, rfl⟩
      rw [hU] at hRb hd
      have hp : T.out <+: U.out := by
        rcases hd with h | h
        · cases h
          exact List.prefix_refl _
        · exact h.2
      exact deep_more m inp fu a b k F G nf cf ng cg w hS hk h1 h2 h3 _ _ _ _ _ _ _ _ _ _ _ _ _ ⟨by rw [strOfNums_size, strOfNums_size]; exact hp.length_le, str_prefix hp⟩ hRa hRb
    · rcases hd with h | h
      · rw [← h] at hRb
        exact deep_same m inp fu a b k F G nf cf ng cg w hS hk h1 h2 h3 _ _ _ _ _ e _ h13 hRa hRb
      · exact absurd h.1 h13
  · rw [show trE m inp k a = (⟨false, 0, 0, 0, 0, [], fun _ => 0, []⟩, wholeE m) by unfold trE; rw [if_neg (by omega), if_neg hw]] at hRa
    rw [show trE m inp k b = (⟨false, 0, 0, 0, 0, [], fun _ => 0, []⟩, wholeE m) by unfold trE; rw [if_neg (by omega), if_neg hw]] at hRb
    exact deep_same m inp fu a b k F G nf cf ng cg w hS hk h1 h2 h3 _ _ _ _ _ (wholeE m) _ (whole_code m).2 hRa hRb
end Go.Proofs.Ytdjmiaphodfdeaa
