/- Package ir: has each instruction of a module a name of what it asks for, with as many values as that one is handed? -/
import Derived.Test.YtkalgiaapkjplaaK5
import Derived.Maps.OwnIn
namespace Go.Proofs.Ytkalgiaapkjplaa
open Go.RowKit Go.Shelf Go.Maps

attribute [local go_sem] Oper.semAt_some

/-- what a name names, if anything -/
def lookO (m : Md) (s : ByteArray) : Option (Bool × Int) := match m.f.find? (fun f => f.s == s) with | some f => some (true, f.p) | none => if m.g.any (fun g => g.s == s) = true then some (false, 0) else none
theorem look_map (m : Md) (hn : (namesM m).Nodup) (s : ByteArray) : Maps.has (mapD (entM m)) (slit s) = (lookO m s).isSome ∧ (mapD (entM m)).atKey (slit s) (thD (false, 0)) = thD ((lookO m s).getD (false, 0)) ∧
    (∀ i : In, i.s = s → hasB i.o = true → noneI m i = (!(lookO m s).isSome || ((lookO m s).getD (false, 0)).1 != (i.o == 14))) ∧
    (∀ i : In, i.s = s → hasB i.o = true → noneI m i = false → oddI m i = (((lookO m s).getD (false, 0)).1 && ((lookO m s).getD (false, 0)).2 != (i.l.length : Int))) := by
  obtain ⟨h1, -, -, h4⟩ := mapD_facts (entM m)
  have h4 := h4 (by rw [entM_names]; exact hn)
  have hno : ∀ (i : In), hasB i.o = true → (i.o == 14) = true ∨ ((i.o == 14) = false ∧ (i.o == 12 || i.o == 13) = true) := fun i h => by
    cases h14 : i.o == 14 with
    | true => exact .inl rfl
    | false =>
      refine .inr ⟨rfl, ?_⟩
      unfold hasB at h
      rw [h14] at h
      simpa using h
  unfold lookO
  cases hf : m.f.find? (fun f => f.s == s) with
  | some f =>
    have hfs : f.s = s := by
      have := List.find?_some hf
      exact (jba_beq _ _).1 this
    have hfm := List.mem_of_find?_eq_some hf
    have hany : m.f.any (fun f => f.s == s) = true := List.any_eq_true.2 ⟨f, hfm, by rw [hfs]; exact jba_refl s⟩
    have hg : m.g.any (fun g => g.s == s) = false := by
      cases h : m.g.any (fun g => g.s == s) with
      | false => rfl
      | true =>
        obtain ⟨g, hgm, hgs⟩ := List.any_eq_true.1 h
        have hgs := (jba_beq _ _).1 hgs
        unfold namesM at hn
        exact absurd (hfs.trans hgs.symm) ((List.nodup_append.1 hn).2.2 _ (List.mem_map_of_mem hfm) _ (List.mem_map_of_mem hgm))
    refine ⟨?_, ?_, fun i hi hh => ?_, fun i hi hh _ => ?_⟩
    · exact (h1 s).2 ⟨entF f, by unfold entM; exact List.mem_append_left _ (List.mem_map_of_mem hfm), hfs⟩
    · have := h4 (entF f) (by unfold entM; exact List.mem_append_left _ (List.mem_map_of_mem hfm)) (thD (false, 0))
      unfold entF at this
      rw [hfs] at this
      exact this
    · subst hi
      unfold noneI
      rw [hany, hg]
      rcases hno i hh with h | ⟨h, h'⟩
      · have e : i.o = 14 := by simpa using h
        rw [e]; rfl
      · rw [h, h']; rfl
    · subst hi
      unfold oddI
      rw [hf]
      rcases hno i hh with h | ⟨h, h'⟩
      · rw [h]; simp [bne]
      · rename_i hz
        unfold noneI at hz
        rw [hg, h'] at hz
        simp at hz
  | none =>
    have hany : m.f.any (fun f => f.s == s) = false := by
      rw [List.any_eq_false]
      exact fun f hfm => by have := List.find?_eq_none.1 hf f hfm; simpa using this
    have hff : ∀ f ∈ m.f, f.s ≠ s := fun f hfm e => by
      have := List.find?_eq_none.1 hf f hfm
      rw [e] at this
      exact this (jba_refl s)
    cases hg : m.g.any (fun g => g.s == s) with
    | true =>
      obtain ⟨g, hgm, hgs⟩ := List.any_eq_true.1 hg
      have hgs := (jba_beq _ _).1 hgs
      refine ⟨?_, ?_, fun i hi hh => ?_, fun i hi hh hz => ?_⟩
      · exact (h1 s).2 ⟨entG g, by unfold entM; exact List.mem_append_right _ (List.mem_map_of_mem hgm), hgs⟩
      · have := h4 (entG g) (by unfold entM; exact List.mem_append_right _ (List.mem_map_of_mem hgm)) (thD (false, 0))
        unfold entG at this
        rw [hgs] at this
        exact this
      · subst hi
        unfold noneI
        rw [hany, hg]
        rcases hno i hh with h | ⟨h, h'⟩
        · rw [h]; simp
        · rw [h, h']; rfl
      · subst hi
        unfold oddI
        rw [hf]
        simp
    | false =>
      have hH : Maps.has (mapD (entM m)) (slit s) = false := by
        cases h : Maps.has (mapD (entM m)) (slit s) with
        | false => rfl
        | true =>
          obtain ⟨x, hx, e⟩ := (h1 s).1 h
          unfold entM at hx
          rcases List.mem_append.1 hx with hx | hx
          · obtain ⟨f, hfm, rfl⟩ := List.mem_map.1 hx
            exact absurd e (hff f hfm)
          · obtain ⟨g, hgm, rfl⟩ := List.mem_map.1 hx
            have := List.any_eq_false.1 hg g hgm
            rw [show g.s = s from e] at this
            exact absurd (jba_refl s) this
      refine ⟨hH, Maps.atKey_of_not_has hH _, fun i hi hh => ?_, fun i hi hh hz => ?_⟩
      · subst hi
        unfold noneI
        rw [hany, hg]
        rcases hno i hh with h | ⟨h, h'⟩
        · rw [h]; simp
        · rw [h, h']; simp
      · subst hi
        unfold oddI
        rw [hf]
        simp
/-- the marks of the loops that ended -/
def Marks (B : Nat) (W : World) : List Deferred → Prop
  | [] => True
  | d :: ds => (∃ D, d = { target := .collected D, args := #[] } ∧ B ≤ D ∧ W.heap[D]? = some (.deferred (some [])) ∧ ∀ d' ∈ ds, d'.target ≠ .collected D) ∧ Marks B W ds
theorem Marks.kept {B : Nat} {W W' : World} : ∀ {ds : List Deferred}, Marks B W ds → (∀ D, (∃ d ∈ ds, d.target = .collected D) → W.heap[D]? = some (.deferred (some [])) → W'.heap[D]? = some (.deferred (some []))) → Marks B W' ds
  | [], _, _ => trivial
  | d :: ds, ⟨⟨D, h1, h2, h3, h4⟩, h⟩, hk => ⟨⟨D, h1, h2, hk D ⟨d, by simp, by rw [h1]⟩ h3, h4⟩, h.kept fun D' ⟨d', hd', e⟩ => hk D' ⟨d', by simp [hd'], e⟩⟩
theorem Marks.lt {B : Nat} {W : World} : ∀ {ds : List Deferred}, Marks B W ds → ∀ d ∈ ds, ∃ D, d.target = .collected D ∧ D < W.heap.size
  | [], _, d, hd => by simp at hd
  | d0 :: ds, ⟨⟨D, h1, h2, h3, h4⟩, h⟩, d, hd => by
    rcases List.mem_cons.1 hd with rfl | hd
    · exact ⟨D, by rw [h1], (Array.getElem?_eq_some_iff.1 h3).1⟩
    · exact h.lt d hd
theorem leaves_marks {F : Fence} {n : Nat} {P : Program} {fn : Func} {tmps : Array Value} {R : Ending → World → Prop} {B : Nat} : ∀ (ds : List Deferred) (W : World), Marks B W ds → B ≤ W.heap.size →
    (∀ W', Below B W W' → (∀ (k : Nat) (cs : Array Value) (t : TypeId) (f : Nat × Nat), W.heap[k]? = some (Obj.cells cs t f) → W'.heap[k]? = some (Obj.cells cs t f)) → ∃ v, (results fn tmps).run P W' = .ok v W' ∧ R (.returned v) W') → LeavesInM F n P fn tmps R ds .returning W
  | [], W, _, _, h => h W (Below.refl _ _) (fun _ _ _ _ h => h)
  | d :: ds, W, ⟨⟨D, h1, h2, h3, h4⟩, hm⟩, hB, h => by
    have hg := grownBy_putObj' W D (.deferred none)
    refine ⟨by simp, .inl ⟨D, _, by rw [h1], run_takeDeferred h3, leaves_marks ds _ (hm.kept fun D' ⟨d', hd', e⟩ hD => ?_) (Nat.le_trans hB hg.size) fun W' hb hk => h W' ((below_grown hg hB (fun r e => by cases e; exact h2)).trans hb) (fun k cs t f hc => hk k cs t f ?_)⟩⟩
    · exact (hg.block D' (Array.getElem?_eq_some_iff.1 hD).1 (fun e' => h4 d' hd' (by rw [e]; cases e'; rfl))).trans hD
    · exact (hg.block k (Array.getElem?_eq_some_iff.1 hc).1 (fun e' => by cases e'; rw [h3] at hc; cases hc)).trans hc
/-- 'x, there := names[..]' -/
theorem wpListIn_lookup_th {F : Fence} {nF : Nat} {P : Program} (w : World) {ops : Array Oper} {rest : List Oper} {o : Oper} {a : Act} {Q : Exit → Act → World → Prop} (hg : o.guard = none) (m x : Operand) (t : TypeId) (hop : o.op = Op.lookup t m x true)
    (k e : TypeId) (K : Keyed P k) (ht : P.underlying t = some (.map k e)) (hz : (zeroValue e).run P w = .ok (.agg #[.bool false, .int .i64 0]) w) (b n : Nat) (D : DataW Unit)
    (hm : a.eval m = .map (some b)) (hown : w.ownsMap P k thR b n D) (key : Value) (kl : Lit) (hx : a.eval x = key) (hkey : keyOf P k key = some kl) (th xb : Bool) (xp : Int) (h1 : Maps.has D kl = th) (h2 : D.atKey kl (thD (false, 0)) = thD (xb, xp))
    (hK : wpListIn F nF P ops Q rest (a.put o.dst (.tuple #[.agg #[.bool xb, .int .i64 xp], .bool th])) w) :
    wpListIn F nF P ops Q (o :: rest) a w := by
  refine wpListIn_lookup_own_ok w hg m x t hop k e K ht thR hz (thD (false, 0)) [] (thR_of (false, 0)) b n D hm hown key kl hx hkey (fun v ps hv => ?_)
  rw [h2] at hv
  rw [thR_inv hv, h1]
  exact hK
/-- the error so far -/
def eOf (m : Md) (L : List In) : Int := if L.any (oddI m) = true then 1 else 0
def insT (m : Md) (k : Nat) : List In := ((m.f.take k).map insF).flatten
theorem insT_succ (m : Md) (k : Nat) (h : k < m.f.length) : insT m (k + 1) = insT m k ++ insF m.f[k] := by
  unfold insT
  rw [List.take_succ_eq_append_getElem h, List.map_append, List.flatten_append]
  simp
theorem insT_all (m : Md) (k : Nat) (h : m.f.length ≤ k) : insT m k = insM m := by
  unfold insT insM
  rw [List.take_of_length_le h]
theorem insT_pre (m : Md) (k : Nat) : insT m k <+: insM m := by
  unfold insT insM
  refine ⟨((m.f.drop k).map insF).flatten, ?_⟩
  rw [← List.flatten_append, ← List.map_append, List.take_append_drop]
theorem found_none {m : Md} {L : List In} (hp : L <+: insM m) (h : L.any (noneI m) = true) : foundE m = 8 := by
  unfold foundE
  rw [if_pos]
  obtain ⟨x, hx, h⟩ := List.any_eq_true.1 h
  exact List.any_eq_true.2 ⟨x, hp.subset hx, h⟩
theorem found_some {m : Md} (h : (insM m).any (noneI m) = false) : foundE m = eOf m (insM m) := by
  unfold foundE eOf
  rw [h]
  rfl
theorem eOf_snoc (m : Md) (L : List In) (i : In) : eOf m (L ++ [i]) = if oddI m i = true then 1 else eOf m L := by
  unfold eOf
  rw [List.any_append]
  cases L.any (oddI m) <;> cases h : oddI m i <;> simp [h]
theorem none_snoc (m : Md) (L : List In) (i : In) : (L ++ [i]).any (noneI m) = (L.any (noneI m) || noneI m i) := by simp
end Go.Proofs.Ytkalgiaapkjplaa
