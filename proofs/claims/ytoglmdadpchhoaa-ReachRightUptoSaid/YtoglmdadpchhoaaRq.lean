/- ReachRight: pure: a right module, a whole one, without what isn't reached. -/
import Derived.Test.YtoglmdadpchhoaaRn
namespace Go.Proofs.Ytoglmdadpchhoaa
open Go.RowKit Go.Shelf

theorem refs_ins {f : Fn} {n : ByteArray} (h : n ∈ refsL f) : ∃ i ∈ insF f, hasB i.o = true ∧ i.s = n := by
  unfold refsL at h
  obtain ⟨L, hL, hn⟩ := List.mem_flatten.1 h
  obtain ⟨b, hb, rfl⟩ := List.mem_map.1 hL
  unfold insNames at hn
  obtain ⟨i, hi, rfl⟩ := List.mem_map.1 hn
  obtain ⟨h1, h2⟩ := List.mem_filter.1 hi
  exact ⟨i, List.mem_flatten.2 ⟨_, List.mem_map_of_mem hb, h1⟩, h2, rfl⟩
theorem ins_refs {f : Fn} {i : In} (h : i ∈ insF f) (ho : hasB i.o = true) : i.s ∈ refsL f := by
  unfold insF at h
  obtain ⟨L, hL, hn⟩ := List.mem_flatten.1 h
  obtain ⟨b, hb, rfl⟩ := List.mem_map.1 hL
  exact List.mem_flatten.2 ⟨_, List.mem_map_of_mem hb, List.mem_map_of_mem (List.mem_filter.2 ⟨hn, ho⟩)⟩
theorem ins_mem {m : Md} {i : In} : i ∈ insM m ↔ ∃ f ∈ m.f, i ∈ insF f := by
  unfold insM
  rw [List.mem_flatten]
  constructor
  · rintro ⟨L, hL, hi⟩
    obtain ⟨f, hf, rfl⟩ := List.mem_map.1 hL
    exact ⟨f, hf, hi⟩
  · rintro ⟨f, hf, hi⟩
    exact ⟨_, List.mem_map_of_mem hf, hi⟩
/-- each name that an instruction has is there, of its own kind -/
theorem name_there {m : Md} (h : (insM m).any (noneI m) = false) {f : Fn} (hf : f ∈ m.f) {i : In} (hi : i ∈ insF f) : (i.o = 14 → ∃ g ∈ m.f, g.s = i.s) ∧ (i.o = 12 ∨ i.o = 13 → ∃ g ∈ m.g, g.s = i.s) := by
  have h1 := List.any_eq_false.1 h i (ins_mem.2 ⟨f, hf, hi⟩)
  unfold noneI at h1
  refine ⟨fun ho => ?_, fun ho => ?_⟩
  · rw [ho] at h1
    cases h2 : m.f.any fun f => f.s == i.s with
    | false => rw [h2] at h1; simp at h1
    | true =>
      obtain ⟨g, hg, he⟩ := List.any_eq_true.1 h2
      exact ⟨g, hg, (jba_beq _ _).1 he⟩
  · cases h2 : m.g.any fun g => g.s == i.s with
    | false => rw [h2] at h1; rcases ho with ho | ho <;> (rw [ho] at h1; simp at h1)
    | true =>
      obtain ⟨g, hg, he⟩ := List.any_eq_true.1 h2
      exact ⟨g, hg, (jba_beq _ _).1 he⟩
theorem ref_there {m : Md} (h : (insM m).any (noneI m) = false) {f : Fn} (hf : f ∈ m.f) {n : ByteArray} (hn : n ∈ refsL f) : n ∈ namesM m := by
  obtain ⟨i, hi, ho, rfl⟩ := refs_ins hn
  obtain ⟨h1, h2⟩ := name_there h hf hi
  unfold hasB at ho
  simp only [Bool.or_eq_true, beq_iff_eq] at ho
  rcases ho with ho | ho
  · obtain ⟨g, hg, e⟩ := h2 ho
    rw [← e]
    exact List.mem_append_right _ (List.mem_map_of_mem hg)
  · obtain ⟨g, hg, e⟩ := h1 ho
    rw [← e]
    exact List.mem_append_left _ (List.mem_map_of_mem hg)
/-- what a function that stays names stays -/
theorem ref_stays {m : Md} (h4 : (namesM m).Nodup) (h : (insM m).any (noneI m) = false) {f : Fn} (hf : f ∈ (dropE m).f) {n : ByteArray} (hn : n ∈ refsL f) : n ∈ fromE m (rootsE m) :=
  named_stays h4 (ref_there h (List.mem_filter.1 hf).1 hn) (List.mem_flatten.2 ⟨_, List.mem_map_of_mem hf, hn⟩)
theorem check_drop {m : Md} (hc : checkE m = 0) : checkE (dropE m) = 0 := by
  obtain ⟨h1, h2, h3, h4, h5, h6⟩ := check_parts hc
  have hf : ∀ f ∈ (dropE m).f, f ∈ m.f := fun f hf => (List.mem_filter.1 hf).1
  have hg : ∀ g ∈ (dropE m).g, g ∈ m.g := fun g hg => (List.mem_filter.1 hg).1
  refine check_of (Nat.le_trans (List.length_filter_le _ _) h1) (Nat.le_trans (List.length_filter_le _ _) h2) ?_ ?_ ?_ ?_
  · unfold aloneB at h3 ⊢
    rw [Bool.and_eq_true, List.all_eq_true, List.all_eq_true] at h3 ⊢
    exact ⟨fun f h => h3.1 f (hf f h), fun g h => h3.2 g (hg g h)⟩
  · unfold namesM at h4 ⊢
    exact List.Sublist.nodup (List.Sublist.append (List.Sublist.map _ List.filter_sublist) (List.Sublist.map _ List.filter_sublist)) h4
  · rw [List.any_eq_false]
    intro i hi
    obtain ⟨f, hfm, hif⟩ := ins_mem.1 hi
    obtain ⟨a, b⟩ := name_there h5 (hf f hfm) hif
    have hst : hasB i.o = true → i.s ∈ fromE m (rootsE m) := fun ho => ref_stays h4 h5 hfm (ins_refs hif ho)
    unfold noneI
    by_cases ho : i.o = 14
    · obtain ⟨g, hg', e⟩ := a ho
      have hs := hst (by rw [ho]; rfl)
      have : ((dropE m).f.any fun f => f.s == i.s) = true := List.any_eq_true.2 ⟨g, List.mem_filter.2 ⟨hg', by rw [e]; exact decide_eq_true hs⟩, by rw [e]; exact jba_refl _⟩
      simp [this, ho]
    · by_cases ho2 : i.o = 12 ∨ i.o = 13
      · obtain ⟨g, hg', e⟩ := b ho2
        have hs := hst (by rcases ho2 with h | h <;> rw [h] <;> rfl)
        have : ((dropE m).g.any fun f => f.s == i.s) = true := List.any_eq_true.2 ⟨g, List.mem_filter.2 ⟨hg', by rw [e]; exact decide_eq_true hs⟩, by rw [e]; exact jba_refl _⟩
        simp [this, ho]
      · have e1 : (i.o == 14) = false := by simpa using ho
        have e2 : (i.o == 12 || i.o == 13) = false := by simp; omega
        simp [e1, e2]
  · rw [List.any_eq_false]
    intro i hi
    obtain ⟨f, hfm, hif⟩ := ins_mem.1 hi
    have h7 := List.any_eq_false.1 h6 i (ins_mem.2 ⟨f, hf f hfm, hif⟩)
    unfold oddI at h7 ⊢
    by_cases ho : i.o = 14
    · have hs : i.s ∈ fromE m (rootsE m) := ref_stays h4 h5 hfm (ins_refs hif (by rw [ho]; rfl))
      have he := drop_fnOf m hs
      unfold fnOf at he
      rw [he]
      exact h7
    · have e1 : (i.o == 14) = false := by simpa using ho
      simp [e1]
/-- may a name be used: a function with blocks, or a global that is here? -/
def nameOk (m : Md) (n : ByteArray) : Bool := match fnOf m n with
  | some f => decide (0 < f.l.length)
  | none => match m.g.find? (fun g : Gl => g.s == n) with
    | some g => g.h
    | none => false
def mainR (m : Md) : Bool := match fnOf m mainN with | some f => decide (0 < f.l.length) && f.p == 0 | none => false
def wholeR (m : Md) : Int := if checkE m = 0 then (if mainR m = true then (if (m.f.all fun f => (refsL f).all (nameOk m)) = true then 0 else 8) else 11) else checkE m
theorem find_filter {l : List Gl} {p : Gl → Bool} {n : ByteArray} (h : ∀ g ∈ l, g.s = n → p g = true) : (l.filter p).find? (fun g : Gl => g.s == n) = l.find? (fun g : Gl => g.s == n) := by
  induction l with
  | nil => rfl
  | cons a l ih =>
    have ih' := ih (fun g hg => h g (List.mem_cons_of_mem _ hg))
    cases ha : a.s == n with
    | true =>
      have hp := h a (by simp) ((jba_beq _ _).1 ha)
      simp only [List.filter_cons, hp, if_true, List.find?_cons, ha]
    | false =>
      cases hp : p a
      · simp only [List.filter_cons, hp, List.find?_cons, ha]
        simpa using ih'
      · simp only [List.filter_cons, hp, if_true, List.find?_cons, ha]
        exact ih'
theorem drop_nameOk (m : Md) {n : ByteArray} (hn : n ∈ fromE m (rootsE m)) : nameOk (dropE m) n = nameOk m n := by
  unfold nameOk
  rw [drop_fnOf m hn, show (dropE m).g.find? (fun g : Gl => g.s == n) = m.g.find? (fun g : Gl => g.s == n) from find_filter (fun g _ e => by rw [e]; exact decide_eq_true hn)]
theorem whole_drop {m : Md} (h : wholeR m = 0) : wholeR (dropE m) = 0 := by
  unfold wholeR at h
  by_cases hc : checkE m = 0
  · rw [if_pos hc] at h
    cases hm : mainR m with
    | false => rw [hm] at h; simp at h
    | true =>
      rw [hm, if_pos rfl] at h
      have ha : (m.f.all fun f => (refsL f).all (nameOk m)) = true := by
        cases hx : (m.f.all fun f => (refsL f).all (nameOk m)) with
        | true => rfl
        | false => rw [hx] at h; simp at h
      obtain ⟨-, -, -, h4, h5, -⟩ := check_parts hc
      have hroot : mainN ∈ fromE m (rootsE m) := by
        unfold mainR at hm
        cases hf : fnOf m mainN with
        | none => rw [hf] at hm; cases hm
        | some f =>
          obtain ⟨h1, h2⟩ := fnOf_mem hf
          refine roots_from (List.mem_append_left _ ?_)
          rw [← h2]
          exact List.mem_map_of_mem (List.mem_filter.2 ⟨h1, by rw [h2, jba_refl]; simp⟩)
      have hm2 : mainR (dropE m) = true := by
        unfold mainR at hm ⊢
        rw [drop_fnOf m hroot]
        exact hm
      unfold wholeR
      rw [if_pos (check_drop hc), if_pos hm2, if_pos]
      rw [List.all_eq_true]
      intro f hf
      rw [List.all_eq_true]
      intro n hn
      rw [drop_nameOk m (ref_stays h4 h5 hf hn)]
      exact List.all_eq_true.1 (List.all_eq_true.1 ha f (List.mem_filter.1 hf).1) n hn
  · rw [if_neg hc] at h
    exact absurd h hc
end Go.Proofs.Ytoglmdadpchhoaa
