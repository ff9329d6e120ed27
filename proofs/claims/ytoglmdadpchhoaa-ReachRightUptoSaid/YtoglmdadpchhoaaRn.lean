/- ReachNamed: pure. -/
import Derived.Test.YtoglmdadpchhoaaRm
import Derived.Test.YtoglmdadpchhoaaHW2
namespace Go.Proofs.Ytoglmdadpchhoaa
open Go.RowKit Go.Shelf

/-- what all functions that stay name -/
def refsAll (m : Md) : List ByteArray := ((dropE m).f.map refsL).flatten
theorem find_of : ∀ {l : List Fn} {f : Fn}, (l.map (·.s)).Nodup → f ∈ l → l.find? (fun g : Fn => g.s == f.s) = some f
  | [], _, _, h => by cases h
  | a :: l, f, hn, hf => by
    rw [List.map_cons, List.nodup_cons] at hn
    rcases List.mem_cons.1 hf with rfl | hf
    · simp only [List.find?_cons, jba_refl]
    · have hne : ¬ (a.s == f.s) = true := fun h => hn.1 (by
        rw [(jba_beq _ _).1 h]
        exact List.mem_map_of_mem hf)
      have hne' : (a.s == f.s) = false := by simpa using hne
      simp only [List.find?_cons, hne']
      exact find_of hn.2 hf
theorem named_stays {m : Md} (hn : (namesM m).Nodup) {x : ByteArray} (hx : x ∈ namesM m) (h : x ∈ refsAll m) : x ∈ fromE m (rootsE m) := by
  obtain ⟨L, hL, hxL⟩ := List.mem_flatten.1 h
  obtain ⟨f, hf, rfl⟩ := List.mem_map.1 hL
  obtain ⟨hf1, hf2⟩ := List.mem_filter.1 hf
  have hS := of_decide_eq_true hf2
  obtain ⟨-, r, hr, hl⟩ := (from_mem _ _ _).1 hS
  have h2 : fnOf m f.s = some f := find_of (List.nodup_append.1 hn).1 hf1
  exact (from_mem _ _ _).2 ⟨hx, r, hr, hl.step (by unfold leadsM; rw [h2]; exact hxL)⟩
theorem stays_named {m : Md} {x : ByteArray} (h : x ∈ fromE m (rootsE m)) : x ∈ refsAll m ∨ x ∈ rootsE m := by
  obtain ⟨hx, r, hr, hl⟩ := (from_mem _ _ _).1 h
  cases hl with
  | refl => exact .inr hr
  | step h1 h2 =>
    rename_i y
    left
    unfold leadsM at h2
    split at h2
    · rename_i f hf
      obtain ⟨hm, he⟩ := fnOf_mem hf
      refine List.mem_flatten.2 ⟨_, List.mem_map_of_mem (List.mem_filter.2 ⟨hm, decide_eq_true ((from_mem _ _ _).2 ⟨?_, r, hr, ?_⟩)⟩), h2⟩
      · exact List.mem_append_left _ (List.mem_map_of_mem hm)
      · rw [show f.s = y from he]; exact h1
    · cases h2
/-- is it found? -/
theorem idx_pos (l : List ByteArray) (x : ByteArray) : decide ((0 : Int) ≤ idxE (fIdx l x)) = decide (x ∈ l) := by
  by_cases h : x ∈ l
  · obtain ⟨i, hi⟩ := fIdx_mem h
    rw [hi, decide_eq_true h]
    simp [idxE]
  · rw [decide_eq_false h]
    cases e : fIdx l x with
    | none => rfl
    | some i =>
      obtain ⟨h1, h2, -⟩ := List.findIdx?_eq_some_iff_getElem.1 e
      exact absurd (by rw [← (jba_beq _ _).1 h2]; exact List.getElem_mem h1) h
end Go.Proofs.Ytoglmdadpchhoaa
