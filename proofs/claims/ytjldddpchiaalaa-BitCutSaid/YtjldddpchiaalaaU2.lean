/- Package bit: a module that is right is written and taken; what was taken was written so: pure. -/
import Derived.Test.YtjldddpchiaalaaU1
namespace Go.Proofs.Ytjldddpchiaalaa
open Go.RowKit
namespace Q

theorem nn_zero : NN 0 := ⟨by omega, by omega⟩
theorem among_nn {n : Int} (hn : n ≤ 38) {l : List Int} (h : amongB n l = true) : ∀ v ∈ l, NN v := by
  intro v hv
  unfold amongB at h
  have := List.all_eq_true.1 h v hv
  simp only [Bool.and_eq_true, decide_eq_true_eq] at this
  exact ⟨this.1, by omega⟩
theorem inst_good {n : Int} (hn : n ≤ 38) {i : In} (hk : 0 ≤ i.k ∧ i.k ≤ 18446744073709551615) (h : instB n i = true) : InG i := by
  rw [inst_chain] at h
  simp only [Bool.and_eq_true, decide_eq_true_eq] at h
  obtain ⟨⟨⟨⟨⟨h1, h2⟩, h3⟩, h4⟩, h5⟩, h6⟩ := h
  have e := sameI_eq h6
  have hu := among_nn hn h4
  refine ⟨?_, ⟨h1, h2⟩, e⟩
  obtain ⟨o, a, b, k, s, l⟩ := i
  unfold askedI at e
  simp only [In.mk.injEq] at e
  obtain ⟨-, ea, eb, -, es, el⟩ := e
  unfold usesI usesL at hu
  simp only at hu hk h1 h2 h3 h5
  have hA : NN a := by
    by_cases q : 2 ≤ o ∧ o ≤ 11
    · rw [if_pos q] at hu; exact hu a (by simp)
    · rw [if_neg q] at hu
      by_cases q2 : o = 13 ∨ o = 16
      · rw [if_pos q2] at hu; exact hu a (by simp)
      · have : aB o = false := by
          unfold aB
          simp only [Bool.or_eq_false_iff, beq_eq_false_iff_ne, ne_eq, Bool.and_eq_false_iff, decide_eq_false_iff_not]
          omega
        rw [this, if_neg (by decide)] at ea
        rw [ea]; exact nn_zero
  have hB : NN b := by
    by_cases q : 2 ≤ o ∧ o ≤ 11
    · rw [if_pos q] at hu; exact hu b (by simp)
    · have : bB o = false := by
        unfold bB
        simp only [Bool.and_eq_false_iff, decide_eq_false_iff_not]
        omega
      rw [this, if_neg (by decide)] at eb
      rw [eb]; exact nn_zero
  have hS : s.size ≤ 16 := by
    by_cases q : hasB o = true
    · rw [q] at h5
      unfold nameB at h5
      simp at h5
      omega
    · rw [if_neg q] at es
      rw [es]; decide
  refine ⟨⟨show 0 ≤ o by omega, show o ≤ 4294967295 by omega⟩, hA, hB, hk, hS, h3, ?_⟩
  by_cases q : o = 14
  · subst q
    simpa using hu
  · rw [if_neg q] at el
    intro v hv
    have el' : l = [] := el
    simp only at hv
    rw [el'] at hv
    cases hv
theorem insts_good : ∀ (l : List In) (n : Int), n + l.length ≤ 38 → (∀ i ∈ l, 0 ≤ i.k ∧ i.k ≤ 18446744073709551615) → instsB n l = true → ∀ i ∈ l, InG i
  | [], _, _, _, _ => fun i hi => by cases hi
  | x :: l, n, hn, hk, h => fun i hi => by
    rw [instsB, Bool.and_eq_true] at h
    rw [List.length_cons] at hn
    rcases List.mem_cons.1 hi with rfl | hi
    · exact inst_good (by omega) (hk _ (by simp)) h.1
    · exact insts_good l (n + 1) (by omega) (fun y hy => hk y (by simp [hy])) h.2 i hi
theorem goes_good {all : List Bk} {n x : Int} {l : List Int} (ha : all.length ≤ 16) (hp : ∀ b ∈ all, b.p ≤ 6) (hn : n ≤ 38) (h : goesB all n x l = true) : NN x ∧ l.length ≤ 6 ∧ ∀ v ∈ l, NN v := by
  unfold goesB at h
  simp only [Bool.and_eq_true, decide_eq_true_eq] at h
  obtain ⟨⟨⟨h1, h2⟩, h3⟩, h4⟩ := h
  refine ⟨⟨h1, by omega⟩, ?_, among_nn hn h4⟩
  cases hb : all[x.toNat]? with
  | none => rw [hb] at h3; cases h3
  | some b =>
    rw [hb] at h3
    have := hp b (List.mem_of_getElem? hb)
    have h3' : (l.length : Int) = b.p := by simpa using h3
    omega
theorem end_good {all : List Bk} {n : Int} {t : Tm} (ha : all.length ≤ 16) (hp : ∀ b ∈ all, b.p ≤ 6) (hn : n ≤ 38) (h : endB all n t = true) : TmG t := by
  obtain ⟨k, a, x, l, e, m⟩ := t
  have nil6 : ([] : List Int).length ≤ 6 ∧ ∀ v ∈ ([] : List Int), NN v := ⟨by simp, fun v hv => by cases hv⟩
  unfold endB at h
  simp only at h
  by_cases k1 : k = 1
  · rw [if_pos k1] at h
    simp only [Bool.and_eq_true, decide_eq_true_eq, beq_iff_eq] at h
    obtain ⟨⟨⟨h1, h2⟩, h3⟩, h4⟩ := h
    obtain ⟨g1, g2⟩ := goes_good ha hp hn h1
    subst h2 h3 h4 k1
    exact ⟨⟨⟨by simp, by simp⟩, nn_zero, g1, g2, nn_zero, nil6⟩, .inl ⟨rfl, rfl, rfl, rfl⟩⟩
  · rw [if_neg k1] at h
    by_cases k2 : k = 2
    · rw [if_pos k2] at h
      simp only [Bool.and_eq_true] at h
      obtain ⟨⟨h1, h2⟩, h3⟩ := h
      obtain ⟨g1, g2⟩ := goes_good ha hp hn h2
      obtain ⟨g3, g4⟩ := goes_good ha hp hn h3
      subst k2
      exact ⟨⟨⟨by simp, by simp⟩, among_nn hn h1 a (by simp), g1, g2, g3, g4⟩, .inr (.inl rfl)⟩
    · rw [if_neg k2] at h
      by_cases k3 : k = 3
      · rw [if_pos k3] at h
        simp only [Bool.and_eq_true, decide_eq_true_eq, beq_iff_eq] at h
        obtain ⟨⟨⟨⟨h1, h2⟩, h3⟩, h4⟩, h5⟩ := h
        subst h2 h3 h4 h5 k3
        exact ⟨⟨⟨by simp, by simp⟩, among_nn hn h1 a (by simp), nn_zero, nil6, nn_zero, nil6⟩, .inr (.inr ⟨rfl, rfl, rfl, rfl, rfl⟩)⟩
      · rw [if_neg k3] at h; cases h
theorem block_good {all : List Bk} {b : Bk} (ha : all.length ≤ 16) (hp : ∀ b ∈ all, b.p ≤ 6) (hk : ∀ i ∈ b.i, 0 ≤ i.k ∧ i.k ≤ 18446744073709551615) (h : blockB all b = true) : BkG b := by
  unfold blockB at h
  simp only [Bool.and_eq_true, decide_eq_true_eq] at h
  obtain ⟨⟨⟨⟨h1, h2⟩, h3⟩, h4⟩, h5⟩ := h
  exact ⟨⟨h1, by omega⟩, ⟨h3, insts_good b.i b.p (by omega) hk h5⟩, end_good ha hp (by omega) h4⟩
theorem func_good {f : Fn} (hk : ∀ b ∈ f.l, ∀ i ∈ b.i, 0 ≤ i.k ∧ i.k ≤ 18446744073709551615) (h : funcB f = true) : FnG f := by
  obtain ⟨s, b, p, l⟩ := f
  unfold funcB at h
  simp only [Bool.and_eq_true, decide_eq_true_eq] at h
  obtain ⟨⟨⟨⟨h1, h2, h3⟩, h4, h5⟩, h6⟩, h7⟩ := h
  unfold nameB at h1
  simp only [Bool.and_eq_true, decide_eq_true_eq] at h1
  refine ⟨by simp only; omega, ⟨by simp only; omega, by simp only; omega⟩, ⟨by simp only; omega, by simp only; omega⟩, h6, ?_⟩
  cases l with
  | nil => intro b hb; cases hb
  | cons b0 l =>
    simp only [Bool.and_eq_true] at h7
    have hall := List.all_eq_true.1 h7.2
    have hp : ∀ b ∈ (b0 :: l), b.p ≤ 6 := fun b hb => by
      have := hall b hb
      unfold blockB at this
      simp only [Bool.and_eq_true, decide_eq_true_eq] at this
      exact this.1.1.1.2
    intro b hb
    exact block_good h6 hp (hk b hb) (hall b hb)
theorem glob_good {g : Gl} (hk : 0 ≤ g.i ∧ g.i ≤ 18446744073709551615) (h : globB g = true) : GlN g := by
  unfold globB nameB at h
  simp only [Bool.and_eq_true, decide_eq_true_eq] at h
  exact ⟨by omega, ⟨by omega, by omega⟩, hk⟩
theorem check_lens {m : Md} (h : checkE m = 0) : m.f.length ≤ 16 ∧ m.g.length ≤ 16 ∧ aloneB m = true := by
  unfold checkE at h
  by_cases h1 : 16 < m.f.length ∨ 16 < m.g.length
  · rw [if_pos h1] at h; omega
  · rw [if_neg h1] at h
    by_cases h2 : aloneB m = false
    · rw [if_pos h2] at h; omega
    · exact ⟨by omega, by omega, by simpa using h2⟩
theorem check_good {m : Md} (hw : MdW m) (h : checkE m = 0) : MdG m := by
  obtain ⟨h1, h2, h3⟩ := check_lens h
  unfold aloneB at h3
  rw [Bool.and_eq_true] at h3
  exact ⟨⟨h1, fun f hf => func_good (fun b hb i hi => ((hw.1 f hf).2 b hb).2 i hi |>.2.1) (List.all_eq_true.1 h3.1 f hf)⟩, h2, fun g hg => glob_good (hw.2 g hg).2 (List.all_eq_true.1 h3.2 g hg)⟩

/-! what is taken was written so -/
theorem wide_bk {r : St} (h : (wideR r).2.2 = 0) : r.2 = 0 ∧ r.1 = numL (wideR r).1 ++ (wideR r).2.1 ∧ (wideR r).1 < 18446744073709551616 := by
  unfold wideR at h ⊢
  by_cases h0 : r.2 = 0
  · rw [if_pos h0] at h ⊢
    have h1 : tn 10 r.1 0 = ((tn 10 r.1 0).1, (tn 10 r.1 0).2.1, 0) := by rw [← h]
    obtain ⟨g1, g2⟩ := take_back h1
    exact ⟨h0, g2, g1⟩
  · rw [if_neg h0] at h
    exact absurd h h0
theorem refuse_ok {e : Int} {r : St} (he : e ≠ 0) : (refuseR e r).2 ≠ 0 := by
  unfold refuseR
  by_cases h0 : r.2 = 0
  · rw [if_pos h0]; exact he
  · rw [if_neg h0]; exact h0
theorem bet_bk {lo hi : Nat} {e : Int} (he : e ≠ 0) {r : St} (h : (betweenR lo hi e r).2.2 = 0) :
    r.2 = 0 ∧ r.1 = numL (betweenR lo hi e r).1 ++ (betweenR lo hi e r).2.1 ∧ lo ≤ (betweenR lo hi e r).1 ∧ (betweenR lo hi e r).1 ≤ hi ∧ (betweenR lo hi e r).1 ≤ 4294967295 := by
  unfold betweenR betF at h ⊢
  simp only at h ⊢
  rw [if_pos h]
  unfold betW at h ⊢
  by_cases h1 : 4294967295 < (wideR r).1
  · rw [if_pos h1] at h; exact absurd h (refuse_ok (by decide))
  · rw [if_neg h1] at h ⊢
    by_cases h2 : (wideR r).1 < lo ∨ hi < (wideR r).1
    · rw [if_pos h2] at h; exact absurd h (refuse_ok he)
    · rw [if_neg h2] at h ⊢
      obtain ⟨g1, g2, g3⟩ := wide_bk h
      exact ⟨g1, g2, by omega, by omega, by omega⟩
theorem num_bk {r : St} (h : (numR r).2.2 = 0) : r.2 = 0 ∧ r.1 = nL ((numR r).1 : Nat) ++ (numR r).2.1 ∧ NN ((numR r).1 : Nat) := by
  obtain ⟨h1, h2, -, h3, -⟩ := bet_bk (by decide) h
  exact ⟨h1, h2, ⟨by omega, by unfold numR; omega⟩⟩
theorem text_bk {r : St} (h : (textR r).2.2 = 0) : r.2 = 0 ∧ r.1 = txL (strB (textR r).1) ++ (textR r).2.1 ∧ (strB (textR r).1).size ≤ 16 := by
  unfold textR textF at h ⊢
  by_cases h1 : (betweenR 0 16 4 r).2.1.length < (betweenR 0 16 4 r).1
  · rw [if_pos h1] at h; exact absurd h (refuse_ok (by decide))
  · rw [if_neg h1] at h ⊢
    obtain ⟨g1, g2, -, g3, -⟩ := bet_bk (by decide) h
    have hl : (List.take (betweenR 0 16 4 r).1 (betweenR 0 16 4 r).2.1).length = (betweenR 0 16 4 r).1 := by rw [List.length_take]; omega
    have hs : (strB (List.take (betweenR 0 16 4 r).1 (betweenR 0 16 4 r).2.1)).size = (betweenR 0 16 4 r).1 := by rw [← size_data]; exact hl
    refine ⟨g1, ?_, by rw [hs]; exact g3⟩
    unfold txL
    rw [hs, List.append_assoc]
    simp only [strB, List.take_append_drop]
    exact g2
theorem times_bk {α : Type} {take : St → α × St} {p : α → List UInt8} {G : α → Prop} (ht : ∀ r, (take r).2.2 = 0 → r.2 = 0 ∧ r.1 = p (take r).1 ++ (take r).2.1 ∧ G (take r).1) :
    ∀ (n : Nat) (r : St), (timesR take n r).2.2 = 0 → r.2 = 0 ∧ r.1 = (timesR take n r).1.flatMap p ++ (timesR take n r).2.1 ∧ ∀ x ∈ (timesR take n r).1, G x
  | 0, r, h => ⟨h, rfl, fun x hx => by cases hx⟩
  | n + 1, r, h => by
    rw [timesR] at h ⊢
    obtain ⟨g1, g2, g3⟩ := times_bk ht n _ h
    obtain ⟨k1, k2, k3⟩ := ht r g1
    refine ⟨k1, ?_, fun x hx => ?_⟩
    · rw [List.flatMap_cons, List.append_assoc, ← g2, ← k2]
    · rcases List.mem_cons.1 hx with rfl | hx
      · exact k3
      · exact g3 x hx
theorem row_bk {α : Type} {most : Nat} {take : St → α × St} {p : α → List UInt8} {G : α → Prop} (ht : ∀ r, (take r).2.2 = 0 → r.2 = 0 ∧ r.1 = p (take r).1 ++ (take r).2.1 ∧ G (take r).1) {r : St} (h : (rowR most take r).2.2 = 0) :
    r.2 = 0 ∧ r.1 = rowL p (rowR most take r).1 ++ (rowR most take r).2.1 ∧ (rowR most take r).1.length ≤ most ∧ ∀ x ∈ (rowR most take r).1, G x := by
  unfold rowR at h ⊢
  obtain ⟨g1, g2, g3⟩ := times_bk ht _ _ h
  obtain ⟨k1, k2, -, k3, -⟩ := bet_bk (by decide) g1
  refine ⟨k1, ?_, by rw [timesR_len]; exact k3, g3⟩
  unfold rowL
  rw [timesR_len, List.append_assoc, ← g2, ← k2]
theorem int_bk {r : St} (h : (intR r).2.2 = 0) : r.2 = 0 ∧ r.1 = nL (intR r).1 ++ (intR r).2.1 ∧ NN (intR r).1 := num_bk h
theorem vals_bk {r : St} (h : (valsR r).2.2 = 0) : r.2 = 0 ∧ r.1 = rowL nL (valsR r).1 ++ (valsR r).2.1 ∧ (valsR r).1.length ≤ 6 ∧ ∀ x ∈ (valsR r).1, NN x := row_bk (fun _ => int_bk) h
end Q
end Go.Proofs.Ytjldddpchiaalaa
