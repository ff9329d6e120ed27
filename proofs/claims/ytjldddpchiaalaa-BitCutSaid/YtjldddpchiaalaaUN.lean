/- Package bit: what was written is taken as it was, what was taken is written so, no beginning is taken: pure. -/
import Derived.Test.YtjldddpchiaalaaUM
import Derived.Test.YtjldddpchiaalaaU10
namespace Go.Proofs.Ytjldddpchiaalaa
open Go.RowKit
namespace Q

theorem inst_bk {r : St} (h : (instR r).2.2 = 0) : r.2 = 0 ∧ r.1 = inL (instR r).1 ++ (instR r).2.1 ∧ True := by
  unfold instR at h ⊢
  obtain ⟨⟨o, q⟩, hq⟩ : ∃ t, betweenR 1 16 3 r = t := ⟨_, rfl⟩
  have key : q.2 = 0 → r.2 = 0 ∧ r.1 = numL o ++ q.1 ∧ 1 ≤ o ∧ o ≤ 16 := fun h => by
    have := bet_bk (lo := 1) (hi := 16) (e := 3) (by decide) (r := r) (by rw [hq]; exact h)
    rw [hq] at this
    exact ⟨this.1, this.2.1, this.2.2.1, this.2.2.2.1⟩
  rw [hq] at h ⊢
  simp only at h ⊢
  have nO : nL (o : Int) = numL o := by simp [nL]
  unfold insR at h ⊢
  by_cases h1 : o = 1
  · rw [if_pos h1] at h ⊢
    obtain ⟨g1, g2, -⟩ := wide_bk h
    obtain ⟨k1, k2, -, -⟩ := key g1
    refine ⟨k1, ?_, trivial⟩
    subst h1
    simp only [inL, inT]
    rw [if_pos (by rfl), nO, show nL ((wideR q).1 : Int) = numL (wideR q).1 by simp [nL], List.append_assoc, ← g2]
    exact k2
  · rw [if_neg h1] at h ⊢
    by_cases h2 : 2 ≤ o ∧ o ≤ 11
    · rw [if_pos h2] at h ⊢
      obtain ⟨g1, g2, -⟩ := num_bk h
      obtain ⟨f1, f2, -⟩ := num_bk g1
      obtain ⟨k1, k2, -, -⟩ := key f1
      refine ⟨k1, ?_, trivial⟩
      simp only [inL, inT]
      rw [if_neg (show ¬ ((o : Int) = 1) by omega), if_pos (show 2 ≤ (o : Int) ∧ (o : Int) ≤ 11 by omega), nO]
      simp only [List.append_assoc]
      rw [← g2, ← f2]
      exact k2
    · rw [if_neg h2] at h ⊢
      by_cases h3 : o = 12
      · rw [if_pos h3] at h ⊢
        obtain ⟨g1, g2, -⟩ := text_bk h
        obtain ⟨k1, k2, -, -⟩ := key g1
        refine ⟨k1, ?_, trivial⟩
        subst h3
        simp only [inL, inT]
        rw [if_neg (by decide), if_neg (by decide), if_pos (by rfl), nO, List.append_assoc, ← g2]
        exact k2
      · rw [if_neg h3] at h ⊢
        by_cases h4 : o = 13
        · rw [if_pos h4] at h ⊢
          obtain ⟨g1, g2, -⟩ := text_bk h
          obtain ⟨f1, f2, -⟩ := num_bk g1
          obtain ⟨k1, k2, -, -⟩ := key f1
          refine ⟨k1, ?_, trivial⟩
          subst h4
          simp only [inL, inT]
          rw [if_neg (by decide), if_neg (by decide), if_neg (by decide), if_pos (by rfl), nO]
          simp only [List.append_assoc]
          rw [← g2, ← f2]
          exact k2
        · rw [if_neg h4] at h ⊢
          by_cases h5 : o = 14
          · rw [if_pos h5] at h ⊢
            obtain ⟨g1, g2, -⟩ := vals_bk h
            obtain ⟨f1, f2, -⟩ := text_bk g1
            obtain ⟨k1, k2, -, -⟩ := key f1
            refine ⟨k1, ?_, trivial⟩
            subst h5
            simp only [inL, inT]
            rw [if_neg (by decide), if_neg (by decide), if_neg (by decide), if_neg (by decide), if_pos (by rfl), nO]
            simp only [List.append_assoc]
            rw [← g2, ← f2]
            exact k2
          · rw [if_neg h5] at h ⊢
            by_cases h6 : o = 16
            · rw [if_pos h6] at h ⊢
              obtain ⟨f1, f2, -⟩ := num_bk h
              obtain ⟨k1, k2, -, -⟩ := key f1
              refine ⟨k1, ?_, trivial⟩
              subst h6
              simp only [inL, inT]
              rw [if_neg (by decide), if_neg (by decide), if_neg (by decide), if_neg (by decide), if_neg (by decide), if_pos (by rfl), nO]
              simp only [List.append_assoc]
              rw [← f2]
              exact k2
            · rw [if_neg h6] at h ⊢
              obtain ⟨k1, k2, k3, k4⟩ := key h
              refine ⟨k1, ?_, trivial⟩
              have h15 : o = 15 := by omega
              subst h15
              simp only [inL, inT]
              rw [if_neg (by decide), if_neg (by decide), if_neg (by decide), if_neg (by decide), if_neg (by decide), if_neg (by decide), nO, List.append_nil]
              exact k2
theorem end_bk {r : St} (h : (endR r).2.2 = 0) : r.2 = 0 ∧ r.1 = tmL (endR r).1 ++ (endR r).2.1 := by
  unfold endR at h ⊢
  obtain ⟨⟨o, q⟩, hq⟩ : ∃ t, betweenR 1 3 3 r = t := ⟨_, rfl⟩
  have key : q.2 = 0 → r.2 = 0 ∧ r.1 = numL o ++ q.1 ∧ 1 ≤ o ∧ o ≤ 3 := fun h => by
    have := bet_bk (lo := 1) (hi := 3) (e := 3) (by decide) (r := r) (by rw [hq]; exact h)
    rw [hq] at this
    exact ⟨this.1, this.2.1, this.2.2.1, this.2.2.2.1⟩
  rw [hq] at h ⊢
  simp only at h ⊢
  have nO : nL (o : Int) = numL o := by simp [nL]
  unfold endsR at h ⊢
  by_cases h1 : o = 1
  · rw [if_pos h1] at h ⊢
    obtain ⟨g1, g2, -⟩ := vals_bk h
    obtain ⟨f1, f2, -⟩ := num_bk g1
    obtain ⟨k1, k2, -, -⟩ := key f1
    refine ⟨k1, ?_⟩
    subst h1
    simp only [tmL, tmT]
    rw [if_pos (by rfl), nO]
    simp only [List.append_assoc]
    rw [← g2, ← f2]
    exact k2
  · rw [if_neg h1] at h ⊢
    by_cases h2 : o = 2
    · rw [if_pos h2] at h ⊢
      obtain ⟨g1, g2, -⟩ := vals_bk h
      obtain ⟨f1, f2, -⟩ := num_bk g1
      obtain ⟨e1, e2, -⟩ := vals_bk f1
      obtain ⟨d1, d2, -⟩ := num_bk e1
      obtain ⟨c1, c2, -⟩ := num_bk d1
      obtain ⟨k1, k2, -, -⟩ := key c1
      refine ⟨k1, ?_⟩
      subst h2
      simp only [tmL, tmT]
      rw [if_neg (by decide), if_pos (by rfl), nO]
      simp only [List.append_assoc]
      rw [← g2, ← f2, ← e2, ← d2, ← c2]
      exact k2
    · rw [if_neg h2] at h ⊢
      by_cases h3 : o = 3
      · rw [if_pos h3] at h ⊢
        obtain ⟨f1, f2, -⟩ := num_bk h
        obtain ⟨k1, k2, -, -⟩ := key f1
        refine ⟨k1, ?_⟩
        subst h3
        simp only [tmL, tmT]
        rw [if_neg (by decide), if_neg (by decide), if_pos (by rfl), nO]
        simp only [List.append_assoc]
        rw [← f2]
        exact k2
      · rw [if_neg h3] at h ⊢
        obtain ⟨-, -, k3, k4⟩ := key h
        omega
theorem block_bk {r : St} (h : (blockR r).2.2 = 0) : r.2 = 0 ∧ r.1 = bkL (blockR r).1 ++ (blockR r).2.1 ∧ True := by
  unfold blockR at h ⊢
  simp only at h ⊢
  obtain ⟨g1, g2⟩ := end_bk h
  obtain ⟨f1, f2, -⟩ := row_bk (p := inL) (G := fun _ => True) (fun _ => inst_bk) g1
  obtain ⟨e1, e2, -⟩ := num_bk f1
  refine ⟨e1, ?_, trivial⟩
  simp only [bkL, List.append_assoc]
  rw [← g2, ← f2]
  exact e2
theorem func_bk {r : St} (h : (funcR r).2.2 = 0) : r.2 = 0 ∧ r.1 = fnL (funcR r).1 ++ (funcR r).2.1 ∧ True := by
  unfold funcR at h ⊢
  simp only at h ⊢
  obtain ⟨g1, g2, -⟩ := row_bk (p := bkL) (G := fun _ => True) (fun _ => block_bk) h
  obtain ⟨f1, f2, -⟩ := num_bk g1
  obtain ⟨e1, e2, -⟩ := num_bk f1
  obtain ⟨d1, d2, -⟩ := text_bk e1
  refine ⟨d1, ?_, trivial⟩
  simp only [fnL, List.append_assoc]
  rw [← g2, ← f2, ← e2]
  exact d2
theorem glob_bk {r : St} (h : (globR r).2.2 = 0) : r.2 = 0 ∧ r.1 = glL (globR r).1 ++ (globR r).2.1 ∧ True := by
  unfold globR at h ⊢
  simp only at h ⊢
  obtain ⟨g1, g2, -⟩ := wide_bk h
  obtain ⟨f1, f2, -, f4, -⟩ := bet_bk (lo := 0) (hi := 1) (e := 3) (by decide) g1
  obtain ⟨e1, e2, -⟩ := num_bk f1
  obtain ⟨d1, d2, -⟩ := text_bk e1
  refine ⟨d1, ?_, trivial⟩
  have hh : hereN (decide ((betweenR 0 1 3 (numR (textR r).2).2).1 = 1)) = (betweenR 0 1 3 (numR (textR r).2).2).1 := by
    unfold hereN
    by_cases h1 : (betweenR 0 1 3 (numR (textR r).2).2).1 = 1
    · rw [if_pos (by simpa using h1), h1]
    · rw [if_neg (by simpa using h1)]
      omega
  simp only [glL, List.append_assoc]
  rw [hh, show nL ((wideR (betweenR 0 1 3 (numR (textR r).2).2).2).1 : Int) = numL (wideR (betweenR 0 1 3 (numR (textR r).2).2).2).1 by simp [nL], ← g2, ← f2, ← e2]
  exact d2
theorem mod_bk {r : St} (h : (modR r).2.2 = 0) : r.2 = 0 ∧ r.1 = rowL fnL (modR r).1.f ++ (rowL glL (modR r).1.g ++ (modR r).2.1) := by
  unfold modR at h ⊢
  simp only at h ⊢
  obtain ⟨g1, g2, -⟩ := row_bk (p := glL) (G := fun _ => True) (fun _ => glob_bk) h
  obtain ⟨f1, f2, -⟩ := row_bk (p := fnL) (G := fun _ => True) (fun _ => func_bk) g1
  exact ⟨f1, by rw [← g2]; exact f2⟩
theorem refuse_zero {e : Int} {r : St} (h : (refuseR e r).2 = 0) : r.2 = 0 ∧ e = 0 ∧ refuseR e r = r := by
  unfold refuseR at h ⊢
  by_cases h0 : r.2 = 0
  · rw [if_pos h0] at h ⊢
    have h' : e = 0 := h
    exact ⟨h0, h', by rw [h', ← h0]⟩
  · rw [if_neg h0] at h
    exact absurd h h0
/-- what is taken: its parts -/
theorem take_ok {s : List UInt8} (h : takeE s = 0) : s.take 4 = [77, 73, 82, 49] ∧ checkE (takeM s) = 0 ∧ s = mdL (takeM s) ∧ s.length ≤ 65535 := by
  have hM : takeM s = if s.take 4 = [77, 73, 82, 49] ∧ takeE s = 0 then (modR (s.drop 4, 0)).1 else noMd := rfl
  have hT := h
  unfold takeE at h
  by_cases hp : s.take 4 = [77, 73, 82, 49]
  · rw [if_pos ⟨hp, hT⟩] at hM
    rw [if_pos hp] at h
    simp only at h
    obtain ⟨m, hm⟩ : ∃ t, modR (s.drop 4, 0) = t := ⟨_, rfl⟩
    have hb := mod_bk (r := (s.drop 4, 0))
    rw [hm] at h hM hb
    have hlen : ¬ 65535 < s.length := fun hB => by
      rw [if_pos hB] at h
      have := (refuse_zero h).2.1
      omega
    rw [if_neg hlen] at h
    obtain ⟨h1, h2, -⟩ := refuse_zero h
    by_cases hA : m.2.1 = []
    · rw [if_pos hA] at h1
      obtain ⟨-, g2⟩ := hb h1
      refine ⟨hp, by rw [hM]; exact h2, ?_, by omega⟩
      rw [hM]
      simp only at g2
      rw [hA, List.append_nil] at g2
      unfold mdL
      rw [List.append_assoc, ← g2, ← hp, List.take_append_drop]
    · rw [if_neg hA] at h1
      have := (refuse_zero h1).2.1
      omega
  · rw [if_neg hp] at h
    omega
theorem mdL_take (m : Md) (more : List UInt8) : (mdL m ++ more).take 4 = [77, 73, 82, 49] ∧ (mdL m ++ more).drop 4 = rowL fnL m.f ++ (rowL glL m.g ++ more) := by
  unfold mdL
  simp
/-- what was written is taken as it was -/
theorem take_bytes {m : Md} (hw : MdW m) (h : checkE m = 0) (hl : (mdL m).length ≤ 65535) : takeE (mdL m) = 0 ∧ takeM (mdL m) = m := by
  have hG := check_good hw h
  have hr := mod_rt hG []
  have ht := mdL_take m []
  rw [List.append_nil] at ht
  rw [← ht.2] at hr
  have hE : takeE (mdL m) = 0 := by
    unfold takeE
    rw [if_pos ht.1, hr]
    simp only
    rw [if_neg (show ¬ 65535 < (mdL m).length by omega), if_pos trivial, h]
    rfl
  refine ⟨hE, ?_⟩
  unfold takeM
  rw [if_pos ⟨ht.1, hE⟩, hr]
/-- with a byte more it is not taken -/
theorem take_more {m : Md} (hw : MdW m) (h : checkE m = 0) (c : UInt8) : takeE (mdL m ++ [c]) = 3 := by
  have hG := check_good hw h
  have hr := mod_rt hG [c]
  have ht := mdL_take m [c]
  rw [← ht.2] at hr
  unfold takeE
  rw [if_pos ht.1, hr]
  simp only
  rw [if_neg (show ¬ [c] = [] by simp)]
  have e1 : refuseR 3 ([c], 0) = ([c], 3) := rfl
  rw [e1]
  have e2 : ∀ e : Int, refuseR e ([c], 3) = ([c], 3) := fun e => by unfold refuseR; rw [if_neg (show ¬ ((3 : Int) = 0) by decide)]
  rw [e2]
  split
  · rw [e2]
  · rfl
/-- no beginning is taken -/
theorem take_cut {m : Md} (hw : MdW m) (h : checkE m = 0) {k : Nat} (hk : k < (mdL m).length) : takeE ((mdL m).take k) ≠ 0 := fun h0 => by
  obtain ⟨-, g2, g3, -⟩ := take_ok h0
  have hn := (md_w (take_n ((mdL m).take k))).2
  obtain ⟨x, hx⟩ : ∃ x, takeM ((mdL m).take k) = x := ⟨_, rfl⟩
  rw [hx] at g2 g3 hn
  have e : mdL m = mdL x ++ (mdL m).drop k := by rw [← g3, List.take_append_drop]
  have r1 := mod_rt (check_good hw h) []
  have t1 := mdL_take m []
  rw [List.append_nil] at t1
  rw [← t1.2] at r1
  have r2 := mod_rt (check_good hn g2) ((mdL m).drop k)
  have t2 := mdL_take x ((mdL m).drop k)
  rw [← t2.2, ← e, r1] at r2
  have hd := congrArg (fun p : Md × St => p.2.1) r2
  simp only at hd
  have := congrArg List.length hd
  rw [List.length_drop, List.length_nil] at this
  omega
/-- two modules that may be written have the same bytes just if they are the same -/
theorem bytes_same {a b : Md} (ha : MdW a) (hb : MdW b) (h1 : checkE a = 0) (h2 : checkE b = 0) (h : mdL a = mdL b) : a = b := by
  have r1 := mod_rt (check_good ha h1) []
  have t1 := mdL_take a []
  have r2 := mod_rt (check_good hb h2) []
  have t2 := mdL_take b []
  rw [← t1.2] at r1
  rw [← t2.2, ← h, r1] at r2
  exact congrArg (fun p : Md × St => p.1) r2
theorem bytes_zero {m : Md} (h : bytesE m = 0) : checkE m = 0 ∧ (mdL m).length ≤ 65535 ∧ bytesL m = mdL m := by
  refine ⟨?_, ?_, by unfold bytesL; rw [if_pos h]⟩
  all_goals
    unfold bytesE at h
    by_cases h0 : checkE m = 0
    · rw [if_pos h0] at h
      by_cases h1 : 65535 < (mdL m).length
      · rw [if_pos h1] at h; omega
      · first | exact h0 | omega
    · rw [if_neg h0] at h; exact absurd h h0
end Q
end Go.Proofs.Ytjldddpchiaalaa
