/- Package bit: Take, of every bytes; the module that it takes. -/
import Derived.Test.YtjldddpchiaalaaUL000
import Derived.Test.YtjldddpchiaalaaUL001
import Derived.Test.YtjldddpchiaalaaUL010
import Derived.Test.YtjldddpchiaalaaUL011
import Derived.Test.YtjldddpchiaalaaUL100
import Derived.Test.YtjldddpchiaalaaUL101
import Derived.Test.YtjldddpchiaalaaUL110
import Derived.Test.YtjldddpchiaalaaUL111
namespace Go.Proofs.Ytjldddpchiaalaa
open Go.RowKit
namespace Q

/-! whatever is taken is small -/
theorem tn_err : ∀ n l acc, (tn n l acc).2.2 ≠ 0 → (tn n l acc).1 = 0 := by
  intro n
  induction n with
  | zero => intro l acc _; rfl
  | succ n ih =>
    intro l acc h
    cases l with
    | nil => rfl
    | cons c l =>
      rw [tn] at h ⊢
      split at h
      · rename_i h1
        rw [if_pos h1]
        exact ih l _ h
      · rename_i h1
        rw [if_neg h1]
        split at h
        · simp at h
        · rename_i h2
          rw [if_neg h2]
theorem wide_le (r : St) : (wideR r).1 ≤ 18446744073709551615 := by
  unfold wideR
  split
  · by_cases h : (tn 10 r.1 0).2.2 = 0
    · have h1 : tn 10 r.1 0 = ((tn 10 r.1 0).1, (tn 10 r.1 0).2.1, 0) := by rw [← h]
      have := (take_back h1).1
      simp only
      omega
    · simp only
      rw [tn_err _ _ _ h]
      omega
  · exact Nat.zero_le _
theorem num_le (r : St) : NN ((numR r).1 : Nat) := by
  have := bet_le (lo := 0) (hi := 4294967295) (e := 4) (by decide) r
  unfold numR
  exact ⟨by omega, by omega⟩
theorem int_nn (r : St) : NN (intR r).1 := num_le r
theorem times_all {α : Type} {take : St → α × St} {G : α → Prop} (h : ∀ r, G (take r).1) : ∀ (n : Nat) (r : St), ∀ x ∈ (timesR take n r).1, G x
  | 0, r, x, hx => by cases hx
  | n + 1, r, x, hx => by
    rw [timesR] at hx
    rcases List.mem_cons.1 hx with rfl | hx
    · exact h r
    · exact times_all h n _ x hx
theorem row_all {α : Type} {take : St → α × St} {G : α → Prop} {most : Nat} (h : ∀ r, G (take r).1) (r : St) : (rowR most take r).1.length ≤ most ∧ ∀ x ∈ (rowR most take r).1, G x := by
  unfold rowR
  exact ⟨by rw [timesR_len]; exact bet_le (by decide) r, times_all h _ _⟩
theorem text_le (r : St) : (strB (textR r).1).size ≤ 16 := by
  rw [strB_size]
  unfold textR textF
  have := bet_le (lo := 0) (hi := 16) (e := 4) (by decide) r
  split
  · simp
  · rw [List.length_take]
    omega
theorem vals_all (r : St) : (valsR r).1.length ≤ 6 ∧ ∀ v ∈ (valsR r).1, NN v := row_all int_nn r
theorem nil_all : ([] : List Int).length ≤ 6 ∧ ∀ v ∈ ([] : List Int), NN v := ⟨by simp, fun v hv => by cases hv⟩
theorem inst_n (r : St) : InN (instR r).1 := by
  have h0 := bet_le (lo := 1) (hi := 16) (e := 3) (by decide) r
  unfold instR
  obtain ⟨⟨o, q⟩, hq⟩ : ∃ t, betweenR 1 16 3 r = t := ⟨_, rfl⟩
  rw [hq] at h0 ⊢
  simp only at h0 ⊢
  have hO : NN (o : Int) := ⟨by omega, by omega⟩
  have z : NN 0 := nn_zero
  have zk : (0 : Int) ≤ 0 ∧ (0 : Int) ≤ 18446744073709551615 := by omega
  have ze : ByteArray.empty.size ≤ 16 := by decide
  unfold insR
  by_cases h1 : o = 1
  · rw [if_pos h1]
    exact ⟨hO, z, z, ⟨by simp only; omega, by have := wide_le q; simp only; omega⟩, ze, nil_all⟩
  · rw [if_neg h1]
    by_cases h2 : 2 ≤ o ∧ o ≤ 11
    · rw [if_pos h2]
      exact ⟨hO, num_le _, num_le _, zk, ze, nil_all⟩
    · rw [if_neg h2]
      by_cases h3 : o = 12
      · rw [if_pos h3]
        exact ⟨hO, z, z, zk, text_le _, nil_all⟩
      · rw [if_neg h3]
        by_cases h4 : o = 13
        · rw [if_pos h4]
          exact ⟨hO, num_le _, z, zk, text_le _, nil_all⟩
        · rw [if_neg h4]
          by_cases h5 : o = 14
          · rw [if_pos h5]
            exact ⟨hO, z, z, zk, text_le _, vals_all _⟩
          · rw [if_neg h5]
            by_cases h6 : o = 16
            · rw [if_pos h6]
              exact ⟨hO, num_le _, z, zk, ze, nil_all⟩
            · rw [if_neg h6]
              exact ⟨hO, z, z, zk, ze, nil_all⟩
theorem end_n (r : St) : TmN (endR r).1 := by
  have h0 := bet_le (lo := 1) (hi := 3) (e := 3) (by decide) r
  unfold endR
  obtain ⟨⟨k, q⟩, hq⟩ : ∃ t, betweenR 1 3 3 r = t := ⟨_, rfl⟩
  rw [hq] at h0 ⊢
  simp only at h0 ⊢
  have hO : NN (k : Int) := ⟨by omega, by omega⟩
  have z : NN 0 := nn_zero
  unfold endsR
  by_cases h1 : k = 1
  · rw [if_pos h1]
    exact ⟨hO, z, num_le _, vals_all _, z, nil_all⟩
  · rw [if_neg h1]
    by_cases h2 : k = 2
    · rw [if_pos h2]
      exact ⟨hO, num_le _, num_le _, vals_all _, num_le _, vals_all _⟩
    · rw [if_neg h2]
      by_cases h3 : k = 3
      · rw [if_pos h3]
        exact ⟨hO, num_le _, z, nil_all, z, nil_all⟩
      · rw [if_neg h3]
        exact ⟨hO, z, z, nil_all, z, nil_all⟩
theorem block_n (r : St) : BkN (blockR r).1 := ⟨num_le _, row_all inst_n _, end_n _⟩
theorem func_n (r : St) : FnN (funcR r).1 := ⟨text_le _, num_le _, num_le _, row_all block_n _⟩
theorem glob_n (r : St) : GlN (globR r).1 := ⟨text_le _, num_le _, by unfold globR; simp only; omega, by have := wide_le (betweenR 0 1 3 (numR (textR r).2).2).2; unfold globR; simp only; omega⟩
theorem mod_n (r : St) : MdN (modR r).1 := ⟨row_all func_n _, row_all glob_n _⟩
theorem in_w {i : In} (h : InN i) : InW i := ⟨⟨by have := h.2.2.2.2.1; omega, by have := h.2.2.2.2.2.1; omega⟩, h.2.2.2.1, by have := h.2.2.2.2.2.1; omega⟩
theorem bk_w {b : Bk} (h : BkN b) : BkW b := ⟨⟨by have := h.2.1.1; omega, by have := h.2.2.2.2.2.1.1; omega, by have := h.2.2.2.2.2.2.2.1; omega, fun i hi => (in_w (h.2.1.2 i hi)).1⟩, fun i hi => in_w (h.2.1.2 i hi)⟩
theorem fn_w {f : Fn} (h : FnN f) : FnW f := ⟨⟨by have := h.1; omega, by have := h.2.2.2.1; omega, fun b hb => (bk_w (h.2.2.2.2 b hb)).1⟩, fun b hb => bk_w (h.2.2.2.2 b hb)⟩
theorem gl_w {g : Gl} (h : GlN g) : GlW g := ⟨show g.s.size < 9223372036854775808 by have := h.1; omega, h.2.2⟩
theorem md_w {m : Md} (h : MdN m) : MdOk m ∧ MdW m :=
  ⟨⟨fun f hf => (fn_w (h.1.2 f hf)).1, fun g hg => (gl_w (h.2.2 g hg)).1, by have := h.1.1; omega, by have := h.2.1; omega⟩, fun f hf => fn_w (h.1.2 f hf), fun g hg => gl_w (h.2.2 g hg)⟩
theorem no_md_n : MdN noMd := ⟨⟨by simp [noMd], fun f hf => by cases hf⟩, by simp [noMd], fun g hg => by cases hg⟩
theorem take_n (l : List UInt8) : MdN (takeM l) := by
  unfold takeM
  split
  · exact mod_n _
  · exact no_md_n
theorem rtake_any (l : List UInt8) (w : World) (hl : l.length ≤ 140737488355328) : Calls Try.prog 9 #[.string (strB l)] w (TakePostB l w) := by
  by_cases hp : l.take 4 = [77, 73, 82, 49]
  · obtain ⟨⟨m, ⟨s1, e1⟩⟩, hm⟩ : ∃ t, modR (l.drop 4, 0) = t := ⟨_, rfl⟩
    have hok : MdOk m := by
      have := (md_w (mod_n (l.drop 4, 0))).1
      rw [hm] at this
      exact this
    by_cases hA : s1 = []
    · by_cases hB : 65535 < l.length
      · by_cases hC : (refuseR 4 (refuseR (checkE m) (s1, e1))).2 = 0
        · exact rtake_yyy l w hl hp hm hok hA hB hC
        · exact rtake_yyn l w hl hp hm hok hA hB hC
      · by_cases hC : (refuseR (checkE m) (s1, e1)).2 = 0
        · exact rtake_yny l w hl hp hm hok hA hB hC
        · exact rtake_ynn l w hl hp hm hok hA hB hC
    · by_cases hB : 65535 < l.length
      · by_cases hC : (refuseR 4 (refuseR (checkE m) (refuseR 3 (s1, e1)))).2 = 0
        · exact rtake_nyy l w hl hp hm hok hA hB hC
        · exact rtake_nyn l w hl hp hm hok hA hB hC
      · by_cases hC : (refuseR (checkE m) (refuseR 3 (s1, e1))).2 = 0
        · exact rtake_nny l w hl hp hm hok hA hB hC
        · exact rtake_nnn l w hl hp hm hok hA hB hC
  · exact rtake_none l w hl hp
end Q
end Go.Proofs.Ytjldddpchiaalaa
