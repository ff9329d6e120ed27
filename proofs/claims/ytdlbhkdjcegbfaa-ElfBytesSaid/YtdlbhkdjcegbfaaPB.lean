/- Pure words of right memory: where a page stands, one place asked. -/
import Derived.Test.YtdlbhkdjcegbfaaP27
namespace Go.Proofs.Ytdlbhkdjcegbfaa
open Go.RowKit

theorem low_at {m : List M.Pg} (h : M.Right m) {i : Nat} (hi : i < m.length) : M.there m m[i].a = true ∧ M.low m m[i].a = i := by
  have ht : M.there m m[i].a = true := by
    unfold M.there
    rw [List.any_eq_true]
    exact ⟨m[i], List.getElem_mem hi, by simp⟩
  refine ⟨ht, ?_⟩
  obtain ⟨h1, h2⟩ := (M.there_iff h.up _).1 ht
  rcases Nat.lt_trichotomy (M.low m m[i].a) i with h3 | h3 | h3
  · have := h.at_lt h3 hi
    omega
  · exact h3
  · have := h.at_lt h3 h1
    omega
theorem data_in {m : List M.Pg} (h : M.Right m) {x : M.Pg} (hx : x ∈ m) : M.there m x.a = true ∧ M.dataAt m x.a = x.d := by
  obtain ⟨i, hi, rfl⟩ := List.mem_iff_getElem.1 hx
  obtain ⟨h1, h2⟩ := low_at h hi
  refine ⟨h1, ?_⟩
  unfold M.dataAt
  rw [h2, List.getElem?_eq_getElem hi]
  rfl
theorem one_num {m : List M.Pg} (h : M.Right m) {t : Int} (_ : 0 ≤ t) (t1 : t ≤ 18446744073709551615) :
    numErr m t 1 0 = (if M.there m (t - t % 256) = true then 0 else 6) ∧ loadV m t 1 0 = (if M.there m (t - t % 256) = true then ((M.byteAt m t).toNat : Int) else 0) := by
  have hgr : grantB m (t - t % 256) 0 = M.there m (t - t % 256) := by
    unfold grantB
    cases ht : M.there m (t - t % 256)
    · rfl
    · obtain ⟨h1, _⟩ := (M.there_iff h.up _).1 ht
      rw [List.getElem?_eq_getElem h1]
      exact okBits_zero _
  have hmin : min (1 : Int) (256 - t % 256) = 1 := by omega
  have hst : M.strs t 1 = [⟨t - t % 256, t % 256, 1⟩] := by
    rw [M.strs_cons (by omega), hmin, M.strs_nil (by omega)]
  have hall : allGrantB m t 1 0 = M.there m (t - t % 256) := by
    unfold allGrantB
    rw [hst, show beyondB t 1 = false by simp [beyondB]; omega]
    simp [hgr]
  have e1 : numErr m t 1 0 = (if M.there m (t - t % 256) = true then 0 else 6) := by
    unfold numErr
    rw [hall, Right.rb h]
    cases M.there m (t - t % 256) <;> simp
  refine ⟨e1, ?_⟩
  unfold loadV
  rw [e1]
  cases M.there m (t - t % 256)
  · simp
  · show M.num [M.byteAt m t] = _
    simp [M.num]
theorem noughts_get (j : Nat) : noughts.data.toList.getD j 0 = 0 := by
  have : noughts.data.toList = List.replicate 256 0 := rfl
  rw [this, List.getD_eq_getElem?_getD, List.getElem?_replicate]
  split <;> rfl
/-- what PageNew asks -/
theorem strs_full : ∀ (N : Nat) (a : Int), a % 256 = 0 → M.strs a ((N : Int) * 256) = (List.range N).map (fun j : Nat => (⟨a + 256 * j, 0, 256⟩ : M.Str))
  | 0, a, _ => by rw [M.strs_nil (by omega)]; rfl
  | N + 1, a, h => by
    have hmin : min (((N + 1 : Nat) : Int) * 256) (256 - a % 256) = 256 := by omega
    rw [M.strs_cons (by omega), hmin, show ((N + 1 : Nat) : Int) * 256 - 256 = (N : Int) * 256 by omega, strs_full N (a + 256) (by omega), List.range_succ_eq_map, List.map_cons, List.map_map]
    congr 1
    · congr 1
      all_goals omega
    · apply List.map_congr_left
      intro j _
      show (⟨a + 256 + 256 * j, 0, 256⟩ : M.Str) = ⟨a + 256 * ((j + 1 : Nat) : Int), 0, 256⟩
      congr 1
      omega
theorem new_full (a perm : Int) (N : Nat) (h : a % 256 = 0) : (M.strs a ((N : Int) * 256)).map (mkPg perm noughts) = (List.range N).map (fun j : Nat => (⟨a + 256 * j, perm, noughts⟩ : M.Pg)) := by
  rw [strs_full N a h, List.map_map]
  rfl
theorem not_there {m : List M.Pg} {a : Int} {N : Nat} (ha : a % 256 = 0) (h : anyB m a N = false) : ∀ x ∈ m, ∀ j : Nat, j < N → x.a ≠ a + 256 * j := by
  intro x hx j hj e
  unfold anyB at h
  rw [strs_full N a ha, List.any_eq_false] at h
  have h1 := h (⟨a + 256 * j, 0, 256⟩ : M.Str) (List.mem_map.2 ⟨j, List.mem_range.2 hj, rfl⟩)
  apply h1
  unfold M.there
  rw [List.any_eq_true]
  exact ⟨x, hx, by simp [e]⟩
theorem map_right {m : List M.Pg} (hR : M.Right m) {a perm : Int} {N : Nat} (a0 : 0 ≤ a) (he : mapErr m a N perm = 0) :
    M.Right (m.take (M.low m a) ++ ((M.strs a ((N : Int) * 256)).map (mkPg perm noughts) ++ m.drop (M.low m a))) := by
  obtain ⟨_, hm, n1, n64, hpm, hby, hany, hlen⟩ := mapErr_zero he
  have hnt := not_there hm hany
  rw [new_full a perm N hm]
  have hnew : ∀ x ∈ (List.range N).map (fun j : Nat => (⟨a + 256 * j, perm, noughts⟩ : M.Pg)), ∃ j : Nat, j < N ∧ x = ⟨a + 256 * j, perm, noughts⟩ := fun x hx => by
    obtain ⟨j, hj, rfl⟩ := List.mem_map.1 hx
    exact ⟨j, List.mem_range.1 hj, rfl⟩
  have hmem : ∀ x ∈ m.take (M.low m a) ++ ((List.range N).map (fun j : Nat => (⟨a + 256 * j, perm, noughts⟩ : M.Pg)) ++ m.drop (M.low m a)), x ∈ m ∨ ∃ j : Nat, j < N ∧ x = ⟨a + 256 * j, perm, noughts⟩ := fun x hx => by
    rcases List.mem_append.1 hx with h | h
    · exact .inl (List.mem_of_mem_take h)
    · rcases List.mem_append.1 h with h | h
      · exact .inr (hnew x h)
      · exact .inl (List.mem_of_mem_drop h)
  have htake : ∀ x ∈ m.take (M.low m a), x.a < a := fun x hx => by
    obtain ⟨i, hi, rfl⟩ := List.mem_iff_getElem.1 hx
    rw [List.getElem_take]
    have h1 : i < M.low m a := by rw [List.length_take] at hi; omega
    exact (M.lt_low hR.up a _).2 h1
  have hdrop : ∀ x ∈ m.drop (M.low m a), a + 256 * (N : Int) ≤ x.a := fun x hx => by
    have hxm := List.mem_of_mem_drop hx
    obtain ⟨i, hi, he⟩ := List.mem_iff_getElem.1 hx
    rw [List.getElem_drop] at he
    have hil : M.low m a + i < m.length := by rw [List.length_drop] at hi; omega
    have h1 : ¬ (m[M.low m a + i].a < a) := fun h => by
      have := (M.lt_low hR.up a hil).1 h
      omega
    rw [he] at h1
    have h2 : x.a % 256 = 0 := by rw [← he]; exact hR.at_mod hil
    by_cases hlt : a + 256 * (N : Int) ≤ x.a
    · exact hlt
    · exfalso
      refine hnt x hxm ((x.a - a) / 256).toNat (by omega) (by omega)
  refine ⟨?_, fun x hx => ?_, ?_, fun x hx => ?_, fun x hx => ?_⟩
  · have := M.low_le m a
    simp only [List.length_append, List.length_take, List.length_drop, List.length_map, List.length_range]
    omega
  · rcases hmem x hx with h | ⟨j, hj, rfl⟩
    · exact hR.ok x h
    · simp only [M.okPg, Bool.and_eq_true, decide_eq_true_eq]
      exact ⟨by show (a + 256 * (j : Int)) % 256 = 0; omega, hpm, noughts_size⟩
  · rw [List.pairwise_append]
    have hsplit := hR.up
    rw [← List.take_append_drop (M.low m a) m, List.pairwise_append] at hsplit
    refine ⟨hsplit.1, ?_, fun x hx y hy => ?_⟩
    · rw [List.pairwise_append]
      refine ⟨?_, hsplit.2.1, fun x hx y hy => ?_⟩
      · rw [List.pairwise_map]
        refine List.pairwise_lt_range.imp fun h => ?_
        show a + 256 * (_ : Int) < a + 256 * (_ : Int)
        omega
      · obtain ⟨j, hj, rfl⟩ := hnew x hx
        have := hdrop y hy
        show a + 256 * (j : Int) < y.a
        omega
    · have h1 := htake x hx
      rcases List.mem_append.1 hy with h | h
      · obtain ⟨j, hj, rfl⟩ := hnew y h
        show x.a < a + 256 * (j : Int)
        omega
      · exact hsplit.2.2 x hx y h
  · rcases hmem x hx with h | ⟨j, hj, rfl⟩
    · exact hR.ge x h
    · show 0 ≤ a + 256 * (j : Int); omega
  · rcases hmem x hx with h | ⟨j, hj, rfl⟩
    · exact hR.le x h
    · show a + 256 * (j : Int) ≤ 18446744073709551615; omega
theorem mapM_right {m : List M.Pg} (hR : M.Right m) {a n perm : Int} (a0 : 0 ≤ a) : M.Right (mapM m a n perm) := by
  unfold mapM
  split
  · rename_i he
    obtain ⟨_, _, n1, _⟩ := mapErr_zero he
    obtain ⟨N, rfl⟩ := Int.eq_ofNat_of_zero_le (show 0 ≤ n by omega)
    exact map_right hR a0 he
  · exact hR
theorem storeM_right {m : List M.Pg} (hR : M.Right m) (a n : Int) (v : Nat) : M.Right (storeM m a n v) ∧ (storeM m a n v).length = m.length := by
  unfold storeM
  split
  · exact ⟨laid_right hR _ _, laid_length _ _ _⟩
  · exact ⟨hR, rfl⟩
theorem fillM_right {m : List M.Pg} (hR : M.Right m) (a : Int) (l : ByteArray) : M.Right (fillM m a l) ∧ (fillM m a l).length = m.length := by
  unfold fillM
  split
  · exact ⟨laid_right hR _ _, laid_length _ _ _⟩
  · exact ⟨hR, rfl⟩
end Go.Proofs.Ytdlbhkdjcegbfaa
