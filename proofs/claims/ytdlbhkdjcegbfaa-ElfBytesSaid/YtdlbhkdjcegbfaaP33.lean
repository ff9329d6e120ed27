/- PageNew: new pages are of noughts; all others are as they were. -/
import Derived.Test.YtdlbhkdjcegbfaaPB
namespace Go.Proofs.Ytdlbhkdjcegbfaa
open Go.RowKit

attribute [local go_sem] Oper.semAt_some

theorem new_of {m : List M.Pg} (hR : M.Right m) {a perm : Int} {N : Nat} (a0 : 0 ≤ a) (he : mapErr m a N perm = 0) {t : Int} (t0 : 0 ≤ t) (t1 : t ≤ 18446744073709551615) :
    (mapM m a N perm).length = m.length + N ∧ Wf (mapM m a N perm) ∧
    ((a ≤ t ∧ (t - a) / 256 < N) → numErr (mapM m a N perm) t 1 0 = 0 ∧ loadV (mapM m a N perm) t 1 0 = 0 ∧ numErr m t 1 0 = 6) ∧
    (¬ (a ≤ t ∧ (t - a) / 256 < N) → numErr (mapM m a N perm) t 1 0 = numErr m t 1 0 ∧ loadV (mapM m a N perm) t 1 0 = loadV m t 1 0) := by
  obtain ⟨_, hm, n1, n64, hpm, hby, hany, hlen⟩ := mapErr_zero he
  have hnt := not_there hm hany
  have hK : M.Right (mapM m a N perm) := mapM_right hR a0
  have hk : mapM m a N perm = m.take (M.low m a) ++ ((List.range N).map (fun j : Nat => (⟨a + 256 * j, perm, noughts⟩ : M.Pg)) ++ m.drop (M.low m a)) := by
    unfold mapM
    rw [if_pos he, new_full a perm N hm]
  have hmem : ∀ x, x ∈ mapM m a N perm ↔ x ∈ m ∨ ∃ j : Nat, j < N ∧ x = ⟨a + 256 * j, perm, noughts⟩ := fun x => by
    rw [hk]
    constructor
    · intro hx
      rcases List.mem_append.1 hx with h | h
      · exact .inl (List.mem_of_mem_take h)
      · rcases List.mem_append.1 h with h | h
        · obtain ⟨j, hj, rfl⟩ := List.mem_map.1 h
          exact .inr ⟨j, List.mem_range.1 hj, rfl⟩
        · exact .inl (List.mem_of_mem_drop h)
    · rintro (h | ⟨j, hj, rfl⟩)
      · rw [← List.take_append_drop (M.low m a) m] at h
        rcases List.mem_append.1 h with h | h
        · exact List.mem_append.2 (.inl h)
        · exact List.mem_append.2 (.inr (List.mem_append.2 (.inr h)))
      · exact List.mem_append.2 (.inr (List.mem_append.2 (.inl (List.mem_map.2 ⟨j, List.mem_range.2 hj, rfl⟩))))
  have hlo := M.low_le m a
  obtain ⟨k, hke⟩ : ∃ k, mapM m a N perm = k := ⟨_, rfl⟩
  have hkl : k.length = m.length + N := by
    rw [← hke, hk]
    simp only [List.length_append, List.length_take, List.length_drop, List.length_map, List.length_range]
    omega
  rw [hke] at hK hmem ⊢
  obtain ⟨f1, f2⟩ := one_num hK t0 t1
  obtain ⟨g1, g2⟩ := one_num hR t0 t1
  have there_mem : ∀ (l : List M.Pg), M.there l (t - t % 256) = true → ∃ x ∈ l, x.a = t - t % 256 := fun l h => by
    unfold M.there at h
    rw [List.any_eq_true] at h
    obtain ⟨x, hx, e⟩ := h
    exact ⟨x, hx, by simpa using e⟩
  refine ⟨hkl, ⟨by have := hK.len; omega, hK.ge, hK.le⟩, fun hin => ?_, fun hout => ?_⟩
  · obtain ⟨j, hj⟩ := Int.eq_ofNat_of_zero_le (show 0 ≤ (t - a) / 256 by omega)
    have hjN : j < N := by omega
    have hpg : t - t % 256 = a + 256 * j := by omega
    have hx : (⟨a + 256 * j, perm, noughts⟩ : M.Pg) ∈ k := (hmem _).2 (.inr ⟨j, hjN, rfl⟩)
    obtain ⟨h1, h2⟩ := data_in hK hx
    have h1' : M.there k (t - t % 256) = true := by rw [hpg]; exact h1
    have h3 : M.there m (t - t % 256) = false := by
      cases hc : M.there m (t - t % 256)
      · rfl
      · obtain ⟨x, hxm, e⟩ := there_mem m hc
        exact absurd (e.trans hpg) (hnt x hxm j hjN)
    rw [f1, f2, g1, h1', h3]
    refine ⟨rfl, ?_, rfl⟩
    show ((M.byteAt k t).toNat : Int) = 0
    unfold M.byteAt
    rw [hpg, show M.dataAt k (a + 256 * (j : Int)) = noughts from h2, noughts_get]
    rfl
  · cases hc : M.there m (t - t % 256)
    · have h1 : M.there k (t - t % 256) = false := by
        cases hd : M.there k (t - t % 256)
        · rfl
        · obtain ⟨x, hx, e⟩ := there_mem k hd
          rcases (hmem x).1 hx with h | ⟨j, hj, rfl⟩
          · have := (data_in hR h).1
            rw [e, hc] at this
            cases this
          · exfalso
            apply hout
            have e' : a + 256 * (j : Int) = t - t % 256 := e
            omega
      rw [f1, f2, g1, g2, h1, hc]
      exact ⟨rfl, rfl⟩
    · obtain ⟨x, hx, e⟩ := there_mem m hc
      obtain ⟨h1, h2⟩ := data_in hK ((hmem x).2 (.inl hx))
      obtain ⟨_, h4⟩ := data_in hR hx
      rw [e] at h1 h2 h4
      rw [f1, f2, g1, g2, h1, hc]
      refine ⟨rfl, ?_⟩
      show ((M.byteAt k t).toNat : Int) = ((M.byteAt m t).toNat : Int)
      unfold M.byteAt
      rw [h2, h4]
end Go.Proofs.Ytdlbhkdjcegbfaa
