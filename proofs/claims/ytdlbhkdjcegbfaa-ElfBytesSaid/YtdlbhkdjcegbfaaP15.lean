/- Memory with bytes laid into it: what changedPages' map holds, page by page. -/
import Derived.Test.YtdlbhkdjcegbfaaP14
namespace Go.Proofs.Ytdlbhkdjcegbfaa
open Go.RowKit

/-- a page with the bytes l from the place a on laid over it -/
def over (x : M.Pg) (a : Int) (l : List UInt8) : M.Pg :=
  { x with d := ⟨((List.range 256).map (fun (j : Nat) => if a ≤ x.a + j ∧ x.a + j < a + l.length then l.getD (x.a + j - a).toNat 0 else x.d.data.toList.getD j 0)).toArray⟩ }
def laid (m : List M.Pg) (a : Int) (l : List UInt8) : List M.Pg := m.map (fun x => over x a l)

theorem over_eq {x : M.Pg} {a a' : Int} {l l' : List UInt8} (h : ∀ j : Nat, j < 256 → (if a ≤ x.a + j ∧ x.a + j < a + l.length then l.getD (x.a + j - a).toNat 0 else x.d.data.toList.getD j 0) = (if a' ≤ x.a + j ∧ x.a + j < a' + l'.length then l'.getD (x.a + j - a').toNat 0 else x.d.data.toList.getD j 0)) : over x a l = over x a' l' := by
  unfold over
  congr 3
  apply List.map_congr_left
  intro j hj
  exact h j (List.mem_range.1 hj)
theorem over_out {x : M.Pg} {a : Int} {l : List UInt8} (hs : x.d.size = 256) (h : ∀ j : Nat, j < 256 → ¬ (a ≤ x.a + j ∧ x.a + j < a + l.length)) : over x a l = x := by
  obtain ⟨xa, xp, ⟨xd⟩⟩ := x
  unfold over
  congr 2
  apply Array.ext'
  apply List.ext_getElem
  · have : xd.size = 256 := hs
    simp [this]
  · intro i h1 h2
    have hi : i < 256 := by simpa using h1
    rw [List.getElem_map, List.getElem_range, if_neg (h i hi), List.getD_eq_getElem?_getD, List.getElem?_eq_getElem h2]
    rfl
theorem patch_over {x : M.Pg} {a : Int} {r : ByteArray} (hs : x.d.size = 256) (hx : x.a = a - a % 256) (hr : 0 < r.size) : patch x (a % 256) r = over x a r.data.toList := by
  obtain ⟨xa, xp, ⟨xd⟩⟩ := x
  have hxd : xd.size = 256 := hs
  have hrs : r.data.toList.length = r.size := by rw [← Lib.size_eq]
  simp only at hx
  unfold patch over
  congr 2
  apply Array.ext'
  apply List.ext_getElem?
  intro i
  by_cases hi : i < 256
  · rw [show (((List.range 256).map (fun (j : Nat) => if a ≤ xa + j ∧ xa + j < a + r.data.toList.length then r.data.toList.getD (xa + j - a).toNat 0 else xd.toList.getD j 0)).toArray.toList)[i]? = some (if a ≤ xa + i ∧ xa + i < a + r.data.toList.length then r.data.toList.getD (xa + i - a).toNat 0 else xd.toList.getD i 0) by simp [hi]]
    rw [List.toList_toArray, hrs]
    by_cases h1 : i < (a % 256).toNat
    · rw [if_neg (by omega), List.append_assoc, List.getElem?_append_left (by simp; omega), List.getElem?_take_of_lt h1, List.getD_eq_getElem?_getD, List.getElem?_eq_getElem (by simp; omega)]
      rfl
    · by_cases h2 : i < (a % 256).toNat + min (256 - (a % 256).toNat) r.size
      · rw [if_pos (by omega), List.append_assoc, List.getElem?_append_right (by simp; omega)]
        have hl : (xd.toList.take (a % 256).toNat).length = (a % 256).toNat := by rw [List.length_take, Array.length_toList]; omega
        rw [hl, List.getElem?_append_left (by rw [List.length_take]; omega), List.getElem?_take_of_lt (by omega), List.getD_eq_getElem?_getD]
        rw [show (xa + (i : Int) - a).toNat = i - (a % 256).toNat by omega, List.getElem?_eq_getElem (by omega)]
        rfl
      · rw [if_neg (by omega), List.getElem?_append_right (by simp; omega)]
        have hl : (xd.toList.take (a % 256).toNat ++ r.data.toList.take (min (256 - (a % 256).toNat) r.size)).length = (a % 256).toNat + min (256 - (a % 256).toNat) r.size := by
          rw [List.length_append, List.length_take, List.length_take, Array.length_toList]; omega
        rw [hl, List.getElem?_drop, List.getD_eq_getElem?_getD]
        rw [show (a % 256).toNat + min (256 - (a % 256).toNat) r.size + (i - ((a % 256).toNat + min (256 - (a % 256).toNat) r.size)) = i by omega, List.getElem?_eq_getElem (by simp; omega)]
        rfl
  · rw [List.getElem?_eq_none (by simp; omega), List.getElem?_eq_none (by simp; omega)]

theorem pgOf_in {m : List M.Pg} {s : M.Str} (hu : m.Pairwise (fun x y => x.a < y.a)) (h : InPg m s) : (pgOf m s.pg).a = s.pg ∧ (pgOf m s.pg).d.size = 256 := by
  obtain ⟨ho, i, hi, hlo, hth, hds⟩ := h
  obtain ⟨h1, h2⟩ := (M.there_iff hu s.pg).1 hth
  unfold pgOf
  rw [List.getElem?_eq_getElem h1]
  subst hlo
  exact ⟨h2, hds⟩
theorem strs_pg {a n : Int} (a0 : 0 ≤ a) (h : a + n ≤ 18446744073709551616) (s : M.Str) (hs : s ∈ M.strs (a + min n (256 - a % 256)) (n - min n (256 - a % 256))) : a - a % 256 + 256 ≤ s.pg ∧ a + min n (256 - a % 256) ≤ s.pg := by
  by_cases hn : n - min n (256 - a % 256) ≤ 0
  · rw [M.strs_nil hn] at hs; cases hs
  · obtain ⟨ho, h1, h2⟩ := M.strs_ok (by omega) (by omega) s hs
    have := ho.md; have := ho.f0; have := ho.fn; have := ho.n1
    omega

theorem klit_key {x : Int} (h0 : 0 ≤ x) (h1 : x ≤ 18446744073709551615) : WideAt.IsKeyLit (klit x) := by
  have h := klit_of h0 h1
  generalize klit x = l at h ⊢
  exact keyed.key h

set_option maxRecDepth 100000 in
theorem ch_all {m : List M.Pg} (hu : m.Pairwise (fun x y => x.a < y.a)) (z : DataW Unit) (a n : Int) (r : ByteArray) (D : DataW Unit) (hD : Maps.IsMap D) (hr : (r.size : Int) = n) (a0 : 0 ≤ a) (h : a + n ≤ 18446744073709551616) (hQ : ∀ s ∈ M.strs a n, InPg m s) :
    (∀ s ∈ M.strs a n, ((M.strs a n).foldl (chS m) (r, D)).2.atKey (klit s.pg) z = pgD (over (pgOf m s.pg) a r.data.toList)) ∧
    (∀ x : Int, 0 ≤ x → x ≤ 18446744073709551615 → (∀ s ∈ M.strs a n, s.pg ≠ x) → ((M.strs a n).foldl (chS m) (r, D)).2.atKey (klit x) z = D.atKey (klit x) z) := by
  by_cases hn : n ≤ 0
  · rw [M.strs_nil hn]
    exact ⟨fun s hs => by (cases hs), fun x _ _ _ => rfl⟩
  · have hc := M.strs_cons (a := a) (n := n) (by omega)
    have ho := (M.strs_ok a0 h)
    rw [hc] at hQ ho ⊢
    have hk : (min (256 - (a % 256).toNat) r.size : Nat) = (min n (256 - a % 256)).toNat := by omega
    have hq0 := hQ _ List.mem_cons_self
    obtain ⟨hpa, hps⟩ := pgOf_in hu hq0
    have ho0 := (ho _ List.mem_cons_self).1
    have g0 := ho0.pg0
    have g1 := ho0.pg1
    simp only at hpa hps g0 g1
    have hrs : (r.extract (min n (256 - a % 256)).toNat r.size).size = r.size - (min n (256 - a % 256)).toNat := by simp
    have IH := ch_all hu z (a + min n (256 - a % 256)) (n - min n (256 - a % 256)) (r.extract (min n (256 - a % 256)).toNat r.size) (D.put (klit (a - a % 256)) (pgD (patch (pgOf m (a - a % 256)) (a % 256) r)))
      (Maps.IsMap.put hD _ _) (by rw [hrs]; omega) (by omega) (by omega) (fun s hs => hQ s (List.mem_cons_of_mem _ hs))
    have hfold : ((⟨a - a % 256, a % 256, min n (256 - a % 256)⟩ : M.Str) :: M.strs (a + min n (256 - a % 256)) (n - min n (256 - a % 256))).foldl (chS m) (r, D) =
        (M.strs (a + min n (256 - a % 256)) (n - min n (256 - a % 256))).foldl (chS m) (r.extract (min n (256 - a % 256)).toNat r.size, D.put (klit (a - a % 256)) (pgD (patch (pgOf m (a - a % 256)) (a % 256) r))) := by
      rw [List.foldl_cons]
      simp only [chS, hk]
    rw [hfold]
    have hne : ∀ s ∈ M.strs (a + min n (256 - a % 256)) (n - min n (256 - a % 256)), s.pg ≠ a - a % 256 := fun s hs => by
      have := strs_pg a0 h s hs; omega
    have hkk := klit_key (x := a - a % 256) (by omega) (by omega)
    refine ⟨fun s hs => ?_, fun x x0 x1 hx => ?_⟩
    · rcases List.mem_cons.1 hs with rfl | hs
      · simp only
        rw [IH.2 _ (by omega) (by omega) hne, Maps.atKey_put_same hD hkk]
        rw [patch_over hps hpa (by omega)]
      · rw [IH.1 s hs]
        congr 1
        obtain ⟨hpa', hps'⟩ := pgOf_in hu (hQ s (List.mem_cons_of_mem _ hs))
        have hp := strs_pg a0 h s hs
        apply over_eq
        intro j hj
        have hl : (r.extract (min n (256 - a % 256)).toNat r.size).data.toList.length = r.size - (min n (256 - a % 256)).toNat := by rw [← Lib.size_eq, hrs]
        have hl2 : r.data.toList.length = r.size := by rw [← Lib.size_eq]
        rw [hpa', hl, hl2]
        by_cases hin : s.pg + (j : Int) < a + r.size
        · rw [if_pos (by omega), if_pos (by omega), Lib.extract_data, List.getD_eq_getElem?_getD, List.getD_eq_getElem?_getD, List.getElem?_take_of_lt (by omega), List.getElem?_drop]
          congr 2; omega
        · rw [if_neg (by omega), if_neg (by omega)]
    · rw [IH.2 x x0 x1 (fun s hs => hx s (List.mem_cons_of_mem _ hs)), Maps.atKey_put_other]
      have := hx _ List.mem_cons_self
      exact klit_ne x0 x1 (by omega) (by omega) (fun e => this (by simp only; omega))
termination_by n.toNat
decreasing_by omega
end Go.Proofs.Ytdlbhkdjcegbfaa
