/- Memory with bytes laid into it one by one. Nothing of the program. -/
import Derived.Test.YtopamkbgolhbcaaP38
namespace Go.Proofs.Ytopamkbgolhbcaa
open Go.RowKit

theorem over_get (x : M.Pg) (a : Int) (l : List UInt8) {j : Nat} (hj : j < 256) : (over x a l).d.data.toList.getD j 0 = if a ≤ x.a + j ∧ x.a + j < a + l.length then l.getD (x.a + j - a).toNat 0 else x.d.data.toList.getD j 0 := by
  have : (over x a l).d.data.toList = (List.range 256).map (fun (j : Nat) => if a ≤ x.a + j ∧ x.a + j < a + l.length then l.getD (x.a + j - a).toNat 0 else x.d.data.toList.getD j 0) := by simp [over]
  rw [this, List.getD_eq_getElem?_getD, List.getElem?_map, List.getElem?_range hj]
  rfl
theorem over_snoc (x : M.Pg) (a : Int) (l : List UInt8) (b : UInt8) : over (over x a l) (a + l.length) [b] = over x a (l ++ [b]) := by
  have e : ∀ (d : ByteArray), over { x with d := d } (a + l.length) [b] = { x with d := ⟨((List.range 256).map (fun (j : Nat) => if a + l.length ≤ x.a + j ∧ x.a + j < a + l.length + ([b] : List UInt8).length then ([b] : List UInt8).getD (x.a + j - (a + l.length)).toNat 0 else d.data.toList.getD j 0)).toArray⟩ } := fun d => rfl
  have e1 : over (over x a l) (a + l.length) [b] = _ := e (over x a l).d
  rw [e1]
  unfold over
  congr 3
  apply List.map_congr_left
  intro j hj
  have hj' := List.mem_range.1 hj
  have := over_get x a l hj'
  unfold over at this
  rw [this, List.length_append, List.length_singleton]
  by_cases h1 : a + l.length ≤ x.a + j ∧ x.a + j < a + l.length + (1 : Nat)
  · rw [if_pos h1, if_pos (by omega), show (x.a + (j : Int) - (a + l.length)).toNat = 0 by omega, show (x.a + (j : Int) - a).toNat = l.length by omega]
    simp
  · rw [if_neg h1]
    by_cases h2 : a ≤ x.a + j ∧ x.a + j < a + l.length
    · rw [if_pos h2, if_pos (by omega), List.getD_eq_getElem?_getD, List.getD_eq_getElem?_getD, List.getElem?_append_left (by omega)]
    · rw [if_neg h2, if_neg (by omega)]
theorem laid_snoc (m : List M.Pg) (a : Int) (l : List UInt8) (b : UInt8) : laid (laid m a l) (a + l.length) [b] = laid m a (l ++ [b]) := by
  unfold laid
  rw [List.map_map]
  exact List.map_congr_left (fun x _ => over_snoc x a l b)
theorem laid_none {m : List M.Pg} (hR : M.Right m) (a : Int) : laid m a [] = m := by
  unfold laid
  conv => rhs; rw [← List.map_id m]
  apply List.map_congr_left
  intro x hx
  obtain ⟨i, hi, rfl⟩ := List.mem_iff_getElem.1 hx
  exact over_out (hR.size hi) (fun j _ h => by simp at h; omega)
/-- one byte laid: one page's one byte -/
theorem laid_one {m : List M.Pg} (hR : M.Right m) {t : Int} (ht : M.there m (t - t % 256) = true) {i : Nat} (hi : i < m.length) (he : M.low m (t - t % 256) = i) (b : UInt8) :
    laid m t [b] = m.set i ⟨(m[i]).a, (m[i]).p, ⟨(m[i]).d.data.set! (t % 256).toNat b⟩⟩ := by
  obtain ⟨h1, h2⟩ := (M.there_iff hR.up _).1 ht
  subst he
  apply List.ext_getElem?
  intro k
  rw [laid_get]
  by_cases hk : k < m.length
  · rw [List.getElem?_eq_getElem hk]
    show some (over m[k] t [b]) = _
    by_cases e : k = M.low m (t - t % 256)
    · subst e
      rw [List.getElem?_set_self hk]
      congr 1
      have hs := hR.size hk
      obtain ⟨x, hx⟩ : ∃ x, m[M.low m (t - t % 256)] = x := ⟨_, rfl⟩
      rw [hx] at hs h2 ⊢
      obtain ⟨xa, xp, ⟨xd⟩⟩ := x
      have hxd : xd.size = 256 := hs
      simp only at h2
      unfold over
      congr 2
      apply Array.ext'
      apply List.ext_getElem?
      intro j
      by_cases hj : j < 256
      · rw [show (((List.range 256).map (fun (j : Nat) => if t ≤ xa + j ∧ xa + j < t + ([b] : List UInt8).length then ([b] : List UInt8).getD (xa + j - t).toNat 0 else xd.toList.getD j 0)).toArray.toList)[j]? = some (if t ≤ xa + j ∧ xa + j < t + ([b] : List UInt8).length then ([b] : List UInt8).getD (xa + j - t).toNat 0 else xd.toList.getD j 0) by simp [hj]]
        rw [Array.set!_eq_setIfInBounds, Array.toList_setIfInBounds, List.length_singleton]
        by_cases hjt : j = (t % 256).toNat
        · subst hjt
          rw [if_pos (by omega), List.getElem?_set_self (by simp; omega), show (xa + ((t % 256).toNat : Int) - t).toNat = 0 by omega]
          rfl
        · rw [if_neg (by omega), List.getElem?_set_ne (by omega), List.getD_eq_getElem?_getD, List.getElem?_eq_getElem (by simp; omega)]
          rfl
      · rw [List.getElem?_eq_none (by simp; omega), List.getElem?_eq_none (by simp; omega)]
    · rw [List.getElem?_set_ne (by omega), List.getElem?_eq_getElem hk]
      congr 1
      refine over_out (hR.size hk) (fun j hj h => ?_)
      simp only [List.length_singleton] at h
      have hm := hR.at_mod hk
      have e2 : m[k].a = t - t % 256 := by omega
      rcases Nat.lt_trichotomy k (M.low m (t - t % 256)) with hlt | he | hgt
      · have := hR.at_lt hlt h1; omega
      · exact e he
      · have := hR.at_lt hgt hk; omega
  · rw [List.getElem?_eq_none (by omega), List.getElem?_eq_none (by simp; omega)]
    rfl
end Go.Proofs.Ytopamkbgolhbcaa
