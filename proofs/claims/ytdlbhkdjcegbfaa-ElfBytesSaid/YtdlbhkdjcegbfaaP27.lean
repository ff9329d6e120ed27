/- Memory with bytes laid into it: what it grants, and which bytes it holds. -/
import Derived.Test.YtdlbhkdjcegbfaaPA
namespace Go.Proofs.Ytdlbhkdjcegbfaa
open Go.RowKit

theorem laid_length (m : List M.Pg) (a : Int) (l : List UInt8) : (laid m a l).length = m.length := by simp [laid]
theorem laid_low (m : List M.Pg) (a : Int) (l : List UInt8) (x : Int) : M.low (laid m a l) x = M.low m x := by
  unfold M.low laid
  rw [List.countP_map]
  rfl
theorem laid_there (m : List M.Pg) (a : Int) (l : List UInt8) (x : Int) : M.there (laid m a l) x = M.there m x := by
  unfold M.there laid
  rw [List.any_map]
  rfl
theorem laid_get (m : List M.Pg) (a : Int) (l : List UInt8) (i : Nat) : (laid m a l)[i]? = (m[i]?).map (fun x => over x a l) := by simp [laid]
theorem over_size (x : M.Pg) (a : Int) (l : List UInt8) : (over x a l).d.size = 256 := by
  show (over x a l).d.data.size = 256
  simp [over]
theorem laid_right {m : List M.Pg} (h : M.Right m) (a : Int) (l : List UInt8) : M.Right (laid m a l) := by
  have hm : ∀ x ∈ laid m a l, ∃ q ∈ m, x = over q a l := fun x hx => by
    obtain ⟨q, hq, rfl⟩ := List.mem_map.1 hx
    exact ⟨q, hq, rfl⟩
  refine ⟨by rw [laid_length]; exact h.len, fun x hx => ?_, ?_, fun x hx => ?_, fun x hx => ?_⟩
  · obtain ⟨q, hq, rfl⟩ := hm x hx
    have := h.ok q hq
    simp only [M.okPg, Bool.and_eq_true, decide_eq_true_eq] at this ⊢
    exact ⟨this.1, this.2.1, over_size _ _ _⟩
  · unfold laid
    rw [List.pairwise_map]
    exact h.up
  · obtain ⟨q, hq, rfl⟩ := hm x hx
    exact h.ge q hq
  · obtain ⟨q, hq, rfl⟩ := hm x hx
    exact h.le q hq
theorem laid_grant (m : List M.Pg) (a : Int) (l : List UInt8) (x perm : Int) : grantB (laid m a l) x perm = grantB m x perm := by
  unfold grantB
  rw [laid_there, laid_low, laid_get]
  cases m[M.low m x]? <;> rfl
theorem laid_all (m : List M.Pg) (a : Int) (l : List UInt8) (b n perm : Int) : allGrantB (laid m a l) b n perm = allGrantB m b n perm := by
  unfold allGrantB
  simp only [laid_grant]
theorem laid_num {m : List M.Pg} (h : M.Right m) (a : Int) (l : List UInt8) (b n perm : Int) : numErr (laid m a l) b n perm = numErr m b n perm := by
  unfold numErr
  rw [laid_all, Right.rb h, Right.rb (laid_right h a l)]
theorem laid_wf {m : List M.Pg} (h : M.Right m) (a : Int) (l : List UInt8) : Wf (laid m a l) := by
  have hr := laid_right h a l
  exact ⟨Nat.le_trans hr.len (by omega), hr.ge, hr.le⟩
/-- the byte at a place, behind the laying -/
theorem laid_byte {m : List M.Pg} (h : M.Right m) (a : Int) (l : List UInt8) (t : Int) (ht : M.there m (t - t % 256) = true) :
    M.byteAt (laid m a l) t = if a ≤ t ∧ t < a + l.length then l.getD (t - a).toNat 0 else M.byteAt m t := by
  obtain ⟨hi, he⟩ := (M.there_iff h.up _).1 ht
  obtain ⟨i, hil⟩ : ∃ i, M.low m (t - t % 256) = i := ⟨_, rfl⟩
  have hq := List.getElem?_eq_getElem hi
  obtain ⟨q, hqe⟩ : ∃ q, m[M.low m (t - t % 256)] = q := ⟨_, rfl⟩
  rw [hqe] at he hq
  have hj : (t % 256).toNat < 256 := by omega
  unfold M.byteAt M.dataAt
  rw [laid_low, laid_get, hq]
  show (over q a l).d.data.toList.getD (t % 256).toNat 0 = if a ≤ t ∧ t < a + l.length then l.getD (t - a).toNat 0 else q.d.data.toList.getD (t % 256).toNat 0
  have hqt : q.a + ((t % 256).toNat : Int) = t := by omega
  have : (over q a l).d.data.toList = (List.range 256).map (fun (j : Nat) => if a ≤ q.a + j ∧ q.a + j < a + l.length then l.getD (q.a + j - a).toNat 0 else q.d.data.toList.getD j 0) := by simp [over]
  rw [this, List.getD_eq_getElem?_getD, List.getElem?_map, List.getElem?_range hj]
  show (if a ≤ q.a + ((t % 256).toNat : Int) ∧ q.a + ((t % 256).toNat : Int) < a + l.length then l.getD (q.a + ((t % 256).toNat : Int) - a).toNat 0 else q.d.data.toList.getD (t % 256).toNat 0) = _
  rw [hqt]
theorem okBits_zero (p : Int) : okBits p 0 = true := by
  unfold okBits
  simp [bits]
  decide +kernel
theorem there_of {m : List M.Pg} {a n perm : Int} (a0 : 0 ≤ a) (hg : allGrantB m a n perm = true) (t : Int) (h0 : a ≤ t) (h1 : t < a + n) : M.there m (t - t % 256) = true := by
  simp only [allGrantB, Bool.and_eq_true, Bool.not_eq_true', List.all_eq_true] at hg
  obtain ⟨s, hs, e, _, _⟩ := M.strs_has a0 (n := n) t h0 h1
  have h := hg.2 s hs
  rw [e] at h
  simp only [grantB, Bool.and_eq_true] at h
  exact h.1
theorem grant_zero {m : List M.Pg} {a n perm : Int} (hg : allGrantB m a n perm = true) : allGrantB m a n 0 = true := by
  simp only [allGrantB, Bool.and_eq_true, Bool.not_eq_true', List.all_eq_true] at hg ⊢
  refine ⟨hg.1, fun s hs => ?_⟩
  have h := hg.2 s hs
  simp only [grantB, Bool.and_eq_true] at h ⊢
  refine ⟨h.1, ?_⟩
  have h2 := h.2
  cases hq : m[M.low m s.pg]? with
  | none => rw [hq] at h2; cases h2
  | some q => exact okBits_zero _
/-- what PageBack asks -/
theorem back_of {m : List M.Pg} (h0 : ∀ x ∈ m, 0 ≤ x.a) (h1 : ∀ x ∈ m, x.a ≤ 18446744073709551615) {a : Int} {V : Nat} (a0 : 0 ≤ a) (hV : V < 18446744073709551616) (he : numErr m a 8 2 = 0) (b : Int) :
    numErr (laid m a (M.lowest V 8)) a 8 0 = 0 ∧ loadV (laid m a (M.lowest V 8)) a 8 0 = (V : Int) ∧ numErr (laid m a (M.lowest V 8)) b 1 0 = numErr m b 1 0 ∧
      (¬ (a ≤ b ∧ b < a + 8) → 0 ≤ b → loadV (laid m a (M.lowest V 8)) b 1 0 = loadV m b 1 0) := by
  obtain ⟨_, _, hr, hg⟩ := numErr_zero he
  have hR := Right.of hr h0 h1
  have hl := M.lowest_length 8 V
  have e1 : numErr (laid m a (M.lowest V 8)) a 8 0 = 0 := by
    rw [laid_num hR]
    simp [numErr, hr, grant_zero hg]
  refine ⟨e1, ?_, laid_num hR _ _ _ _ _, fun hb b0 => ?_⟩
  · unfold loadV
    rw [if_pos e1]
    have hbs : M.bytesOf (laid m a (M.lowest V 8)) a 8 = M.lowest V 8 := by
      apply List.ext_getElem?
      intro i
      by_cases hi : i < 8
      · rw [M.bytesOf_get _ 8 a i hi, laid_byte hR _ _ _ (there_of a0 hg _ (by omega) (by omega)), if_pos (by rw [hl]; omega), List.getD_eq_getElem?_getD,
          show (a + (i : Int) - a).toNat = i by omega, List.getElem?_eq_getElem (by rw [hl]; exact hi)]
        rfl
      · rw [List.getElem?_eq_none (by rw [M.bytesOf_length]; omega), List.getElem?_eq_none (by rw [hl]; omega)]
    show M.num (M.bytesOf (laid m a (M.lowest V 8)) a 8) = _
    rw [hbs, M.num_lowest, Nat.mod_eq_of_lt (by simpa using hV)]
  · unfold loadV
    rw [laid_num hR]
    by_cases hz : numErr m b 1 0 = 0
    · rw [if_pos hz, if_pos hz]
      obtain ⟨_, _, _, hgb⟩ := numErr_zero hz
      show M.num [M.byteAt (laid m a (M.lowest V 8)) b] = M.num [M.byteAt m b]
      rw [laid_byte hR _ _ _ (there_of b0 hgb b (by omega) (by omega)), if_neg (by rw [hl]; exact hb)]
    · rw [if_neg hz, if_neg hz]
end Go.Proofs.Ytdlbhkdjcegbfaa
