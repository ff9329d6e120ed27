/- Package bit: a number's bytes, and the number of bytes, as lists. -/
import Derived.Test.YtclbkdnihhmglaaP1
namespace Go.Proofs.Ytclbkdnihhmglaa
namespace Q

/-- a number's bytes -/
def numL (v : Nat) : List UInt8 := if v < 128 then [UInt8.ofNat v] else UInt8.ofNat (v % 128 + 128) :: numL (v / 128)
termination_by v
decreasing_by omega
theorem numL_lt {v : Nat} (h : v < 128) : numL v = [UInt8.ofNat v] := by rw [numL, if_pos h]
theorem numL_ge {v : Nat} (h : ¬ v < 128) : numL v = UInt8.ofNat (v % 128 + 128) :: numL (v / 128) := by rw [numL, if_neg h]
theorem numL_pos (v : Nat) : 1 ≤ (numL v).length := by
  rw [numL]; split <;> simp
theorem numL_len (k : Nat) : ∀ v, v < 128 ^ (k + 1) → (numL v).length ≤ k + 1 := by
  induction k with
  | zero => intro v h; rw [numL_lt (by simpa using h)]; simp
  | succ k ih =>
    intro v h
    by_cases h1 : v < 128
    · rw [numL_lt h1]; simp
    · rw [numL_ge h1, List.length_cons]
      have := ih (v / 128) (by rw [Nat.div_lt_iff_lt_mul (by omega)]; rw [Nat.pow_succ] at h; exact h)
      omega
theorem numL_mono : ∀ b a, a ≤ b → (numL a).length ≤ (numL b).length := by
  intro b
  induction b using Nat.strongRecOn with
  | ind b ih =>
    intro a h
    by_cases hb : b < 128
    · rw [numL_lt hb, numL_lt (by omega)]; simp
    · by_cases ha : a < 128
      · rw [numL_lt ha]; exact numL_pos b
      · rw [numL_ge hb, numL_ge ha, List.length_cons, List.length_cons]
        have := ih (b / 128) (by omega) (a / 128) (by omega)
        omega
/-- the number that is taken, what is left, why not -/
def tn : Nat → List UInt8 → Nat → Nat × List UInt8 × Int
  | 0, _, _ => (0, [], 3)
  | _ + 1, [], _ => (0, [], 2)
  | n + 1, c :: l, v => if 128 ≤ c.toNat then tn n l (v + (c.toNat - 128) * 128 ^ (9 - n)) else if n = 9 ∨ (0 < c.toNat ∧ (n ≠ 0 ∨ c.toNat < 2)) then (v + c.toNat * 128 ^ (9 - n), l, 0) else (0, [], 3)
theorem ofNat_toNat {v : Nat} (h : v < 256) : (UInt8.ofNat v).toNat = v := by
  rw [UInt8.toNat_ofNat']; omega
theorem pow_step {n : Nat} (h : n + 1 ≤ 9) : 128 ^ (9 - n) = 128 * 128 ^ (9 - (n + 1)) := by
  rw [show 9 - n = (9 - (n + 1)) + 1 by omega, Nat.pow_succ, Nat.mul_comm]
theorem split_mul (v P : Nat) : v % 128 * P + v / 128 * (128 * P) = v * P := by
  rw [← Nat.mul_assoc, ← Nat.add_mul]
  congr 1
  omega
theorem tn_num : ∀ n v acc more, n ≤ 9 → v * 128 ^ (9 - n) < 18446744073709551616 → n = 9 ∨ 0 < v → tn (n + 1) (numL v ++ more) acc = (acc + v * 128 ^ (9 - n), more, 0) := by
  intro n
  induction n with
  | zero =>
    intro v acc more _ h h0
    have h1 : v = 1 := by omega
    subst h1
    rw [numL_lt (by omega)]
    simp [tn]
  | succ n ih =>
    intro v acc more hn h h0
    by_cases hv : v < 128
    · rw [numL_lt hv]
      simp only [List.cons_append, List.nil_append, tn]
      rw [ofNat_toNat (by omega), if_neg (by omega), if_pos (by omega)]
    · rw [numL_ge hv]
      simp only [List.cons_append]
      rw [tn, ofNat_toNat (by omega), if_pos (by omega), Nat.add_sub_cancel]
      have hp := pow_step hn
      obtain ⟨P, hP⟩ : ∃ P, 128 ^ (9 - (n + 1)) = P := ⟨_, rfl⟩
      rw [hP] at h hp ⊢
      have hs := split_mul v P
      rw [ih (v / 128) _ more (by omega) (by rw [hp]; omega) (by omega), hp, Nat.add_assoc, hs]
theorem tn_bound : ∀ n l acc r rest, n ≤ 9 → acc < 128 ^ (9 - n) → tn (n + 1) l acc = (r, rest, 0) → r < 18446744073709551616 := by
  intro n
  induction n with
  | zero =>
    intro l acc r rest _ ha h
    cases l with
    | nil => simp [tn] at h
    | cons c l =>
      simp only [tn] at h
      split at h
      · simp at h
      · split at h
        · have := (Prod.mk.inj h).1
          omega
        · simp at h
  | succ n ih =>
    intro l acc r rest hn ha h
    cases l with
    | nil => simp [tn] at h
    | cons c l =>
      rw [tn] at h
      have hp := pow_step hn
      have hc := c.toNat_lt
      split at h
      · refine ih l _ r rest (by omega) ?_ h
        rw [hp]
        have : (c.toNat - 128) * 128 ^ (9 - (n + 1)) ≤ 127 * 128 ^ (9 - (n + 1)) := Nat.mul_le_mul_right _ (by omega)
        omega
      · split at h
        · have h1 := (Prod.mk.inj h).1
          have : c.toNat * 128 ^ (9 - (n + 1)) ≤ 127 * 128 ^ (9 - (n + 1)) := Nat.mul_le_mul_right _ (by omega)
          have h9 : 128 ^ (9 - n) ≤ 128 ^ 9 := Nat.pow_le_pow_right (by omega) (by omega)
          rw [hp] at h9
          omega
        · simp at h
theorem tn_back : ∀ n l acc r rest, n ≤ 9 → tn (n + 1) l acc = (r, rest, 0) → ∃ v, r = acc + v * 128 ^ (9 - n) ∧ l = numL v ++ rest ∧ (n = 9 ∨ 0 < v) := by
  intro n
  induction n with
  | zero =>
    intro l acc r rest _ h
    cases l with
    | nil => simp [tn] at h
    | cons c l =>
      rw [tn] at h
      split at h
      · simp [tn] at h
      · split at h
        · obtain ⟨h1, h2⟩ := Prod.mk.inj h
          obtain ⟨h2, -⟩ := Prod.mk.inj h2
          refine ⟨c.toNat, h1.symm, ?_, .inr (by omega)⟩
          rw [numL_lt (by omega), h2]
          simp
        · simp at h
  | succ n ih =>
    intro l acc r rest hn h
    cases l with
    | nil => simp [tn] at h
    | cons c l =>
      rw [tn] at h
      have hp := pow_step hn
      have hc := c.toNat_lt
      split at h
      · obtain ⟨v, h1, h2, h3⟩ := ih l _ r rest (by omega) h
        have h0 : 0 < v := by omega
        refine ⟨v * 128 + (c.toNat - 128), ?_, ?_, .inr (by omega)⟩
        · rw [h1, hp, Nat.add_mul, Nat.mul_assoc]
          omega
        · rw [numL_ge (by omega), h2, show (v * 128 + (c.toNat - 128)) / 128 = v by omega, show (v * 128 + (c.toNat - 128)) % 128 + 128 = c.toNat by omega]
          simp
      · split at h
        · obtain ⟨h1, h2⟩ := Prod.mk.inj h
          obtain ⟨h2, -⟩ := Prod.mk.inj h2
          refine ⟨c.toNat, h1.symm, ?_, by omega⟩
          rw [numL_lt (by omega), h2]
          simp
        · simp at h
/-- what was written is taken -/
theorem take_num (v : Nat) (more : List UInt8) (h : v < 18446744073709551616) : tn 10 (numL v ++ more) 0 = (v, more, 0) := by
  rw [tn_num 9 v 0 more (by omega) (by simpa using h) (.inl rfl)]
  simp
theorem take_back {l rest : List UInt8} {r : Nat} (h : tn 10 l 0 = (r, rest, 0)) : r < 18446744073709551616 ∧ l = numL r ++ rest := by
  obtain ⟨v, h1, h2, -⟩ := tn_back 9 l 0 r rest (by omega) h
  have : r = v := by simpa using h1
  subst this
  exact ⟨tn_bound 9 l 0 r rest (by omega) (by simp) h, h2⟩
theorem numL_inj {a b : Nat} (ha : a < 18446744073709551616) (hb : b < 18446744073709551616) (h : numL a = numL b) : a = b := by
  have h1 := take_num a [] ha
  have h2 := take_num b [] hb
  rw [h, h2] at h1
  exact ((Prod.mk.inj h1).1).symm
theorem numL_ten {v : Nat} (h : v < 18446744073709551616) : (numL v).length ≤ 10 := numL_len 9 v (by omega)
/-- the number of bytes, what is left, why not: of any bytes -/
def tkV (s : ByteArray) : Nat := (tn 10 s.data.toList 0).1
def tkR (s : ByteArray) : ByteArray := ⟨(tn 10 s.data.toList 0).2.1.toArray⟩
def tkE (s : ByteArray) : Int := (tn 10 s.data.toList 0).2.2
theorem tk_err : ∀ n l acc, (tn n l acc).2.2 ≠ 0 → (tn n l acc).1 = 0 ∧ (tn n l acc).2.1 = [] := by
  intro n
  induction n with
  | zero => intro l acc _; exact ⟨rfl, rfl⟩
  | succ n ih =>
    intro l acc h
    cases l with
    | nil => exact ⟨rfl, rfl⟩
    | cons c l =>
      rw [tn] at h ⊢
      split at h
      · rename_i h1
        rw [if_pos h1]
        exact ih l _ h
      · rename_i h1
        rw [if_neg h1]
        split at h
        · simp at h
        · rename_i h2
          rw [if_neg h2]
          exact ⟨rfl, rfl⟩
end Q
end Go.Proofs.Ytclbkdnihhmglaa
