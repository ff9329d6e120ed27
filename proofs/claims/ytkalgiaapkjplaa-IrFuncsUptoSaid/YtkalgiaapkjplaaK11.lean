/- IrJumps: in a right function each end leads to a block that there is, with as many values as that one is handed. -/
import Derived.Test.YtkalgiaapkjplaaK9
namespace Go.Proofs.Ytkalgiaapkjplaa
open Go.RowKit

theorem goes_parts {all : List Bk} {n dest : Int} {l : List Int} (h : goesB all n dest l = true) : ∃ i : Nat, dest = i ∧ ∃ hi : i < all.length, (l.length : Int) = all[i].p ∧ amongB n l = true := by
  unfold goesB at h
  simp only [Bool.and_eq_true, decide_eq_true_eq] at h
  obtain ⟨⟨⟨h0, h1⟩, h2⟩, h3⟩ := h
  obtain ⟨i, rfl⟩ := Int.eq_ofNat_of_zero_le h0
  have hi : i < all.length := by omega
  rw [Int.toNat_natCast, List.getElem?_eq_getElem hi] at h2
  exact ⟨i, rfl, hi, by simpa using h2, h3⟩
theorem func_parts {f : Fn} (h : funcB f = true) : f.l.length ≤ 16 ∧ (∀ b ∈ f.l, blockB f.l b = true) ∧ (∀ (h : 0 < f.l.length), f.l[0].p = f.p) := by
  obtain ⟨s, b, p, l⟩ := f
  rw [funcB_eq] at h
  simp only [Bool.and_eq_true, decide_eq_true_eq] at h
  obtain ⟨⟨-, h16⟩, hl⟩ := h
  refine ⟨h16, ?_, ?_⟩
  · cases l with
    | nil => simp
    | cons c l =>
      simp only [Bool.and_eq_true] at hl
      exact List.all_eq_true.1 hl.2
  · cases l with
    | nil => simp
    | cons c l =>
      simp only [Bool.and_eq_true] at hl
      intro _
      simpa using hl.1
theorem block_parts {all : List Bk} {b : Bk} (h : blockB all b = true) : 0 ≤ b.p ∧ b.p ≤ 6 ∧ b.i.length ≤ 32 ∧ endB all (b.p + b.i.length) b.e = true ∧ instsB b.p b.i = true := by
  unfold blockB at h
  simp only [Bool.and_eq_true, decide_eq_true_eq] at h
  exact ⟨h.1.1.1.1, h.1.1.1.2, h.1.1.2, h.1.2, h.2⟩
theorem end_cases {all : List Bk} {n : Int} {t : Tm} (h : endB all n t = true) : (t.k = 1 ∧ goesB all n t.t t.l = true) ∨ (t.k = 2 ∧ amongB n [t.a] = true ∧ goesB all n t.t t.l = true ∧ goesB all n t.e t.m = true) ∨ (t.k = 3 ∧ amongB n [t.a] = true) := by
  unfold endB at h
  by_cases h1 : t.k = 1
  · rw [if_pos h1] at h
    simp only [Bool.and_eq_true] at h
    exact .inl ⟨h1, h.1.1.1⟩
  · rw [if_neg h1] at h
    by_cases h2 : t.k = 2
    · rw [if_pos h2] at h
      simp only [Bool.and_eq_true] at h
      exact .inr (.inl ⟨h2, h.1.1, h.1.2, h.2⟩)
    · rw [if_neg h2] at h
      by_cases h3 : t.k = 3
      · rw [if_pos h3] at h
        simp only [Bool.and_eq_true] at h
        exact .inr (.inr ⟨h3, h.1.1.1.1⟩)
      · rw [if_neg h3] at h
        cases h
theorem below_drewN {n : Nat} {w W : World} (h : Below n w W) (k : Nat) : Below n w (W.drewN k) := below_re h rfl rfl rfl rfl
end Go.Proofs.Ytkalgiaapkjplaa
