/- What a step may change: facts on stepR alone; and machines loaded under a guard. -/
import Derived.Test.YtclbkdnihhmglaaDoorZSF
import Derived.Test.YtclbkdnihhmglaaDoorZSE
import Derived.Test.YtclbkdnihhmglaaDoorZH
namespace Go.Proofs.YtclbkdnihhmglaaDoor
open Go.RowKit

/-- what a step that didn't trap changes -/
structure Went (k : Mc) (m : List M.Pg) (K : Mc) (m2 : List M.Pg) : Prop where
  st : K.st = 0 ∨ K.st = 1
  n : K.n = IntKind.u64.wrap (k.n + 1)
  x : K.x = k.x ∨ ∃ i v, 0 < i ∧ i < 32 ∧ K.x = upd k.x i v
  out : K.out = k.out ∨ ∃ b, K.out = k.out ++ ⟨#[b]⟩
  inp : K.inp = k.inp ∨ (0 < k.inp.size ∧ K.inp = k.inp.extract 1 k.inp.size)
  m : m2 = m ∨ ∃ a N v, 0 ≤ a ∧ numErr m a N 2 = 0 ∧ m2 = laid m a (M.lowest v N.toNat)
theorem setR_cases (x : Nat → Int) (rd v : Int) (h0 : 0 ≤ rd) (h1 : rd < 32) : setR x rd v = x ∨ ∃ i v', 0 < i ∧ i < 32 ∧ setR x rd v = upd x i v' := by
  unfold setR
  split
  · exact .inl rfl
  · exact .inr ⟨rd.toNat, v, by omega, by omega, rfl⟩
theorem callR_went {k r : Mc} (h : callR k = some r) (h0 : k.st = 0) : (r.st = 0 ∨ r.st = 1) ∧ r.n = k.n ∧ (r.x = k.x ∨ ∃ i v, 0 < i ∧ i < 32 ∧ r.x = upd k.x i v) ∧ (r.out = k.out ∨ ∃ b, r.out = k.out ++ ⟨#[b]⟩) ∧ (r.inp = k.inp ∨ (0 < k.inp.size ∧ r.inp = k.inp.extract 1 k.inp.size)) := by
  unfold callR at h
  split at h
  · cases h
    split
    · exact ⟨.inl h0, rfl, .inr ⟨10, 256, by omega, by omega, rfl⟩, .inl rfl, .inl rfl⟩
    · exact ⟨.inl h0, rfl, .inr ⟨10, _, by omega, by omega, rfl⟩, .inl rfl, .inr ⟨by omega, rfl⟩⟩
  · split at h
    · cases h
      exact ⟨.inl h0, rfl, .inl rfl, .inr ⟨_, rfl⟩, .inl rfl⟩
    · split at h
      · cases h
        exact ⟨.inr rfl, rfl, .inl rfl, .inl rfl, .inl rfl⟩
      · cases h
theorem doR_went {k : Mc} {m : List M.Pg} {kd rd i : Int} {RA RB : Nat} {K : Mc} {m2 : List M.Pg} (h : doR (tickM k) m kd rd i RA RB = some (K, m2)) (h0 : k.st = 0) (d0 : 0 ≤ rd) (d1 : rd < 32) : Went k m K m2 := by
  unfold doR at h
  by_cases h19 : kd = 19
  · rw [if_pos h19] at h
    split at h
    · cases h
      exact ⟨.inl h0, rfl, setR_cases _ _ _ d0 d1, .inl rfl, .inl rfl, .inl rfl⟩
    · cases h
  rw [if_neg h19] at h
  by_cases h20 : kd = 20
  · rw [if_pos h20] at h
    split at h
    · cases h
      exact ⟨.inl h0, rfl, setR_cases _ _ _ d0 d1, .inl rfl, .inl rfl, .inl rfl⟩
    · cases h
  rw [if_neg h20] at h
  by_cases h21 : kd = 21
  · rw [if_pos h21] at h
    split at h
    · rename_i e
      cases h
      exact ⟨.inl h0, rfl, .inl rfl, .inl rfl, .inl rfl, .inr ⟨_, _, _, (lsAt_in _ _).1, e, by unfold storeM; rw [if_pos e]⟩⟩
    · cases h
  rw [if_neg h21] at h
  by_cases h22 : kd = 22
  · rw [if_pos h22] at h
    split at h
    · rename_i e
      cases h
      exact ⟨.inl h0, rfl, .inl rfl, .inl rfl, .inl rfl, .inr ⟨_, _, _, (lsAt_in _ _).1, e, by unfold storeM; rw [if_pos e]⟩⟩
    · cases h
  rw [if_neg h22] at h
  by_cases h31 : kd = 31
  · rw [if_pos h31] at h
    cases hc : callR (tickM k) with
    | none => rw [hc] at h; cases h
    | some r =>
      rw [hc] at h
      cases h
      obtain ⟨g1, g2, g3, g4, g5⟩ := callR_went hc h0
      split
      · exact ⟨g1, g2, g3, g4, g5, .inl rfl⟩
      · exact ⟨g1, g2, g3, g4, g5, .inl rfl⟩
  · rw [if_neg h31] at h
    cases h
    exact ⟨.inl h0, rfl, setR_cases _ _ _ d0 d1, .inl rfl, .inl rfl, .inl rfl⟩
theorem stepR_cases (k : Mc) (m : List M.Pg) : (k.st ≠ 0 ∧ stepR k m = (k, m)) ∨ (k.st = 0 ∧ (stepR k m = (trapM k, m) ∨ Went k m (stepR k m).1 (stepR k m).2)) := by
  unfold stepR
  by_cases h0 : k.st ≠ 0
  · rw [if_pos h0]; exact .inl ⟨h0, rfl⟩
  rw [if_neg h0]
  have h0 : k.st = 0 := by omega
  refine .inr ⟨h0, ?_⟩
  by_cases h1 : k.pc % 4 = 0 ∧ numErr m k.pc 4 1 = 0
  · rw [if_pos h1]
    cases hd : decK (loadV m k.pc 4 1) with
    | none => exact .inl rfl
    | some K =>
      obtain ⟨k1, k2, hok⟩ := decK_some hd
      obtain ⟨g1, g2⟩ := E.take_okI k1 k2 hok
      obtain ⟨-, -, ⟨d0, d1⟩, -, -, -, -⟩ := okI_regs g1
      simp only
      cases hr : doR (tickM k) m K (E.M.tRd K (loadV m k.pc 4 1)) (E.M.tI K (loadV m k.pc 4 1)) (E.M.tA K (loadV m k.pc 4 1)).toNat (E.M.tB K (loadV m k.pc 4 1)).toNat with
      | none => exact .inl rfl
      | some r => exact .inr (doR_went (K := r.1) (m2 := r.2) hr h0 d0 d1)
  · rw [if_neg h1]; exact .inl rfl

/-- all of a machine loaded, under a guard that is met -/
theorem load_machG {ops : Array Oper} {rest : List Oper} {o : Oper} {a : Act} {w : World} {Q : Exit → Act → World → Prop} (x : Operand) (ho : o.op = .load 26 x)
    (B : Nat) (hx : a.eval x = .pointer (some ⟨B, 0, none⟩)) (k : Mc) (hM : Mach w B k) (hw : Region.wanted o (yielded ops a.tmps) = true) (h : wpList Tryd.prog ops Q rest (a.put o.dst (.agg (mcells k))) w) : wpList Tryd.prog ops Q (o :: rest) a w :=
  wpList_step fun K hK => by
    rw [if_pos hw]
    exact wp_load_row _ x ho B hx _ _ _ _ hM Tryd.underlying26 rfl (mach_info k) (hK _ _ h)
/-- where a law begins: its argument boxed -/
theorem law_start (k : Mc) (w : World) : Mach (w.alloc (.cells (mcells k) 26)) w.heap.size k ∧ Below w.heap.size w (w.alloc (.cells (mcells k) 26)) := ⟨Mach.new w k, balloc (Below.refl _ w) _⟩
theorem fit_of {k : Mc} {m : List M.Pg} (hB : MB k m) (ho : k.out.size ≤ 140737488351232) (hf : fewB k = true) : Fit k m := by
  unfold fewB at hf
  simp only [Bool.and_eq_true, decide_eq_true_eq, beq_iff_eq] at hf
  exact ⟨hB, by have := hB.ml; omega, hf.2, by omega⟩
theorem few_len {k : Mc} {m : List M.Pg} (hB : MB k m) (hf : fewB k = true) : m.length ≤ 70 := by
  unfold fewB at hf
  simp only [Bool.and_eq_true, decide_eq_true_eq, beq_iff_eq] at hf
  have := hB.ml; omega
end Go.Proofs.YtclbkdnihhmglaaDoor
