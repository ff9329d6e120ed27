/- Steps in a row, in numbers: a machine stays one, what a step writes stands behind what was written, and who ended stays. -/
import Derived.Test.YtclbkdnihhmglaaDoorZSG
namespace Go.Proofs.YtclbkdnihhmglaaDoor
open Go.RowKit

theorem u64_wr (v : Int) : U64 (IntKind.u64.wrap v) := by unfold U64; rw [IntKind.wrap_u64]; omega
theorem u64_bits (op : BinOp) (a b : Int) : U64 (bits op .u64 a b) := by unfold bits; exact u64_wr _
theorem u64_small {v : Int} (h0 : 0 ≤ v) (h1 : v ≤ 18446744073709551615) : U64 v := ⟨h0, h1⟩
theorem u64_div {a : Int} (ha : U64 a) (b : Int) (hb : 0 ≤ b) : U64 (a / b) :=
  ⟨Int.ediv_nonneg ha.1 hb, Int.le_trans (Int.ediv_le_self b ha.1) ha.2⟩
theorem u64_mod {a b : Int} (_ha : U64 a) (hb : U64 b) (h : b ≠ 0) : U64 (a % b) :=
  ⟨Int.emod_nonneg a h, by have := Int.emod_lt_of_pos a (show 0 < b by have := hb.1; omega); have := hb.2; omega⟩
theorem reckI_in (k a b : Int) (ha : U64 a) (hb : U64 b) : U64 (reckI k a b) := by
  unfold reckI
  split
  · exact u64_wr _
  split
  · exact u64_wr _
  split
  · exact u64_wr _
  split
  · unfold belowI; split <;> exact u64_small (by omega) (by omega)
  split
  · exact u64_bits _ _ _
  split
  · exact u64_div ha _ (Int.pow_nonneg (by omega))
  split
  · exact u64_bits _ _ _
  split
  · exact u64_bits _ _ _
  split
  · exact u64_wr _
  split
  · unfold quotI; split
    · exact u64_small (by omega) (by omega)
    · exact u64_div ha _ hb.1
  split
  · unfold restI; split
    · exact ha
    · rename_i h; exact u64_mod ha hb h
  · exact u64_small (by omega) (by omega)
theorem doesI_in (k i a b pc : Int) (ha : U64 a) (hb : U64 b) : U64 (doesI k i a b pc) := by
  unfold doesI
  split
  · exact reckI_in _ _ _ ha hb
  split
  · exact reckI_in _ _ _ ha (u64_wr _)
  split
  · exact u64_wr _
  split
  · exact u64_wr _
  split
  · exact u64_wr _
  · exact u64_small (by omega) (by omega)
theorem nextI_in (k i a b pc : Int) : U64 (nextI k i a b pc) := by
  unfold nextI
  split
  · split <;> exact u64_wr _
  split
  · exact u64_wr _
  split
  · exact u64_bits _ _ _
  · exact u64_wr _
theorem loadV_in (m : List M.Pg) (a : Int) (N p : Int) (hN : N ≤ 8) : U64 (loadV m a N p) := by
  unfold loadV
  split
  · have h := M.num_lt (M.bytesOf m a N.toNat)
    rw [M.bytesOf_length] at h
    have h2 : (256 : Int) ^ N.toNat ≤ 18446744073709551616 := by
      have h3 : N.toNat ≤ 8 := by omega
      have : ∀ n : Fin 9, (256 : Int) ^ n.1 ≤ 18446744073709551616 := by decide +kernel
      exact this ⟨N.toNat, by omega⟩
    exact ⟨M.num_nonneg _, by omega⟩
  · exact u64_small (by omega) (by omega)
theorem upd_in {x : Nat → Int} {i : Nat} {v : Int} (hx : ∀ j, j < 32 → U64 (x j)) (hv : U64 v) : ∀ j, j < 32 → U64 (upd x i v j) := by
  intro j hj
  unfold upd
  split
  · exact hv
  · exact hx j hj
theorem setR_in {x : Nat → Int} {rd v : Int} (hx : ∀ j, j < 32 → U64 (x j)) (hv : U64 v) : ∀ j, j < 32 → U64 (setR x rd v j) := by
  unfold setR
  split
  · exact hx
  · exact upd_in hx hv
theorem laid_wf' {m : List M.Pg} (h : Wf m) (a : Int) (l : List UInt8) : Wf (laid m a l) := by
  refine ⟨by rw [laid_length]; exact h.len, fun x hx => ?_, fun x hx => ?_⟩
  · obtain ⟨y, hy, rfl⟩ := List.mem_map.1 hx
    exact h.a0 y hy
  · obtain ⟨y, hy, rfl⟩ := List.mem_map.1 hx
    exact h.a1 y hy
theorem storeM_wf {m : List M.Pg} (h : Wf m) (a n : Int) (v : Nat) : Wf (storeM m a n v) := by
  unfold storeM; split
  · exact laid_wf' h _ _
  · exact h
theorem storeM_length (m : List M.Pg) (a n : Int) (v : Nat) : (storeM m a n v).length = m.length := by
  unfold storeM; split
  · exact laid_length _ _ _
  · rfl
/-- what is so of a machine that is one, without where its pages lie -/
structure MI (k : Mc) (m : List M.Pg) : Prop where
  x : ∀ j, j < 32 → U64 (k.x j)
  pc : U64 k.pc
  cd : U64 k.cd
  n : U64 k.n
  st : -9223372036854775808 ≤ k.st ∧ k.st ≤ 9223372036854775807
  wf : Wf m
theorem MB.mi {k : Mc} {m : List M.Pg} (h : MB k m) : MI k m := ⟨h.x, h.pc, h.cd, h.n, h.st, h.wf⟩
theorem MI.tick {k : Mc} {m : List M.Pg} (h : MI k m) : MI (tickM k) m := ⟨h.x, h.pc, h.cd, u64_wr _, h.st, h.wf⟩
theorem firstB_in (s : ByteArray) : U64 (firstB s) := by
  unfold firstB
  have := (s.data.toList.getD 0 0).toNat_lt
  exact ⟨by omega, by omega⟩
theorem callR_mi {k r : Mc} {m : List M.Pg} (h : callR k = some r) (hM : MI k m) : MI r m := by
  unfold callR at h
  split at h
  · cases h
    split
    · exact ⟨upd_in hM.x (u64_small (by omega) (by omega)), hM.pc, hM.cd, hM.n, hM.st, hM.wf⟩
    · exact ⟨upd_in hM.x (firstB_in _), hM.pc, hM.cd, hM.n, hM.st, hM.wf⟩
  · split at h
    · cases h
      exact ⟨hM.x, hM.pc, hM.cd, hM.n, hM.st, hM.wf⟩
    · split at h
      · cases h
        exact ⟨hM.x, hM.pc, hM.x 10 (by omega), hM.n, ⟨by show -9223372036854775808 ≤ (1 : Int); omega, by show (1 : Int) ≤ 9223372036854775807; omega⟩, hM.wf⟩
      · cases h
theorem doR_mi {t : Mc} {m : List M.Pg} {kd rd i : Int} {RA RB : Nat} {K : Mc} {m2 : List M.Pg} (h : doR t m kd rd i RA RB = some (K, m2)) (hM : MI t m) (a1 : RA < 32) (b1 : RB < 32) : MI K m2 ∧ m2.length = m.length := by
  unfold doR at h
  by_cases h19 : kd = 19
  · rw [if_pos h19] at h
    split at h
    · cases h
      exact ⟨⟨setR_in hM.x (loadV_in _ _ _ _ (by omega)), nextI_in 19 i (t.x RA) (t.x RB) t.pc, hM.cd, hM.n, hM.st, hM.wf⟩, rfl⟩
    · cases h
  rw [if_neg h19] at h
  by_cases h20 : kd = 20
  · rw [if_pos h20] at h
    split at h
    · cases h
      exact ⟨⟨setR_in hM.x (loadV_in _ _ _ _ (by omega)), nextI_in 20 i (t.x RA) (t.x RB) t.pc, hM.cd, hM.n, hM.st, hM.wf⟩, rfl⟩
    · cases h
  rw [if_neg h20] at h
  by_cases h21 : kd = 21
  · rw [if_pos h21] at h
    split at h
    · cases h
      exact ⟨⟨hM.x, nextI_in 21 i (t.x RA) (t.x RB) t.pc, hM.cd, hM.n, hM.st, storeM_wf hM.wf _ _ _⟩, storeM_length _ _ _ _⟩
    · cases h
  rw [if_neg h21] at h
  by_cases h22 : kd = 22
  · rw [if_pos h22] at h
    split at h
    · cases h
      exact ⟨⟨hM.x, nextI_in 22 i (t.x RA) (t.x RB) t.pc, hM.cd, hM.n, hM.st, storeM_wf hM.wf _ _ _⟩, storeM_length _ _ _ _⟩
    · cases h
  rw [if_neg h22] at h
  by_cases h31 : kd = 31
  · rw [if_pos h31] at h
    cases hc : callR t with
    | none => rw [hc] at h; cases h
    | some r =>
      rw [hc] at h
      cases h
      have hr := callR_mi hc hM
      split
      · exact ⟨hr, rfl⟩
      · exact ⟨⟨hr.x, nextI_in 31 i (t.x RA) (t.x RB) r.pc, hr.cd, hr.n, hr.st, hr.wf⟩, rfl⟩
  · rw [if_neg h31] at h
    cases h
    exact ⟨⟨setR_in hM.x (doesI_in _ _ _ _ _ (hM.x RA a1) (hM.x RB b1)), nextI_in kd i (t.x RA) (t.x RB) t.pc, hM.cd, hM.n, hM.st, hM.wf⟩, rfl⟩
theorem trapM_mi {k : Mc} {m : List M.Pg} (h : MI k m) : MI (trapM k) m :=
  ⟨h.x, h.pc, h.cd, u64_wr _, ⟨by show -9223372036854775808 ≤ (2 : Int); omega, by show (2 : Int) ≤ 9223372036854775807; omega⟩, h.wf⟩
theorem stepR_mi {k : Mc} {m : List M.Pg} (hM : MI k m) : MI (stepR k m).1 (stepR k m).2 ∧ (stepR k m).2.length = m.length := by
  unfold stepR
  by_cases h0 : k.st ≠ 0
  · rw [if_pos h0]; exact ⟨hM, rfl⟩
  rw [if_neg h0]
  by_cases h1 : k.pc % 4 = 0 ∧ numErr m k.pc 4 1 = 0
  · rw [if_pos h1]
    cases hd : decK (loadV m k.pc 4 1) with
    | none => exact ⟨trapM_mi hM, rfl⟩
    | some K =>
      obtain ⟨k1, k2, hok⟩ := decK_some hd
      obtain ⟨g1, g2⟩ := E.take_okI k1 k2 hok
      obtain ⟨-, -, ⟨d0, d1⟩, ⟨a0, a1⟩, ⟨b0, b1⟩, -, -⟩ := okI_regs g1
      simp only
      cases hr : doR (tickM k) m K (E.M.tRd K (loadV m k.pc 4 1)) (E.M.tI K (loadV m k.pc 4 1)) (E.M.tA K (loadV m k.pc 4 1)).toNat (E.M.tB K (loadV m k.pc 4 1)).toNat with
      | none => exact ⟨trapM_mi hM, rfl⟩
      | some r => exact doR_mi (K := r.1) (m2 := r.2) hr hM.tick (by omega) (by omega)
  · rw [if_neg h1]; exact ⟨trapM_mi hM, rfl⟩
theorem stepR_zero {k : Mc} {m : List M.Pg} (hz : k.x 0 = 0) : (stepR k m).1.x 0 = 0 := by
  rcases stepR_cases k m with ⟨_, h⟩ | ⟨_, h | h⟩
  · rw [h]; exact hz
  · rw [h]; exact hz
  · rcases h.x with h | ⟨i, v, i0, _, h⟩
    · rw [h]; exact hz
    · rw [h]; unfold upd; rw [if_neg (by omega)]; exact hz

/-- so many steps -/
def runR : Nat → Mc → List M.Pg → Mc × List M.Pg
  | 0, k, m => (k, m)
  | n + 1, k, m => stepR (runR n k m).1 (runR n k m).2
theorem runR_add (a b : Nat) (k : Mc) (m : List M.Pg) : runR (a + b) k m = runR b (runR a k m).1 (runR a k m).2 := by
  induction b with
  | zero => rfl
  | succ b ih => show stepR (runR (a + b) k m).1 (runR (a + b) k m).2 = _; rw [ih]; rfl
theorem runR_mi {k : Mc} {m : List M.Pg} (hM : MI k m) (n : Nat) : MI (runR n k m).1 (runR n k m).2 ∧ (runR n k m).2.length = m.length := by
  induction n with
  | zero => exact ⟨hM, rfl⟩
  | succ n ih =>
    have h := stepR_mi ih.1
    exact ⟨h.1, h.2.trans ih.2⟩
theorem runR_zero {k : Mc} {m : List M.Pg} (hz : k.x 0 = 0) (n : Nat) : (runR n k m).1.x 0 = 0 := by
  induction n with
  | zero => exact hz
  | succ n ih => exact stepR_zero ih
theorem stepR_halt {k : Mc} {m : List M.Pg} (h : k.st ≠ 0) : stepR k m = (k, m) := by unfold stepR; rw [if_pos h]
theorem runR_halt {k : Mc} {m : List M.Pg} {j : Nat} (h : (runR j k m).1.st ≠ 0) (n : Nat) (hn : j ≤ n) : runR n k m = runR j k m := by
  obtain ⟨d, rfl⟩ : ∃ d, n = j + d := ⟨n - j, by omega⟩
  clear hn
  induction d with
  | zero => rfl
  | succ d ih =>
    show stepR (runR (j + d) k m).1 (runR (j + d) k m).2 = _
    rw [ih, stepR_halt h]
theorem stepR_out (k : Mc) (m : List M.Pg) : (stepR k m).1.out.size ≤ k.out.size + 1 := by
  rcases stepR_cases k m with ⟨_, h⟩ | ⟨_, h | h⟩
  · rw [h]; exact Nat.le_succ _
  · rw [h]; exact Nat.le_succ _
  · rcases h.out with h | ⟨b, h⟩
    · rw [h]; omega
    · rw [h, ByteArray.size_append]; show _ + 1 ≤ _; omega
theorem runR_out (k : Mc) (m : List M.Pg) (n : Nat) : (runR n k m).1.out.size ≤ k.out.size + n := by
  induction n with
  | zero => exact Nat.le_refl _
  | succ n ih => have := stepR_out (runR n k m).1 (runR n k m).2; show (stepR (runR n k m).1 (runR n k m).2).1.out.size ≤ _; omega
/-- a machine that had written something ahead -/
def preO (p : ByteArray) (k : Mc) : Mc := { k with out := p ++ k.out }
theorem callR_pre (p : ByteArray) (k : Mc) : callR (preO p k) = (callR k).map (preO p) := by
  unfold callR
  show (if k.x 17 = 63 then some (if k.inp.size = 0 then _ else _) else if k.x 17 = 64 then _ else if k.x 17 = 93 then _ else none) = _
  split
  · split <;> rfl
  · split
    · show some ({ k with out := (p ++ k.out) ++ ⟨#[byteB (k.x 10)]⟩ } : Mc) = some ({ k with out := p ++ (k.out ++ ⟨#[byteB (k.x 10)]⟩) } : Mc)
      rw [ByteArray.append_assoc]
    · split <;> rfl
theorem doR_pre (p : ByteArray) (t : Mc) (m : List M.Pg) (kd rd i : Int) (RA RB : Nat) : doR (preO p t) m kd rd i RA RB = (doR t m kd rd i RA RB).map (fun r => (preO p r.1, r.2)) := by
  unfold doR
  by_cases h19 : kd = 19
  · rw [if_pos h19, if_pos h19]
    show (if numErr m (lsAt (t.x RA) i) 8 4 = 0 then _ else none) = _
    split <;> rfl
  rw [if_neg h19, if_neg h19]
  by_cases h20 : kd = 20
  · rw [if_pos h20, if_pos h20]
    show (if numErr m (lsAt (t.x RA) i) 1 4 = 0 then _ else none) = _
    split <;> rfl
  rw [if_neg h20, if_neg h20]
  by_cases h21 : kd = 21
  · rw [if_pos h21, if_pos h21]
    show (if numErr m (lsAt (t.x RA) i) 8 2 = 0 then _ else none) = _
    split <;> rfl
  rw [if_neg h21, if_neg h21]
  by_cases h22 : kd = 22
  · rw [if_pos h22, if_pos h22]
    show (if numErr m (lsAt (t.x RA) i) 1 2 = 0 then _ else none) = _
    split <;> rfl
  rw [if_neg h22, if_neg h22]
  by_cases h31 : kd = 31
  · rw [if_pos h31, if_pos h31, callR_pre]
    cases callR t with
    | none => rfl
    | some k2 =>
      simp only [Option.map_some]
      show some ((if k2.st = 1 then _ else _), m) = _
      split <;> rfl
  · rw [if_neg h31, if_neg h31]
    rfl
theorem stepR_pre (p : ByteArray) (k : Mc) (m : List M.Pg) : stepR (preO p k) m = (preO p (stepR k m).1, (stepR k m).2) := by
  unfold stepR
  show (if k.st ≠ 0 then _ else if k.pc % 4 = 0 ∧ numErr m k.pc 4 1 = 0 then _ else _) = _
  by_cases h0 : k.st ≠ 0
  · rw [if_pos h0, if_pos h0]
  rw [if_neg h0, if_neg h0]
  by_cases h1 : k.pc % 4 = 0 ∧ numErr m k.pc 4 1 = 0
  · rw [if_pos h1, if_pos h1]
    show (match decK (loadV m k.pc 4 1) with | none => _ | some K => _) = _
    cases decK (loadV m k.pc 4 1) with
    | none => rfl
    | some K =>
      simp only
      show (match doR (preO p (tickM k)) m K (E.M.tRd K (loadV m k.pc 4 1)) (E.M.tI K (loadV m k.pc 4 1)) (E.M.tA K (loadV m k.pc 4 1)).toNat (E.M.tB K (loadV m k.pc 4 1)).toNat with | none => (trapM (preO p k), m) | some r => r) = _
      rw [doR_pre]
      cases doR (tickM k) m K (E.M.tRd K (loadV m k.pc 4 1)) (E.M.tI K (loadV m k.pc 4 1)) (E.M.tA K (loadV m k.pc 4 1)).toNat (E.M.tB K (loadV m k.pc 4 1)).toNat with
      | none => rfl
      | some r => rfl
  · rw [if_neg h1, if_neg h1]
    rfl
/-- a step of a machine, by one of it that had written nothing -/
theorem stepR_fresh (k : Mc) (m : List M.Pg) : stepR k m = (preO k.out (stepR { k with out := ⟨#[]⟩ } m).1, (stepR { k with out := ⟨#[]⟩ } m).2) := by
  rw [← stepR_pre]
  have e : preO k.out { k with out := ⟨#[]⟩ } = k := by
    unfold preO
    cases k
    simp only [Mc.mk.injEq, true_and, and_true]
    exact ByteArray.append_empty
  rw [e]
end Go.Proofs.YtclbkdnihhmglaaDoor
