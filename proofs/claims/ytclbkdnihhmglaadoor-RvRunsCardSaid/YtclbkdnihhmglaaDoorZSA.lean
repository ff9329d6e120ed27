/- rv's next for every instruction; what an instruction that may be has for registers. rv's do: what reckons, branches or jumps, for a machine whose register 0 is 0. -/
import Derived.Test.YtclbkdnihhmglaaDoorZNF
namespace Go.Proofs.YtclbkdnihhmglaaDoor
open Go.RowKit

set_option maxRecDepth 100000 in
set_option maxHeartbeats 1000000 in
theorem next_23 (rd ra rb i a b pc : Int) (w : World) :
    Calls Tryd.prog 44 #[.agg #[.int .i64 23, .int .i64 rd, .int .i64 ra, .int .i64 rb, .int .i64 i], .int .u64 a, .int .u64 b, .int .u64 pc] w fun e w' => e = .returned (.int .u64 (nextI 23 i a b pc)) ∧ Below w.heap.size w w' := by
  have HG := Lib.hid (fun W => goes_any 23 rd ra rb i a b W)
  by_cases hg : goesB 23 a b = true
  · have HE := Lib.hid (show nextI 23 i a b pc = IntKind.u64.wrap (pc + IntKind.u64.wrap i) by unfold nextI; rw [if_pos (by omega), if_pos hg])
    rw [hg] at HG
    clear hg
    go_enter Tryd.func44, Tryd.ntmps44
    repeat (first | (with_reducible refine xt_exit ?_) | (with_reducible refine xb_hit ?_) | (with_reducible refine xb_skip rfl ?_) | (with_reducible refine xt_norm ?_) | (with_reducible refine xb_norm ?_) | (with_reducible refine xt_ret ?_) | (with_reducible refine xb_ret ?_) | (go_big_may; fail) | go_values | go_skip | go_guarded | go_step | go_upon | go_back)
    refine (HG.out _).mono ?_
    rintro e w1 ⟨rfl, hb⟩
    have HB := Lib.hid (bthen (balloc (Below.refl _ w) _) hb)
    have hc := bcell hb
    have h4 := hc.1 w.heap.size 4 (by simp)
    have h4' : w1.cell? ⟨w.heap.size, 4, none⟩ = some (.int .i64 i) := by rw [h4]; simp [go_sem]
    clear hb hc h4
    go_wp2_with fail
    go_ret
    exact ⟨ret_int (by rw [HE.out]), HB.out⟩
  · have hg : goesB 23 a b = false := by simpa using hg
    have HE := Lib.hid (show nextI 23 i a b pc = IntKind.u64.wrap (pc + 4) by unfold nextI; rw [if_pos (by omega), if_neg (by simp [hg])])
    rw [hg] at HG
    clear hg
    go_enter Tryd.func44, Tryd.ntmps44
    repeat (first | (with_reducible refine xt_exit ?_) | (with_reducible refine xb_hit ?_) | (with_reducible refine xb_skip rfl ?_) | (with_reducible refine xt_norm ?_) | (with_reducible refine xb_norm ?_) | (with_reducible refine xt_ret ?_) | (with_reducible refine xb_ret ?_) | (go_big_may; fail) | go_values | go_skip | go_guarded | go_step | go_upon | go_back)
    refine (HG.out _).mono ?_
    rintro e w1 ⟨rfl, hb⟩
    have HB := Lib.hid (bthen (balloc (Below.refl _ w) _) hb)
    clear hb
    go_wp2_with fail
    go_ret
    exact ⟨ret_int (by rw [HE.out]), HB.out⟩
set_option maxRecDepth 100000 in
set_option maxHeartbeats 1000000 in
theorem next_24 (rd ra rb i a b pc : Int) (w : World) :
    Calls Tryd.prog 44 #[.agg #[.int .i64 24, .int .i64 rd, .int .i64 ra, .int .i64 rb, .int .i64 i], .int .u64 a, .int .u64 b, .int .u64 pc] w fun e w' => e = .returned (.int .u64 (nextI 24 i a b pc)) ∧ Below w.heap.size w w' := by
  have HG := Lib.hid (fun W => goes_any 24 rd ra rb i a b W)
  by_cases hg : goesB 24 a b = true
  · have HE := Lib.hid (show nextI 24 i a b pc = IntKind.u64.wrap (pc + IntKind.u64.wrap i) by unfold nextI; rw [if_pos (by omega), if_pos hg])
    rw [hg] at HG
    clear hg
    go_enter Tryd.func44, Tryd.ntmps44
    repeat (first | (with_reducible refine xt_exit ?_) | (with_reducible refine xb_hit ?_) | (with_reducible refine xb_skip rfl ?_) | (with_reducible refine xt_norm ?_) | (with_reducible refine xb_norm ?_) | (with_reducible refine xt_ret ?_) | (with_reducible refine xb_ret ?_) | (go_big_may; fail) | go_values | go_skip | go_guarded | go_step | go_upon | go_back)
    refine (HG.out _).mono ?_
    rintro e w1 ⟨rfl, hb⟩
    have HB := Lib.hid (bthen (balloc (Below.refl _ w) _) hb)
    have hc := bcell hb
    have h4 := hc.1 w.heap.size 4 (by simp)
    have h4' : w1.cell? ⟨w.heap.size, 4, none⟩ = some (.int .i64 i) := by rw [h4]; simp [go_sem]
    clear hb hc h4
    go_wp2_with fail
    go_ret
    exact ⟨ret_int (by rw [HE.out]), HB.out⟩
  · have hg : goesB 24 a b = false := by simpa using hg
    have HE := Lib.hid (show nextI 24 i a b pc = IntKind.u64.wrap (pc + 4) by unfold nextI; rw [if_pos (by omega), if_neg (by simp [hg])])
    rw [hg] at HG
    clear hg
    go_enter Tryd.func44, Tryd.ntmps44
    repeat (first | (with_reducible refine xt_exit ?_) | (with_reducible refine xb_hit ?_) | (with_reducible refine xb_skip rfl ?_) | (with_reducible refine xt_norm ?_) | (with_reducible refine xb_norm ?_) | (with_reducible refine xt_ret ?_) | (with_reducible refine xb_ret ?_) | (go_big_may; fail) | go_values | go_skip | go_guarded | go_step | go_upon | go_back)
    refine (HG.out _).mono ?_
    rintro e w1 ⟨rfl, hb⟩
    have HB := Lib.hid (bthen (balloc (Below.refl _ w) _) hb)
    clear hb
    go_wp2_with fail
    go_ret
    exact ⟨ret_int (by rw [HE.out]), HB.out⟩
set_option maxRecDepth 100000 in
set_option maxHeartbeats 1000000 in
theorem next_25 (rd ra rb i a b pc : Int) (w : World) :
    Calls Tryd.prog 44 #[.agg #[.int .i64 25, .int .i64 rd, .int .i64 ra, .int .i64 rb, .int .i64 i], .int .u64 a, .int .u64 b, .int .u64 pc] w fun e w' => e = .returned (.int .u64 (nextI 25 i a b pc)) ∧ Below w.heap.size w w' := by
  have HG := Lib.hid (fun W => goes_any 25 rd ra rb i a b W)
  by_cases hg : goesB 25 a b = true
  · have HE := Lib.hid (show nextI 25 i a b pc = IntKind.u64.wrap (pc + IntKind.u64.wrap i) by unfold nextI; rw [if_pos (by omega), if_pos hg])
    rw [hg] at HG
    clear hg
    go_enter Tryd.func44, Tryd.ntmps44
    repeat (first | (with_reducible refine xt_exit ?_) | (with_reducible refine xb_hit ?_) | (with_reducible refine xb_skip rfl ?_) | (with_reducible refine xt_norm ?_) | (with_reducible refine xb_norm ?_) | (with_reducible refine xt_ret ?_) | (with_reducible refine xb_ret ?_) | (go_big_may; fail) | go_values | go_skip | go_guarded | go_step | go_upon | go_back)
    refine (HG.out _).mono ?_
    rintro e w1 ⟨rfl, hb⟩
    have HB := Lib.hid (bthen (balloc (Below.refl _ w) _) hb)
    have hc := bcell hb
    have h4 := hc.1 w.heap.size 4 (by simp)
    have h4' : w1.cell? ⟨w.heap.size, 4, none⟩ = some (.int .i64 i) := by rw [h4]; simp [go_sem]
    clear hb hc h4
    go_wp2_with fail
    go_ret
    exact ⟨ret_int (by rw [HE.out]), HB.out⟩
  · have hg : goesB 25 a b = false := by simpa using hg
    have HE := Lib.hid (show nextI 25 i a b pc = IntKind.u64.wrap (pc + 4) by unfold nextI; rw [if_pos (by omega), if_neg (by simp [hg])])
    rw [hg] at HG
    clear hg
    go_enter Tryd.func44, Tryd.ntmps44
    repeat (first | (with_reducible refine xt_exit ?_) | (with_reducible refine xb_hit ?_) | (with_reducible refine xb_skip rfl ?_) | (with_reducible refine xt_norm ?_) | (with_reducible refine xb_norm ?_) | (with_reducible refine xt_ret ?_) | (with_reducible refine xb_ret ?_) | (go_big_may; fail) | go_values | go_skip | go_guarded | go_step | go_upon | go_back)
    refine (HG.out _).mono ?_
    rintro e w1 ⟨rfl, hb⟩
    have HB := Lib.hid (bthen (balloc (Below.refl _ w) _) hb)
    clear hb
    go_wp2_with fail
    go_ret
    exact ⟨ret_int (by rw [HE.out]), HB.out⟩
set_option maxRecDepth 100000 in
set_option maxHeartbeats 1000000 in
theorem next_26 (rd ra rb i a b pc : Int) (w : World) :
    Calls Tryd.prog 44 #[.agg #[.int .i64 26, .int .i64 rd, .int .i64 ra, .int .i64 rb, .int .i64 i], .int .u64 a, .int .u64 b, .int .u64 pc] w fun e w' => e = .returned (.int .u64 (nextI 26 i a b pc)) ∧ Below w.heap.size w w' := by
  have HG := Lib.hid (fun W => goes_any 26 rd ra rb i a b W)
  by_cases hg : goesB 26 a b = true
  · have HE := Lib.hid (show nextI 26 i a b pc = IntKind.u64.wrap (pc + IntKind.u64.wrap i) by unfold nextI; rw [if_pos (by omega), if_pos hg])
    rw [hg] at HG
    clear hg
    go_enter Tryd.func44, Tryd.ntmps44
    repeat (first | (with_reducible refine xt_exit ?_) | (with_reducible refine xb_hit ?_) | (with_reducible refine xb_skip rfl ?_) | (with_reducible refine xt_norm ?_) | (with_reducible refine xb_norm ?_) | (with_reducible refine xt_ret ?_) | (with_reducible refine xb_ret ?_) | (go_big_may; fail) | go_values | go_skip | go_guarded | go_step | go_upon | go_back)
    refine (HG.out _).mono ?_
    rintro e w1 ⟨rfl, hb⟩
    have HB := Lib.hid (bthen (balloc (Below.refl _ w) _) hb)
    have hc := bcell hb
    have h4 := hc.1 w.heap.size 4 (by simp)
    have h4' : w1.cell? ⟨w.heap.size, 4, none⟩ = some (.int .i64 i) := by rw [h4]; simp [go_sem]
    clear hb hc h4
    go_wp2_with fail
    go_ret
    exact ⟨ret_int (by rw [HE.out]), HB.out⟩
  · have hg : goesB 26 a b = false := by simpa using hg
    have HE := Lib.hid (show nextI 26 i a b pc = IntKind.u64.wrap (pc + 4) by unfold nextI; rw [if_pos (by omega), if_neg (by simp [hg])])
    rw [hg] at HG
    clear hg
    go_enter Tryd.func44, Tryd.ntmps44
    repeat (first | (with_reducible refine xt_exit ?_) | (with_reducible refine xb_hit ?_) | (with_reducible refine xb_skip rfl ?_) | (with_reducible refine xt_norm ?_) | (with_reducible refine xb_norm ?_) | (with_reducible refine xt_ret ?_) | (with_reducible refine xb_ret ?_) | (go_big_may; fail) | go_values | go_skip | go_guarded | go_step | go_upon | go_back)
    refine (HG.out _).mono ?_
    rintro e w1 ⟨rfl, hb⟩
    have HB := Lib.hid (bthen (balloc (Below.refl _ w) _) hb)
    clear hb
    go_wp2_with fail
    go_ret
    exact ⟨ret_int (by rw [HE.out]), HB.out⟩
set_option maxRecDepth 100000 in
set_option maxHeartbeats 1000000 in
theorem next_29 (rd ra rb i a b pc : Int) (w : World) :
    Calls Tryd.prog 44 #[.agg #[.int .i64 29, .int .i64 rd, .int .i64 ra, .int .i64 rb, .int .i64 i], .int .u64 a, .int .u64 b, .int .u64 pc] w fun e w' => e = .returned (.int .u64 (nextI 29 i a b pc)) ∧ Below w.heap.size w w' := by
  have HE := Lib.hid (show nextI 29 i a b pc = IntKind.u64.wrap (pc + IntKind.u64.wrap i) by unfold nextI; rw [if_neg (by omega)]; rw [if_pos rfl])
  go_enter Tryd.func44, Tryd.ntmps44
  repeat (first | (with_reducible refine xt_exit ?_) | (with_reducible refine xb_hit ?_) | (with_reducible refine xb_skip rfl ?_) | (with_reducible refine xt_norm ?_) | (with_reducible refine xb_norm ?_) | (with_reducible refine xt_ret ?_) | (with_reducible refine xb_ret ?_) | (go_big_may; fail) | go_values | go_skip | go_guarded | go_step | go_upon | go_back)
  go_ret
  exact ⟨ret_int (by rw [HE.out]), balloc (Below.refl _ _) _⟩
set_option maxRecDepth 100000 in
set_option maxHeartbeats 1000000 in
theorem next_30 (rd ra rb i a b pc : Int) (w : World) :
    Calls Tryd.prog 44 #[.agg #[.int .i64 30, .int .i64 rd, .int .i64 ra, .int .i64 rb, .int .i64 i], .int .u64 a, .int .u64 b, .int .u64 pc] w fun e w' => e = .returned (.int .u64 (nextI 30 i a b pc)) ∧ Below w.heap.size w w' := by
  have HE := Lib.hid (show nextI 30 i a b pc = bits BinOp.andNot IntKind.u64 (IntKind.u64.wrap (a + IntKind.u64.wrap i)) 1 by unfold nextI; rw [if_neg (by omega)]; rw [if_neg (by omega), if_pos rfl])
  go_enter Tryd.func44, Tryd.ntmps44
  repeat (first | (with_reducible refine xt_exit ?_) | (with_reducible refine xb_hit ?_) | (with_reducible refine xb_skip rfl ?_) | (with_reducible refine xt_norm ?_) | (with_reducible refine xb_norm ?_) | (with_reducible refine xt_ret ?_) | (with_reducible refine xb_ret ?_) | (go_big_may; fail) | go_values | go_skip | go_guarded | go_step | go_upon | go_back)
  go_ret
  exact ⟨ret_int (by rw [HE.out]), balloc (Below.refl _ _) _⟩
theorem next_any (k rd ra rb i a b pc : Int) (w : World) :
    Calls Tryd.prog 44 #[.agg #[.int .i64 k, .int .i64 rd, .int .i64 ra, .int .i64 rb, .int .i64 i], .int .u64 a, .int .u64 b, .int .u64 pc] w fun e w' => e = .returned (.int .u64 (nextI k i a b pc)) ∧ Below w.heap.size w w' := by
  by_cases h : ¬ (23 ≤ k ∧ k ≤ 26) ∧ k ≠ 29 ∧ k ≠ 30
  · exact next_seq k rd ra rb i a b pc w h
  · have hk : k = 23 ∨ k = 24 ∨ k = 25 ∨ k = 26 ∨ k = 29 ∨ k = 30 := by omega
    rcases hk with rfl | rfl | rfl | rfl | rfl | rfl
    · exact next_23 rd ra rb i a b pc w
    · exact next_24 rd ra rb i a b pc w
    · exact next_25 rd ra rb i a b pc w
    · exact next_26 rd ra rb i a b pc w
    · exact next_29 rd ra rb i a b pc w
    · exact next_30 rd ra rb i a b pc w

/-- registers of an instruction that may be -/
theorem okI_regs {kd rd ra rb i : Int} (h : E.okI kd rd ra rb i = true) : 1 ≤ kd ∧ kd < 32 ∧ (0 ≤ rd ∧ rd < 32) ∧ (0 ≤ ra ∧ ra < 32) ∧ (0 ≤ rb ∧ rb < 32) ∧ (23 ≤ kd → kd ≤ 26 → rd = 0) ∧ (21 ≤ kd → kd ≤ 22 → rd = 0) := by
  obtain ⟨h1, h2, h3⟩ := E.okI_parts h
  obtain ⟨K, rfl⟩ := Int.eq_ofNat_of_zero_le (show 0 ≤ kd by omega)
  have reg : ∀ r b, E.M.reg r b = true → 0 ≤ r ∧ r < 32 ∧ (b = false → r = 0) := by
    intro r b hr
    unfold E.M.reg at hr
    split at hr
    · rename_i hb
      have := of_decide_eq_true hr
      exact ⟨this.1, this.2, fun e => by rw [e] at hb; cases hb⟩
    · have := of_decide_eq_true hr
      exact ⟨by omega, by omega, fun _ => this⟩
  have h4 : (E.M.reg rd (E.M.hasRd (E.M.fm K)) && (E.M.reg ra (E.M.hasA (E.M.fm K)) && (E.M.reg rb (E.M.hasB (E.M.fm K)) && E.M.imm i (E.M.lo (E.M.fm K)) (E.M.hi (E.M.fm K)) (E.M.mu (E.M.fm K))))) = true := h3
  simp only [Bool.and_eq_true] at h4
  obtain ⟨g1, g2, g3, -⟩ := h4
  obtain ⟨d0, d1, d2⟩ := reg _ _ g1
  obtain ⟨a0, a1, -⟩ := reg _ _ g2
  obtain ⟨b0, b1, -⟩ := reg _ _ g3
  refine ⟨h1, h2, ⟨d0, d1⟩, ⟨a0, a1⟩, ⟨b0, b1⟩, fun k0 k1 => d2 ?_, fun k0 k1 => d2 ?_⟩
  · have : K = 23 ∨ K = 24 ∨ K = 25 ∨ K = 26 := by omega
    rcases this with rfl | rfl | rfl | rfl <;> rfl
  · have : K = 21 ∨ K = 22 := by omega
    rcases this with rfl | rfl <;> rfl
/-- the word at a place is one instruction's, or none's -/
theorem word_or (v : Int) : (∃ kd rd ra rb i, E.okI kd rd ra rb i = true ∧ E.wordI kd rd ra rb i = v) ∨ (∀ K : Nat, 1 ≤ K → K < 32 → E.M.okAt v K = false) := by
  by_cases h : ∃ K : Nat, 1 ≤ K ∧ K < 32 ∧ E.M.okAt v K = true
  · obtain ⟨K, h1, h2, h3⟩ := h
    obtain ⟨g1, g2⟩ := E.take_okI h1 h2 h3
    exact .inl ⟨_, _, _, _, _, g1, g2⟩
  · refine .inr fun K h1 h2 => ?_
    by_cases h3 : E.M.okAt v K = true
    · exact absurd ⟨K, h1, h2, h3⟩ h
    · simpa using h3
end Go.Proofs.YtclbkdnihhmglaaDoor

namespace Go.Proofs.YtclbkdnihhmglaaDoor
open Go.RowKit

theorem upd_zero {x : Nat → Int} (h : x 0 = 0) : upd x 0 0 = x := by
  funext j
  unfold upd
  split
  · rename_i e; rw [e, h]
  · rfl
theorem mc_zero {k : Mc} (h : k.x 0 = 0) : { k with x := upd k.x 0 0 } = k := by
  rw [upd_zero h]
/-- a register set, but the register 0 -/
def setR (x : Nat → Int) (rd : Int) (v : Int) : Nat → Int := if rd = 0 then x else upd x rd.toNat v
/-- the machine behind what reckons -/
def aluN (k : Mc) (kd rd i : Int) (RA RB : Nat) : Mc :=
  { k with x := setR k.x rd (doesI kd i (k.x RA) (k.x RB) k.pc), pc := nextI kd i (k.x RA) (k.x RB) k.pc }
set_option maxRecDepth 100000 in
set_option maxHeartbeats 2000000 in
theorem do_alu2 (k : Mc) (kd rd i : Int) (RA RB : Nat) (w : World) (hX : ∀ j, j < 32 → 0 ≤ k.x j ∧ k.x j ≤ 18446744073709551615) (hz : k.x 0 = 0) (hst : k.st = 0) (r0 : 0 ≤ rd) (r1 : rd < 32) (a1 : RA < 32) (b1 : RB < 32)
    (hk : kd ≠ 19 ∧ kd ≠ 20 ∧ kd ≠ 21 ∧ kd ≠ 22 ∧ kd ≠ 31) :
    Calls Tryd.prog 24 #[.agg (mcells k), .agg #[.int .i64 kd, .int .i64 rd, .int .i64 RA, .int .i64 RB, .int .i64 i]] w (RetIs (.tuple #[.agg (mcells (aluN k kd rd i RA RB)), .bool true]) w) := by
  have hx := hX
  obtain ⟨xa0, xa1⟩ := hx RA a1
  obtain ⟨xb0, xb1⟩ := hx RB b1
  have HS := Lib.hid (fun W h => do_start k kd rd RA RB i w W h)
  have m00 := mcells_x k 0 (by omega)
  have HSX := Lib.hid (show (mcells k).setIfInBounds 0 (.int .u64 0) = mcells k by rw [mcells_setX k 0 (by omega) 0, mc_zero hz])
  have t19 : (kd == 19) = false := by simp; omega
  have t20 : (kd == 20) = false := by simp; omega
  have t21 : (kd == 21) = false := by simp; omega
  have t22 : (kd == 22) = false := by simp; omega
  have t31 : (kd == 31) = false := by simp; omega
  have HST := Lib.hid hst
  clear hX hx hk hst hz
  go_enter Tryd.func24, Tryd.ntmps24
  go_wp2_with (refine alloc_mach rfl rfl ?_)
  rw [HSX.out]
  obtain ⟨W, hW⟩ : ∃ W, W = (((w.alloc (.cells (mcells k) 26)).alloc (.cells #[.int .i64 kd, .int .i64 rd, .int .i64 RA, .int .i64 RB, .int .i64 i] 35)).alloc (.cells (mcells zeroMc) 26)) := ⟨_, rfl⟩
  obtain ⟨HM, HO, HZ, HB⟩ := HS.out W hW
  rw [← hW]
  clear hW HS
  have HM := Lib.hid HM
  have HO := Lib.hid HO
  have HZ := Lib.hid HZ
  have HB := Lib.hid HB
  obtain ⟨o0, o1, o2, o3, o4, of, ol⟩ := HO.out
  obtain ⟨mx, m32, -, -, -, m36, -, -, mf⟩ := HM.out.cells
  have ma := mx RA a1
  have mb := mx RB b1
  try simp only at ma mb m32 m36
  obtain ⟨XA, hXA⟩ : ∃ z, k.x RA = z := ⟨_, rfl⟩
  obtain ⟨XB, hXB⟩ : ∃ z, k.x RB = z := ⟨_, rfl⟩
  rw [hXA] at ma xa0 xa1
  rw [hXB] at mb xb0 xb1
  have a0 : (0 : Int) ≤ (RA : Int) := Int.natCast_nonneg _
  have b0 : (0 : Int) ≤ (RB : Int) := Int.natCast_nonneg _
  have a32 : (RA : Int) < 32 := by omega
  have b32 : (RB : Int) < 32 := by omega
  have HXA := Lib.hid hXA
  have HXB := Lib.hid hXB
  clear mx hXA hXB
  go_quiet (fail)
  have hd := below_drewN W nq
  have HM := Lib.hid (HM.out.next hd)
  have HO := Lib.hid (HO.out.next hd)
  have HZ := Lib.hid (HZ.out.next hd)
  have HB := Lib.hid (bthen HB.out hd)
  clear hd
  generalize W.drewN nq = V at *
  clear o0 o1 o2 o3 o4 of ol m32 m36 mf ma mb
  obtain ⟨o0, o1, o2, o3, o4, of, ol⟩ := HO.out
  obtain ⟨-, m32, -, -, -, m36, -, -, mf⟩ := HM.out.cells
  try simp only at m32 m36
  have HD := Lib.hid (fun W => does_any kd rd RA RB i XA XB k.pc W xa0 xa1 xb0 xb1)
  obtain ⟨D, hD⟩ : ∃ D, doesI kd i XA XB k.pc = D := ⟨_, rfl⟩
  rw [hD] at HD
  have HDD := Lib.hid hD
  clear hD
  repeat (first | (with_reducible refine xt_exit ?_) | (with_reducible refine xb_hit ?_) | (with_reducible refine xb_skip rfl ?_) | (with_reducible refine xt_norm ?_) | (with_reducible refine xb_norm ?_) | (with_reducible refine xt_ret ?_) | (with_reducible refine xb_ret ?_) | (go_big_may; fail) | go_values | go_skip | go_guarded | go_step | go_upon | go_back)
  refine (HD.out _).mono ?_
  rintro e w3 ⟨rfl, hb3⟩
  have HM := Lib.hid (HM.out.next hb3)
  have HO := Lib.hid (HO.out.next hb3)
  have HZ := Lib.hid (HZ.out.next hb3)
  have HB := Lib.hid (bthen HB.out hb3)
  clear hb3 o0 o1 o2 o3 o4 of ol m32 m36 mf
  go_wp2_with fail
  refine (give_any D 0 _ _ _ kd rd RA RB i w3 HO.out HM.out r0 r1).mono ?_
  rintro e w4 ⟨rfl, hw4⟩
  have hS : Mach w4 w.heap.size { k with x := setR k.x rd D } ∧ E.Five w4 (w.heap.size + 1) kd rd RA RB i ∧ Mach w4 (w.heap.size + 1 + 1) zeroMc ∧ Below w.heap.size w w4 := by
    by_cases h0 : rd = 0
    · rw [if_pos h0] at hw4
      unfold setR
      rw [if_pos h0]
      subst hw4
      exact ⟨HM.out, HO.out, HZ.out, HB.out⟩
    · rw [if_neg h0] at hw4
      unfold setR
      rw [if_neg h0]
      subst hw4
      exact ⟨HM.out.setX rd.toNat (by omega) D, five_heap HO.out (Below.heap_setCell _ _ _ _ (by simp)) (by have := HO.out.2.2.2.2.2.2; simpa [World.setCell] using this), HZ.out.other _ _ (by simp; omega), HB.out.setCell (p := ⟨w.heap.size, rd.toNat, none⟩) (by simp) _⟩
  obtain ⟨hM4, hO4, hZ4, hB4⟩ := hS
  obtain ⟨X4, hX4⟩ : ∃ X4, setR k.x rd D = X4 := ⟨_, rfl⟩
  rw [hX4] at hM4
  have HX4 := Lib.hid hX4
  have HM4 := Lib.hid hM4
  have HO4 := Lib.hid hO4
  have HZ4 := Lib.hid hZ4
  have HB4 := Lib.hid hB4
  obtain ⟨o0, o1, o2, o3, o4, of, ol⟩ := hO4
  obtain ⟨-, m32, -, -, -, m36, -, -, mf⟩ := hM4.cells
  try simp only at m32 m36
  rw [HST.out] at m36
  clear hM4 hZ4 hB4 hw4 hX4 HM HO HZ HB
  have HNX := Lib.hid (fun W => next_any kd rd RA RB i XA XB k.pc W)
  obtain ⟨NP, hNP⟩ : ∃ D, nextI kd i XA XB k.pc = D := ⟨_, rfl⟩
  rw [hNP] at HNX
  have HNP := Lib.hid hNP
  clear hNP
  go_wp2_with fail
  refine (HNX.out _).mono ?_
  rintro e w5 ⟨rfl, hb5⟩
  have HM5 := Lib.hid (HM4.out.next hb5)
  have HZ5 := Lib.hid (HZ4.out.next hb5)
  have HB5 := Lib.hid (bthen HB4.out hb5)
  clear hb5 o0 o1 o2 o3 o4 of ol m32 m36 mf
  obtain ⟨-, m32, -, -, -, -, -, -, mf⟩ := HM5.out.cells
  try simp only at m32
  have hM6 := Whole.put HM5.out 32 (.int .u64 NP)
  rw [mcells_set32] at hM6
  have HM6 := Lib.hid (show Mach (w5.setCell ⟨w.heap.size, 32, none⟩ (.int .u64 NP)) w.heap.size { k with x := X4, pc := NP } from hM6)
  have HZ6 := Lib.hid (HZ5.out.other ⟨w.heap.size, 32, none⟩ (.int .u64 NP) (by simp; omega))
  have HB6 := Lib.hid (HB5.out.setCell (p := ⟨w.heap.size, 32, none⟩) (by simp) (.int .u64 NP))
  clear hM6
  go_wp2_with (first | (refine load_mach rfl _ rfl _ rfl _ HM6.out ?_) | (refine store_mach rfl _ _ rfl _ _ rfl rfl _ HZ6.out ?_))
  have hR := HZ6.out.row { k with x := X4, pc := NP }
  refine bodyPost_ret (v := .tuple #[.agg (mcells { k with x := X4, pc := NP }), .bool true]) ?_ rfl ⟨?_, below_row HB6.out _ (by omega)⟩
  · exact results_mach_two Tryd.results24 _ _ _ _ _ rfl rfl hR
  · have e : aluN k kd rd i RA RB = { k with x := X4, pc := NP } := by
      unfold aluN
      rw [HXA.out, HXB.out, HDD.out, HX4.out, HNP.out]
    rw [e]
end Go.Proofs.YtclbkdnihhmglaaDoor
