/- rv's do: loads and stores; a row of pages stands in no machine's block. -/
import Derived.Test.YtclbkdnihhmglaaDoorZSA
import Derived.Test.YtclbkdnihhmglaaDoorZH
namespace Go.Proofs.YtclbkdnihhmglaaDoor
open Go.RowKit

theorem mcells_i64 (k : Mc) (j : Nat) (p : Int) (h : (mcells k)[j]? = some (.int .i64 p)) : j = 36 := by
  by_cases h1 : j < 32
  · rw [mcells_x k j h1] at h; cases h
  · obtain ⟨t, rfl⟩ : ∃ t, j = 32 + t := ⟨j - 32, by omega⟩
    rw [mcells_t] at h
    match t, h with
    | 0, h => cases h
    | 1, h => cases h
    | 2, h => cases h
    | 3, h => cases h
    | 4, _ => rfl
    | 5, h => cases h
    | 6, h => cases h
    | t + 7, h => simp [mtail] at h
theorem pages_apart {W : World} {b off : Nat} {m : List M.Pg} {r : Nat} {k : Mc} (h : PagesIn W b off m) (h0 : 0 < m.length) (hr : Mach W r k) : b ≠ r := by
  rintro rfl
  obtain ⟨-, e1, e2⟩ := h.2 0 h0
  rw [Whole.cell hr] at e1 e2
  have := mcells_i64 k _ _ e1
  simp only [Nat.zero_mul, Nat.add_zero] at this e2
  rw [show off + 2 = 37 by omega, mcells_37] at e2
  cases e2
theorem pages_keepM {W W' : World} {v : Value} {m : List M.Pg} {r : Nat} {k : Mc} (h : Pages W v m) (hr : Mach W r k) (hg : W.grownBy W' (some r)) : Pages W' v m := by
  rcases h with h | ⟨h1, b, off, cap, rfl, h2⟩
  · exact .inl h
  · refine Pages.keep (.inr ⟨h1, b, off, cap, rfl, h2⟩) hg hr ?_
    rintro b' off' n c e
    cases e
    exact pages_apart h2 h1 hr
/-- the block that a row of pages lies in is one of pages -/
def PgTy (W : World) (A : Option Addr) : Prop := ∀ b off, A = some ⟨b, off, none⟩ → ∃ cs fz, W.heap[b]? = some (.cells cs 43 fz)
theorem PgTy.next {W W' : World} {A : Option Addr} (h : PgTy W A) (hb : Below W.heap.size W W') : PgTy W' A := fun b off e => by
  obtain ⟨cs, fz, h1⟩ := h b off e
  exact ⟨cs, fz, (hb.block b (Array.getElem?_eq_some_iff.1 h1).1).trans h1⟩
theorem PgTy.keepM {W W' : World} {A : Option Addr} {r : Nat} {k : Mc} (h : PgTy W A) (hr : Mach W r k) (hg : W.grownBy W' (some r)) : PgTy W' A := fun b off e => by
  obtain ⟨cs, fz, h1⟩ := h b off e
  have hr' : W.heap[r]? = some (.cells (mcells k) 26 (0, 0)) := hr
  refine ⟨cs, fz, (hg.block b (Array.getElem?_eq_some_iff.1 h1).1 (fun e' => ?_)).trans h1⟩
  have e2 : b = r := Option.some.inj e'
  subst e2
  rw [h1] at hr'; cases hr'
theorem pgTy_owns {W : World} {base l c : Nat} {A : Option Addr} {m : List M.Pg} (h : OwnsP W base (.slice A l c) m) : PgTy W A := by
  have h' : W.ownsRow base 43 3 (.slice A l c) m.length (cellsOf m) := h
  intro b off e
  subst e
  rcases h'.2 with ⟨e, _⟩ | ⟨g, cap, cur, e, hg, hc, _⟩
  · cases e
  · cases e; exact ⟨_, _, hc⟩
/-- do's answer: a machine, its pages, whether it could be done -/
def DoPost (K : Mc) (m : List M.Pg) (d : Bool) (w : World) (e : Ending) (w' : World) : Prop :=
  ∃ A l c, e = .returned (.tuple #[.agg (mcells { K with ma := A, ml := l, mc := c }), .bool d]) ∧ Pages w' (.slice A l c) m ∧ Below w.heap.size w w' ∧ (PgTy w K.ma → PgTy w' A)

/-- the closure that keeps new pages -/
theorem keep_any (A : Option Addr) (n c : Nat) (e1 : Int) (BM : Nat) (k : Mc) (w : World) (hM : Mach w BM k) :
    Calls Tryd.prog 40 #[.slice A n c, .int .i64 e1, .pointer (some ⟨BM, 0, none⟩)] w fun e w' => e = .returned (.bool (e1 == 0)) ∧ w' = w.setCell ⟨BM, 33, none⟩ (.slice A n c) := by
  obtain ⟨-, -, m33, -, -, -, -, -, mf⟩ := hM.cells
  have m2 := mf 33
  clear mf hM
  go_enter Tryd.func40, Tryd.ntmps40
  go_wp2_with fail
  go_ret
  exact ⟨rfl, rfl⟩
/-- the place of a load or a store -/
def lsAt (a i : Int) : Int := IntKind.u64.wrap (a + IntKind.u64.wrap i)
theorem lsAt_in (a i : Int) : 0 ≤ lsAt a i ∧ lsAt a i ≤ 18446744073709551615 := by unfold lsAt; rw [IntKind.wrap_u64]; omega
/-- the machine behind a load -/
def ldN (k : Mc) (m : List M.Pg) (kd rd i : Int) (RA RB : Nat) (N : Int) : Mc :=
  { k with x := setR k.x rd (loadV m (lsAt (k.x RA) i) N 4), pc := nextI kd i (k.x RA) (k.x RB) k.pc }
/-- the machine behind a store -/
def stN (k : Mc) (kd i : Int) (RA RB : Nat) : Mc := { k with pc := nextI kd i (k.x RA) (k.x RB) k.pc }
set_option maxRecDepth 100000 in
set_option maxHeartbeats 2000000 in
theorem do_ld (k : Mc) (m : List M.Pg) (rd i : Int) (RA RB : Nat) (w : World) (hP : Pages w (.slice k.ma k.ml k.mc) m) (hw : Wf m) (hn : m.length * 32 ≤ 140737488355328) (hX : ∀ j, j < 32 → 0 ≤ k.x j ∧ k.x j ≤ 18446744073709551615) (hz : k.x 0 = 0) (hst : k.st = 0) (r0 : 0 ≤ rd) (r1 : rd < 32) (a1 : RA < 32) (b1 : RB < 32) :
    Calls Tryd.prog 24 #[.agg (mcells k), .agg #[.int .i64 19, .int .i64 rd, .int .i64 RA, .int .i64 RB, .int .i64 i]] w (DoPost (ldN k m 19 rd i RA RB 8) m (numErr m (lsAt (k.x RA) i) 8 4 == 0) w) := by
  have HS := Lib.hid (fun W h => do_start k 19 rd RA RB i w W h)
  have m00 := mcells_x k 0 (by omega)
  have HSX := Lib.hid (show (mcells k).setIfInBounds 0 (.int .u64 0) = mcells k by rw [mcells_setX k 0 (by omega) 0, mc_zero hz])
  have HST := Lib.hid hst
  have hat := lsAt_in (k.x RA) i
  have HL := Lib.hid (fun (W' : World) (hb : Below w.heap.size w W') => load_any (lsAt (k.x RA) i) 8 4 (hP.next hb) hw hat.1 hat.2)
  have HP := Lib.hid hP
  clear hX hst hz hP hw hn hat
  go_enter Tryd.func24, Tryd.ntmps24
  go_wp2_with (refine alloc_mach rfl rfl ?_)
  rw [HSX.out]
  obtain ⟨W, hW⟩ : ∃ W, W = (((w.alloc (.cells (mcells k) 26)).alloc (.cells #[.int .i64 19, .int .i64 rd, .int .i64 RA, .int .i64 RB, .int .i64 i] 35)).alloc (.cells (mcells zeroMc) 26)) := ⟨_, rfl⟩
  obtain ⟨HM, HO, HZ, HB⟩ := HS.out W hW
  rw [← hW]
  clear hW HS
  have HM := Lib.hid HM
  have HO := Lib.hid HO
  have HZ := Lib.hid HZ
  have HB := Lib.hid HB
  obtain ⟨o0, o1, o2, o3, o4, of, ol⟩ := HO.out
  obtain ⟨mx, m32, -, -, -, m36, -, -, mf⟩ := HM.out.cells
  have ma := mx RA a1
  have mb := mx RB b1
  try simp only at ma mb m32 m36
  obtain ⟨XA, hXA⟩ : ∃ z, k.x RA = z := ⟨_, rfl⟩
  obtain ⟨XB, hXB⟩ : ∃ z, k.x RB = z := ⟨_, rfl⟩
  rw [hXA] at ma
  rw [hXB] at mb
  have a0 : (0 : Int) ≤ (RA : Int) := Int.natCast_nonneg _
  have b0 : (0 : Int) ≤ (RB : Int) := Int.natCast_nonneg _
  have a32 : (RA : Int) < 32 := by omega
  have b32 : (RB : Int) < 32 := by omega
  have HXA := Lib.hid hXA
  have HXB := Lib.hid hXB
  clear mx hXA hXB
  go_quiet (fail)
  have hd := below_drewN W nq
  have HM := Lib.hid (HM.out.next hd)
  have HO := Lib.hid (HO.out.next hd)
  have HZ := Lib.hid (HZ.out.next hd)
  have HB := Lib.hid (bthen HB.out hd)
  clear hd
  generalize W.drewN nq = V at *
  clear o0 o1 o2 o3 o4 of ol m32 m36 mf ma mb
  obtain ⟨o0, o1, o2, o3, o4, of, ol⟩ := HO.out
  obtain ⟨-, m32, m33, -, -, m36, -, -, mf⟩ := HM.out.cells
  rw [HXA.out] at HL
  obtain ⟨D, hD⟩ : ∃ D, loadV m (lsAt XA i) 8 4 = D := ⟨_, rfl⟩
  obtain ⟨E1, hE1⟩ : ∃ D, numErr m (lsAt XA i) 8 4 = D := ⟨_, rfl⟩
  rw [hD, hE1] at HL
  have HDD := Lib.hid hD
  have HEE := Lib.hid hE1
  have HAT := Lib.hid (show lsAt XA i = IntKind.u64.wrap (XA + IntKind.u64.wrap i) from rfl)
  rw [HAT.out] at HL
  clear hD hE1
  repeat (first | (with_reducible refine xt_exit ?_) | (with_reducible refine xb_hit ?_) | (with_reducible refine xb_skip rfl ?_) | (with_reducible refine xt_norm ?_) | (with_reducible refine xb_norm ?_) | (with_reducible refine xt_ret ?_) | (with_reducible refine xb_ret ?_) | (go_big_may; fail) | go_values | go_skip | go_guarded | go_step | go_upon | go_back)
  refine (HL.out _ HB.out).mono ?_
  rintro e w3 ⟨rfl, hb3⟩
  have HM := Lib.hid (HM.out.next hb3)
  have HO := Lib.hid (HO.out.next hb3)
  have HZ := Lib.hid (HZ.out.next hb3)
  have HB := Lib.hid (bthen HB.out hb3)
  clear hb3 o0 o1 o2 o3 o4 of ol m32 m33 m36 mf
  go_wp2_with fail
  refine (give_any D E1 _ _ _ 19 rd RA RB i w3 HO.out HM.out r0 r1).mono ?_
  rintro e w4 ⟨rfl, hw4⟩
  have hS : Mach w4 w.heap.size { k with x := setR k.x rd D } ∧ E.Five w4 (w.heap.size + 1) 19 rd RA RB i ∧ Mach w4 (w.heap.size + 1 + 1) zeroMc ∧ Below w.heap.size w w4 := by
    by_cases h0 : rd = 0
    · rw [if_pos h0] at hw4
      unfold setR
      rw [if_pos h0]
      subst hw4
      exact ⟨HM.out, HO.out, HZ.out, HB.out⟩
    · rw [if_neg h0] at hw4
      unfold setR
      rw [if_neg h0]
      subst hw4
      exact ⟨HM.out.setX rd.toNat (by omega) D, five_heap HO.out (Below.heap_setCell _ _ _ _ (by simp)) (by have := HO.out.2.2.2.2.2.2; simpa [World.setCell] using this), HZ.out.other _ _ (by simp; omega), HB.out.setCell (p := ⟨w.heap.size, rd.toNat, none⟩) (by simp) _⟩
  obtain ⟨hM4, hO4, hZ4, hB4⟩ := hS
  obtain ⟨X4, hX4⟩ : ∃ X4, setR k.x rd D = X4 := ⟨_, rfl⟩
  rw [hX4] at hM4
  have HX4 := Lib.hid hX4
  have HM4 := Lib.hid hM4
  have HO4 := Lib.hid hO4
  have HZ4 := Lib.hid hZ4
  have HB4 := Lib.hid hB4
  obtain ⟨o0, o1, o2, o3, o4, of, ol⟩ := hO4
  obtain ⟨-, m32, -, -, -, m36, -, -, mf⟩ := hM4.cells
  try simp only at m32 m36
  rw [HST.out] at m36
  clear hM4 hZ4 hB4 hw4 hX4 HM HO HZ HB
  have HNX := Lib.hid (fun W => next_any 19 rd RA RB i XA XB k.pc W)
  obtain ⟨NP, hNP⟩ : ∃ D, nextI 19 i XA XB k.pc = D := ⟨_, rfl⟩
  rw [hNP] at HNX
  have HNP := Lib.hid hNP
  clear hNP
  go_wp2_with fail
  refine (HNX.out _).mono ?_
  rintro e w5 ⟨rfl, hb5⟩
  have HM5 := Lib.hid (HM4.out.next hb5)
  have HZ5 := Lib.hid (HZ4.out.next hb5)
  have HB5 := Lib.hid (bthen HB4.out hb5)
  clear hb5 o0 o1 o2 o3 o4 of ol m32 m36 mf
  obtain ⟨-, m32, -, -, -, -, -, -, mf⟩ := HM5.out.cells
  try simp only at m32
  have hM6 := Whole.put HM5.out 32 (.int .u64 NP)
  rw [mcells_set32] at hM6
  have HM6 := Lib.hid (show Mach (w5.setCell ⟨w.heap.size, 32, none⟩ (.int .u64 NP)) w.heap.size { k with x := X4, pc := NP } from hM6)
  have HZ6 := Lib.hid (HZ5.out.other ⟨w.heap.size, 32, none⟩ (.int .u64 NP) (by simp; omega))
  have HB6 := Lib.hid (HB5.out.setCell (p := ⟨w.heap.size, 32, none⟩) (by simp) (.int .u64 NP))
  clear hM6
  go_wp2_with (first | (refine load_mach rfl _ rfl _ rfl _ HM6.out ?_) | (refine store_mach rfl _ _ rfl _ _ rfl rfl _ HZ6.out ?_))
  have hR := HZ6.out.row { k with x := X4, pc := NP }
  refine bodyPost_ret (v := .tuple #[.agg (mcells { k with x := X4, pc := NP }), .bool (E1 == 0)]) ?_ rfl ?_
  · exact results_mach_two Tryd.results24 _ _ _ _ _ rfl rfl hR
  · have e : ldN k m 19 rd i RA RB 8 = { k with x := X4, pc := NP } := by
      unfold ldN
      rw [HXA.out, HXB.out, HDD.out, HX4.out, HNP.out]
    rw [e, HXA.out, HEE.out]
    have hb := below_row HB6.out (mcells { k with x := X4, pc := NP }) (B := w.heap.size + 1 + 1) (by omega)
    exact ⟨k.ma, k.ml, k.mc, rfl, HP.out.next hb, hb, fun h => h.next hb⟩
set_option maxRecDepth 100000 in
set_option maxHeartbeats 2000000 in
theorem do_lbu (k : Mc) (m : List M.Pg) (rd i : Int) (RA RB : Nat) (w : World) (hP : Pages w (.slice k.ma k.ml k.mc) m) (hw : Wf m) (hn : m.length * 32 ≤ 140737488355328) (hX : ∀ j, j < 32 → 0 ≤ k.x j ∧ k.x j ≤ 18446744073709551615) (hz : k.x 0 = 0) (hst : k.st = 0) (r0 : 0 ≤ rd) (r1 : rd < 32) (a1 : RA < 32) (b1 : RB < 32) :
    Calls Tryd.prog 24 #[.agg (mcells k), .agg #[.int .i64 20, .int .i64 rd, .int .i64 RA, .int .i64 RB, .int .i64 i]] w (DoPost (ldN k m 20 rd i RA RB 1) m (numErr m (lsAt (k.x RA) i) 1 4 == 0) w) := by
  have HS := Lib.hid (fun W h => do_start k 20 rd RA RB i w W h)
  have m00 := mcells_x k 0 (by omega)
  have HSX := Lib.hid (show (mcells k).setIfInBounds 0 (.int .u64 0) = mcells k by rw [mcells_setX k 0 (by omega) 0, mc_zero hz])
  have HST := Lib.hid hst
  have hat := lsAt_in (k.x RA) i
  have HL := Lib.hid (fun (W' : World) (hb : Below w.heap.size w W') => load_any (lsAt (k.x RA) i) 1 4 (hP.next hb) hw hat.1 hat.2)
  have HP := Lib.hid hP
  clear hX hst hz hP hw hn hat
  go_enter Tryd.func24, Tryd.ntmps24
  go_wp2_with (refine alloc_mach rfl rfl ?_)
  rw [HSX.out]
  obtain ⟨W, hW⟩ : ∃ W, W = (((w.alloc (.cells (mcells k) 26)).alloc (.cells #[.int .i64 20, .int .i64 rd, .int .i64 RA, .int .i64 RB, .int .i64 i] 35)).alloc (.cells (mcells zeroMc) 26)) := ⟨_, rfl⟩
  obtain ⟨HM, HO, HZ, HB⟩ := HS.out W hW
  rw [← hW]
  clear hW HS
  have HM := Lib.hid HM
  have HO := Lib.hid HO
  have HZ := Lib.hid HZ
  have HB := Lib.hid HB
  obtain ⟨o0, o1, o2, o3, o4, of, ol⟩ := HO.out
  obtain ⟨mx, m32, -, -, -, m36, -, -, mf⟩ := HM.out.cells
  have ma := mx RA a1
  have mb := mx RB b1
  try simp only at ma mb m32 m36
  obtain ⟨XA, hXA⟩ : ∃ z, k.x RA = z := ⟨_, rfl⟩
  obtain ⟨XB, hXB⟩ : ∃ z, k.x RB = z := ⟨_, rfl⟩
  rw [hXA] at ma
  rw [hXB] at mb
  have a0 : (0 : Int) ≤ (RA : Int) := Int.natCast_nonneg _
  have b0 : (0 : Int) ≤ (RB : Int) := Int.natCast_nonneg _
  have a32 : (RA : Int) < 32 := by omega
  have b32 : (RB : Int) < 32 := by omega
  have HXA := Lib.hid hXA
  have HXB := Lib.hid hXB
  clear mx hXA hXB
  go_quiet (fail)
  have hd := below_drewN W nq
  have HM := Lib.hid (HM.out.next hd)
  have HO := Lib.hid (HO.out.next hd)
  have HZ := Lib.hid (HZ.out.next hd)
  have HB := Lib.hid (bthen HB.out hd)
  clear hd
  generalize W.drewN nq = V at *
  clear o0 o1 o2 o3 o4 of ol m32 m36 mf ma mb
  obtain ⟨o0, o1, o2, o3, o4, of, ol⟩ := HO.out
  obtain ⟨-, m32, m33, -, -, m36, -, -, mf⟩ := HM.out.cells
  rw [HXA.out] at HL
  obtain ⟨D, hD⟩ : ∃ D, loadV m (lsAt XA i) 1 4 = D := ⟨_, rfl⟩
  obtain ⟨E1, hE1⟩ : ∃ D, numErr m (lsAt XA i) 1 4 = D := ⟨_, rfl⟩
  rw [hD, hE1] at HL
  have HDD := Lib.hid hD
  have HEE := Lib.hid hE1
  have HAT := Lib.hid (show lsAt XA i = IntKind.u64.wrap (XA + IntKind.u64.wrap i) from rfl)
  rw [HAT.out] at HL
  clear hD hE1
  repeat (first | (with_reducible refine xt_exit ?_) | (with_reducible refine xb_hit ?_) | (with_reducible refine xb_skip rfl ?_) | (with_reducible refine xt_norm ?_) | (with_reducible refine xb_norm ?_) | (with_reducible refine xt_ret ?_) | (with_reducible refine xb_ret ?_) | (go_big_may; fail) | go_values | go_skip | go_guarded | go_step | go_upon | go_back)
  refine (HL.out _ HB.out).mono ?_
  rintro e w3 ⟨rfl, hb3⟩
  have HM := Lib.hid (HM.out.next hb3)
  have HO := Lib.hid (HO.out.next hb3)
  have HZ := Lib.hid (HZ.out.next hb3)
  have HB := Lib.hid (bthen HB.out hb3)
  clear hb3 o0 o1 o2 o3 o4 of ol m32 m33 m36 mf
  go_wp2_with fail
  refine (give_any D E1 _ _ _ 20 rd RA RB i w3 HO.out HM.out r0 r1).mono ?_
  rintro e w4 ⟨rfl, hw4⟩
  have hS : Mach w4 w.heap.size { k with x := setR k.x rd D } ∧ E.Five w4 (w.heap.size + 1) 20 rd RA RB i ∧ Mach w4 (w.heap.size + 1 + 1) zeroMc ∧ Below w.heap.size w w4 := by
    by_cases h0 : rd = 0
    · rw [if_pos h0] at hw4
      unfold setR
      rw [if_pos h0]
      subst hw4
      exact ⟨HM.out, HO.out, HZ.out, HB.out⟩
    · rw [if_neg h0] at hw4
      unfold setR
      rw [if_neg h0]
      subst hw4
      exact ⟨HM.out.setX rd.toNat (by omega) D, five_heap HO.out (Below.heap_setCell _ _ _ _ (by simp)) (by have := HO.out.2.2.2.2.2.2; simpa [World.setCell] using this), HZ.out.other _ _ (by simp; omega), HB.out.setCell (p := ⟨w.heap.size, rd.toNat, none⟩) (by simp) _⟩
  obtain ⟨hM4, hO4, hZ4, hB4⟩ := hS
  obtain ⟨X4, hX4⟩ : ∃ X4, setR k.x rd D = X4 := ⟨_, rfl⟩
  rw [hX4] at hM4
  have HX4 := Lib.hid hX4
  have HM4 := Lib.hid hM4
  have HO4 := Lib.hid hO4
  have HZ4 := Lib.hid hZ4
  have HB4 := Lib.hid hB4
  obtain ⟨o0, o1, o2, o3, o4, of, ol⟩ := hO4
  obtain ⟨-, m32, -, -, -, m36, -, -, mf⟩ := hM4.cells
  try simp only at m32 m36
  rw [HST.out] at m36
  clear hM4 hZ4 hB4 hw4 hX4 HM HO HZ HB
  have HNX := Lib.hid (fun W => next_any 20 rd RA RB i XA XB k.pc W)
  obtain ⟨NP, hNP⟩ : ∃ D, nextI 20 i XA XB k.pc = D := ⟨_, rfl⟩
  rw [hNP] at HNX
  have HNP := Lib.hid hNP
  clear hNP
  go_wp2_with fail
  refine (HNX.out _).mono ?_
  rintro e w5 ⟨rfl, hb5⟩
  have HM5 := Lib.hid (HM4.out.next hb5)
  have HZ5 := Lib.hid (HZ4.out.next hb5)
  have HB5 := Lib.hid (bthen HB4.out hb5)
  clear hb5 o0 o1 o2 o3 o4 of ol m32 m36 mf
  obtain ⟨-, m32, -, -, -, -, -, -, mf⟩ := HM5.out.cells
  try simp only at m32
  have hM6 := Whole.put HM5.out 32 (.int .u64 NP)
  rw [mcells_set32] at hM6
  have HM6 := Lib.hid (show Mach (w5.setCell ⟨w.heap.size, 32, none⟩ (.int .u64 NP)) w.heap.size { k with x := X4, pc := NP } from hM6)
  have HZ6 := Lib.hid (HZ5.out.other ⟨w.heap.size, 32, none⟩ (.int .u64 NP) (by simp; omega))
  have HB6 := Lib.hid (HB5.out.setCell (p := ⟨w.heap.size, 32, none⟩) (by simp) (.int .u64 NP))
  clear hM6
  go_wp2_with (first | (refine load_mach rfl _ rfl _ rfl _ HM6.out ?_) | (refine store_mach rfl _ _ rfl _ _ rfl rfl _ HZ6.out ?_))
  have hR := HZ6.out.row { k with x := X4, pc := NP }
  refine bodyPost_ret (v := .tuple #[.agg (mcells { k with x := X4, pc := NP }), .bool (E1 == 0)]) ?_ rfl ?_
  · exact results_mach_two Tryd.results24 _ _ _ _ _ rfl rfl hR
  · have e : ldN k m 20 rd i RA RB 1 = { k with x := X4, pc := NP } := by
      unfold ldN
      rw [HXA.out, HXB.out, HDD.out, HX4.out, HNP.out]
    rw [e, HXA.out, HEE.out]
    have hb := below_row HB6.out (mcells { k with x := X4, pc := NP }) (B := w.heap.size + 1 + 1) (by omega)
    exact ⟨k.ma, k.ml, k.mc, rfl, HP.out.next hb, hb, fun h => h.next hb⟩
set_option maxRecDepth 100000 in
set_option maxHeartbeats 2000000 in
theorem do_sd (k : Mc) (m : List M.Pg) (rd i : Int) (RA RB : Nat) (w : World) (hP : Pages w (.slice k.ma k.ml k.mc) m) (hw : Wf m) (hn : m.length * 32 ≤ 140737488355328) (hX : ∀ j, j < 32 → 0 ≤ k.x j ∧ k.x j ≤ 18446744073709551615) (hz : k.x 0 = 0) (hst : k.st = 0) (r0 : 0 ≤ rd) (r1 : rd < 32) (a1 : RA < 32) (b1 : RB < 32) :
    Calls Tryd.prog 24 #[.agg (mcells k), .agg #[.int .i64 21, .int .i64 rd, .int .i64 RA, .int .i64 RB, .int .i64 i]] w (DoPost (stN k 21 i RA RB) (storeM m (lsAt (k.x RA) i) 8 (k.x RB).toNat) (numErr m (lsAt (k.x RA) i) 8 2 == 0) w) := by
  have HS := Lib.hid (fun W h => do_start k 21 rd RA RB i w W h)
  have m00 := mcells_x k 0 (by omega)
  have HSX := Lib.hid (show (mcells k).setIfInBounds 0 (.int .u64 0) = mcells k by rw [mcells_setX k 0 (by omega) 0, mc_zero hz])
  have HST := Lib.hid hst
  have hat := lsAt_in (k.x RA) i
  have hxb := hX RB b1
  have hxc : ((k.x RB).toNat : Int) = k.x RB := by omega
  have HL := Lib.hid (fun (W' : World) (hb : Below w.heap.size w W') => store_any (lsAt (k.x RA) i) 8 (k.x RB).toNat (hP.next hb) hw hn hat.1 hat.2 (by omega))
  rw [hxc] at HL
  clear hX hst hz hP hw hn hat hxb hxc
  go_enter Tryd.func24, Tryd.ntmps24
  go_wp2_with (refine alloc_mach rfl rfl ?_)
  rw [HSX.out]
  obtain ⟨W, hW⟩ : ∃ W, W = (((w.alloc (.cells (mcells k) 26)).alloc (.cells #[.int .i64 21, .int .i64 rd, .int .i64 RA, .int .i64 RB, .int .i64 i] 35)).alloc (.cells (mcells zeroMc) 26)) := ⟨_, rfl⟩
  obtain ⟨HM, HO, HZ, HB⟩ := HS.out W hW
  rw [← hW]
  clear hW HS
  have HM := Lib.hid HM
  have HO := Lib.hid HO
  have HZ := Lib.hid HZ
  have HB := Lib.hid HB
  obtain ⟨o0, o1, o2, o3, o4, of, ol⟩ := HO.out
  obtain ⟨mx, m32, -, -, -, m36, -, -, mf⟩ := HM.out.cells
  have ma := mx RA a1
  have mb := mx RB b1
  try simp only at ma mb m32 m36
  obtain ⟨XA, hXA⟩ : ∃ z, k.x RA = z := ⟨_, rfl⟩
  obtain ⟨XB, hXB⟩ : ∃ z, k.x RB = z := ⟨_, rfl⟩
  rw [hXA] at ma
  rw [hXB] at mb
  have a0 : (0 : Int) ≤ (RA : Int) := Int.natCast_nonneg _
  have b0 : (0 : Int) ≤ (RB : Int) := Int.natCast_nonneg _
  have a32 : (RA : Int) < 32 := by omega
  have b32 : (RB : Int) < 32 := by omega
  have HXA := Lib.hid hXA
  have HXB := Lib.hid hXB
  clear mx hXA hXB
  go_quiet (fail)
  have hd := below_drewN W nq
  have HM := Lib.hid (HM.out.next hd)
  have HO := Lib.hid (HO.out.next hd)
  have HZ := Lib.hid (HZ.out.next hd)
  have HB := Lib.hid (bthen HB.out hd)
  clear hd
  generalize W.drewN nq = V at *
  clear o0 o1 o2 o3 o4 of ol m32 m36 mf ma mb
  obtain ⟨o0, o1, o2, o3, o4, of, ol⟩ := HO.out
  obtain ⟨-, m32, m33, -, -, m36, -, -, mf⟩ := HM.out.cells
  rw [HXA.out, HXB.out] at HL
  obtain ⟨D, hD⟩ : ∃ D, storeM m (lsAt XA i) 8 XB.toNat = D := ⟨_, rfl⟩
  obtain ⟨E1, hE1⟩ : ∃ D, numErr m (lsAt XA i) 8 2 = D := ⟨_, rfl⟩
  rw [hD, hE1] at HL
  have HDD := Lib.hid hD
  have HEE := Lib.hid hE1
  have HAT := Lib.hid (show lsAt XA i = IntKind.u64.wrap (XA + IntKind.u64.wrap i) from rfl)
  rw [HAT.out] at HL
  clear hD hE1
  repeat (first | (with_reducible refine xt_exit ?_) | (with_reducible refine xb_hit ?_) | (with_reducible refine xb_skip rfl ?_) | (with_reducible refine xt_norm ?_) | (with_reducible refine xb_norm ?_) | (with_reducible refine xt_ret ?_) | (with_reducible refine xb_ret ?_) | (go_big_may; fail) | go_values | go_skip | go_guarded | go_step | go_upon | go_back)
  refine (HL.out _ HB.out).mono ?_
  rintro e w3 ⟨v3, rfl, hown, hb3⟩
  have hp3 := hown.pages
  obtain ⟨A3, c3, rfl⟩ := hp3.slice
  obtain ⟨l3, hl3⟩ : ∃ l, D.length = l := ⟨_, rfl⟩
  rw [hl3] at hp3
  rw [hl3]
  have HP3 := Lib.hid hp3
  have HT3 := Lib.hid (pgTy_owns hown)
  have HM := Lib.hid (HM.out.next hb3)
  have HO := Lib.hid (HO.out.next hb3)
  have HZ := Lib.hid (HZ.out.next hb3)
  have HB := Lib.hid (bthen HB.out hb3)
  clear hb3 hown hp3 hl3 o0 o1 o2 o3 o4 of ol m32 m33 m36 mf
  go_wp2_with fail
  refine (keep_any A3 l3 c3 E1 _ k w3 HM.out).mono ?_
  rintro e w4 ⟨rfl, hw4⟩
  have hM4 : Mach w4 w.heap.size { k with ma := A3, ml := l3, mc := c3 } := by
    have h := Whole.put HM.out 33 (.slice A3 l3 c3)
    rw [mcells_set33] at h
    rw [hw4]; exact h
  have hP4 : Pages w4 (.slice A3 l3 c3) D := by
    rw [hw4]; exact pages_keepM HP3.out HM.out (grownBy_put w3 w.heap.size 33 (.slice A3 l3 c3))
  have hO4 : E.Five w4 (w.heap.size + 1) 21 rd RA RB i := by
    rw [hw4]; exact five_heap HO.out (Below.heap_setCell _ _ _ _ (by simp)) (by have := HO.out.2.2.2.2.2.2; simpa [World.setCell] using this)
  have hZ4 : Mach w4 (w.heap.size + 1 + 1) zeroMc := by rw [hw4]; exact HZ.out.other _ _ (by simp; omega)
  have hB4 : Below w.heap.size w w4 := by rw [hw4]; exact HB.out.setCell (p := ⟨w.heap.size, 33, none⟩) (by simp) _
  have HT4 := Lib.hid (show PgTy w4 A3 by rw [hw4]; exact HT3.out.keepM HM.out (grownBy_put w3 w.heap.size 33 (.slice A3 l3 c3)))
  have HP4 := Lib.hid hP4
  have HM4 := Lib.hid hM4
  have HO4 := Lib.hid hO4
  have HZ4 := Lib.hid hZ4
  have HB4 := Lib.hid hB4
  obtain ⟨o0, o1, o2, o3, o4, of, ol⟩ := hO4
  obtain ⟨-, m32, -, -, -, m36, -, -, mf⟩ := hM4.cells
  try simp only at m32 m36
  rw [HST.out] at m36
  clear hM4 hZ4 hB4 hP4 hw4 HM HO HZ HB HP3
  have HNX := Lib.hid (fun W => next_any 21 rd RA RB i XA XB k.pc W)
  obtain ⟨NP, hNP⟩ : ∃ D, nextI 21 i XA XB k.pc = D := ⟨_, rfl⟩
  rw [hNP] at HNX
  have HNP := Lib.hid hNP
  clear hNP
  go_wp2_with fail
  refine (HNX.out _).mono ?_
  rintro e w5 ⟨rfl, hb5⟩
  have HM5 := Lib.hid (HM4.out.next hb5)
  have HP5 := Lib.hid (HP4.out.next hb5)
  have HT5 := Lib.hid (HT4.out.next hb5)
  have HZ5 := Lib.hid (HZ4.out.next hb5)
  have HB5 := Lib.hid (bthen HB4.out hb5)
  clear hb5 o0 o1 o2 o3 o4 of ol m32 m36 mf
  obtain ⟨-, m32, -, -, -, -, -, -, mf⟩ := HM5.out.cells
  try simp only at m32
  have hM6 := Whole.put HM5.out 32 (.int .u64 NP)
  rw [mcells_set32] at hM6
  have HM6 := Lib.hid (show Mach (w5.setCell ⟨w.heap.size, 32, none⟩ (.int .u64 NP)) w.heap.size { k with ma := A3, ml := l3, mc := c3, pc := NP } from hM6)
  have HZ6 := Lib.hid (HZ5.out.other ⟨w.heap.size, 32, none⟩ (.int .u64 NP) (by simp; omega))
  have HB6 := Lib.hid (HB5.out.setCell (p := ⟨w.heap.size, 32, none⟩) (by simp) (.int .u64 NP))
  have HP6 := Lib.hid (pages_keepM HP5.out HM5.out (grownBy_put w5 w.heap.size 32 (.int .u64 NP)))
  have HT6 := Lib.hid (HT5.out.keepM HM5.out (grownBy_put w5 w.heap.size 32 (.int .u64 NP)))
  clear hM6
  go_wp2_with (first | (refine load_mach rfl _ rfl _ rfl _ HM6.out ?_) | (refine store_mach rfl _ _ rfl _ _ rfl rfl _ HZ6.out ?_))
  have hR := HZ6.out.row { k with ma := A3, ml := l3, mc := c3, pc := NP }
  refine bodyPost_ret (v := .tuple #[.agg (mcells { k with ma := A3, ml := l3, mc := c3, pc := NP }), .bool (E1 == 0)]) ?_ rfl ?_
  · exact results_mach_two Tryd.results24 _ _ _ _ _ rfl rfl hR
  · have hN := HNP.out
    rw [← HXA.out, ← HXB.out] at hN
    have hD := HDD.out
    rw [← HXA.out, ← HXB.out] at hD
    have hE := HEE.out
    rw [← HXA.out] at hE
    rw [hD, hE]
    have e : stN k 21 i RA RB = { k with pc := NP } := by
      unfold stN
      rw [hN]
    rw [e]
    have hb := below_row HB6.out (mcells { k with ma := A3, ml := l3, mc := c3, pc := NP }) (B := w.heap.size + 1 + 1) (by omega)
    exact ⟨A3, l3, c3, rfl, pages_keepM HP6.out HZ6.out (grownBy_row _ _ _), hb, fun _ => HT6.out.keepM HZ6.out (grownBy_row _ _ _)⟩
set_option maxRecDepth 100000 in
set_option maxHeartbeats 2000000 in
theorem do_sb (k : Mc) (m : List M.Pg) (rd i : Int) (RA RB : Nat) (w : World) (hP : Pages w (.slice k.ma k.ml k.mc) m) (hw : Wf m) (hn : m.length * 32 ≤ 140737488355328) (hX : ∀ j, j < 32 → 0 ≤ k.x j ∧ k.x j ≤ 18446744073709551615) (hz : k.x 0 = 0) (hst : k.st = 0) (r0 : 0 ≤ rd) (r1 : rd < 32) (a1 : RA < 32) (b1 : RB < 32) :
    Calls Tryd.prog 24 #[.agg (mcells k), .agg #[.int .i64 22, .int .i64 rd, .int .i64 RA, .int .i64 RB, .int .i64 i]] w (DoPost (stN k 22 i RA RB) (storeM m (lsAt (k.x RA) i) 1 (k.x RB).toNat) (numErr m (lsAt (k.x RA) i) 1 2 == 0) w) := by
  have HS := Lib.hid (fun W h => do_start k 22 rd RA RB i w W h)
  have m00 := mcells_x k 0 (by omega)
  have HSX := Lib.hid (show (mcells k).setIfInBounds 0 (.int .u64 0) = mcells k by rw [mcells_setX k 0 (by omega) 0, mc_zero hz])
  have HST := Lib.hid hst
  have hat := lsAt_in (k.x RA) i
  have hxb := hX RB b1
  have hxc : ((k.x RB).toNat : Int) = k.x RB := by omega
  have HL := Lib.hid (fun (W' : World) (hb : Below w.heap.size w W') => store_any (lsAt (k.x RA) i) 1 (k.x RB).toNat (hP.next hb) hw hn hat.1 hat.2 (by omega))
  rw [hxc] at HL
  clear hX hst hz hP hw hn hat hxb hxc
  go_enter Tryd.func24, Tryd.ntmps24
  go_wp2_with (refine alloc_mach rfl rfl ?_)
  rw [HSX.out]
  obtain ⟨W, hW⟩ : ∃ W, W = (((w.alloc (.cells (mcells k) 26)).alloc (.cells #[.int .i64 22, .int .i64 rd, .int .i64 RA, .int .i64 RB, .int .i64 i] 35)).alloc (.cells (mcells zeroMc) 26)) := ⟨_, rfl⟩
  obtain ⟨HM, HO, HZ, HB⟩ := HS.out W hW
  rw [← hW]
  clear hW HS
  have HM := Lib.hid HM
  have HO := Lib.hid HO
  have HZ := Lib.hid HZ
  have HB := Lib.hid HB
  obtain ⟨o0, o1, o2, o3, o4, of, ol⟩ := HO.out
  obtain ⟨mx, m32, -, -, -, m36, -, -, mf⟩ := HM.out.cells
  have ma := mx RA a1
  have mb := mx RB b1
  try simp only at ma mb m32 m36
  obtain ⟨XA, hXA⟩ : ∃ z, k.x RA = z := ⟨_, rfl⟩
  obtain ⟨XB, hXB⟩ : ∃ z, k.x RB = z := ⟨_, rfl⟩
  rw [hXA] at ma
  rw [hXB] at mb
  have a0 : (0 : Int) ≤ (RA : Int) := Int.natCast_nonneg _
  have b0 : (0 : Int) ≤ (RB : Int) := Int.natCast_nonneg _
  have a32 : (RA : Int) < 32 := by omega
  have b32 : (RB : Int) < 32 := by omega
  have HXA := Lib.hid hXA
  have HXB := Lib.hid hXB
  clear mx hXA hXB
  go_quiet (fail)
  have hd := below_drewN W nq
  have HM := Lib.hid (HM.out.next hd)
  have HO := Lib.hid (HO.out.next hd)
  have HZ := Lib.hid (HZ.out.next hd)
  have HB := Lib.hid (bthen HB.out hd)
  clear hd
  generalize W.drewN nq = V at *
  clear o0 o1 o2 o3 o4 of ol m32 m36 mf ma mb
  obtain ⟨o0, o1, o2, o3, o4, of, ol⟩ := HO.out
  obtain ⟨-, m32, m33, -, -, m36, -, -, mf⟩ := HM.out.cells
  rw [HXA.out, HXB.out] at HL
  obtain ⟨D, hD⟩ : ∃ D, storeM m (lsAt XA i) 1 XB.toNat = D := ⟨_, rfl⟩
  obtain ⟨E1, hE1⟩ : ∃ D, numErr m (lsAt XA i) 1 2 = D := ⟨_, rfl⟩
  rw [hD, hE1] at HL
  have HDD := Lib.hid hD
  have HEE := Lib.hid hE1
  have HAT := Lib.hid (show lsAt XA i = IntKind.u64.wrap (XA + IntKind.u64.wrap i) from rfl)
  rw [HAT.out] at HL
  clear hD hE1
  repeat (first | (with_reducible refine xt_exit ?_) | (with_reducible refine xb_hit ?_) | (with_reducible refine xb_skip rfl ?_) | (with_reducible refine xt_norm ?_) | (with_reducible refine xb_norm ?_) | (with_reducible refine xt_ret ?_) | (with_reducible refine xb_ret ?_) | (go_big_may; fail) | go_values | go_skip | go_guarded | go_step | go_upon | go_back)
  refine (HL.out _ HB.out).mono ?_
  rintro e w3 ⟨v3, rfl, hown, hb3⟩
  have hp3 := hown.pages
  obtain ⟨A3, c3, rfl⟩ := hp3.slice
  obtain ⟨l3, hl3⟩ : ∃ l, D.length = l := ⟨_, rfl⟩
  rw [hl3] at hp3
  rw [hl3]
  have HP3 := Lib.hid hp3
  have HT3 := Lib.hid (pgTy_owns hown)
  have HM := Lib.hid (HM.out.next hb3)
  have HO := Lib.hid (HO.out.next hb3)
  have HZ := Lib.hid (HZ.out.next hb3)
  have HB := Lib.hid (bthen HB.out hb3)
  clear hb3 hown hp3 hl3 o0 o1 o2 o3 o4 of ol m32 m33 m36 mf
  go_wp2_with fail
  refine (keep_any A3 l3 c3 E1 _ k w3 HM.out).mono ?_
  rintro e w4 ⟨rfl, hw4⟩
  have hM4 : Mach w4 w.heap.size { k with ma := A3, ml := l3, mc := c3 } := by
    have h := Whole.put HM.out 33 (.slice A3 l3 c3)
    rw [mcells_set33] at h
    rw [hw4]; exact h
  have hP4 : Pages w4 (.slice A3 l3 c3) D := by
    rw [hw4]; exact pages_keepM HP3.out HM.out (grownBy_put w3 w.heap.size 33 (.slice A3 l3 c3))
  have hO4 : E.Five w4 (w.heap.size + 1) 22 rd RA RB i := by
    rw [hw4]; exact five_heap HO.out (Below.heap_setCell _ _ _ _ (by simp)) (by have := HO.out.2.2.2.2.2.2; simpa [World.setCell] using this)
  have hZ4 : Mach w4 (w.heap.size + 1 + 1) zeroMc := by rw [hw4]; exact HZ.out.other _ _ (by simp; omega)
  have hB4 : Below w.heap.size w w4 := by rw [hw4]; exact HB.out.setCell (p := ⟨w.heap.size, 33, none⟩) (by simp) _
  have HT4 := Lib.hid (show PgTy w4 A3 by rw [hw4]; exact HT3.out.keepM HM.out (grownBy_put w3 w.heap.size 33 (.slice A3 l3 c3)))
  have HP4 := Lib.hid hP4
  have HM4 := Lib.hid hM4
  have HO4 := Lib.hid hO4
  have HZ4 := Lib.hid hZ4
  have HB4 := Lib.hid hB4
  obtain ⟨o0, o1, o2, o3, o4, of, ol⟩ := hO4
  obtain ⟨-, m32, -, -, -, m36, -, -, mf⟩ := hM4.cells
  try simp only at m32 m36
  rw [HST.out] at m36
  clear hM4 hZ4 hB4 hP4 hw4 HM HO HZ HB HP3
  have HNX := Lib.hid (fun W => next_any 22 rd RA RB i XA XB k.pc W)
  obtain ⟨NP, hNP⟩ : ∃ D, nextI 22 i XA XB k.pc = D := ⟨_, rfl⟩
  rw [hNP] at HNX
  have HNP := Lib.hid hNP
  clear hNP
  go_wp2_with fail
  refine (HNX.out _).mono ?_
  rintro e w5 ⟨rfl, hb5⟩
  have HM5 := Lib.hid (HM4.out.next hb5)
  have HP5 := Lib.hid (HP4.out.next hb5)
  have HT5 := Lib.hid (HT4.out.next hb5)
  have HZ5 := Lib.hid (HZ4.out.next hb5)
  have HB5 := Lib.hid (bthen HB4.out hb5)
  clear hb5 o0 o1 o2 o3 o4 of ol m32 m36 mf
  obtain ⟨-, m32, -, -, -, -, -, -, mf⟩ := HM5.out.cells
  try simp only at m32
  have hM6 := Whole.put HM5.out 32 (.int .u64 NP)
  rw [mcells_set32] at hM6
  have HM6 := Lib.hid (show Mach (w5.setCell ⟨w.heap.size, 32, none⟩ (.int .u64 NP)) w.heap.size { k with ma := A3, ml := l3, mc := c3, pc := NP } from hM6)
  have HZ6 := Lib.hid (HZ5.out.other ⟨w.heap.size, 32, none⟩ (.int .u64 NP) (by simp; omega))
  have HB6 := Lib.hid (HB5.out.setCell (p := ⟨w.heap.size, 32, none⟩) (by simp) (.int .u64 NP))
  have HP6 := Lib.hid (pages_keepM HP5.out HM5.out (grownBy_put w5 w.heap.size 32 (.int .u64 NP)))
  have HT6 := Lib.hid (HT5.out.keepM HM5.out (grownBy_put w5 w.heap.size 32 (.int .u64 NP)))
  clear hM6
  go_wp2_with (first | (refine load_mach rfl _ rfl _ rfl _ HM6.out ?_) | (refine store_mach rfl _ _ rfl _ _ rfl rfl _ HZ6.out ?_))
  have hR := HZ6.out.row { k with ma := A3, ml := l3, mc := c3, pc := NP }
  refine bodyPost_ret (v := .tuple #[.agg (mcells { k with ma := A3, ml := l3, mc := c3, pc := NP }), .bool (E1 == 0)]) ?_ rfl ?_
  · exact results_mach_two Tryd.results24 _ _ _ _ _ rfl rfl hR
  · have hN := HNP.out
    rw [← HXA.out, ← HXB.out] at hN
    have hD := HDD.out
    rw [← HXA.out, ← HXB.out] at hD
    have hE := HEE.out
    rw [← HXA.out] at hE
    rw [hD, hE]
    have e : stN k 22 i RA RB = { k with pc := NP } := by
      unfold stN
      rw [hN]
    rw [e]
    have hb := below_row HB6.out (mcells { k with ma := A3, ml := l3, mc := c3, pc := NP }) (B := w.heap.size + 1 + 1) (by omega)
    exact ⟨A3, l3, c3, rfl, pages_keepM HP6.out HZ6.out (grownBy_row _ _ _), hb, fun _ => HT6.out.keepM HZ6.out (grownBy_row _ _ _)⟩
end Go.Proofs.YtclbkdnihhmglaaDoor
