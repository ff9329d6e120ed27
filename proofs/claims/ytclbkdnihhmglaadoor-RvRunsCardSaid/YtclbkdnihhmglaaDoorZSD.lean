/- rv's do: a call of the machine. rv's step: with an instruction that could be done, or not; and fetch where there is none. rv's fetch, where there is no instruction. -/
import Derived.Test.YtclbkdnihhmglaaDoorZSA
import Derived.Test.YtclbkdnihhmglaaDoorZSB
import Derived.Test.YtclbkdnihhmglaaDoorZNE
import Derived.Test.YtclbkdnihhmglaaDoorZNC
namespace Go.Proofs.YtclbkdnihhmglaaDoor
open Go.RowKit

theorem five_row {W : World} {B B' : Nat} {c0 c1 c2 c3 c4 : Int} (h : E.Five W B c0 c1 c2 c3 c4) (cs : Array Value) (hn : B ≠ B') : E.Five (W.setRow B' cs) B c0 c1 c2 c3 c4 :=
  five_heap h (by simp [World.setRow, Array.getElem?_modify, Ne.symm hn]) (by have := h.2.2.2.2.2.2; simpa [World.setRow] using this)
set_option maxRecDepth 100000 in
set_option maxHeartbeats 2000000 in
theorem do_over (k k2 : Mc) (rd i : Int) (RA RB : Nat) (w : World) (hz : k.x 0 = 0) (hst : k2.st = 1) (a1 : RA < 32) (b1 : RB < 32)
    (hC : ∀ W, Calls Tryd.prog 42 #[.agg (mcells k)] W (RetIs (.tuple #[.agg (mcells k2), .bool true]) W)) :
    Calls Tryd.prog 24 #[.agg (mcells k), .agg #[.int .i64 31, .int .i64 rd, .int .i64 RA, .int .i64 RB, .int .i64 i]] w (RetIs (.tuple #[.agg (mcells k2), .bool true]) w) := by
  have HS := Lib.hid (fun W h => do_start k 31 rd RA RB i w W h)
  have m00 := mcells_x k 0 (by omega)
  have HSX := Lib.hid (show (mcells k).setIfInBounds 0 (.int .u64 0) = mcells k by rw [mcells_setX k 0 (by omega) 0, mc_zero hz])
  have HCE := Lib.hid hC
  have HS2 := Lib.hid hst
  clear hst
  clear hC hz
  go_enter Tryd.func24, Tryd.ntmps24
  go_wp2_with (refine alloc_mach rfl rfl ?_)
  rw [HSX.out]
  obtain ⟨W, hW⟩ : ∃ W, W = (((w.alloc (.cells (mcells k) 26)).alloc (.cells #[.int .i64 31, .int .i64 rd, .int .i64 RA, .int .i64 RB, .int .i64 i] 35)).alloc (.cells (mcells zeroMc) 26)) := ⟨_, rfl⟩
  obtain ⟨HM, HO, HZ, HB⟩ := HS.out W hW
  rw [← hW]
  clear hW HS
  have HM := Lib.hid HM
  have HO := Lib.hid HO
  have HZ := Lib.hid HZ
  have HB := Lib.hid HB
  obtain ⟨o0, o1, o2, o3, o4, of, ol⟩ := HO.out
  obtain ⟨mx, m32, -, -, -, m36, -, -, mf⟩ := HM.out.cells
  have ma := mx RA a1
  have mb := mx RB b1
  try simp only at ma mb m32 m36
  obtain ⟨XA, hXA⟩ : ∃ z, k.x RA = z := ⟨_, rfl⟩
  obtain ⟨XB, hXB⟩ : ∃ z, k.x RB = z := ⟨_, rfl⟩
  rw [hXA] at ma
  rw [hXB] at mb
  have a0 : (0 : Int) ≤ (RA : Int) := Int.natCast_nonneg _
  have b0 : (0 : Int) ≤ (RB : Int) := Int.natCast_nonneg _
  have a32 : (RA : Int) < 32 := by omega
  have b32 : (RB : Int) < 32 := by omega
  clear mx hXA hXB
  go_quiet (fail)
  have hd := below_drewN W nq
  have HM := Lib.hid (HM.out.next hd)
  have HO := Lib.hid (HO.out.next hd)
  have HZ := Lib.hid (HZ.out.next hd)
  have HB := Lib.hid (bthen HB.out hd)
  clear hd
  generalize W.drewN nq = V at *
  clear o0 o1 o2 o3 o4 of ol m32 m36 mf ma mb
  obtain ⟨o0, o1, o2, o3, o4, of, ol⟩ := HO.out
  repeat (first | (with_reducible refine xt_exit ?_) | (with_reducible refine xb_hit ?_) | (with_reducible refine xb_skip rfl ?_) | (with_reducible refine xt_norm ?_) | (with_reducible refine xb_norm ?_) | (with_reducible refine xt_ret ?_) | (with_reducible refine xb_ret ?_) | (go_big_may; (refine load_mach rfl _ rfl _ rfl _ HM.out ?_)) | go_values | go_skip | go_guarded | go_step | go_upon | go_back)
  refine (HCE.out _).mono ?_
  rintro e w3 ⟨rfl, hb3⟩
  have HM := Lib.hid (HM.out.next hb3)
  have HZ := Lib.hid (HZ.out.next hb3)
  have HB := Lib.hid (bthen HB.out hb3)
  clear hb3 o0 o1 o2 o3 o4 of ol
  have HM6 := Lib.hid (HM.out.row k2)
  have HZ6 := Lib.hid (HZ.out.rowOther (B' := w.heap.size) (mcells k2) (by omega))
  have HB6 := Lib.hid (below_row HB.out (mcells k2) (Nat.le_refl _))
  have m36 := HM6.out.cells.2.2.2.2.2.1
  rw [HS2.out] at m36
  go_wp2_with (first | (refine load_mach rfl _ rfl _ rfl _ HM6.out ?_) | (refine store_mach rfl _ _ rfl _ k2 rfl rfl _ HZ6.out ?_) | (refine store_mach rfl _ _ rfl _ k2 rfl rfl _ HM.out ?_))
  exact bodyPost_ret (results_mach_two Tryd.results24 _ _ _ _ _ rfl rfl (HZ6.out.row k2)) rfl ⟨rfl, below_row HB6.out _ (by omega)⟩
set_option maxRecDepth 100000 in
set_option maxHeartbeats 2000000 in
theorem do_went (k k2 : Mc) (rd i : Int) (RA RB : Nat) (w : World) (hz : k.x 0 = 0) (hst : k2.st = 0) (a1 : RA < 32) (b1 : RB < 32)
    (hC : ∀ W, Calls Tryd.prog 42 #[.agg (mcells k)] W (RetIs (.tuple #[.agg (mcells k2), .bool true]) W)) :
    Calls Tryd.prog 24 #[.agg (mcells k), .agg #[.int .i64 31, .int .i64 rd, .int .i64 RA, .int .i64 RB, .int .i64 i]] w (RetIs (.tuple #[.agg (mcells { k2 with pc := nextI 31 i (k.x RA) (k.x RB) k2.pc }), .bool true]) w) := by
  have HS := Lib.hid (fun W h => do_start k 31 rd RA RB i w W h)
  have m00 := mcells_x k 0 (by omega)
  have HSX := Lib.hid (show (mcells k).setIfInBounds 0 (.int .u64 0) = mcells k by rw [mcells_setX k 0 (by omega) 0, mc_zero hz])
  have HCE := Lib.hid hC
  have HS2 := Lib.hid hst
  clear hst
  clear hC hz
  go_enter Tryd.func24, Tryd.ntmps24
  go_wp2_with (refine alloc_mach rfl rfl ?_)
  rw [HSX.out]
  obtain ⟨W, hW⟩ : ∃ W, W = (((w.alloc (.cells (mcells k) 26)).alloc (.cells #[.int .i64 31, .int .i64 rd, .int .i64 RA, .int .i64 RB, .int .i64 i] 35)).alloc (.cells (mcells zeroMc) 26)) := ⟨_, rfl⟩
  obtain ⟨HM, HO, HZ, HB⟩ := HS.out W hW
  rw [← hW]
  clear hW HS
  have HM := Lib.hid HM
  have HO := Lib.hid HO
  have HZ := Lib.hid HZ
  have HB := Lib.hid HB
  obtain ⟨o0, o1, o2, o3, o4, of, ol⟩ := HO.out
  obtain ⟨mx, m32, -, -, -, m36, -, -, mf⟩ := HM.out.cells
  have ma := mx RA a1
  have mb := mx RB b1
  try simp only at ma mb m32 m36
  obtain ⟨XA, hXA⟩ : ∃ z, k.x RA = z := ⟨_, rfl⟩
  obtain ⟨XB, hXB⟩ : ∃ z, k.x RB = z := ⟨_, rfl⟩
  rw [hXA] at ma
  rw [hXB] at mb
  have a0 : (0 : Int) ≤ (RA : Int) := Int.natCast_nonneg _
  have b0 : (0 : Int) ≤ (RB : Int) := Int.natCast_nonneg _
  have a32 : (RA : Int) < 32 := by omega
  have b32 : (RB : Int) < 32 := by omega
  clear mx
  go_quiet (fail)
  have hd := below_drewN W nq
  have HM := Lib.hid (HM.out.next hd)
  have HO := Lib.hid (HO.out.next hd)
  have HZ := Lib.hid (HZ.out.next hd)
  have HB := Lib.hid (bthen HB.out hd)
  clear hd
  generalize W.drewN nq = V at *
  clear o0 o1 o2 o3 o4 of ol m32 m36 mf ma mb
  obtain ⟨o0, o1, o2, o3, o4, of, ol⟩ := HO.out
  repeat (first | (with_reducible refine xt_exit ?_) | (with_reducible refine xb_hit ?_) | (with_reducible refine xb_skip rfl ?_) | (with_reducible refine xt_norm ?_) | (with_reducible refine xb_norm ?_) | (with_reducible refine xt_ret ?_) | (with_reducible refine xb_ret ?_) | (go_big_may; (refine load_mach rfl _ rfl _ rfl _ HM.out ?_)) | go_values | go_skip | go_guarded | go_step | go_upon | go_back)
  refine (HCE.out _).mono ?_
  rintro e w3 ⟨rfl, hb3⟩
  have HM := Lib.hid (HM.out.next hb3)
  have HZ := Lib.hid (HZ.out.next hb3)
  have HB := Lib.hid (bthen HB.out hb3)
  have HO := Lib.hid (HO.out.next hb3)
  clear hb3 o0 o1 o2 o3 o4 of ol
  have HM6 := Lib.hid (HM.out.row k2)
  have HZ6 := Lib.hid (HZ.out.rowOther (B' := w.heap.size) (mcells k2) (by omega))
  have HO6 := Lib.hid (five_row HO.out (mcells k2) (B' := w.heap.size) (by omega))
  have HB6 := Lib.hid (below_row HB.out (mcells k2) (Nat.le_refl _))
  obtain ⟨-, m32, -, -, -, m36, -, -, mf⟩ := HM6.out.cells
  rw [HS2.out] at m36
  obtain ⟨o0, o1, o2, o3, o4, of, ol⟩ := HO6.out
  have HXA := Lib.hid hXA
  have HXB := Lib.hid hXB
  have HNX := Lib.hid (fun W => next_any 31 rd RA RB i XA XB k2.pc W)
  obtain ⟨NP, hNP⟩ : ∃ D, nextI 31 i XA XB k2.pc = D := ⟨_, rfl⟩
  rw [hNP] at HNX
  have HNP := Lib.hid hNP
  clear hNP hXA hXB
  go_wp2_with (first | (refine load_mach rfl _ rfl _ rfl _ HM6.out ?_) | (refine store_mach rfl _ _ rfl _ k2 rfl rfl _ HM.out ?_))
  refine (HNX.out _).mono ?_
  rintro e w5 ⟨rfl, hb5⟩
  have HM5 := Lib.hid (HM6.out.next hb5)
  have HZ5 := Lib.hid (HZ6.out.next hb5)
  have HB5 := Lib.hid (bthen HB6.out hb5)
  clear hb5 o0 o1 o2 o3 o4 of ol m32 m36 mf
  obtain ⟨-, m32, -, -, -, -, -, -, mf⟩ := HM5.out.cells
  have hM7 := Whole.put HM5.out 32 (.int .u64 NP)
  rw [mcells_set32] at hM7
  have HM7 := Lib.hid (show Mach (w5.setCell ⟨w.heap.size, 32, none⟩ (.int .u64 NP)) w.heap.size { k2 with pc := NP } from hM7)
  have HZ7 := Lib.hid (HZ5.out.other ⟨w.heap.size, 32, none⟩ (.int .u64 NP) (by simp; omega))
  have HB7 := Lib.hid (HB5.out.setCell (p := ⟨w.heap.size, 32, none⟩) (by simp) (.int .u64 NP))
  clear hM7
  go_wp2_with (first | (refine load_mach rfl _ rfl _ rfl _ HM7.out ?_) | (refine store_mach rfl _ _ rfl _ _ rfl rfl _ HZ7.out ?_))
  have hN := HNP.out
  rw [← HXA.out, ← HXB.out] at hN
  rw [hN]
  exact bodyPost_ret (results_mach_two Tryd.results24 _ _ _ _ _ rfl rfl (HZ7.out.row { k2 with pc := NP })) rfl ⟨rfl, below_row HB7.out _ (by omega)⟩
set_option maxRecDepth 100000 in
set_option maxHeartbeats 2000000 in
theorem do_not (k k2 : Mc) (rd i : Int) (RA RB : Nat) (w : World) (hz : k.x 0 = 0) (hst : k2.st = 0) (a1 : RA < 32) (b1 : RB < 32)
    (hC : ∀ W, Calls Tryd.prog 42 #[.agg (mcells k)] W (RetIs (.tuple #[.agg (mcells k2), .bool false]) W)) :
    Calls Tryd.prog 24 #[.agg (mcells k), .agg #[.int .i64 31, .int .i64 rd, .int .i64 RA, .int .i64 RB, .int .i64 i]] w (RetIs (.tuple #[.agg (mcells { k2 with pc := nextI 31 i (k.x RA) (k.x RB) k2.pc }), .bool false]) w) := by
  have HS := Lib.hid (fun W h => do_start k 31 rd RA RB i w W h)
  have m00 := mcells_x k 0 (by omega)
  have HSX := Lib.hid (show (mcells k).setIfInBounds 0 (.int .u64 0) = mcells k by rw [mcells_setX k 0 (by omega) 0, mc_zero hz])
  have HCE := Lib.hid hC
  have HS2 := Lib.hid hst
  clear hst
  clear hC hz
  go_enter Tryd.func24, Tryd.ntmps24
  go_wp2_with (refine alloc_mach rfl rfl ?_)
  rw [HSX.out]
  obtain ⟨W, hW⟩ : ∃ W, W = (((w.alloc (.cells (mcells k) 26)).alloc (.cells #[.int .i64 31, .int .i64 rd, .int .i64 RA, .int .i64 RB, .int .i64 i] 35)).alloc (.cells (mcells zeroMc) 26)) := ⟨_, rfl⟩
  obtain ⟨HM, HO, HZ, HB⟩ := HS.out W hW
  rw [← hW]
  clear hW HS
  have HM := Lib.hid HM
  have HO := Lib.hid HO
  have HZ := Lib.hid HZ
  have HB := Lib.hid HB
  obtain ⟨o0, o1, o2, o3, o4, of, ol⟩ := HO.out
  obtain ⟨mx, m32, -, -, -, m36, -, -, mf⟩ := HM.out.cells
  have ma := mx RA a1
  have mb := mx RB b1
  try simp only at ma mb m32 m36
  obtain ⟨XA, hXA⟩ : ∃ z, k.x RA = z := ⟨_, rfl⟩
  obtain ⟨XB, hXB⟩ : ∃ z, k.x RB = z := ⟨_, rfl⟩
  rw [hXA] at ma
  rw [hXB] at mb
  have a0 : (0 : Int) ≤ (RA : Int) := Int.natCast_nonneg _
  have b0 : (0 : Int) ≤ (RB : Int) := Int.natCast_nonneg _
  have a32 : (RA : Int) < 32 := by omega
  have b32 : (RB : Int) < 32 := by omega
  clear mx
  go_quiet (fail)
  have hd := below_drewN W nq
  have HM := Lib.hid (HM.out.next hd)
  have HO := Lib.hid (HO.out.next hd)
  have HZ := Lib.hid (HZ.out.next hd)
  have HB := Lib.hid (bthen HB.out hd)
  clear hd
  generalize W.drewN nq = V at *
  clear o0 o1 o2 o3 o4 of ol m32 m36 mf ma mb
  obtain ⟨o0, o1, o2, o3, o4, of, ol⟩ := HO.out
  repeat (first | (with_reducible refine xt_exit ?_) | (with_reducible refine xb_hit ?_) | (with_reducible refine xb_skip rfl ?_) | (with_reducible refine xt_norm ?_) | (with_reducible refine xb_norm ?_) | (with_reducible refine xt_ret ?_) | (with_reducible refine xb_ret ?_) | (go_big_may; (refine load_mach rfl _ rfl _ rfl _ HM.out ?_)) | go_values | go_skip | go_guarded | go_step | go_upon | go_back)
  refine (HCE.out _).mono ?_
  rintro e w3 ⟨rfl, hb3⟩
  have HM := Lib.hid (HM.out.next hb3)
  have HZ := Lib.hid (HZ.out.next hb3)
  have HB := Lib.hid (bthen HB.out hb3)
  have HO := Lib.hid (HO.out.next hb3)
  clear hb3 o0 o1 o2 o3 o4 of ol
  have HM6 := Lib.hid (HM.out.row k2)
  have HZ6 := Lib.hid (HZ.out.rowOther (B' := w.heap.size) (mcells k2) (by omega))
  have HO6 := Lib.hid (five_row HO.out (mcells k2) (B' := w.heap.size) (by omega))
  have HB6 := Lib.hid (below_row HB.out (mcells k2) (Nat.le_refl _))
  obtain ⟨-, m32, -, -, -, m36, -, -, mf⟩ := HM6.out.cells
  rw [HS2.out] at m36
  obtain ⟨o0, o1, o2, o3, o4, of, ol⟩ := HO6.out
  have HXA := Lib.hid hXA
  have HXB := Lib.hid hXB
  have HNX := Lib.hid (fun W => next_any 31 rd RA RB i XA XB k2.pc W)
  obtain ⟨NP, hNP⟩ : ∃ D, nextI 31 i XA XB k2.pc = D := ⟨_, rfl⟩
  rw [hNP] at HNX
  have HNP := Lib.hid hNP
  clear hNP hXA hXB
  go_wp2_with (first | (refine load_mach rfl _ rfl _ rfl _ HM6.out ?_) | (refine store_mach rfl _ _ rfl _ k2 rfl rfl _ HM.out ?_))
  refine (HNX.out _).mono ?_
  rintro e w5 ⟨rfl, hb5⟩
  have HM5 := Lib.hid (HM6.out.next hb5)
  have HZ5 := Lib.hid (HZ6.out.next hb5)
  have HB5 := Lib.hid (bthen HB6.out hb5)
  clear hb5 o0 o1 o2 o3 o4 of ol m32 m36 mf
  obtain ⟨-, m32, -, -, -, -, -, -, mf⟩ := HM5.out.cells
  have hM7 := Whole.put HM5.out 32 (.int .u64 NP)
  rw [mcells_set32] at hM7
  have HM7 := Lib.hid (show Mach (w5.setCell ⟨w.heap.size, 32, none⟩ (.int .u64 NP)) w.heap.size { k2 with pc := NP } from hM7)
  have HZ7 := Lib.hid (HZ5.out.other ⟨w.heap.size, 32, none⟩ (.int .u64 NP) (by simp; omega))
  have HB7 := Lib.hid (HB5.out.setCell (p := ⟨w.heap.size, 32, none⟩) (by simp) (.int .u64 NP))
  clear hM7
  go_wp2_with (first | (refine load_mach rfl _ rfl _ rfl _ HM7.out ?_) | (refine store_mach rfl _ _ rfl _ _ rfl rfl _ HZ7.out ?_))
  have hN := HNP.out
  rw [← HXA.out, ← HXB.out] at hN
  rw [hN]
  exact bodyPost_ret (results_mach_two Tryd.results24 _ _ _ _ _ rfl rfl (HZ7.out.row { k2 with pc := NP })) rfl ⟨rfl, below_row HB7.out _ (by omega)⟩
end Go.Proofs.YtclbkdnihhmglaaDoor

namespace Go.Proofs.YtclbkdnihhmglaaDoor
open Go.RowKit

/-- step's answer: a machine and its pages -/
def StepPost (K : Mc) (m : List M.Pg) (w : World) (e : Ending) (w' : World) : Prop :=
  ∃ A l c, e = .returned (.agg (mcells { K with ma := A, ml := l, mc := c })) ∧ Pages w' (.slice A l c) m ∧ Below w.heap.size w w'
/-- and its pages lie in a block of pages, if they did -/
def StepPostT (K : Mc) (m : List M.Pg) (w : World) (e : Ending) (w' : World) : Prop :=
  ∃ A l c, e = .returned (.agg (mcells { K with ma := A, ml := l, mc := c })) ∧ Pages w' (.slice A l c) m ∧ Below w.heap.size w w' ∧ (PgTy w K.ma → PgTy w' A)
theorem doPost_of {K : Mc} {m : List M.Pg} {d : Bool} {w : World} {e : Ending} {w' : World} (hP : Pages w (.slice K.ma K.ml K.mc) m) (h : RetIs (.tuple #[.agg (mcells K), .bool d]) w e w') : DoPost K m d w e w' :=
  ⟨K.ma, K.ml, K.mc, h.1, hP.next h.2, h.2, fun t => t.next h.2⟩
theorem stepPost_of {K : Mc} {m : List M.Pg} {w : World} {e : Ending} {w' : World} (hP : Pages w (.slice K.ma K.ml K.mc) m) (h : RetIs (.agg (mcells K)) w e w') : StepPostT K m w e w' :=
  ⟨K.ma, K.ml, K.mc, h.1, hP.next h.2, h.2, fun t => t.next h.2⟩
/-- a machine that did what may not be -/
def trapM (k : Mc) : Mc := { tickM k with st := 2 }
set_option maxRecDepth 100000 in
set_option maxHeartbeats 2000000 in
theorem step_done2 (k K : Mc) (m : List M.Pg) (kd rd ra rb i : Int) (w : World) (hst : k.st = 0)
    (hF : ∀ W, Below w.heap.size w W → Calls Tryd.prog 23 #[.agg (mcells (tickM k))] W fun e w' => e = .returned (.tuple #[.agg #[.int .i64 kd, .int .i64 rd, .int .i64 ra, .int .i64 rb, .int .i64 i], .bool true]) ∧ Below W.heap.size W w')
    (hD : ∀ W, Below w.heap.size w W → Calls Tryd.prog 24 #[.agg (mcells (tickM k)), .agg #[.int .i64 kd, .int .i64 rd, .int .i64 ra, .int .i64 rb, .int .i64 i]] W (DoPost K m true W)) :
    Calls Tryd.prog 15 #[.agg (mcells k)] w (StepPostT K m w) := by
  have HS := Lib.hid (fun W h => call_start k w W h)
  have HF := Lib.hid hF
  have HD := Lib.hid hD
  have HST := Lib.hid hst
  clear hF hD hst
  go_enter Tryd.func15, Tryd.ntmps15
  go_wp2_with (first
    | (refine load_mach rfl _ rfl _ rfl _ HM2.out ?_)
    | (
    refine alloc_mach rfl rfl ?_
    obtain ⟨W, hW⟩ : ∃ W, W = ((w.alloc (.cells (mcells k) 26)).alloc (.cells (mcells zeroMc) 26)) := ⟨_, rfl⟩
    obtain ⟨hM, hZ, hB⟩ := HS.out W hW
    rw [← hW]
    clear hW HS
    have z1 : w.heap.size + 1 < W.heap.size := hZ.lt
    obtain ⟨mx, m32, m33, m34, m35, m36, m37, m38, mf⟩ := hM.cells
    rw [HST.out] at m36
    have h1 := Whole.put hM 38 (.int .u64 (IntKind.u64.wrap (k.n + 1)))
    rw [mcells_set38] at h1
    have HM2 := Lib.hid (show Mach (W.setCell ⟨w.heap.size, 38, none⟩ (.int .u64 (IntKind.u64.wrap (k.n + 1)))) w.heap.size (tickM k) from h1)
    have HZ2 := Lib.hid (hZ.other ⟨w.heap.size, 38, none⟩ (.int .u64 (IntKind.u64.wrap (k.n + 1))) (by simp))
    have HB2 := Lib.hid (hB.setCell (p := ⟨w.heap.size, 38, none⟩) (by simp) (.int .u64 (IntKind.u64.wrap (k.n + 1))))
    clear hM hZ hB mx h1 m32 m33 m34 m35 m37))
  refine (HF.out _ HB2.out).mono ?_
  rintro e w3 ⟨rfl, hb3⟩
  have HM3 := Lib.hid ((HM2.out.next hb3).alloc (.cells #[.int .i64 kd, .int .i64 rd, .int .i64 ra, .int .i64 rb, .int .i64 i] 35))
  have HZ3 := Lib.hid ((HZ2.out.next hb3).alloc (.cells #[.int .i64 kd, .int .i64 rd, .int .i64 ra, .int .i64 rb, .int .i64 i] 35))
  have HB3 := Lib.hid (balloc (bthen HB2.out hb3) (.cells #[.int .i64 kd, .int .i64 rd, .int .i64 ra, .int .i64 rb, .int .i64 i] 35))
  clear hb3 m36 m38 mf z1
  go_wp2_with (refine load_mach rfl _ rfl _ rfl _ HM3.out ?_)
  refine (HD.out _ HB3.out).mono ?_
  rintro e w5 ⟨A, l, c, rfl, hp5, hb5, ht5⟩
  obtain ⟨k2, hk2⟩ : ∃ k2, { K with ma := A, ml := l, mc := c } = k2 := ⟨_, rfl⟩
  rw [hk2]
  have HK2 := Lib.hid hk2
  clear hk2
  have HZ5 := Lib.hid (HZ3.out.next hb5)
  have HB5 := Lib.hid (bthen HB3.out hb5)
  have z5 : w.heap.size + 1 < w5.heap.size := HZ5.out.lt
  have HU := Lib.hid (Mach.new w5 zeroMc)
  have HU2 := Lib.hid (HU.out.row k2)
  have HZ6 := Lib.hid ((HZ5.out.alloc (.cells (mcells zeroMc) 26)).rowOther (B' := w5.heap.size) (mcells k2) (by omega))
  have HB6 := Lib.hid (below_row (balloc HB5.out (.cells (mcells zeroMc) 26)) (B := w5.heap.size) (mcells k2) (by omega))
  have HP6 := Lib.hid (pages_keepM (pages_keepM (hp5.next (balloc (Below.refl _ _) (.cells (mcells zeroMc) 26))) HU.out (grownBy_row _ _ (mcells k2))) HZ6.out (grownBy_row _ _ (mcells k2)))
  have HT6 := Lib.hid (fun (t : PgTy w K.ma) => ((((ht5 (t.next HB3.out)).next (balloc (Below.refl _ _) (.cells (mcells zeroMc) 26))).keepM HU.out (grownBy_row _ _ (mcells k2))).keepM HZ6.out (grownBy_row _ _ (mcells k2))))
  clear hb5 hp5 ht5
  go_wp2_with (first
    | (refine alloc_mach rfl rfl ?_)
    | (refine load_mach rfl _ rfl _ rfl _ HU2.out ?_)
    | (refine store_mach rfl _ _ rfl _ _ rfl rfl _ HU.out ?_)
    | (refine store_mach rfl _ _ rfl _ _ rfl rfl _ HZ6.out ?_))
  exact bodyPost_ret (results_mach Tryd.results15 _ _ _ _ rfl (HZ6.out.row k2)) rfl ⟨A, l, c, by rw [HK2.out], HP6.out, below_row HB6.out _ (by omega), HT6.out⟩
set_option maxRecDepth 100000 in
set_option maxHeartbeats 2000000 in
theorem step_not (k K : Mc) (m m2 : List M.Pg) (kd rd ra rb i : Int) (w : World) (hst : k.st = 0)
    (hF : ∀ W, Below w.heap.size w W → Calls Tryd.prog 23 #[.agg (mcells (tickM k))] W fun e w' => e = .returned (.tuple #[.agg #[.int .i64 kd, .int .i64 rd, .int .i64 ra, .int .i64 rb, .int .i64 i], .bool true]) ∧ Below W.heap.size W w')
    (hD : ∀ W, Below w.heap.size w W → Calls Tryd.prog 24 #[.agg (mcells (tickM k)), .agg #[.int .i64 kd, .int .i64 rd, .int .i64 ra, .int .i64 rb, .int .i64 i]] W (DoPost K m2 false W))
    (hP : Pages w (.slice k.ma k.ml k.mc) m) :
    Calls Tryd.prog 15 #[.agg (mcells k)] w (StepPostT (trapM k) m w) := by
  have HS := Lib.hid (fun W h => call_start k w W h)
  have HF := Lib.hid hF
  have HD := Lib.hid hD
  have HST := Lib.hid hst
  have HP := Lib.hid hP
  clear hF hD hst hP
  go_enter Tryd.func15, Tryd.ntmps15
  go_wp2_with (first
    | (refine load_mach rfl _ rfl _ rfl _ HM2.out ?_)
    | (
    refine alloc_mach rfl rfl ?_
    obtain ⟨W, hW⟩ : ∃ W, W = ((w.alloc (.cells (mcells k) 26)).alloc (.cells (mcells zeroMc) 26)) := ⟨_, rfl⟩
    obtain ⟨hM, hZ, hB⟩ := HS.out W hW
    rw [← hW]
    clear hW HS
    have z1 : w.heap.size + 1 < W.heap.size := hZ.lt
    obtain ⟨mx, m32, m33, m34, m35, m36, m37, m38, mf⟩ := hM.cells
    rw [HST.out] at m36
    have h1 := Whole.put hM 38 (.int .u64 (IntKind.u64.wrap (k.n + 1)))
    rw [mcells_set38] at h1
    have HM2 := Lib.hid (show Mach (W.setCell ⟨w.heap.size, 38, none⟩ (.int .u64 (IntKind.u64.wrap (k.n + 1)))) w.heap.size (tickM k) from h1)
    have HZ2 := Lib.hid (hZ.other ⟨w.heap.size, 38, none⟩ (.int .u64 (IntKind.u64.wrap (k.n + 1))) (by simp))
    have HB2 := Lib.hid (hB.setCell (p := ⟨w.heap.size, 38, none⟩) (by simp) (.int .u64 (IntKind.u64.wrap (k.n + 1))))
    clear hM hZ hB mx h1 m32 m33 m34 m35 m37))
  refine (HF.out _ HB2.out).mono ?_
  rintro e w3 ⟨rfl, hb3⟩
  have HM3 := Lib.hid ((HM2.out.next hb3).alloc (.cells #[.int .i64 kd, .int .i64 rd, .int .i64 ra, .int .i64 rb, .int .i64 i] 35))
  have HZ3 := Lib.hid ((HZ2.out.next hb3).alloc (.cells #[.int .i64 kd, .int .i64 rd, .int .i64 ra, .int .i64 rb, .int .i64 i] 35))
  have HB3 := Lib.hid (balloc (bthen HB2.out hb3) (.cells #[.int .i64 kd, .int .i64 rd, .int .i64 ra, .int .i64 rb, .int .i64 i] 35))
  clear hb3 m36 m38 mf z1
  go_wp2_with (refine load_mach rfl _ rfl _ rfl _ HM3.out ?_)
  refine (HD.out _ HB3.out).mono ?_
  rintro e w5 ⟨A, l, c, rfl, -, hb5, -⟩
  obtain ⟨k2, hk2⟩ : ∃ k2, { K with ma := A, ml := l, mc := c } = k2 := ⟨_, rfl⟩
  rw [hk2]
  clear hk2
  have HZ5 := Lib.hid (HZ3.out.next hb5)
  have HB5 := Lib.hid (bthen HB3.out hb5)
  have z5 : w.heap.size + 1 < w5.heap.size := HZ5.out.lt
  have HU := Lib.hid (Mach.new w5 zeroMc)
  have HU2 := Lib.hid (HU.out.row k2)
  have HM5 := Lib.hid (HM3.out.next hb5)
  have HM6 := Lib.hid (((HM5.out.alloc (.cells (mcells zeroMc) 26)).rowOther (B' := w5.heap.size) (mcells k2) (by omega)))
  have HZ6 := Lib.hid ((HZ5.out.alloc (.cells (mcells zeroMc) 26)).rowOther (B' := w5.heap.size) (mcells k2) (by omega))
  have HB6 := Lib.hid (below_row (balloc HB5.out (.cells (mcells zeroMc) 26)) (B := w5.heap.size) (mcells k2) (by omega))
  have HM7 := Lib.hid (show Mach (((w5.alloc (.cells (mcells zeroMc) 26)).setRow w5.heap.size (mcells k2)).setCell ⟨w.heap.size, 36, none⟩ (.int .i64 2)) w.heap.size (trapM k) from by
    have h := Whole.put HM6.out 36 (.int .i64 2)
    rw [mcells_set36] at h
    exact h)
  have HZ7 := Lib.hid (HZ6.out.other ⟨w.heap.size, 36, none⟩ (.int .i64 2) (by simp))
  have HB7 := Lib.hid (HB6.out.setCell (p := ⟨w.heap.size, 36, none⟩) (by simp) (.int .i64 2))
  obtain ⟨-, -, -, -, -, m36, -, -, mf⟩ := HM6.out.cells
  clear hb5
  go_wp2_with (first
    | (refine alloc_mach rfl rfl ?_)
    | (refine load_mach rfl _ rfl _ rfl _ HM7.out ?_)
    | (refine load_mach rfl _ rfl _ rfl _ HU2.out ?_)
    | (refine store_mach rfl _ _ rfl _ _ rfl rfl _ HU.out ?_)
    | (refine store_mach rfl _ _ rfl _ _ rfl rfl _ HZ7.out ?_))
  have hb := below_row HB7.out (mcells (trapM k)) (B := w.heap.size + 1) (by omega)
  exact bodyPost_ret (results_mach Tryd.results15 _ _ _ _ rfl (HZ7.out.row (trapM k))) rfl ⟨k.ma, k.ml, k.mc, rfl, HP.out.next hb, hb, fun t => t.next hb⟩
set_option maxRecDepth 100000 in
set_option maxHeartbeats 2000000 in
theorem step_none (k : Mc) (m : List M.Pg) (w : World) (hst : k.st = 0)
    (hF : ∀ W, Below w.heap.size w W → Calls Tryd.prog 23 #[.agg (mcells (tickM k))] W fun e w' => e = .returned (.tuple #[.agg #[.int .i64 0, .int .i64 0, .int .i64 0, .int .i64 0, .int .i64 0], .bool false]) ∧ Below W.heap.size W w')
    (hP : Pages w (.slice k.ma k.ml k.mc) m) :
    Calls Tryd.prog 15 #[.agg (mcells k)] w (StepPostT (trapM k) m w) := by
  have HS := Lib.hid (fun W h => call_start k w W h)
  have HF := Lib.hid hF
  have HST := Lib.hid hst
  have HP := Lib.hid hP
  clear hF hst hP
  go_enter Tryd.func15, Tryd.ntmps15
  go_wp2_with (first
    | (refine load_mach rfl _ rfl _ rfl _ HM2.out ?_)
    | (
    refine alloc_mach rfl rfl ?_
    obtain ⟨W, hW⟩ : ∃ W, W = ((w.alloc (.cells (mcells k) 26)).alloc (.cells (mcells zeroMc) 26)) := ⟨_, rfl⟩
    obtain ⟨hM, hZ, hB⟩ := HS.out W hW
    rw [← hW]
    clear hW HS
    have z1 : w.heap.size + 1 < W.heap.size := hZ.lt
    obtain ⟨mx, m32, m33, m34, m35, m36, m37, m38, mf⟩ := hM.cells
    rw [HST.out] at m36
    have h1 := Whole.put hM 38 (.int .u64 (IntKind.u64.wrap (k.n + 1)))
    rw [mcells_set38] at h1
    have HM2 := Lib.hid (show Mach (W.setCell ⟨w.heap.size, 38, none⟩ (.int .u64 (IntKind.u64.wrap (k.n + 1)))) w.heap.size (tickM k) from h1)
    have HZ2 := Lib.hid (hZ.other ⟨w.heap.size, 38, none⟩ (.int .u64 (IntKind.u64.wrap (k.n + 1))) (by simp))
    have HB2 := Lib.hid (hB.setCell (p := ⟨w.heap.size, 38, none⟩) (by simp) (.int .u64 (IntKind.u64.wrap (k.n + 1))))
    clear hM hZ hB mx h1 m32 m33 m34 m35 m37))
  refine (HF.out _ HB2.out).mono ?_
  rintro e w3 ⟨rfl, hb3⟩
  have HM3 := Lib.hid ((HM2.out.next hb3).alloc (.cells #[.int .i64 0, .int .i64 0, .int .i64 0, .int .i64 0, .int .i64 0] 35))
  have HZ3 := Lib.hid ((HZ2.out.next hb3).alloc (.cells #[.int .i64 0, .int .i64 0, .int .i64 0, .int .i64 0, .int .i64 0] 35))
  have HB3 := Lib.hid (balloc (bthen HB2.out hb3) (.cells #[.int .i64 0, .int .i64 0, .int .i64 0, .int .i64 0, .int .i64 0] 35))
  have HM6 := HM3
  have HZ6 := HZ3
  have HB6 := HB3
  have HM7 := Lib.hid (show Mach ((w3.alloc (.cells #[.int .i64 0, .int .i64 0, .int .i64 0, .int .i64 0, .int .i64 0] 35)).setCell ⟨w.heap.size, 36, none⟩ (.int .i64 2)) w.heap.size (trapM k) from by
    have h := Whole.put HM6.out 36 (.int .i64 2)
    rw [mcells_set36] at h
    exact h)
  have HZ7 := Lib.hid (HZ6.out.other ⟨w.heap.size, 36, none⟩ (.int .i64 2) (by simp))
  have HB7 := Lib.hid (HB6.out.setCell (p := ⟨w.heap.size, 36, none⟩) (by simp) (.int .i64 2))
  clear hb3 m36 m38 mf
  obtain ⟨-, -, -, -, -, m36, -, -, mf⟩ := HM6.out.cells
  go_wp2_with (first
    | (refine load_mach rfl _ rfl _ rfl _ HM7.out ?_)
    | (refine store_mach rfl _ _ rfl _ _ rfl rfl _ HZ7.out ?_))
  have hb := below_row HB7.out (mcells (trapM k)) (B := w.heap.size + 1) (by omega)
  exact bodyPost_ret (results_mach Tryd.results15 _ _ _ _ rfl (HZ7.out.row (trapM k))) rfl ⟨k.ma, k.ml, k.mc, rfl, HP.out.next hb, hb, fun t => t.next hb⟩
end Go.Proofs.YtclbkdnihhmglaaDoor

namespace Go.Proofs.YtclbkdnihhmglaaDoor
open Go.RowKit

def FetchNo (w : World) (e : Ending) (w' : World) : Prop := e = .returned (.tuple #[.agg #[.int .i64 0, .int .i64 0, .int .i64 0, .int .i64 0, .int .i64 0], .bool false]) ∧ Below w.heap.size w w'
set_option maxRecDepth 100000 in
set_option maxHeartbeats 1000000 in
theorem fetch_odd (k : Mc) {w : World} (p0 : 0 ≤ k.pc) (p1 : k.pc ≤ 18446744073709551615) (h4 : k.pc % 4 ≠ 0) :
    Calls Tryd.prog 23 #[.agg (mcells k)] w (FetchNo w) := by
  have c32 := mcells_32 k
  have m4 : (k.pc.tmod 4 != 0) = true := by rw [Int.tmod_eq_emod_of_nonneg p0]; simpa using h4
  have m5 : (k.pc % 4 != 0) = true := by simpa using h4
  clear h4
  go_enter Tryd.func23, Tryd.ntmps23
  go_wp2_with fail
  refine bodyPost_ret (v := .tuple #[.agg #[.int .i64 0, .int .i64 0, .int .i64 0, .int .i64 0, .int .i64 0], .bool false]) (by simp [results, Tryd.results23, go_sem]) rfl ⟨rfl, balloc (balloc (Below.refl _ w) _) _⟩
set_option maxRecDepth 100000 in
set_option maxHeartbeats 1000000 in
theorem fetch_bad (k : Mc) (m : List M.Pg) {w : World} (hP : Pages w (.slice k.ma k.ml k.mc) m) (hw : Wf m) (p0 : 0 ≤ k.pc) (p1 : k.pc ≤ 18446744073709551615) (h4 : k.pc % 4 = 0) (he : numErr m k.pc 4 1 ≠ 0) :
    Calls Tryd.prog 23 #[.agg (mcells k)] w (FetchNo w) := by
  have HL := Lib.hid (fun (W : World) (hb : Below w.heap.size w W) => load_any k.pc 4 1 (hP.next hb) hw p0 p1)
  have c32 := mcells_32 k
  have c33 := mcells_33 k
  have m4 : (k.pc.tmod 4 != 0) = false := by rw [Int.tmod_eq_emod_of_nonneg p0, h4]; rfl
  have m5 : (k.pc % 4 != 0) = false := by rw [h4]; rfl
  have me : (numErr m k.pc 4 1 != 0) = true := by simpa using he
  have HF0 := E.Five.new (w.alloc (.cells (mcells k) 26)) 0 0 0 0 0
  rw [World.size_alloc] at HF0
  have HF0 := Lib.hid HF0
  clear hP hw he h4
  go_enter Tryd.func23, Tryd.ntmps23
  go_wp2_with fail
  refine (HL.out _ (balloc (balloc (Below.refl _ w) _) _)).mono ?_
  rintro e w2 ⟨rfl, hb2⟩
  have HB2 := Lib.hid (bthen (balloc (balloc (Below.refl _ w) _) _) hb2)
  obtain ⟨c0, c1, c2, c3, c4, cf, cl⟩ := HF0.out.next hb2
  have hz2 : w.heap.size + 1 < w2.heap.size := by have := hb2.size; simp at this; omega
  clear hb2
  go_wp2_with fail
  refine bodyPost_ret (v := .tuple #[.agg #[.int .i64 0, .int .i64 0, .int .i64 0, .int .i64 0, .int .i64 0], .bool false]) (by simp [results, Tryd.results23, go_sem, c0, c1, c2, c3, c4, cl]) rfl ⟨rfl, ?_⟩
  exact (((((HB2.out.setCell (p := ⟨w.heap.size + 1, 0, none⟩) (by simp) _).setCell (p := ⟨w.heap.size + 1, 1, none⟩) (by simp) _).setCell (p := ⟨w.heap.size + 1, 2, none⟩) (by simp) _).setCell (p := ⟨w.heap.size + 1, 3, none⟩) (by simp) _).setCell (p := ⟨w.heap.size + 1, 4, none⟩) (by simp) _)
set_option maxRecDepth 100000 in
set_option maxHeartbeats 1000000 in
theorem fetch_none (k : Mc) (m : List M.Pg) {w : World} (hP : Pages w (.slice k.ma k.ml k.mc) m) (hw : Wf m) (T : E.Tabs w) (p0 : 0 ≤ k.pc) (p1 : k.pc ≤ 18446744073709551615) (h4 : k.pc % 4 = 0) (he : numErr m k.pc 4 1 = 0) (hno : ∀ K : Nat, 1 ≤ K → K < 32 → E.M.okAt (loadV m k.pc 4 1) K = false) (v0 : 0 ≤ loadV m k.pc 4 1) (v1 : loadV m k.pc 4 1 < 4294967296) :
    Calls Tryd.prog 23 #[.agg (mcells k)] w (FetchNo w) := by
  have HL := Lib.hid (fun (W : World) (hb : Below w.heap.size w W) => load_any k.pc 4 1 (hP.next hb) hw p0 p1)
  have HT := Lib.hid (fun (W : World) (hb : Below w.heap.size w W) => E.take_f _ hno W v0 v1 (T.next hb))
  rw [he] at HL
  obtain ⟨V, hV⟩ : ∃ V, loadV m k.pc 4 1 = V := ⟨_, rfl⟩
  rw [hV] at HL HT v0 v1
  have c32 := mcells_32 k
  have c33 := mcells_33 k
  have m4 : (k.pc.tmod 4 != 0) = false := by rw [Int.tmod_eq_emod_of_nonneg p0, h4]; rfl
  have m5 : (k.pc % 4 != 0) = false := by rw [h4]; rfl
  have wv : IntKind.u32.wrap V = V := by rw [IntKind.wrap_u32]; omega
  have HF0 := E.Five.new (w.alloc (.cells (mcells k) 26)) 0 0 0 0 0
  rw [World.size_alloc] at HF0
  have HF0 := Lib.hid HF0
  clear hP hw T hV he hno h4
  go_enter Tryd.func23, Tryd.ntmps23
  go_wp2_with fail
  refine (HL.out _ (balloc (balloc (Below.refl _ w) _) _)).mono ?_
  rintro e w2 ⟨rfl, hb2⟩
  have HB2 := Lib.hid (bthen (balloc (balloc (Below.refl _ w) _) _) hb2)
  have HF2 := Lib.hid (HF0.out.next hb2)
  have hz := HB2.out.size
  have hz2 : w.heap.size + 1 < w2.heap.size := by have := hb2.size; simp at this; omega
  clear hb2
  go_wp2_with fail
  refine (HT.out _ HB2.out).mono ?_
  rintro e w3 ⟨rfl, hb3⟩
  have HB3 := Lib.hid (bthen HB2.out hb3)
  have hz3 : w.heap.size + 1 < w3.heap.size := by have := hb3.size; omega
  obtain ⟨c0, c1, c2, c3, c4, cf, cl⟩ := HF2.out.next hb3
  clear hb3
  go_wp2_with fail
  refine bodyPost_ret (v := .tuple #[.agg #[.int .i64 0, .int .i64 0, .int .i64 0, .int .i64 0, .int .i64 0], .bool false]) (by simp [results, Tryd.results23, go_sem, c0, c1, c2, c3, c4, cl]) rfl ⟨rfl, ?_⟩
  exact balloc (((((HB3.out.setCell (p := ⟨w.heap.size + 1, 0, none⟩) (by simp) _).setCell (p := ⟨w.heap.size + 1, 1, none⟩) (by simp) _).setCell (p := ⟨w.heap.size + 1, 2, none⟩) (by simp) _).setCell (p := ⟨w.heap.size + 1, 3, none⟩) (by simp) _).setCell (p := ⟨w.heap.size + 1, 4, none⟩) (by simp) _) _
end Go.Proofs.YtclbkdnihhmglaaDoor
