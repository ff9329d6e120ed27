/- rv's do: what reckons and goes on at the next place. -/
import Derived.Test.YtclbkdnihhmglaaDoorZNC
import Derived.Deep.QuietTactic
import Derived.BigQuiet
namespace Go.Proofs.YtclbkdnihhmglaaDoor
open Go.RowKit

theorem below_drewN (w : World) (n : Nat) : Below w.heap.size w (w.drewN n) := ⟨rfl, rfl, rfl, Nat.le_refl _, fun _ _ => rfl⟩
theorem five_heap {W W' : World} {B : Nat} {c0 c1 c2 c3 c4 : Int} (h : E.Five W B c0 c1 c2 c3 c4) (e : W'.heap[B]? = W.heap[B]?) (hl : B < W'.heap.size) : E.Five W' B c0 c1 c2 c3 c4 := by
  obtain ⟨h0, h1, h2, h3, h4, hf, -⟩ := h
  have hc : ∀ j, W'.cell? ⟨B, j, none⟩ = W.cell? ⟨B, j, none⟩ := fun j => by unfold World.cell?; simp only [e]
  have hz : ∀ j, W'.frozen? ⟨B, j, none⟩ = W.frozen? ⟨B, j, none⟩ := fun j => by unfold World.frozen?; simp only [e]
  exact ⟨(hc 0).trans h0, (hc 1).trans h1, (hc 2).trans h2, (hc 3).trans h3, (hc 4).trans h4, fun j => (hz j).trans (hf j), hl⟩
/-- what stands in do's first blocks -/
theorem do_start (k : Mc) (kd rd ra rb i : Int) (w W : World) (hW : W = (((w.alloc (.cells (mcells k) 26)).alloc (.cells #[.int .i64 kd, .int .i64 rd, .int .i64 ra, .int .i64 rb, .int .i64 i] 35)).alloc (.cells (mcells zeroMc) 26))) :
    Mach W w.heap.size k ∧ E.Five W (w.heap.size + 1) kd rd ra rb i ∧ Mach W (w.heap.size + 1 + 1) zeroMc ∧ Below w.heap.size w W := by
  subst hW
  have h1 := ((Mach.new w k).alloc (.cells #[.int .i64 kd, .int .i64 rd, .int .i64 ra, .int .i64 rb, .int .i64 i] 35)).alloc (.cells (mcells zeroMc) 26)
  have h2 := E.Five.new (w.alloc (.cells (mcells k) 26)) kd rd ra rb i
  rw [World.size_alloc] at h2
  have h3 := Mach.new ((w.alloc (.cells (mcells k) 26)).alloc (.cells #[.int .i64 kd, .int .i64 rd, .int .i64 ra, .int .i64 rb, .int .i64 i] 35)) zeroMc
  rw [World.size_alloc, World.size_alloc] at h3
  exact ⟨h1, h2.next (balloc (Below.refl _ _) (.cells (mcells zeroMc) 26)), h3, balloc (balloc (balloc (Below.refl _ w) (.cells (mcells k) 26)) (.cells #[.int .i64 kd, .int .i64 rd, .int .i64 ra, .int .i64 rb, .int .i64 i] 35)) (.cells (mcells zeroMc) 26)⟩

def RetIs (v : Value) (w : World) (e : Ending) (w' : World) : Prop := e = .returned v ∧ Below w.heap.size w w'
/-- the machine behind what reckons -/
def aluM (k : Mc) (kd rd i : Int) (RA RB : Nat) : Mc :=
  { k with x := (if rd = 0 then upd k.x 0 0 else upd (upd k.x 0 0) rd.toNat (doesI kd i (upd k.x 0 0 RA) (upd k.x 0 0 RB) k.pc)), pc := nextI kd i (upd k.x 0 0 RA) (upd k.x 0 0 RB) k.pc }
set_option maxRecDepth 100000 in
set_option maxHeartbeats 2000000 in
theorem do_alu (k : Mc) (kd rd i : Int) (RA RB : Nat) (w : World) (hX : ∀ j, j < 32 → 0 ≤ k.x j ∧ k.x j ≤ 18446744073709551615) (hst : k.st = 0) (r0 : 0 ≤ rd) (r1 : rd < 32) (a1 : RA < 32) (b1 : RB < 32)
    (hk : kd ≠ 19 ∧ kd ≠ 20 ∧ kd ≠ 21 ∧ kd ≠ 22 ∧ kd ≠ 31) (hn : ¬ (23 ≤ kd ∧ kd ≤ 26) ∧ kd ≠ 29 ∧ kd ≠ 30) :
    Calls Tryd.prog 24 #[.agg (mcells k), .agg #[.int .i64 kd, .int .i64 rd, .int .i64 RA, .int .i64 RB, .int .i64 i]] w (RetIs (.tuple #[.agg (mcells (aluM k kd rd i RA RB)), .bool true]) w) := by
  have hx : ∀ j, j < 32 → 0 ≤ upd k.x 0 0 j ∧ upd k.x 0 0 j ≤ 18446744073709551615 := fun j hj => by
    unfold upd; split
    · omega
    · exact hX j hj
  obtain ⟨xa0, xa1⟩ := hx RA a1
  obtain ⟨xb0, xb1⟩ := hx RB b1
  have HS := Lib.hid (fun W h => do_start { k with x := upd k.x 0 0 } kd rd RA RB i w W h)
  have m00 := mcells_x k 0 (by omega)
  have HSX := Lib.hid (mcells_setX k 0 (by omega) 0)
  have t19 : (kd == 19) = false := by simp; omega
  have t20 : (kd == 20) = false := by simp; omega
  have t21 : (kd == 21) = false := by simp; omega
  have t22 : (kd == 22) = false := by simp; omega
  have t31 : (kd == 31) = false := by simp; omega
  have HN := Lib.hid hn
  have HST := Lib.hid hst
  clear hX hx hk hn hst
  go_enter Tryd.func24, Tryd.ntmps24
  go_wp2_with (refine alloc_mach rfl rfl ?_)
  rw [HSX.out]
  obtain ⟨W, hW⟩ : ∃ W, W = (((w.alloc (.cells (mcells { k with x := upd k.x 0 0 }) 26)).alloc (.cells #[.int .i64 kd, .int .i64 rd, .int .i64 RA, .int .i64 RB, .int .i64 i] 35)).alloc (.cells (mcells zeroMc) 26)) := ⟨_, rfl⟩
  obtain ⟨HM, HO, HZ, HB⟩ := HS.out W hW
  rw [← hW]
  clear hW HS
  have HM := Lib.hid HM
  have HO := Lib.hid HO
  have HZ := Lib.hid HZ
  have HB := Lib.hid HB
  obtain ⟨k1, hk1⟩ : ∃ k1 : Mc, { k with x := upd k.x 0 0 } = k1 := ⟨_, rfl⟩
  obtain ⟨o0, o1, o2, o3, o4, of, ol⟩ := HO.out
  obtain ⟨mx, m32, -, -, -, m36, -, -, mf⟩ := HM.out.cells
  have ma := mx RA a1
  have mb := mx RB b1
  simp only at ma mb m32 m36
  obtain ⟨XA, hXA⟩ : ∃ z, upd k.x 0 0 RA = z := ⟨_, rfl⟩
  obtain ⟨XB, hXB⟩ : ∃ z, upd k.x 0 0 RB = z := ⟨_, rfl⟩
  rw [hXA] at ma xa0 xa1
  rw [hXB] at mb xb0 xb1
  have a0 : (0 : Int) ≤ (RA : Int) := Int.natCast_nonneg _
  have b0 : (0 : Int) ≤ (RB : Int) := Int.natCast_nonneg _
  have a32 : (RA : Int) < 32 := by omega
  have b32 : (RB : Int) < 32 := by omega
  have HXA := Lib.hid hXA
  have HXB := Lib.hid hXB
  clear mx hXA hXB hk1
  go_quiet (fail)
  have hd := below_drewN W nq
  have HM := Lib.hid (HM.out.next hd)
  have HO := Lib.hid (HO.out.next hd)
  have HZ := Lib.hid (HZ.out.next hd)
  have HB := Lib.hid (bthen HB.out hd)
  clear hd
  generalize W.drewN nq = V at *
  clear o0 o1 o2 o3 o4 of ol m32 m36 mf ma mb
  obtain ⟨o0, o1, o2, o3, o4, of, ol⟩ := HO.out
  obtain ⟨-, m32, -, -, -, m36, -, -, mf⟩ := HM.out.cells
  simp only at m32 m36
  have HD := Lib.hid (fun W => does_any kd rd RA RB i XA XB k.pc W xa0 xa1 xb0 xb1)
  obtain ⟨D, hD⟩ : ∃ D, doesI kd i XA XB k.pc = D := ⟨_, rfl⟩
  rw [hD] at HD
  have HDD := Lib.hid hD
  clear hD
  repeat (first | (with_reducible refine xt_exit ?_) | (with_reducible refine xb_hit ?_) | (with_reducible refine xb_skip rfl ?_) | (with_reducible refine xt_norm ?_) | (with_reducible refine xb_norm ?_) | (with_reducible refine xt_ret ?_) | (with_reducible refine xb_ret ?_) | (go_big_may; fail) | go_values | go_skip | go_guarded | go_step | go_upon | go_back)
  refine (HD.out _).mono ?_
  rintro e w3 ⟨rfl, hb3⟩
  have HM := Lib.hid (HM.out.next hb3)
  have HO := Lib.hid (HO.out.next hb3)
  have HZ := Lib.hid (HZ.out.next hb3)
  have HB := Lib.hid (bthen HB.out hb3)
  clear hb3 o0 o1 o2 o3 o4 of ol m32 m36 mf
  go_wp2_with fail
  refine (give_any D 0 _ _ _ kd rd RA RB i w3 HO.out HM.out r0 r1).mono ?_
  rintro e w4 ⟨rfl, hw4⟩
  have hS : Mach w4 w.heap.size { k with x := (if rd = 0 then upd k.x 0 0 else upd (upd k.x 0 0) rd.toNat D) } ∧ E.Five w4 (w.heap.size + 1) kd rd RA RB i ∧ Mach w4 (w.heap.size + 1 + 1) zeroMc ∧ Below w.heap.size w w4 := by
    by_cases h0 : rd = 0
    · rw [if_pos h0] at hw4 ⊢
      subst hw4
      exact ⟨HM.out, HO.out, HZ.out, HB.out⟩
    · rw [if_neg h0] at hw4 ⊢
      subst hw4
      exact ⟨HM.out.setX rd.toNat (by omega) D, five_heap HO.out (Below.heap_setCell _ _ _ _ (by simp)) (by have := HO.out.2.2.2.2.2.2; simpa [World.setCell] using this), HZ.out.other _ _ (by simp; omega), HB.out.setCell (p := ⟨w.heap.size, rd.toNat, none⟩) (by simp) _⟩
  obtain ⟨hM4, hO4, hZ4, hB4⟩ := hS
  obtain ⟨X4, hX4⟩ : ∃ X4, (if rd = 0 then upd k.x 0 0 else upd (upd k.x 0 0) rd.toNat D) = X4 := ⟨_, rfl⟩
  rw [hX4] at hM4
  have HX4 := Lib.hid hX4
  have HM4 := Lib.hid hM4
  have HO4 := Lib.hid hO4
  have HZ4 := Lib.hid hZ4
  have HB4 := Lib.hid hB4
  obtain ⟨o0, o1, o2, o3, o4, of, ol⟩ := hO4
  obtain ⟨-, m32, -, -, -, m36, -, -, mf⟩ := hM4.cells
  simp only at m32 m36
  rw [HST.out] at m36
  clear hM4 hZ4 hB4 hw4 hX4 HM HO HZ HB
  have HNX := Lib.hid (fun W => next_seq kd rd RA RB i XA XB k.pc W HN.out)
  obtain ⟨NP, hNP⟩ : ∃ D, nextI kd i XA XB k.pc = D := ⟨_, rfl⟩
  rw [hNP] at HNX
  have HNP := Lib.hid hNP
  clear hNP
  go_wp2_with fail
  refine (HNX.out _).mono ?_
  rintro e w5 ⟨rfl, hb5⟩
  have HM5 := Lib.hid (HM4.out.next hb5)
  have HZ5 := Lib.hid (HZ4.out.next hb5)
  have HB5 := Lib.hid (bthen HB4.out hb5)
  clear hb5 o0 o1 o2 o3 o4 of ol m32 m36 mf
  obtain ⟨-, m32, -, -, -, -, -, -, mf⟩ := HM5.out.cells
  simp only at m32
  have hM6 := Whole.put HM5.out 32 (.int .u64 NP)
  rw [mcells_set32] at hM6
  have HM6 := Lib.hid (show Mach (w5.setCell ⟨w.heap.size, 32, none⟩ (.int .u64 NP)) w.heap.size { k with x := X4, pc := NP } from hM6)
  have HZ6 := Lib.hid (HZ5.out.other ⟨w.heap.size, 32, none⟩ (.int .u64 NP) (by simp; omega))
  have HB6 := Lib.hid (HB5.out.setCell (p := ⟨w.heap.size, 32, none⟩) (by simp) (.int .u64 NP))
  clear hM6
  go_wp2_with (first | (refine load_mach rfl _ rfl _ rfl _ HM6.out ?_) | (refine store_mach rfl _ _ rfl _ _ rfl rfl _ HZ6.out ?_))
  have hR := HZ6.out.row { k with x := X4, pc := NP }
  refine bodyPost_ret (v := .tuple #[.agg (mcells { k with x := X4, pc := NP }), .bool true]) ?_ rfl ⟨?_, below_row HB6.out _ (by omega)⟩
  · exact results_mach_two Tryd.results24 _ _ _ _ _ rfl rfl hR
  · have e : aluM k kd rd i RA RB = { k with x := X4, pc := NP } := by
      unfold aluM
      rw [HXA.out, HXB.out, HDD.out, HX4.out, HNP.out]
    rw [e]
end Go.Proofs.YtclbkdnihhmglaaDoor
