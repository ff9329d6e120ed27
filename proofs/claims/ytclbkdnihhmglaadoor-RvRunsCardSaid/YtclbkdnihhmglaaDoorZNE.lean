/- rv's call and do: the machine's end. rv's step, where there is an instruction and it could be done. -/
import Derived.Test.YtclbkdnihhmglaaDoorZND
namespace Go.Proofs.YtclbkdnihhmglaaDoor
open Go.RowKit

theorem call_start (k : Mc) (w W : World) (hW : W = ((w.alloc (.cells (mcells k) 26)).alloc (.cells (mcells zeroMc) 26))) :
    Mach W w.heap.size k ∧ Mach W (w.heap.size + 1) zeroMc ∧ Below w.heap.size w W := by
  subst hW
  have h3 := Mach.new (w.alloc (.cells (mcells k) 26)) zeroMc
  rw [World.size_alloc] at h3
  exact ⟨(Mach.new w k).alloc _, h3, balloc (balloc (Below.refl _ w) _) _⟩
def exitM (k : Mc) : Mc := { k with st := 1, cd := k.x 10 }
set_option maxRecDepth 100000 in
set_option maxHeartbeats 2000000 in
theorem call_exit (k : Mc) (w : World) (h17 : k.x 17 = 93) :
    Calls Tryd.prog 42 #[.agg (mcells k)] w (RetIs (.tuple #[.agg (mcells (exitM k)), .bool true]) w) := by
  have HS := Lib.hid (fun W h => call_start k w W h)
  have H17 := Lib.hid h17
  clear h17
  go_enter Tryd.func42, Tryd.ntmps42
  go_wp2_with (first
    | (refine load_mach rfl _ rfl _ rfl _ HM2.out ?_)
    | (refine store_mach rfl _ _ rfl _ _ rfl rfl _ HZ2.out ?_)
    | (
    refine alloc_mach rfl rfl ?_
    obtain ⟨W, hW⟩ : ∃ W, W = ((w.alloc (.cells (mcells k) 26)).alloc (.cells (mcells zeroMc) 26)) := ⟨_, rfl⟩
    obtain ⟨hM, hZ, hB⟩ := HS.out W hW
    rw [← hW]
    clear hW HS
    have HM := Lib.hid hM
    have HZ := Lib.hid hZ
    have HB := Lib.hid hB
    have z1 : w.heap.size + 1 < W.heap.size := hZ.lt
    obtain ⟨mx, m32, m33, m34, m35, m36, m37, m38, mf⟩ := hM.cells
    have m17 := mx 17 (by omega)
    have m10 := mx 10 (by omega)
    rw [H17.out] at m17
    have h1 := Whole.put hM 36 (.int .i64 1)
    rw [mcells_set36] at h1
    have h2 := Whole.put h1 37 (.int .u64 (k.x 10))
    rw [mcells_set37] at h2
    have HM2 := Lib.hid (show Mach ((W.setCell ⟨w.heap.size, 36, none⟩ (.int .i64 1)).setCell ⟨w.heap.size, 37, none⟩ (.int .u64 (k.x 10))) w.heap.size (exitM k) from h2)
    have HZ2 := Lib.hid ((hZ.other ⟨w.heap.size, 36, none⟩ (.int .i64 1) (by simp)).other ⟨w.heap.size, 37, none⟩ (.int .u64 (k.x 10)) (by simp))
    have HB2 := Lib.hid ((hB.setCell (p := ⟨w.heap.size, 36, none⟩) (by simp) (.int .i64 1)).setCell (p := ⟨w.heap.size, 37, none⟩) (by simp) (.int .u64 (k.x 10)))
    clear hM hZ hB mx h1 h2))
  exact bodyPost_ret (results_mach_two Tryd.results42 _ _ _ _ _ rfl rfl (HZ2.out.row (exitM k))) rfl ⟨rfl, below_row HB2.out _ (by omega)⟩

/-- the machine behind do of the call that ends it -/
def endM (k : Mc) : Mc := exitM { k with x := upd k.x 0 0 }
set_option maxRecDepth 100000 in
set_option maxHeartbeats 2000000 in
theorem do_exit (k : Mc) (rd i : Int) (RA RB : Nat) (w : World) (h17 : k.x 17 = 93) (a1 : RA < 32) (b1 : RB < 32) :
    Calls Tryd.prog 24 #[.agg (mcells k), .agg #[.int .i64 31, .int .i64 rd, .int .i64 RA, .int .i64 RB, .int .i64 i]] w (RetIs (.tuple #[.agg (mcells (endM k)), .bool true]) w) := by
  have HS := Lib.hid (fun W h => do_start { k with x := upd k.x 0 0 } 31 rd RA RB i w W h)
  have m00 := mcells_x k 0 (by omega)
  have HSX := Lib.hid (mcells_setX k 0 (by omega) 0)
  have HCE := Lib.hid (fun W => call_exit { k with x := upd k.x 0 0 } W (by show upd k.x 0 0 17 = 93; unfold upd; rw [if_neg (by omega)]; exact h17))
  clear h17
  go_enter Tryd.func24, Tryd.ntmps24
  go_wp2_with (refine alloc_mach rfl rfl ?_)
  rw [HSX.out]
  obtain ⟨W, hW⟩ : ∃ W, W = (((w.alloc (.cells (mcells { k with x := upd k.x 0 0 }) 26)).alloc (.cells #[.int .i64 31, .int .i64 rd, .int .i64 RA, .int .i64 RB, .int .i64 i] 35)).alloc (.cells (mcells zeroMc) 26)) := ⟨_, rfl⟩
  obtain ⟨HM, HO, HZ, HB⟩ := HS.out W hW
  rw [← hW]
  clear hW HS
  have HM := Lib.hid HM
  have HO := Lib.hid HO
  have HZ := Lib.hid HZ
  have HB := Lib.hid HB
  obtain ⟨o0, o1, o2, o3, o4, of, ol⟩ := HO.out
  obtain ⟨mx, m32, -, -, -, m36, -, -, mf⟩ := HM.out.cells
  have ma := mx RA a1
  have mb := mx RB b1
  simp only at ma mb m32 m36
  obtain ⟨XA, hXA⟩ : ∃ z, upd k.x 0 0 RA = z := ⟨_, rfl⟩
  obtain ⟨XB, hXB⟩ : ∃ z, upd k.x 0 0 RB = z := ⟨_, rfl⟩
  rw [hXA] at ma
  rw [hXB] at mb
  have a0 : (0 : Int) ≤ (RA : Int) := Int.natCast_nonneg _
  have b0 : (0 : Int) ≤ (RB : Int) := Int.natCast_nonneg _
  have a32 : (RA : Int) < 32 := by omega
  have b32 : (RB : Int) < 32 := by omega
  clear mx hXA hXB
  go_quiet (fail)
  have hd := below_drewN W nq
  have HM := Lib.hid (HM.out.next hd)
  have HO := Lib.hid (HO.out.next hd)
  have HZ := Lib.hid (HZ.out.next hd)
  have HB := Lib.hid (bthen HB.out hd)
  clear hd
  generalize W.drewN nq = V at *
  clear o0 o1 o2 o3 o4 of ol m32 m36 mf ma mb
  obtain ⟨o0, o1, o2, o3, o4, of, ol⟩ := HO.out
  repeat (first | (with_reducible refine xt_exit ?_) | (with_reducible refine xb_hit ?_) | (with_reducible refine xb_skip rfl ?_) | (with_reducible refine xt_norm ?_) | (with_reducible refine xb_norm ?_) | (with_reducible refine xt_ret ?_) | (with_reducible refine xb_ret ?_) | (go_big_may; (refine load_mach rfl _ rfl _ rfl _ HM.out ?_)) | go_values | go_skip | go_guarded | go_step | go_upon | go_back)
  refine (HCE.out _).mono ?_
  rintro e w3 ⟨rfl, hb3⟩
  have HM := Lib.hid (HM.out.next hb3)
  have HZ := Lib.hid (HZ.out.next hb3)
  have HB := Lib.hid (bthen HB.out hb3)
  clear hb3 o0 o1 o2 o3 o4 of ol
  have HM6 := Lib.hid (HM.out.row (endM k))
  have HZ6 := Lib.hid (HZ.out.rowOther (B' := w.heap.size) (mcells (endM k)) (by omega))
  have HB6 := Lib.hid (below_row HB.out (mcells (endM k)) (Nat.le_refl _))
  have m36 := HM6.out.cells.2.2.2.2.2.1
  have HEM := Lib.hid (show exitM { k with x := upd k.x 0 0 } = endM k from rfl)
  have m36 : (w3.setRow w.heap.size (mcells (endM k))).cell? ⟨w.heap.size, 36, none⟩ = some (.int .i64 1) := m36
  rw [HEM.out]
  go_wp2_with (first | (refine load_mach rfl _ rfl _ rfl _ HM6.out ?_) | (refine store_mach rfl _ _ rfl _ (endM k) rfl rfl _ HZ6.out ?_) | (refine store_mach rfl _ _ rfl _ (endM k) rfl rfl _ HM.out ?_))
  exact bodyPost_ret (results_mach_two Tryd.results24 _ _ _ _ _ rfl rfl (HZ6.out.row (endM k))) rfl ⟨rfl, below_row HB6.out _ (by omega)⟩
end Go.Proofs.YtclbkdnihhmglaaDoor

namespace Go.Proofs.YtclbkdnihhmglaaDoor
open Go.RowKit

/-- a step counted -/
def tickM (k : Mc) : Mc := { k with n := IntKind.u64.wrap (k.n + 1) }
set_option maxRecDepth 100000 in
set_option maxHeartbeats 2000000 in
theorem step_done (k k2 : Mc) (kd rd ra rb i : Int) (w : World) (hst : k.st = 0)
    (hF : ∀ W, Below w.heap.size w W → Calls Tryd.prog 23 #[.agg (mcells (tickM k))] W fun e w' => e = .returned (.tuple #[.agg #[.int .i64 kd, .int .i64 rd, .int .i64 ra, .int .i64 rb, .int .i64 i], .bool true]) ∧ Below W.heap.size W w')
    (hD : ∀ W, Calls Tryd.prog 24 #[.agg (mcells (tickM k)), .agg #[.int .i64 kd, .int .i64 rd, .int .i64 ra, .int .i64 rb, .int .i64 i]] W (RetIs (.tuple #[.agg (mcells k2), .bool true]) W)) :
    Calls Tryd.prog 15 #[.agg (mcells k)] w (RetIs (.agg (mcells k2)) w) := by
  have HS := Lib.hid (fun W h => call_start k w W h)
  have HF := Lib.hid hF
  have HD := Lib.hid hD
  have HST := Lib.hid hst
  clear hF hD hst
  go_enter Tryd.func15, Tryd.ntmps15
  go_wp2_with (first
    | (refine load_mach rfl _ rfl _ rfl _ HM2.out ?_)
    | (
    refine alloc_mach rfl rfl ?_
    obtain ⟨W, hW⟩ : ∃ W, W = ((w.alloc (.cells (mcells k) 26)).alloc (.cells (mcells zeroMc) 26)) := ⟨_, rfl⟩
    obtain ⟨hM, hZ, hB⟩ := HS.out W hW
    rw [← hW]
    clear hW HS
    have z1 : w.heap.size + 1 < W.heap.size := hZ.lt
    obtain ⟨mx, m32, m33, m34, m35, m36, m37, m38, mf⟩ := hM.cells
    rw [HST.out] at m36
    have h1 := Whole.put hM 38 (.int .u64 (IntKind.u64.wrap (k.n + 1)))
    rw [mcells_set38] at h1
    have HM2 := Lib.hid (show Mach (W.setCell ⟨w.heap.size, 38, none⟩ (.int .u64 (IntKind.u64.wrap (k.n + 1)))) w.heap.size (tickM k) from h1)
    have HZ2 := Lib.hid (hZ.other ⟨w.heap.size, 38, none⟩ (.int .u64 (IntKind.u64.wrap (k.n + 1))) (by simp))
    have HB2 := Lib.hid (hB.setCell (p := ⟨w.heap.size, 38, none⟩) (by simp) (.int .u64 (IntKind.u64.wrap (k.n + 1))))
    clear hM hZ hB mx h1 m32 m33 m34 m35 m37))
  refine (HF.out _ HB2.out).mono ?_
  rintro e w3 ⟨rfl, hb3⟩
  have HM3 := Lib.hid ((HM2.out.next hb3).alloc (.cells #[.int .i64 kd, .int .i64 rd, .int .i64 ra, .int .i64 rb, .int .i64 i] 35))
  have HZ3 := Lib.hid ((HZ2.out.next hb3).alloc (.cells #[.int .i64 kd, .int .i64 rd, .int .i64 ra, .int .i64 rb, .int .i64 i] 35))
  have HB3 := Lib.hid (balloc (bthen HB2.out hb3) (.cells #[.int .i64 kd, .int .i64 rd, .int .i64 ra, .int .i64 rb, .int .i64 i] 35))
  clear hb3 m36 m38 mf z1
  go_wp2_with (refine load_mach rfl _ rfl _ rfl _ HM3.out ?_)
  refine (HD.out _).mono ?_
  rintro e w5 ⟨rfl, hb5⟩
  have HZ5 := Lib.hid (HZ3.out.next hb5)
  have HB5 := Lib.hid (bthen HB3.out hb5)
  have z5 : w.heap.size + 1 < w5.heap.size := HZ5.out.lt
  have HU := Lib.hid (Mach.new w5 zeroMc)
  have HU2 := Lib.hid (HU.out.row k2)
  have HZ6 := Lib.hid ((HZ5.out.alloc (.cells (mcells zeroMc) 26)).rowOther (B' := w5.heap.size) (mcells k2) (by omega))
  have HB6 := Lib.hid (below_row (balloc HB5.out (.cells (mcells zeroMc) 26)) (B := w5.heap.size) (mcells k2) (by omega))
  clear hb5
  go_wp2_with (first
    | (refine alloc_mach rfl rfl ?_)
    | (refine load_mach rfl _ rfl _ rfl _ HU2.out ?_)
    | (refine store_mach rfl _ _ rfl _ _ rfl rfl _ HU.out ?_)
    | (refine store_mach rfl _ _ rfl _ _ rfl rfl _ HZ6.out ?_))
  exact bodyPost_ret (results_mach Tryd.results15 _ _ _ _ rfl (HZ6.out.row k2)) rfl ⟨rfl, below_row HB6.out _ (by omega)⟩
theorem step_over (k : Mc) (w : World) (hst : k.st ≠ 0) : Calls Tryd.prog 15 #[.agg (mcells k)] w (RetIs (.agg (mcells k)) w) := by
  have HS := Lib.hid (fun W h => call_start k w W h)
  have t0 : (k.st != 0) = true := by simpa using hst
  clear hst
  go_enter Tryd.func15, Tryd.ntmps15
  go_wp2_with (first
    | (refine load_mach rfl _ rfl _ rfl _ HM2.out ?_)
    | (refine store_mach rfl _ _ rfl _ _ rfl rfl _ HZ2.out ?_)
    | (
    refine alloc_mach rfl rfl ?_
    obtain ⟨W, hW⟩ : ∃ W, W = ((w.alloc (.cells (mcells k) 26)).alloc (.cells (mcells zeroMc) 26)) := ⟨_, rfl⟩
    obtain ⟨hM, hZ, hB⟩ := HS.out W hW
    rw [← hW]
    clear hW HS
    have z1 : w.heap.size + 1 < W.heap.size := hZ.lt
    obtain ⟨mx, m32, m33, m34, m35, m36, m37, m38, mf⟩ := hM.cells
    have HM2 := Lib.hid hM
    have HZ2 := Lib.hid hZ
    have HB2 := Lib.hid hB
    clear hM hZ hB mx m32 m33 m34 m35 m37))
  exact bodyPost_ret (results_mach Tryd.results15 _ _ _ _ rfl (HZ2.out.row k)) rfl ⟨rfl, below_row HB2.out _ (by omega)⟩
end Go.Proofs.YtclbkdnihhmglaaDoor
