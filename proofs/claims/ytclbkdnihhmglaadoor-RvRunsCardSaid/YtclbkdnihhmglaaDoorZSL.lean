/- The reference's step: cases. The reference's step: cases. The reference's step where it ends at once. The reference's step, for every machine whose register 0 is 0; and so many of them. -/
import Derived.Test.YtclbkdnihhmglaaDoorZSJ
import Derived.Deep.RegionHeld
import Derived.Test.YtclbkdnihhmglaaDoorZSK
namespace Go.Proofs.YtclbkdnihhmglaaDoor
open Go.RowKit

set_option maxRecDepth 100000 in
set_option maxHeartbeats 4000000 in
theorem rstep_jal (k : Mc) (m : List M.Pg) (rd i : Int) (RA RB : Nat) (V : Int) (w : World) (hP : Pages w (.slice k.ma k.ml k.mc) m) (hM : MI k m) (hst : k.st = 0) (h4 : k.pc % 4 = 0) (he : numErr m k.pc 4 1 = 0) (hv : loadV m k.pc 4 1 = V) (v0 : 0 ≤ V) (v1 : V < 4294967296)
    (hT : ∀ W, Calls Tryd.prog 27 #[.int .u32 V] W fun e w' => e = .returned (.tuple #[.agg #[.int .i64 29, .int .i64 rd, .int .i64 RA, .int .i64 RB, .int .i64 i], .int .i64 0]) ∧ Below W.heap.size W w') (r0 : 0 ≤ rd) (r1 : rd < 32) (a1 : RA < 32) (b1 : RB < 32) (hz : k.x 0 = 0) :
    Calls Tryd.prog 17 #[.agg (mcells k)] w (StepPost (outR k m 29 rd i RA RB).1 (outR k m 29 rd i RA RB).2 w) := by
  have HZX := Lib.hid hz
  clear hz
  have HDO := Lib.hid (fun W => rdoes_any 29 rd RA RB i (k.x RA) (k.x RB) k.pc W (hM.x RA a1).1 (hM.x RA a1).2 (hM.x RB b1).1 (hM.x RB b1).2)
  obtain ⟨D, hD⟩ : ∃ D, doesI 29 i (k.x RA) (k.x RB) k.pc = D := ⟨_, rfl⟩
  rw [hD] at HDO
  have HD := Lib.hid hD
  clear hD
  have HS := Lib.hid (fun W h => call_start k w W h)
  have HL := Lib.hid (fun (W : World) (hb : Below w.heap.size w W) => refLoad_any k.pc 4 1 (hP.next hb) hM.wf hM.pc.1 hM.pc.2 (by omega) (by omega))
  rw [he, hv] at HL
  have HT := Lib.hid hT
  have HP := Lib.hid hP
  have HST := Lib.hid hst
  have HMI := Lib.hid hM
  have m4 : (k.pc.tmod 4 != 0) = false := by rw [Int.tmod_eq_emod_of_nonneg hM.pc.1, h4]; rfl
  have m5 : (k.pc % 4 != 0) = false := by rw [h4]; rfl
  have wv : IntKind.u32.wrap V = V := by rw [IntKind.wrap_u32]; omega
  have a0 : (0 : Int) ≤ (RA : Int) := Int.natCast_nonneg _
  have b0 : (0 : Int) ≤ (RB : Int) := Int.natCast_nonneg _
  have a32 : (RA : Int) < 32 := by omega
  have b32 : (RB : Int) < 32 := by omega
  clear hT hP hst hM h4 he hv
  go_enter Tryd.func17, Tryd.ntmps17
  go_wp2_with (
    refine alloc_mach rfl rfl ?_
    obtain ⟨W, hW⟩ : ∃ W, W = ((w.alloc (.cells (mcells k) 26)).alloc (.cells (mcells zeroMc) 26)) := ⟨_, rfl⟩
    obtain ⟨hM, hZ, hB⟩ := HS.out W hW
    rw [← hW]
    clear hW HS
    obtain ⟨mx, m32, m33, m34, m35, m36, m37, m38, mf⟩ := hM.cells
    rw [HST.out] at m36
    have h1 := Whole.put hM 38 (.int .u64 (IntKind.u64.wrap (k.n + 1)))
    rw [mcells_set38] at h1
    have HM2 := Lib.hid (show Mach (W.setCell ⟨w.heap.size, 38, none⟩ (.int .u64 (IntKind.u64.wrap (k.n + 1)))) w.heap.size (tickM k) from h1)
    have HZ2 := Lib.hid (hZ.other ⟨w.heap.size, 38, none⟩ (.int .u64 (IntKind.u64.wrap (k.n + 1))) (by simp))
    have HB2 := Lib.hid (hB.setCell (p := ⟨w.heap.size, 38, none⟩) (by simp) (.int .u64 (IntKind.u64.wrap (k.n + 1))))
    clear hM hZ hB mx h1 m34 m35 m37)
  refine (HL.out _ HB2.out).mono ?_
  rintro e w3 ⟨rfl, hb3⟩
  have HM3 := Lib.hid (HM2.out.next hb3)
  have HZ3 := Lib.hid (HZ2.out.next hb3)
  have HB3 := Lib.hid (bthen HB2.out hb3)
  clear hb3 m32 m33 m36 m38 mf
  obtain ⟨-, m32', m33, -, -, -, -, -, mf⟩ := HM3.out.cells
  have m32 : w3.cell? ⟨w.heap.size, 32, none⟩ = some (.int .u64 k.pc) := m32'
  clear m32'
  go_wp2_with fail
  refine (HT.out _).mono ?_
  rintro e w4 ⟨rfl, hb4⟩
  have H3 := Lib.hid (show At3 k m 29 rd RA RB i w (w4.alloc (.cells #[.int .i64 29, .int .i64 rd, .int .i64 RA, .int .i64 RB, .int .i64 i] 35)) w4.heap.size from at3a (HM3.out.next hb4) (HZ3.out.next hb4) (bthen HB3.out hb4) HP.out)
  clear hb4 m32 m33 mf
  obtain ⟨o0, o1, o2, o3, o4, of, ol⟩ := H3.out.F
  obtain ⟨mx, -, -, -, -, -, -, -, mf⟩ := H3.out.M.cells
  have ma : (w4.alloc (.cells #[.int .i64 29, .int .i64 rd, .int .i64 RA, .int .i64 RB, .int .i64 i] 35)).cell? ⟨w.heap.size, RA, none⟩ = some (.int .u64 (k.x RA)) := mx RA a1
  have mb : (w4.alloc (.cells #[.int .i64 29, .int .i64 rd, .int .i64 RA, .int .i64 RB, .int .i64 i] 35)).cell? ⟨w.heap.size, RB, none⟩ = some (.int .u64 (k.x RB)) := mx RB b1
  have HMT := Lib.hid H3.out.M
  clear mx
  go_upto_region 15 with (first
    | (refine load_mach rfl _ rfl _ rfl _ HMT.out ?_
       obtain ⟨V3, hV3⟩ : ∃ V, w4.alloc (.cells #[.int .i64 29, .int .i64 rd, .int .i64 RA, .int .i64 RB, .int .i64 i] 35) = V := ⟨_, rfl⟩
       rw [hV3] at H3
       rw [hV3]
       obtain ⟨bo, hbo⟩ : ∃ b, w4.heap.size = b := ⟨_, rfl⟩
       rw [hbo] at H3
       rw [hbo]
       have H5 := Lib.hid (at5_of H3.out HP.out)
       have HNN := Lib.hid (Mach.new V3 zeroMc)
       clear hV3 hbo HMT o0 o1 o2 o3 o4 of ol mf ma mb)
    | (refine alloc_mach rfl rfl ?_)
    | (refine store_mach rfl _ _ rfl _ _ rfl rfl _ HNN.out ?_
       obtain ⟨U, hU⟩ : ∃ U, (V3.alloc (.cells (mcells zeroMc) 26)).setRow V3.heap.size (mcells (tickM k)) = U := ⟨_, rfl⟩
       rw [hU] at H5
       rw [hU]
       obtain ⟨nv, hnv⟩ : ∃ b, V3.heap.size = b := ⟨_, rfl⟩
       rw [hnv] at H5
       rw [hnv]
       have H6 := Lib.hid H5.out.pc4
       obtain ⟨-, m32', -, -, -, -, -, -, mf⟩ := H5.out.M.cells
       obtain ⟨-, n32, -, -, -, -, -, -, nf⟩ := H5.out.N.cells
       have m32 : U.cell? ⟨w.heap.size, 32, none⟩ = some (.int .u64 k.pc) := m32'
       clear hU hnv HNN H3 m32'))
  obtain ⟨U6, hU6⟩ : ∃ W, U.setCell ⟨nv, 32, none⟩ (.int .u64 (IntKind.u64.wrap (k.pc + 4))) = W := ⟨_, rfl⟩
  rw [show (tickM k).pc = k.pc from rfl, hU6] at H6
  rw [hU6]
  clear hU6 H5 m32 n32 mf nf
  obtain ⟨o0, o1, o2, o3, o4, of, ol⟩ := H6.out.F
  obtain ⟨mx', m32', m33', m34', m35', m36', m37', m38', mf⟩ := H6.out.M.cells
  obtain ⟨nx', n32, n33, n34, n35, n36, n37, n38, nf⟩ := H6.out.N.cells
  have m32 : U6.cell? ⟨w.heap.size, 32, none⟩ = some (.int .u64 k.pc) := m32'
  have m33 : U6.cell? ⟨w.heap.size, 33, none⟩ = some (.slice k.ma k.ml k.mc) := m33'
  have m34 : U6.cell? ⟨w.heap.size, 34, none⟩ = some (.string k.inp) := m34'
  have m35 : U6.cell? ⟨w.heap.size, 35, none⟩ = some (.string k.out) := m35'
  have m36 : U6.cell? ⟨w.heap.size, 36, none⟩ = some (.int .i64 0) := by rw [← HST.out]; exact m36'
  have m37 : U6.cell? ⟨w.heap.size, 37, none⟩ = some (.int .u64 k.cd) := m37'
  have mx : ∀ j, j < 32 → U6.cell? ⟨w.heap.size, j, none⟩ = some (.int .u64 (k.x j)) := mx'
  have nx : ∀ j, j < 32 → U6.cell? ⟨nv, j, none⟩ = some (.int .u64 (k.x j)) := nx'
  have x17 := mx 17 (by omega)
  have x10 := mx 10 (by omega)
  have y10 := nx 10 (by omega)
  have y0 := nx 0 (by omega)
  clear mx' nx' m32' m33' m34' m35' m36' m37' m38' n38
  clear x17 x10 y10 y0 mx nx m33 m34 m35 m36 m37 n32 n33 n34 n35 n36 n37
  go_upto_region 54 with fail
  clear o0 o1 o2 o3 o4 of ol m32 mf nf
  refine wp_region_noPanic ?_
  refine wp_region_held_drew (S := fun W => ∃ n, AtN (tickM k) n m 29 rd RA RB i w W bo nv) (by kernel_rfl) (⟨_, H6.out.next (below_drew _)⟩) (fun hHeld => ?_)
  have H6 := Lib.hid (H6.out.next (below_drew _))
  refine wpAnyH_take (i := 0) (v := ?_) rfl (by kernel_rfl) (by kernel_rfl) (by kernel_rfl) (fun _ _ _ h => h) (Or.inl ⟨by rfl, ?_⟩) (by assumption) ?_
  rotate_left
  · intro W hSw; (try dsimp only at hSw); obtain ⟨nS, hSw⟩ := hSw; obtain ⟨o0, o1, o2, o3, o4, of, ol⟩ := hSw.F; have m32 : W.cell? ⟨w.heap.size, 32, none⟩ = some (.int .u64 k.pc) := hSw.M.cells.2.1; go_simp; try (with_reducible rfl)
  (try simp only [Act.put])
  refine wpAnyH_take (i := 1) (v := ?_) rfl (by kernel_rfl) (by kernel_rfl) (by kernel_rfl) (fun _ _ _ h => h) (Or.inl ⟨by rfl, ?_⟩) (by assumption) ?_
  rotate_left
  · intro W hSw; (try dsimp only at hSw); obtain ⟨nS, hSw⟩ := hSw; obtain ⟨o0, o1, o2, o3, o4, of, ol⟩ := hSw.F; have m32 : W.cell? ⟨w.heap.size, 32, none⟩ = some (.int .u64 k.pc) := hSw.M.cells.2.1; go_simp; try (with_reducible rfl)
  (try simp only [Act.put])
  refine wpAnyH_take (i := 2) (v := ?_) rfl (by kernel_rfl) (by kernel_rfl) (by kernel_rfl) (fun _ _ _ h => h) (Or.inl ⟨by rfl, ?_⟩) (by assumption) ?_
  rotate_left
  · intro W hSw; (try dsimp only at hSw); obtain ⟨nS, hSw⟩ := hSw; obtain ⟨o0, o1, o2, o3, o4, of, ol⟩ := hSw.F; have m32 : W.cell? ⟨w.heap.size, 32, none⟩ = some (.int .u64 k.pc) := hSw.M.cells.2.1; refine exec_op (.tmp 5) ?_ bo ?_ hSw.F <;> rfl
  (try simp only [Act.put])
  refine wpAnyH_take (i := 3) (v := ?_) rfl (by kernel_rfl) (by kernel_rfl) (by kernel_rfl) (fun _ _ _ h => h) (Or.inl ⟨by rfl, ?_⟩) (by assumption) ?_
  rotate_left
  · intro W hSw; (try dsimp only at hSw); obtain ⟨nS, hSw⟩ := hSw; obtain ⟨o0, o1, o2, o3, o4, of, ol⟩ := hSw.F; have m32 : W.cell? ⟨w.heap.size, 32, none⟩ = some (.int .u64 k.pc) := hSw.M.cells.2.1; go_simp; try (with_reducible rfl)
  (try simp only [Act.put])
  refine wpAnyH_take (i := 4) (v := ?_) rfl (by kernel_rfl) (by kernel_rfl) (by kernel_rfl) (fun _ _ _ h => h) (Or.inl ⟨by rfl, ?_⟩) (by assumption) ?_
  rotate_left
  · intro W hSw; (try dsimp only at hSw); obtain ⟨nS, hSw⟩ := hSw; obtain ⟨o0, o1, o2, o3, o4, of, ol⟩ := hSw.F; have m32 : W.cell? ⟨w.heap.size, 32, none⟩ = some (.int .u64 k.pc) := hSw.M.cells.2.1; go_simp; try (with_reducible rfl)
  (try simp only [Act.put])
  refine wpAnyH_take (i := 5) (v := ?_) rfl (by kernel_rfl) (by kernel_rfl) (by kernel_rfl) (fun _ _ _ h => h) (Or.inl ⟨by rfl, ?_⟩) (by assumption) ?_
  rotate_left
  · intro W hSw; (try dsimp only at hSw); obtain ⟨nS, hSw⟩ := hSw; obtain ⟨o0, o1, o2, o3, o4, of, ol⟩ := hSw.F; have m32 : W.cell? ⟨w.heap.size, 32, none⟩ = some (.int .u64 k.pc) := hSw.M.cells.2.1; go_simp; try (with_reducible rfl)
  (try simp only [Act.put])
  refine wpAnyH_take (i := 6) (v := ?_) rfl (by kernel_rfl) (by kernel_rfl) (by kernel_rfl) (fun _ _ _ h => h) (Or.inl ⟨by rfl, ?_⟩) (by assumption) ?_
  rotate_left
  · intro W hSw; (try dsimp only at hSw); obtain ⟨nS, hSw⟩ := hSw; obtain ⟨o0, o1, o2, o3, o4, of, ol⟩ := hSw.F; have m32 : W.cell? ⟨w.heap.size, 32, none⟩ = some (.int .u64 k.pc) := hSw.M.cells.2.1; go_simp; try (with_reducible rfl)
  (try simp only [Act.put])
  refine wpAnyH_take (i := 8) (v := ?_) rfl (by kernel_rfl) (by kernel_rfl) (by kernel_rfl) (fun _ _ _ h => h) (Or.inl ⟨by rfl, ?_⟩) (by assumption) ?_
  rotate_left
  · intro W hSw; (try dsimp only at hSw); obtain ⟨nS, hSw⟩ := hSw; obtain ⟨o0, o1, o2, o3, o4, of, ol⟩ := hSw.F; have m32 : W.cell? ⟨w.heap.size, 32, none⟩ = some (.int .u64 k.pc) := hSw.M.cells.2.1; go_simp; try (with_reducible rfl)
  (try simp only [Act.put])
  refine wpAnyH_ready (rs := [7]) (by kernel_rfl) (by simp) ?_
  refine AllReadyH.cons rfl (fun K hK => ?_) AllReadyH.nil
  go_simp
  refine (HDO.out _).mono ?_
  rintro e w7 ⟨rfl, hb7⟩
  have H7 := Lib.hid (H6.out.next hb7)
  refine hK.out _ _ ⟨_, H7.out⟩ (fun hHeld => ?_)
  clear hK K hb7 H6
  (try simp only [Act.put])
  refine wpAnyH_ready (rs := [9]) (by kernel_rfl) (by simp) ?_
  refine AllReadyH.cons rfl (fun K hK => ?_) AllReadyH.nil
  go_simp
  refine hK.out _ _ ⟨_, H7.out⟩ (fun hHeld => ?_)
  clear hK K
  (try simp only [Act.put])
  have nf := H7.out.N.cells.2.2.2.2.2.2.2.2
  have yr := H7.out.N.cells.1 rd.toNat (by omega)
  have H8 := Lib.hid (H7.out.put rd.toNat (.int .u64 D) { addPc (tickM k) 4 with x := upd k.x rd.toNat D } (mcells_setX (addPc (tickM k) 4) rd.toNat (by omega) D))
  refine wpAnyH_ready (rs := [10]) (by kernel_rfl) (by simp) ?_
  refine AllReadyH.cons rfl (fun K hK => ?_) AllReadyH.nil
  go_simp
  refine hK.out _ _ ⟨_, H8.out⟩ (fun hHeld => ?_)
  clear hK K nf yr
  (try simp only [Act.put])
  refine wpAnyH_done (by kernel_rfl) ?_ _
  refine NoPanic.normal ?_
  clear hHeld
  obtain ⟨U8, hU8⟩ : ∃ W, w7.setCell ⟨nv, rd.toNat, none⟩ (.int .u64 D) = W := ⟨_, rfl⟩
  rw [hU8] at H8
  rw [hU8]
  clear hU8
  have y0 := H8.out.N.cells.1 0 (by omega)
  have nf8 := H8.out.N.cells.2.2.2.2.2.2.2.2
  have H9 := Lib.hid (H8.out.put 0 (.int .u64 0) { addPc (tickM k) 4 with x := upd (upd k.x rd.toNat D) 0 0 } (mcells_setX { addPc (tickM k) 4 with x := upd k.x rd.toNat D } 0 (by omega) 0))
  obtain ⟨o0, -, -, -, -, of, ol⟩ := H9.out.F
  have m32 : (U8.setCell ⟨nv, 0, none⟩ (.int .u64 0)).cell? ⟨w.heap.size, 32, none⟩ = some (.int .u64 k.pc) := H9.out.M.cells.2.1
  have n32 := H9.out.N.cells.2.1
  have nf9 := H9.out.N.cells.2.2.2.2.2.2.2.2
  have H10 := Lib.hid (H9.out.put 32 (.int .u64 (IntKind.u64.wrap (k.pc + IntKind.u64.wrap i))) { addPc (tickM k) (IntKind.u64.wrap i) with x := upd (upd k.x rd.toNat D) 0 0 } (mcells_set32 _ _))
  have HN7 := Lib.hid H10.out.N
  have HZ7 := Lib.hid H10.out.Z
  go_wp2_with (first | (refine load_mach rfl _ rfl _ rfl _ HN7.out ?_) | (refine store_mach rfl _ _ rfl _ _ rfl rfl _ HZ7.out ?_))
  refine bodyPost_ret (results_mach Tryd.results17 _ _ _ _ rfl (H10.out.Z.row _)) rfl ?_
  rw [outR_jal HZX.out r0, HD.out]
  exact H10.out.done _ ⟨rfl, rfl, rfl⟩
end Go.Proofs.YtclbkdnihhmglaaDoor

namespace Go.Proofs.YtclbkdnihhmglaaDoor
open Go.RowKit

set_option maxRecDepth 100000 in
set_option maxHeartbeats 4000000 in
theorem rstep_jalr (k : Mc) (m : List M.Pg) (rd i : Int) (RA RB : Nat) (V : Int) (w : World) (hP : Pages w (.slice k.ma k.ml k.mc) m) (hM : MI k m) (hst : k.st = 0) (h4 : k.pc % 4 = 0) (he : numErr m k.pc 4 1 = 0) (hv : loadV m k.pc 4 1 = V) (v0 : 0 ≤ V) (v1 : V < 4294967296)
    (hT : ∀ W, Calls Tryd.prog 27 #[.int .u32 V] W fun e w' => e = .returned (.tuple #[.agg #[.int .i64 30, .int .i64 rd, .int .i64 RA, .int .i64 RB, .int .i64 i], .int .i64 0]) ∧ Below W.heap.size W w') (r0 : 0 ≤ rd) (r1 : rd < 32) (a1 : RA < 32) (b1 : RB < 32) (hz : k.x 0 = 0) :
    Calls Tryd.prog 17 #[.agg (mcells k)] w (StepPost (outR k m 30 rd i RA RB).1 (outR k m 30 rd i RA RB).2 w) := by
  have HZX := Lib.hid hz
  clear hz
  have HDO := Lib.hid (fun W => rdoes_any 30 rd RA RB i (k.x RA) (k.x RB) k.pc W (hM.x RA a1).1 (hM.x RA a1).2 (hM.x RB b1).1 (hM.x RB b1).2)
  obtain ⟨D, hD⟩ : ∃ D, doesI 30 i (k.x RA) (k.x RB) k.pc = D := ⟨_, rfl⟩
  rw [hD] at HDO
  have HD := Lib.hid hD
  clear hD
  obtain ⟨Y, hY⟩ : ∃ Y, IntKind.u64.wrap (k.x RA + IntKind.u64.wrap i) = Y := ⟨_, rfl⟩
  have y0' : 0 ≤ Y := by rw [← hY]; exact (u64_wr _).1
  have y1' : Y ≤ 18446744073709551615 := by rw [← hY]; exact (u64_wr _).2
  have HY := Lib.hid hY
  have HYB := Lib.hid (show IntKind.u64.wrap (Y / 2) = Y / 2 ∧ Y.tdiv 2 = Y / 2 ∧ IntKind.u64.wrap (Y / 2 * 2) = Y / 2 * 2 by
    refine ⟨?_, Int.tdiv_eq_ediv_of_nonneg y0', ?_⟩ <;> rw [IntKind.wrap_u64] <;> omega)
  clear hY y0' y1'
  have HS := Lib.hid (fun W h => call_start k w W h)
  have HL := Lib.hid (fun (W : World) (hb : Below w.heap.size w W) => refLoad_any k.pc 4 1 (hP.next hb) hM.wf hM.pc.1 hM.pc.2 (by omega) (by omega))
  rw [he, hv] at HL
  have HT := Lib.hid hT
  have HP := Lib.hid hP
  have HST := Lib.hid hst
  have HMI := Lib.hid hM
  have m4 : (k.pc.tmod 4 != 0) = false := by rw [Int.tmod_eq_emod_of_nonneg hM.pc.1, h4]; rfl
  have m5 : (k.pc % 4 != 0) = false := by rw [h4]; rfl
  have wv : IntKind.u32.wrap V = V := by rw [IntKind.wrap_u32]; omega
  have a0 : (0 : Int) ≤ (RA : Int) := Int.natCast_nonneg _
  have b0 : (0 : Int) ≤ (RB : Int) := Int.natCast_nonneg _
  have a32 : (RA : Int) < 32 := by omega
  have b32 : (RB : Int) < 32 := by omega
  clear hT hP hst hM h4 he hv
  go_enter Tryd.func17, Tryd.ntmps17
  go_wp2_with (
    refine alloc_mach rfl rfl ?_
    obtain ⟨W, hW⟩ : ∃ W, W = ((w.alloc (.cells (mcells k) 26)).alloc (.cells (mcells zeroMc) 26)) := ⟨_, rfl⟩
    obtain ⟨hM, hZ, hB⟩ := HS.out W hW
    rw [← hW]
    clear hW HS
    obtain ⟨mx, m32, m33, m34, m35, m36, m37, m38, mf⟩ := hM.cells
    rw [HST.out] at m36
    have h1 := Whole.put hM 38 (.int .u64 (IntKind.u64.wrap (k.n + 1)))
    rw [mcells_set38] at h1
    have HM2 := Lib.hid (show Mach (W.setCell ⟨w.heap.size, 38, none⟩ (.int .u64 (IntKind.u64.wrap (k.n + 1)))) w.heap.size (tickM k) from h1)
    have HZ2 := Lib.hid (hZ.other ⟨w.heap.size, 38, none⟩ (.int .u64 (IntKind.u64.wrap (k.n + 1))) (by simp))
    have HB2 := Lib.hid (hB.setCell (p := ⟨w.heap.size, 38, none⟩) (by simp) (.int .u64 (IntKind.u64.wrap (k.n + 1))))
    clear hM hZ hB mx h1 m34 m35 m37)
  refine (HL.out _ HB2.out).mono ?_
  rintro e w3 ⟨rfl, hb3⟩
  have HM3 := Lib.hid (HM2.out.next hb3)
  have HZ3 := Lib.hid (HZ2.out.next hb3)
  have HB3 := Lib.hid (bthen HB2.out hb3)
  clear hb3 m32 m33 m36 m38 mf
  obtain ⟨-, m32', m33, -, -, -, -, -, mf⟩ := HM3.out.cells
  have m32 : w3.cell? ⟨w.heap.size, 32, none⟩ = some (.int .u64 k.pc) := m32'
  clear m32'
  go_wp2_with fail
  refine (HT.out _).mono ?_
  rintro e w4 ⟨rfl, hb4⟩
  have H3 := Lib.hid (show At3 k m 30 rd RA RB i w (w4.alloc (.cells #[.int .i64 30, .int .i64 rd, .int .i64 RA, .int .i64 RB, .int .i64 i] 35)) w4.heap.size from at3a (HM3.out.next hb4) (HZ3.out.next hb4) (bthen HB3.out hb4) HP.out)
  clear hb4 m32 m33 mf
  obtain ⟨o0, o1, o2, o3, o4, of, ol⟩ := H3.out.F
  obtain ⟨mx, -, -, -, -, -, -, -, mf⟩ := H3.out.M.cells
  have ma : (w4.alloc (.cells #[.int .i64 30, .int .i64 rd, .int .i64 RA, .int .i64 RB, .int .i64 i] 35)).cell? ⟨w.heap.size, RA, none⟩ = some (.int .u64 (k.x RA)) := mx RA a1
  have mb : (w4.alloc (.cells #[.int .i64 30, .int .i64 rd, .int .i64 RA, .int .i64 RB, .int .i64 i] 35)).cell? ⟨w.heap.size, RB, none⟩ = some (.int .u64 (k.x RB)) := mx RB b1
  have HMT := Lib.hid H3.out.M
  clear mx
  go_upto_region 15 with (first
    | (refine load_mach rfl _ rfl _ rfl _ HMT.out ?_
       obtain ⟨V3, hV3⟩ : ∃ V, w4.alloc (.cells #[.int .i64 30, .int .i64 rd, .int .i64 RA, .int .i64 RB, .int .i64 i] 35) = V := ⟨_, rfl⟩
       rw [hV3] at H3
       rw [hV3]
       obtain ⟨bo, hbo⟩ : ∃ b, w4.heap.size = b := ⟨_, rfl⟩
       rw [hbo] at H3
       rw [hbo]
       have H5 := Lib.hid (at5_of H3.out HP.out)
       have HNN := Lib.hid (Mach.new V3 zeroMc)
       clear hV3 hbo HMT o0 o1 o2 o3 o4 of ol mf ma mb)
    | (refine alloc_mach rfl rfl ?_)
    | (refine store_mach rfl _ _ rfl _ _ rfl rfl _ HNN.out ?_
       obtain ⟨U, hU⟩ : ∃ U, (V3.alloc (.cells (mcells zeroMc) 26)).setRow V3.heap.size (mcells (tickM k)) = U := ⟨_, rfl⟩
       rw [hU] at H5
       rw [hU]
       obtain ⟨nv, hnv⟩ : ∃ b, V3.heap.size = b := ⟨_, rfl⟩
       rw [hnv] at H5
       rw [hnv]
       have H6 := Lib.hid H5.out.pc4
       obtain ⟨-, m32', -, -, -, -, -, -, mf⟩ := H5.out.M.cells
       obtain ⟨-, n32, -, -, -, -, -, -, nf⟩ := H5.out.N.cells
       have m32 : U.cell? ⟨w.heap.size, 32, none⟩ = some (.int .u64 k.pc) := m32'
       clear hU hnv HNN H3 m32'))
  obtain ⟨U6, hU6⟩ : ∃ W, U.setCell ⟨nv, 32, none⟩ (.int .u64 (IntKind.u64.wrap (k.pc + 4))) = W := ⟨_, rfl⟩
  rw [show (tickM k).pc = k.pc from rfl, hU6] at H6
  rw [hU6]
  clear hU6 H5 m32 n32 mf nf
  obtain ⟨o0, o1, o2, o3, o4, of, ol⟩ := H6.out.F
  obtain ⟨mx', m32', m33', m34', m35', m36', m37', m38', mf⟩ := H6.out.M.cells
  obtain ⟨nx', n32, n33, n34, n35, n36, n37, n38, nf⟩ := H6.out.N.cells
  have m32 : U6.cell? ⟨w.heap.size, 32, none⟩ = some (.int .u64 k.pc) := m32'
  have m33 : U6.cell? ⟨w.heap.size, 33, none⟩ = some (.slice k.ma k.ml k.mc) := m33'
  have m34 : U6.cell? ⟨w.heap.size, 34, none⟩ = some (.string k.inp) := m34'
  have m35 : U6.cell? ⟨w.heap.size, 35, none⟩ = some (.string k.out) := m35'
  have m36 : U6.cell? ⟨w.heap.size, 36, none⟩ = some (.int .i64 0) := by rw [← HST.out]; exact m36'
  have m37 : U6.cell? ⟨w.heap.size, 37, none⟩ = some (.int .u64 k.cd) := m37'
  have mx : ∀ j, j < 32 → U6.cell? ⟨w.heap.size, j, none⟩ = some (.int .u64 (k.x j)) := mx'
  have nx : ∀ j, j < 32 → U6.cell? ⟨nv, j, none⟩ = some (.int .u64 (k.x j)) := nx'
  have x17 := mx 17 (by omega)
  have x10 := mx 10 (by omega)
  have y10 := nx 10 (by omega)
  have y0 := nx 0 (by omega)
  clear mx' nx' m32' m33' m34' m35' m36' m37' m38' n38
  clear x17 x10 y10 y0 mx nx m33 m34 m35 m36 m37 n32 n33 n34 n35 n36 n37
  go_upto_region 54 with fail
  clear o0 o1 o2 o3 o4 of ol m32 mf nf
  refine wp_region_noPanic ?_
  refine wp_region_held_drew (S := fun W => ∃ n, AtN (tickM k) n m 30 rd RA RB i w W bo nv) (by kernel_rfl) (⟨_, H6.out.next (below_drew _)⟩) (fun hHeld => ?_)
  have H6 := Lib.hid (H6.out.next (below_drew _))
  refine wpAnyH_take (i := 0) (v := ?_) rfl (by kernel_rfl) (by kernel_rfl) (by kernel_rfl) (fun _ _ _ h => h) (Or.inl ⟨by rfl, ?_⟩) (by assumption) ?_
  rotate_left
  · intro W hSw; (try dsimp only at hSw); obtain ⟨nS, hSw⟩ := hSw; obtain ⟨o0, o1, o2, o3, o4, of, ol⟩ := hSw.F; have m32 : W.cell? ⟨w.heap.size, 32, none⟩ = some (.int .u64 k.pc) := hSw.M.cells.2.1; go_simp; try (with_reducible rfl)
  (try simp only [Act.put])
  refine wpAnyH_take (i := 1) (v := ?_) rfl (by kernel_rfl) (by kernel_rfl) (by kernel_rfl) (fun _ _ _ h => h) (Or.inl ⟨by rfl, ?_⟩) (by assumption) ?_
  rotate_left
  · intro W hSw; (try dsimp only at hSw); obtain ⟨nS, hSw⟩ := hSw; obtain ⟨o0, o1, o2, o3, o4, of, ol⟩ := hSw.F; have m32 : W.cell? ⟨w.heap.size, 32, none⟩ = some (.int .u64 k.pc) := hSw.M.cells.2.1; go_simp; try (with_reducible rfl)
  (try simp only [Act.put])
  refine wpAnyH_take (i := 2) (v := ?_) rfl (by kernel_rfl) (by kernel_rfl) (by kernel_rfl) (fun _ _ _ h => h) (Or.inl ⟨by rfl, ?_⟩) (by assumption) ?_
  rotate_left
  · intro W hSw; (try dsimp only at hSw); obtain ⟨nS, hSw⟩ := hSw; obtain ⟨o0, o1, o2, o3, o4, of, ol⟩ := hSw.F; have m32 : W.cell? ⟨w.heap.size, 32, none⟩ = some (.int .u64 k.pc) := hSw.M.cells.2.1; refine exec_op (.tmp 5) ?_ bo ?_ hSw.F <;> rfl
  (try simp only [Act.put])
  refine wpAnyH_take (i := 3) (v := ?_) rfl (by kernel_rfl) (by kernel_rfl) (by kernel_rfl) (fun _ _ _ h => h) (Or.inl ⟨by rfl, ?_⟩) (by assumption) ?_
  rotate_left
  · intro W hSw; (try dsimp only at hSw); obtain ⟨nS, hSw⟩ := hSw; obtain ⟨o0, o1, o2, o3, o4, of, ol⟩ := hSw.F; have m32 : W.cell? ⟨w.heap.size, 32, none⟩ = some (.int .u64 k.pc) := hSw.M.cells.2.1; go_simp; try (with_reducible rfl)
  (try simp only [Act.put])
  refine wpAnyH_take (i := 4) (v := ?_) rfl (by kernel_rfl) (by kernel_rfl) (by kernel_rfl) (fun _ _ _ h => h) (Or.inl ⟨by rfl, ?_⟩) (by assumption) ?_
  rotate_left
  · intro W hSw; (try dsimp only at hSw); obtain ⟨nS, hSw⟩ := hSw; obtain ⟨o0, o1, o2, o3, o4, of, ol⟩ := hSw.F; have m32 : W.cell? ⟨w.heap.size, 32, none⟩ = some (.int .u64 k.pc) := hSw.M.cells.2.1; go_simp; try (with_reducible rfl)
  (try simp only [Act.put])
  refine wpAnyH_take (i := 5) (v := ?_) rfl (by kernel_rfl) (by kernel_rfl) (by kernel_rfl) (fun _ _ _ h => h) (Or.inl ⟨by rfl, ?_⟩) (by assumption) ?_
  rotate_left
  · intro W hSw; (try dsimp only at hSw); obtain ⟨nS, hSw⟩ := hSw; obtain ⟨o0, o1, o2, o3, o4, of, ol⟩ := hSw.F; have m32 : W.cell? ⟨w.heap.size, 32, none⟩ = some (.int .u64 k.pc) := hSw.M.cells.2.1; go_simp; try (with_reducible rfl)
  (try simp only [Act.put])
  refine wpAnyH_take (i := 6) (v := ?_) rfl (by kernel_rfl) (by kernel_rfl) (by kernel_rfl) (fun _ _ _ h => h) (Or.inl ⟨by rfl, ?_⟩) (by assumption) ?_
  rotate_left
  · intro W hSw; (try dsimp only at hSw); obtain ⟨nS, hSw⟩ := hSw; obtain ⟨o0, o1, o2, o3, o4, of, ol⟩ := hSw.F; have m32 : W.cell? ⟨w.heap.size, 32, none⟩ = some (.int .u64 k.pc) := hSw.M.cells.2.1; go_simp; try (with_reducible rfl)
  (try simp only [Act.put])
  refine wpAnyH_take (i := 8) (v := ?_) rfl (by kernel_rfl) (by kernel_rfl) (by kernel_rfl) (fun _ _ _ h => h) (Or.inl ⟨by rfl, ?_⟩) (by assumption) ?_
  rotate_left
  · intro W hSw; (try dsimp only at hSw); obtain ⟨nS, hSw⟩ := hSw; obtain ⟨o0, o1, o2, o3, o4, of, ol⟩ := hSw.F; have m32 : W.cell? ⟨w.heap.size, 32, none⟩ = some (.int .u64 k.pc) := hSw.M.cells.2.1; go_simp; try (with_reducible rfl)
  (try simp only [Act.put])
  refine wpAnyH_ready (rs := [7]) (by kernel_rfl) (by simp) ?_
  refine AllReadyH.cons rfl (fun K hK => ?_) AllReadyH.nil
  go_simp
  refine (HDO.out _).mono ?_
  rintro e w7 ⟨rfl, hb7⟩
  have H7 := Lib.hid (H6.out.next hb7)
  refine hK.out _ _ ⟨_, H7.out⟩ (fun hHeld => ?_)
  clear hK K hb7 H6
  (try simp only [Act.put])
  refine wpAnyH_ready (rs := [9]) (by kernel_rfl) (by simp) ?_
  refine AllReadyH.cons rfl (fun K hK => ?_) AllReadyH.nil
  go_simp
  refine hK.out _ _ ⟨_, H7.out⟩ (fun hHeld => ?_)
  clear hK K
  (try simp only [Act.put])
  have nf := H7.out.N.cells.2.2.2.2.2.2.2.2
  have yr := H7.out.N.cells.1 rd.toNat (by omega)
  have H8 := Lib.hid (H7.out.put rd.toNat (.int .u64 D) { addPc (tickM k) 4 with x := upd k.x rd.toNat D } (mcells_setX (addPc (tickM k) 4) rd.toNat (by omega) D))
  refine wpAnyH_ready (rs := [10]) (by kernel_rfl) (by simp) ?_
  refine AllReadyH.cons rfl (fun K hK => ?_) AllReadyH.nil
  go_simp
  refine hK.out _ _ ⟨_, H8.out⟩ (fun hHeld => ?_)
  clear hK K nf yr
  (try simp only [Act.put])
  refine wpAnyH_done (by kernel_rfl) ?_ _
  refine NoPanic.normal ?_
  clear hHeld
  obtain ⟨U8, hU8⟩ : ∃ W, w7.setCell ⟨nv, rd.toNat, none⟩ (.int .u64 D) = W := ⟨_, rfl⟩
  rw [hU8] at H8
  rw [hU8]
  clear hU8
  have y0 := H8.out.N.cells.1 0 (by omega)
  have nf8 := H8.out.N.cells.2.2.2.2.2.2.2.2
  have H9 := Lib.hid (H8.out.put 0 (.int .u64 0) { addPc (tickM k) 4 with x := upd (upd k.x rd.toNat D) 0 0 } (mcells_setX { addPc (tickM k) 4 with x := upd k.x rd.toNat D } 0 (by omega) 0))
  obtain ⟨o0, -, -, -, -, of, ol⟩ := H9.out.F
  have n32 := H9.out.N.cells.2.1
  have nf9 := H9.out.N.cells.2.2.2.2.2.2.2.2
  have H10 := Lib.hid (H9.out.put 32 (.int .u64 (Y / 2 * 2)) { tickM k with pc := Y / 2 * 2, x := upd (upd k.x rd.toNat D) 0 0 } (mcells_set32 _ _))
  have HN7 := Lib.hid H10.out.N
  have HZ7 := Lib.hid H10.out.Z
  have hyr := HY.out
  obtain ⟨hy1, hy2, hy3⟩ := HYB.out
  go_wp2_with (first | (refine load_mach rfl _ rfl _ rfl _ HN7.out ?_) | (refine store_mach rfl _ _ rfl _ _ rfl rfl _ HZ7.out ?_))
  refine bodyPost_ret (results_mach Tryd.results17 _ _ _ _ rfl (H10.out.Z.row _)) rfl ?_
  rw [outR_jalr HZX.out r0, HD.out, HY.out]
  exact H10.out.done _ ⟨rfl, rfl, rfl⟩
end Go.Proofs.YtclbkdnihhmglaaDoor

namespace Go.Proofs.YtclbkdnihhmglaaDoor
open Go.RowKit

set_option maxRecDepth 100000 in
theorem rstep_over (k : Mc) (m : List M.Pg) (w : World) (hP : Pages w (.slice k.ma k.ml k.mc) m) (hst : k.st ≠ 0) : Calls Tryd.prog 17 #[.agg (mcells k)] w (StepPost k m w) := by
  have HS := Lib.hid (fun W h => call_start k w W h)
  have t0 : (k.st != 0) = true := by simpa using hst
  have HP := Lib.hid hP
  clear hst hP
  go_enter Tryd.func17, Tryd.ntmps17
  go_wp2_with (first
    | (refine load_mach rfl _ rfl _ rfl _ HM2.out ?_)
    | (refine store_mach rfl _ _ rfl _ _ rfl rfl _ HZ2.out ?_)
    | (
    refine alloc_mach rfl rfl ?_
    obtain ⟨W, hW⟩ : ∃ W, W = ((w.alloc (.cells (mcells k) 26)).alloc (.cells (mcells zeroMc) 26)) := ⟨_, rfl⟩
    obtain ⟨hM, hZ, hB⟩ := HS.out W hW
    rw [← hW]
    clear hW HS
    obtain ⟨mx, m32, m33, m34, m35, m36, m37, m38, mf⟩ := hM.cells
    have HM2 := Lib.hid hM
    have HZ2 := Lib.hid hZ
    have HB2 := Lib.hid hB
    clear hM hZ hB mx m32 m33 m34 m35 m37))
  have hb := below_row HB2.out (mcells k) (B := w.heap.size + 1) (by omega)
  exact bodyPost_ret (results_mach Tryd.results17 _ _ _ _ rfl (HZ2.out.row k)) rfl ⟨k.ma, k.ml, k.mc, rfl, HP.out.next hb, hb⟩
set_option maxRecDepth 100000 in
set_option maxHeartbeats 4000000 in
theorem rstep_odd (k : Mc) (m : List M.Pg) (w : World) (hP : Pages w (.slice k.ma k.ml k.mc) m) (hM : MI k m) (hst : k.st = 0) (h4 : k.pc % 4 ≠ 0) :
    Calls Tryd.prog 17 #[.agg (mcells k)] w (StepPost (trapM k) m w) := by
  have HS := Lib.hid (fun W h => call_start k w W h)
  have HL := Lib.hid (fun (W : World) (hb : Below w.heap.size w W) => refLoad_any k.pc 4 1 (hP.next hb) hM.wf hM.pc.1 hM.pc.2 (by omega) (by omega))
  obtain ⟨V, hV⟩ : ∃ V, loadV m k.pc 4 1 = V := ⟨_, rfl⟩
  obtain ⟨E1, hE1⟩ : ∃ V, numErr m k.pc 4 1 = V := ⟨_, rfl⟩
  rw [hV, hE1] at HL
  have HP := Lib.hid hP
  have HST := Lib.hid hst
  have m4 : (k.pc.tmod 4 != 0) = true := by rw [Int.tmod_eq_emod_of_nonneg hM.pc.1]; simpa using h4
  have m5 : (k.pc % 4 != 0) = true := by simpa using h4
  clear h4
  clear hP hst hM hV hE1
  go_enter Tryd.func17, Tryd.ntmps17
  go_wp2_with (
    refine alloc_mach rfl rfl ?_
    obtain ⟨W, hW⟩ : ∃ W, W = ((w.alloc (.cells (mcells k) 26)).alloc (.cells (mcells zeroMc) 26)) := ⟨_, rfl⟩
    obtain ⟨hM, hZ, hB⟩ := HS.out W hW
    rw [← hW]
    clear hW HS
    obtain ⟨mx, m32, m33, m34, m35, m36, m37, m38, mf⟩ := hM.cells
    rw [HST.out] at m36
    have h1 := Whole.put hM 38 (.int .u64 (IntKind.u64.wrap (k.n + 1)))
    rw [mcells_set38] at h1
    have HM2 := Lib.hid (show Mach (W.setCell ⟨w.heap.size, 38, none⟩ (.int .u64 (IntKind.u64.wrap (k.n + 1)))) w.heap.size (tickM k) from h1)
    have HZ2 := Lib.hid (hZ.other ⟨w.heap.size, 38, none⟩ (.int .u64 (IntKind.u64.wrap (k.n + 1))) (by simp))
    have HB2 := Lib.hid (hB.setCell (p := ⟨w.heap.size, 38, none⟩) (by simp) (.int .u64 (IntKind.u64.wrap (k.n + 1))))
    clear hM hZ hB mx h1 m34 m35 m37)
  refine (HL.out _ HB2.out).mono ?_
  rintro e w3 ⟨rfl, hb3⟩
  have HM3 := Lib.hid (HM2.out.next hb3)
  have HZ3 := Lib.hid (HZ2.out.next hb3)
  have HB3 := Lib.hid (bthen HB2.out hb3)
  clear hb3 m32 m33 m36 m38 mf
  obtain ⟨-, m32', -, -, -, -, -, -, mf⟩ := HM3.out.cells
  have m32 : w3.cell? ⟨w.heap.size, 32, none⟩ = some (.int .u64 k.pc) := m32'
  clear m32'
  go_wp2_with (refine load_mach rfl _ rfl _ rfl _ HM3.out ?_)
  refine (rtrap_any (tickM k) _).mono ?_
  rintro e w8 ⟨rfl, hb8⟩
  have HZ8 := Lib.hid (HZ3.out.next hb8)
  have HB8 := Lib.hid (bthen HB3.out hb8)
  clear hb8
  go_wp2_with (refine store_mach rfl _ _ rfl _ _ rfl rfl _ HZ8.out ?_)
  have hb := below_row HB8.out (mcells (trap2 (tickM k))) (B := w.heap.size + 1) (by omega)
  exact bodyPost_ret (results_mach Tryd.results17 _ _ _ _ rfl (HZ8.out.row (trap2 (tickM k)))) rfl ⟨k.ma, k.ml, k.mc, rfl, HP.out.next hb, hb⟩
set_option maxRecDepth 100000 in
set_option maxHeartbeats 4000000 in
theorem rstep_bad (k : Mc) (m : List M.Pg) (w : World) (hP : Pages w (.slice k.ma k.ml k.mc) m) (hM : MI k m) (hst : k.st = 0) (h4 : k.pc % 4 = 0) (he : numErr m k.pc 4 1 ≠ 0) :
    Calls Tryd.prog 17 #[.agg (mcells k)] w (StepPost (trapM k) m w) := by
  have HS := Lib.hid (fun W h => call_start k w W h)
  have HL := Lib.hid (fun (W : World) (hb : Below w.heap.size w W) => refLoad_any k.pc 4 1 (hP.next hb) hM.wf hM.pc.1 hM.pc.2 (by omega) (by omega))
  obtain ⟨V, hV⟩ : ∃ V, loadV m k.pc 4 1 = V := ⟨_, rfl⟩
  obtain ⟨E1, hE1⟩ : ∃ V, numErr m k.pc 4 1 = V := ⟨_, rfl⟩
  rw [hV, hE1] at HL
  have HP := Lib.hid hP
  have HST := Lib.hid hst
  have m4 : (k.pc.tmod 4 != 0) = false := by rw [Int.tmod_eq_emod_of_nonneg hM.pc.1, h4]; rfl
  have m5 : (k.pc % 4 != 0) = false := by rw [h4]; rfl
  rw [hE1] at he
  have tx : (E1 != 0) = true := by simpa using he
  clear h4 he
  clear hP hst hM hV hE1
  go_enter Tryd.func17, Tryd.ntmps17
  go_wp2_with (
    refine alloc_mach rfl rfl ?_
    obtain ⟨W, hW⟩ : ∃ W, W = ((w.alloc (.cells (mcells k) 26)).alloc (.cells (mcells zeroMc) 26)) := ⟨_, rfl⟩
    obtain ⟨hM, hZ, hB⟩ := HS.out W hW
    rw [← hW]
    clear hW HS
    obtain ⟨mx, m32, m33, m34, m35, m36, m37, m38, mf⟩ := hM.cells
    rw [HST.out] at m36
    have h1 := Whole.put hM 38 (.int .u64 (IntKind.u64.wrap (k.n + 1)))
    rw [mcells_set38] at h1
    have HM2 := Lib.hid (show Mach (W.setCell ⟨w.heap.size, 38, none⟩ (.int .u64 (IntKind.u64.wrap (k.n + 1)))) w.heap.size (tickM k) from h1)
    have HZ2 := Lib.hid (hZ.other ⟨w.heap.size, 38, none⟩ (.int .u64 (IntKind.u64.wrap (k.n + 1))) (by simp))
    have HB2 := Lib.hid (hB.setCell (p := ⟨w.heap.size, 38, none⟩) (by simp) (.int .u64 (IntKind.u64.wrap (k.n + 1))))
    clear hM hZ hB mx h1 m34 m35 m37)
  refine (HL.out _ HB2.out).mono ?_
  rintro e w3 ⟨rfl, hb3⟩
  have HM3 := Lib.hid (HM2.out.next hb3)
  have HZ3 := Lib.hid (HZ2.out.next hb3)
  have HB3 := Lib.hid (bthen HB2.out hb3)
  clear hb3 m32 m33 m36 m38 mf
  obtain ⟨-, m32', -, -, -, -, -, -, mf⟩ := HM3.out.cells
  have m32 : w3.cell? ⟨w.heap.size, 32, none⟩ = some (.int .u64 k.pc) := m32'
  clear m32'
  go_wp2_with (refine load_mach rfl _ rfl _ rfl _ HM3.out ?_)
  refine (rtrap_any (tickM k) _).mono ?_
  rintro e w8 ⟨rfl, hb8⟩
  have HZ8 := Lib.hid (HZ3.out.next hb8)
  have HB8 := Lib.hid (bthen HB3.out hb8)
  clear hb8
  go_wp2_with (refine store_mach rfl _ _ rfl _ _ rfl rfl _ HZ8.out ?_)
  have hb := below_row HB8.out (mcells (trap2 (tickM k))) (B := w.heap.size + 1) (by omega)
  exact bodyPost_ret (results_mach Tryd.results17 _ _ _ _ rfl (HZ8.out.row (trap2 (tickM k)))) rfl ⟨k.ma, k.ml, k.mc, rfl, HP.out.next hb, hb⟩
set_option maxRecDepth 100000 in
set_option maxHeartbeats 4000000 in
theorem rstep_none (k : Mc) (m : List M.Pg) (w : World) (hP : Pages w (.slice k.ma k.ml k.mc) m) (hM : MI k m) (hst : k.st = 0) (h4 : k.pc % 4 = 0) (he : numErr m k.pc 4 1 = 0) (hno : ∀ K : Nat, 1 ≤ K → K < 32 → E.M.okAt (loadV m k.pc 4 1) K = false) :
    Calls Tryd.prog 17 #[.agg (mcells k)] w (StepPost (trapM k) m w) := by
  have HS := Lib.hid (fun W h => call_start k w W h)
  have HL := Lib.hid (fun (W : World) (hb : Below w.heap.size w W) => refLoad_any k.pc 4 1 (hP.next hb) hM.wf hM.pc.1 hM.pc.2 (by omega) (by omega))
  obtain ⟨V, hV⟩ : ∃ V, loadV m k.pc 4 1 = V := ⟨_, rfl⟩
  obtain ⟨E1, hE1⟩ : ∃ V, numErr m k.pc 4 1 = V := ⟨_, rfl⟩
  rw [hV, hE1] at HL
  have HP := Lib.hid hP
  have HST := Lib.hid hst
  have m4 : (k.pc.tmod 4 != 0) = false := by rw [Int.tmod_eq_emod_of_nonneg hM.pc.1, h4]; rfl
  have m5 : (k.pc % 4 != 0) = false := by rw [h4]; rfl
  obtain ⟨v0, v1⟩ := load4_in m k.pc
  rw [hV] at v0 v1 hno
  rw [hE1] at he
  subst he
  have wv : IntKind.u32.wrap V = V := by rw [IntKind.wrap_u32]; omega
  have HT := Lib.hid (fun W => rtake_f hno W v0 v1)
  clear h4 hno
  clear hP hst hM hV hE1
  go_enter Tryd.func17, Tryd.ntmps17
  go_wp2_with (
    refine alloc_mach rfl rfl ?_
    obtain ⟨W, hW⟩ : ∃ W, W = ((w.alloc (.cells (mcells k) 26)).alloc (.cells (mcells zeroMc) 26)) := ⟨_, rfl⟩
    obtain ⟨hM, hZ, hB⟩ := HS.out W hW
    rw [← hW]
    clear hW HS
    obtain ⟨mx, m32, m33, m34, m35, m36, m37, m38, mf⟩ := hM.cells
    rw [HST.out] at m36
    have h1 := Whole.put hM 38 (.int .u64 (IntKind.u64.wrap (k.n + 1)))
    rw [mcells_set38] at h1
    have HM2 := Lib.hid (show Mach (W.setCell ⟨w.heap.size, 38, none⟩ (.int .u64 (IntKind.u64.wrap (k.n + 1)))) w.heap.size (tickM k) from h1)
    have HZ2 := Lib.hid (hZ.other ⟨w.heap.size, 38, none⟩ (.int .u64 (IntKind.u64.wrap (k.n + 1))) (by simp))
    have HB2 := Lib.hid (hB.setCell (p := ⟨w.heap.size, 38, none⟩) (by simp) (.int .u64 (IntKind.u64.wrap (k.n + 1))))
    clear hM hZ hB mx h1 m34 m35 m37)
  refine (HL.out _ HB2.out).mono ?_
  rintro e w3 ⟨rfl, hb3⟩
  have HM3 := Lib.hid (HM2.out.next hb3)
  have HZ3 := Lib.hid (HZ2.out.next hb3)
  have HB3 := Lib.hid (bthen HB2.out hb3)
  clear hb3 m32 m33 m36 m38 mf
  obtain ⟨-, m32', -, -, -, -, -, -, mf⟩ := HM3.out.cells
  have m32 : w3.cell? ⟨w.heap.size, 32, none⟩ = some (.int .u64 k.pc) := m32'
  clear m32'
  go_wp2_with fail
  refine (HT.out _).mono ?_
  rintro e w4 ⟨rfl, hb4⟩
  have HM4 := Lib.hid ((HM3.out.next hb4).alloc (.cells #[.int .i64 0, .int .i64 0, .int .i64 0, .int .i64 0, .int .i64 0] 35))
  have HZ4 := Lib.hid ((HZ3.out.next hb4).alloc (.cells #[.int .i64 0, .int .i64 0, .int .i64 0, .int .i64 0, .int .i64 0] 35))
  have HB4 := Lib.hid (balloc (bthen HB3.out hb4) (.cells #[.int .i64 0, .int .i64 0, .int .i64 0, .int .i64 0, .int .i64 0] 35))
  clear hb4 m32 mf
  go_wp2_with (refine load_mach rfl _ rfl _ rfl _ HM4.out ?_)
  refine (rtrap_any (tickM k) _).mono ?_
  rintro e w8 ⟨rfl, hb8⟩
  have HZ8 := Lib.hid (HZ4.out.next hb8)
  have HB8 := Lib.hid (bthen HB4.out hb8)
  clear hb8
  go_wp2_with (refine store_mach rfl _ _ rfl _ _ rfl rfl _ HZ8.out ?_)
  have hb := below_row HB8.out (mcells (trap2 (tickM k))) (B := w.heap.size + 1) (by omega)
  exact bodyPost_ret (results_mach Tryd.results17 _ _ _ _ rfl (HZ8.out.row (trap2 (tickM k)))) rfl ⟨k.ma, k.ml, k.mc, rfl, HP.out.next hb, hb⟩
end Go.Proofs.YtclbkdnihhmglaaDoor

namespace Go.Proofs.YtclbkdnihhmglaaDoor
open Go.RowKit

theorem rstep_any (k : Mc) (m : List M.Pg) (w : World) (hP : Pages w (.slice k.ma k.ml k.mc) m) (hM : MI k m) (hz : k.x 0 = 0) (ho : k.out.size + 1 ≤ 9223372036854775807) :
    Calls Tryd.prog 17 #[.agg (mcells k)] w (StepPost (stepR k m).1 (stepR k m).2 w) := by
  unfold stepR
  by_cases hst : k.st ≠ 0
  · rw [if_pos hst]
    exact rstep_over k m w hP hst
  rw [if_neg hst]
  have hst : k.st = 0 := by omega
  by_cases hf : k.pc % 4 = 0 ∧ numErr m k.pc 4 1 = 0
  · rw [if_pos hf]
    obtain ⟨v0, v1⟩ := load4_in m k.pc
    cases hd : decK (loadV m k.pc 4 1) with
    | none => exact rstep_none k m w hP hM hst hf.1 hf.2 (decK_none hd)
    | some K =>
      obtain ⟨k1, k2, hok⟩ := decK_some hd
      obtain ⟨g1, g2⟩ := E.take_okI k1 k2 hok
      obtain ⟨-, -, ⟨d0, d1⟩, ⟨a0, a1⟩, ⟨b0, b1⟩, gb, -⟩ := okI_regs g1
      obtain ⟨V, hV⟩ : ∃ V, loadV m k.pc 4 1 = V := ⟨_, rfl⟩
      have hT := fun W => rtake_t k1 k2 hok W v0 v1
      rw [hV] at hT v0 v1 d0 d1 a0 a1 b0 b1 gb ⊢
      obtain ⟨RA, hRA⟩ := Int.eq_ofNat_of_zero_le a0
      obtain ⟨RB, hRB⟩ := Int.eq_ofNat_of_zero_le b0
      obtain ⟨rd, hrd⟩ : ∃ r, E.M.tRd K V = r := ⟨_, rfl⟩
      obtain ⟨i, hi⟩ : ∃ r, E.M.tI K V = r := ⟨_, rfl⟩
      rw [hRA, hRB, hrd, hi] at hT
      rw [hRA] at a1
      rw [hRB] at b1
      rw [hrd] at d0 d1 gb
      simp only [hRA, hRB, hrd, hi, Int.toNat_natCast]
      obtain ⟨kd, hkd⟩ : ∃ kd : Int, (K : Int) = kd := ⟨_, rfl⟩
      rw [hkd] at hT gb ⊢
      have kd0 : 1 ≤ kd ∧ kd < 32 := by omega
      clear hkd g1 g2 hok hd k1 k2 hRA hRB hrd hi a0 b0
      have a1 : RA < 32 := by omega
      have b1 : RB < 32 := by omega
      show Calls Tryd.prog 17 #[.agg (mcells k)] w (StepPost (outR k m kd rd i RA RB).1 (outR k m kd rd i RA RB).2 w)
      by_cases h31 : kd = 31
      · subst h31
        exact rstep_31 k m rd i RA RB V w hP hM hst hf.1 hf.2 hV v0 v1 hT d0 d1 a1 b1 ho
      by_cases h19 : kd = 19
      · subst h19
        exact rstep_19 k m rd i RA RB V w hP hM hst hf.1 hf.2 hV v0 v1 hT d0 d1 a1 b1 hz
      by_cases h20 : kd = 20
      · subst h20
        exact rstep_20 k m rd i RA RB V w hP hM hst hf.1 hf.2 hV v0 v1 hT d0 d1 a1 b1 hz
      by_cases h21 : kd = 21
      · subst h21
        exact rstep_21 k m rd i RA RB V w hP hM hst hf.1 hf.2 hV v0 v1 hT d0 d1 a1 b1
      by_cases h22 : kd = 22
      · subst h22
        exact rstep_22 k m rd i RA RB V w hP hM hst hf.1 hf.2 hV v0 v1 hT d0 d1 a1 b1
      by_cases hb : 23 ≤ kd ∧ kd ≤ 26
      · have hr0 : rd = 0 := gb hb.1 hb.2
        cases hg : goesB kd (k.x RA) (k.x RB) with
        | true =>
          rw [outR_br1 hb.1 hb.2 hr0 hg]
          exact rstep_br1 k m kd rd i RA RB V w hP hM hst hf.1 hf.2 hV v0 v1 hT d0 d1 a1 b1 hb.1 hb.2 hg
        | false =>
          rw [outR_br0 hb.1 hb.2 hr0 hg]
          exact rstep_br0 k m kd rd i RA RB V w hP hM hst hf.1 hf.2 hV v0 v1 hT d0 d1 a1 b1 hb.1 hb.2 hg
      by_cases h29 : kd = 29
      · subst h29
        exact rstep_jal k m rd i RA RB V w hP hM hst hf.1 hf.2 hV v0 v1 hT d0 d1 a1 b1 hz
      by_cases h30 : kd = 30
      · subst h30
        exact rstep_jalr k m rd i RA RB V w hP hM hst hf.1 hf.2 hV v0 v1 hT d0 d1 a1 b1 hz
      exact rstep_alu k m kd rd i RA RB V w hP hM hst hf.1 hf.2 hV v0 v1 hT d0 d1 a1 b1 hz ⟨h31, h19, h20, h21, h22, h29, h30⟩ hb
  · rw [if_neg hf]
    by_cases h4 : k.pc % 4 = 0
    · exact rstep_bad k m w hP hM hst h4 (fun e => hf ⟨h4, e⟩)
    · exact rstep_odd k m w hP hM hst h4

set_option maxRecDepth 100000 in
set_option maxHeartbeats 4000000 in
theorem rrun_any (k : Mc) (m : List M.Pg) (n : Int) (w : World) (hP : Pages w (.slice k.ma k.ml k.mc) m) (hM : MI k m) (hz : k.x 0 = 0) (ho : k.out.size ≤ 140737488354000) (hn : n ≤ 300) :
    Calls Tryd.prog 8 #[.agg (mcells k), .int .i64 n] w (StepPost (runR n.toNat k m).1 (runR n.toNat k m).2 w) := by
  have HS := Lib.hid (fun W h => call_start k w W h)
  have HP := Lib.hid hP
  have HMI := Lib.hid hM
  have HZR := Lib.hid hz
  have HO := Lib.hid ho
  have HN3 := Lib.hid hn
  clear hP hM hz ho hn
  go_enter Tryd.func8, Tryd.ntmps8
  go_wp2_with (
    refine alloc_mach rfl rfl ?_
    obtain ⟨W, hW⟩ : ∃ W, W = ((w.alloc (.cells (mcells k) 26)).alloc (.cells (mcells zeroMc) 26)) := ⟨_, rfl⟩
    obtain ⟨hM, hZ, hB⟩ := HS.out W hW
    rw [← hW]
    clear hW HS
    have HM2 := Lib.hid hM
    have HZ2 := Lib.hid hZ
    have HB2 := Lib.hid hB
    clear hM hZ hB)
  go_loopw [5] (fun i wr => ∃ (j : Nat) (A : Option Addr) (l c : Nat), j ≤ n.toNat ∧ i = .int .i64 j ∧ Mach wr w.heap.size { (runR j k m).1 with ma := A, ml := l, mc := c } ∧ Pages wr (.slice A l c) (runR j k m).2 ∧ Mach wr (w.heap.size + 1) zeroMc ∧ Below w.heap.size w wr) (fun i _ => n.toNat - (intOf i).toNat)
  case atStart => exact ⟨0, k.ma, k.ml, k.mc, Nat.zero_le _, rfl, HM2.out, HP.out.next HB2.out, HZ2.out, HB2.out⟩
  case round =>
    obtain ⟨j, A, l, c, hj, rfl, hM, hp, hZ, hb⟩ := hrel
    have HM := Lib.hid hM
    have HPP := Lib.hid hp
    have HZM := Lib.hid hZ
    have HB := Lib.hid hb
    have HJ := Lib.hid hj
    clear hM hp hZ hb hj
    by_cases hlt : (j : Int) < n
    · have HJN := Lib.hid (show j + 1 ≤ n.toNat by omega)
      have hj3 : (j : Int) ≤ 300 := by have := HJN.out; have := HN3.out; omega
      go_wp2_with (refine load_mach rfl _ rfl _ rfl _ HM.out ?_)
      have hmi := (runR_mi HMI.out j).1
      have hro := runR_out k m j
      refine (rstep_any { (runR j k m).1 with ma := A, ml := l, mc := c } (runR j k m).2 _ HPP.out ⟨hmi.x, hmi.pc, hmi.cd, hmi.n, hmi.st, hmi.wf⟩ (runR_zero HZR.out j) (by have := HO.out; show (runR j k m).1.out.size + 1 ≤ _; omega)).mono ?_
      clear hmi hro
      rintro e w5 ⟨A5, l5, c5, rfl, hp5, hb5⟩
      have hw := stepR_with (runR j k m).1 A l c (runR j k m).2
      unfold withM at hw
      rw [hw] at hp5
      rw [hw]
      have hE : ({ ({ (stepR (runR j k m).1 (runR j k m).2).1 with ma := A, ml := l, mc := c } : Mc) with ma := A5, ml := l5, mc := c5 } : Mc) = { (runR (j + 1) k m).1 with ma := A5, ml := l5, mc := c5 } := rfl
      rw [hE]
      obtain ⟨k5, hk5⟩ : ∃ q, ({ (runR (j + 1) k m).1 with ma := A5, ml := l5, mc := c5 } : Mc) = q := ⟨_, rfl⟩
      rw [hk5]
      have HK5 := Lib.hid hk5
      have hM5 := HM.out.next hb5
      have HM5 := Lib.hid hM5
      have HM6 := Lib.hid (hM5.row k5)
      have HP6 := Lib.hid (show Pages (w5.setRow w.heap.size (mcells k5)) (.slice A5 l5 c5) (runR (j + 1) k m).2 from pages_keepM hp5 hM5 (grownBy_row _ _ _))
      have HZ6 := Lib.hid ((HZM.out.next hb5).rowOther (B' := w.heap.size) (mcells k5) (by omega))
      have HB6 := Lib.hid (below_row (bthen HB.out hb5) (B := w.heap.size) (mcells k5) (Nat.le_refl _))
      clear hb5 hM5 hw hE hp5 hk5
      go_wp2_with (refine store_mach rfl _ _ rfl _ _ rfl rfl _ HM5.out ?_)
      go_roundw
      case rel => exact ⟨j + 1, A5, l5, c5, HJN.out, by go_num, by rw [HK5.out]; exact HM6.out, HP6.out, HZ6.out, HB6.out⟩
      case measure => have := HJN.out; simp [intOf]; omega
    · have HE := Lib.hid (show n.toNat = j by have := HJ.out; omega)
      go_wp2_with (first | (refine load_mach rfl _ rfl _ rfl _ HM.out ?_) | (refine store_mach rfl _ _ rfl _ _ rfl rfl _ HZM.out ?_))
      refine bodyPost_ret (results_mach Tryd.results8 _ _ _ _ rfl (HZM.out.row _)) rfl ?_
      rw [HE.out]
      exact ⟨A, l, c, rfl, pages_keepM HPP.out HZM.out (grownBy_row _ _ _), below_row HB.out _ (by omega)⟩
end Go.Proofs.YtclbkdnihhmglaaDoor
