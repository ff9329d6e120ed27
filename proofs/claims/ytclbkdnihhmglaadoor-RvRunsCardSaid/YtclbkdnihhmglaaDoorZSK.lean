/- The reference's step: cases. The reference's step: cases. The reference's step: cases. The reference's step: cases. The reference's step: cases. The reference's step: cases. The reference's step: cases. -/
import Derived.Test.YtclbkdnihhmglaaDoorZSJ
import Derived.Deep.RegionHeld
namespace Go.Proofs.YtclbkdnihhmglaaDoor
open Go.RowKit

set_option maxRecDepth 100000 in
set_option maxHeartbeats 4000000 in
theorem rstep_31 (k : Mc) (m : List M.Pg) (rd i : Int) (RA RB : Nat) (V : Int) (w : World) (hP : Pages w (.slice k.ma k.ml k.mc) m) (hM : MI k m) (hst : k.st = 0) (h4 : k.pc % 4 = 0) (he : numErr m k.pc 4 1 = 0) (hv : loadV m k.pc 4 1 = V) (v0 : 0 ≤ V) (v1 : V < 4294967296)
    (hT : ∀ W, Calls Tryd.prog 27 #[.int .u32 V] W fun e w' => e = .returned (.tuple #[.agg #[.int .i64 31, .int .i64 rd, .int .i64 RA, .int .i64 RB, .int .i64 i], .int .i64 0]) ∧ Below W.heap.size W w') (_r0 : 0 ≤ rd) (_r1 : rd < 32) (a1 : RA < 32) (b1 : RB < 32) (ho : k.out.size + 1 ≤ 9223372036854775807) :
    Calls Tryd.prog 17 #[.agg (mcells k)] w (StepPost (outR k m 31 rd i RA RB).1 (outR k m 31 rd i RA RB).2 w) := by
  have HO := Lib.hid ho
  clear ho
  have HS := Lib.hid (fun W h => call_start k w W h)
  have HL := Lib.hid (fun (W : World) (hb : Below w.heap.size w W) => refLoad_any k.pc 4 1 (hP.next hb) hM.wf hM.pc.1 hM.pc.2 (by omega) (by omega))
  rw [he, hv] at HL
  have HT := Lib.hid hT
  have HP := Lib.hid hP
  have HST := Lib.hid hst
  have HMI := Lib.hid hM
  have m4 : (k.pc.tmod 4 != 0) = false := by rw [Int.tmod_eq_emod_of_nonneg hM.pc.1, h4]; rfl
  have m5 : (k.pc % 4 != 0) = false := by rw [h4]; rfl
  have wv : IntKind.u32.wrap V = V := by rw [IntKind.wrap_u32]; omega
  have a0 : (0 : Int) ≤ (RA : Int) := Int.natCast_nonneg _
  have b0 : (0 : Int) ≤ (RB : Int) := Int.natCast_nonneg _
  have a32 : (RA : Int) < 32 := by omega
  have b32 : (RB : Int) < 32 := by omega
  clear hT hP hst hM h4 he hv
  go_enter Tryd.func17, Tryd.ntmps17
  go_wp2_with (
    refine alloc_mach rfl rfl ?_
    obtain ⟨W, hW⟩ : ∃ W, W = ((w.alloc (.cells (mcells k) 26)).alloc (.cells (mcells zeroMc) 26)) := ⟨_, rfl⟩
    obtain ⟨hM, hZ, hB⟩ := HS.out W hW
    rw [← hW]
    clear hW HS
    obtain ⟨mx, m32, m33, m34, m35, m36, m37, m38, mf⟩ := hM.cells
    rw [HST.out] at m36
    have h1 := Whole.put hM 38 (.int .u64 (IntKind.u64.wrap (k.n + 1)))
    rw [mcells_set38] at h1
    have HM2 := Lib.hid (show Mach (W.setCell ⟨w.heap.size, 38, none⟩ (.int .u64 (IntKind.u64.wrap (k.n + 1)))) w.heap.size (tickM k) from h1)
    have HZ2 := Lib.hid (hZ.other ⟨w.heap.size, 38, none⟩ (.int .u64 (IntKind.u64.wrap (k.n + 1))) (by simp))
    have HB2 := Lib.hid (hB.setCell (p := ⟨w.heap.size, 38, none⟩) (by simp) (.int .u64 (IntKind.u64.wrap (k.n + 1))))
    clear hM hZ hB mx h1 m34 m35 m37)
  refine (HL.out _ HB2.out).mono ?_
  rintro e w3 ⟨rfl, hb3⟩
  have HM3 := Lib.hid (HM2.out.next hb3)
  have HZ3 := Lib.hid (HZ2.out.next hb3)
  have HB3 := Lib.hid (bthen HB2.out hb3)
  clear hb3 m32 m33 m36 m38 mf
  obtain ⟨-, m32', m33, -, -, -, -, -, mf⟩ := HM3.out.cells
  have m32 : w3.cell? ⟨w.heap.size, 32, none⟩ = some (.int .u64 k.pc) := m32'
  clear m32'
  go_wp2_with fail
  refine (HT.out _).mono ?_
  rintro e w4 ⟨rfl, hb4⟩
  have H3 := Lib.hid (show At3 k m 31 rd RA RB i w (w4.alloc (.cells #[.int .i64 31, .int .i64 rd, .int .i64 RA, .int .i64 RB, .int .i64 i] 35)) w4.heap.size from at3a (HM3.out.next hb4) (HZ3.out.next hb4) (bthen HB3.out hb4) HP.out)
  clear hb4 m32 m33 mf
  obtain ⟨o0, o1, o2, o3, o4, of, ol⟩ := H3.out.F
  obtain ⟨mx, -, -, -, -, -, -, -, mf⟩ := H3.out.M.cells
  have ma : (w4.alloc (.cells #[.int .i64 31, .int .i64 rd, .int .i64 RA, .int .i64 RB, .int .i64 i] 35)).cell? ⟨w.heap.size, RA, none⟩ = some (.int .u64 (k.x RA)) := mx RA a1
  have mb : (w4.alloc (.cells #[.int .i64 31, .int .i64 rd, .int .i64 RA, .int .i64 RB, .int .i64 i] 35)).cell? ⟨w.heap.size, RB, none⟩ = some (.int .u64 (k.x RB)) := mx RB b1
  have HMT := Lib.hid H3.out.M
  clear mx
  go_upto_region 15 with (first
    | (refine load_mach rfl _ rfl _ rfl _ HMT.out ?_
       obtain ⟨V3, hV3⟩ : ∃ V, w4.alloc (.cells #[.int .i64 31, .int .i64 rd, .int .i64 RA, .int .i64 RB, .int .i64 i] 35) = V := ⟨_, rfl⟩
       rw [hV3] at H3
       rw [hV3]
       obtain ⟨bo, hbo⟩ : ∃ b, w4.heap.size = b := ⟨_, rfl⟩
       rw [hbo] at H3
       rw [hbo]
       have H5 := Lib.hid (at5_of H3.out HP.out)
       have HNN := Lib.hid (Mach.new V3 zeroMc)
       clear hV3 hbo HMT o0 o1 o2 o3 o4 of ol mf ma mb)
    | (refine alloc_mach rfl rfl ?_)
    | (refine store_mach rfl _ _ rfl _ _ rfl rfl _ HNN.out ?_
       obtain ⟨U, hU⟩ : ∃ U, (V3.alloc (.cells (mcells zeroMc) 26)).setRow V3.heap.size (mcells (tickM k)) = U := ⟨_, rfl⟩
       rw [hU] at H5
       rw [hU]
       obtain ⟨nv, hnv⟩ : ∃ b, V3.heap.size = b := ⟨_, rfl⟩
       rw [hnv] at H5
       rw [hnv]
       have H6 := Lib.hid H5.out.pc4
       obtain ⟨-, m32', -, -, -, -, -, -, mf⟩ := H5.out.M.cells
       obtain ⟨-, n32, -, -, -, -, -, -, nf⟩ := H5.out.N.cells
       have m32 : U.cell? ⟨w.heap.size, 32, none⟩ = some (.int .u64 k.pc) := m32'
       clear hU hnv HNN H3 m32'))
  obtain ⟨U6, hU6⟩ : ∃ W, U.setCell ⟨nv, 32, none⟩ (.int .u64 (IntKind.u64.wrap (k.pc + 4))) = W := ⟨_, rfl⟩
  rw [show (tickM k).pc = k.pc from rfl, hU6] at H6
  rw [hU6]
  clear hU6 H5 m32 n32 mf nf
  obtain ⟨o0, o1, o2, o3, o4, of, ol⟩ := H6.out.F
  obtain ⟨mx', m32', m33', m34', m35', m36', m37', m38', mf⟩ := H6.out.M.cells
  obtain ⟨nx', n32, n33, n34, n35, n36, n37, n38, nf⟩ := H6.out.N.cells
  have m32 : U6.cell? ⟨w.heap.size, 32, none⟩ = some (.int .u64 k.pc) := m32'
  have m33 : U6.cell? ⟨w.heap.size, 33, none⟩ = some (.slice k.ma k.ml k.mc) := m33'
  have m34 : U6.cell? ⟨w.heap.size, 34, none⟩ = some (.string k.inp) := m34'
  have m35 : U6.cell? ⟨w.heap.size, 35, none⟩ = some (.string k.out) := m35'
  have m36 : U6.cell? ⟨w.heap.size, 36, none⟩ = some (.int .i64 0) := by rw [← HST.out]; exact m36'
  have m37 : U6.cell? ⟨w.heap.size, 37, none⟩ = some (.int .u64 k.cd) := m37'
  have mx : ∀ j, j < 32 → U6.cell? ⟨w.heap.size, j, none⟩ = some (.int .u64 (k.x j)) := mx'
  have nx : ∀ j, j < 32 → U6.cell? ⟨nv, j, none⟩ = some (.int .u64 (k.x j)) := nx'
  have x17 := mx 17 (by omega)
  have x10 := mx 10 (by omega)
  have y10 := nx 10 (by omega)
  have y0 := nx 0 (by omega)
  clear mx' nx' m32' m33' m34' m35' m36' m37' m38' n38
  by_cases h63 : k.x 17 = 63
  · have h17 := h63
    clear h63
    by_cases hi : k.inp = ⟨#[]⟩
    · have H17 := Lib.hid h17
      have HI := Lib.hid hi
      clear h17 hi
      clear mx nx y0 m32 m33 m36 n32 n33 n36 n37
      rw [H17.out] at x17
      have H7 := Lib.hid (H6.out.put 10 (.int .u64 256) { addPc (tickM k) 4 with x := upd k.x 10 256 } (mcells_setX (addPc (tickM k) 4) 10 (by omega) 256))
      have p34 : (U6.setCell ⟨nv, 10, none⟩ (.int .u64 256)).cell? ⟨w.heap.size, 34, none⟩ = some (.string ⟨#[]⟩) := by rw [← HI.out]; exact H7.out.M.cells.2.2.2.1
      have HN7 := Lib.hid H7.out.N
      have HZ7 := Lib.hid H7.out.Z
      go_wp2_with (first | (refine load_mach rfl _ rfl _ rfl _ HN7.out ?_) | (refine store_mach rfl _ _ rfl _ _ rfl rfl _ HZ7.out ?_))
      refine bodyPost_ret (results_mach Tryd.results17 _ _ _ _ rfl (H7.out.Z.row _)) rfl ?_
      rw [outR_read0 HST.out H17.out HI.out]
      exact H7.out.done _ ⟨rfl, rfl, rfl⟩
    · have H17 := Lib.hid h17
      have HNI := Lib.hid hi
      obtain ⟨S, hS⟩ : ∃ S, k.inp = S := ⟨_, rfl⟩
      rw [hS] at hi m34
      have hs : 0 < S.size := by
        rcases Nat.eq_zero_or_pos S.size with h | h
        · exact absurd (by cases S with | mk a => have h' : a.size = 0 := h; rw [Array.size_eq_zero_iff.1 h']) hi
        · exact h
      have hfb : IntKind.u64.wrap ((S[0]'hs).toNat : Int) = firstB S := by
        have h1 : (S[0]'hs) = S.data[0]'hs := rfl
        have h2 : firstB S = ((S.data[0]'hs).toNat : Int) := by
          unfold firstB
          rw [List.getD_eq_getElem?_getD, Array.getElem?_toList, Array.getElem?_eq_getElem hs]
          rfl
        have h3 := (S.data[0]'hs).toNat_lt
        rw [h1, h2, IntKind.wrap_u64]
        omega
      have HFB := Lib.hid hfb
      have HSS := Lib.hid hS
      clear hfb h17 hS hi
      clear mx nx y0 m32 m33 m36 n32 n33 n36 n37
      rw [H17.out] at x17
      have H7 := Lib.hid (H6.out.put 10 (.int .u64 256) { addPc (tickM k) 4 with x := upd k.x 10 256 } (mcells_setX (addPc (tickM k) 4) 10 (by omega) 256))
      have p34 : (U6.setCell ⟨nv, 10, none⟩ (.int .u64 256)).cell? ⟨w.heap.size, 34, none⟩ = some (.string S) := by rw [← HSS.out]; exact H7.out.M.cells.2.2.2.1
      have H8 := Lib.hid (H7.out.put 10 (.int .u64 (IntKind.u64.wrap ((S[0]'hs).toNat : Int))) { addPc (tickM k) 4 with x := upd k.x 10 (firstB S) } (by rw [mcells_setX { addPc (tickM k) 4 with x := upd k.x 10 256 } 10 (by omega)]; show mcells { addPc (tickM k) 4 with x := upd (upd k.x 10 256) 10 _ } = _; rw [upd_upd, HFB.out]))
      have q34 : ((U6.setCell ⟨nv, 10, none⟩ (.int .u64 256)).setCell ⟨nv, 10, none⟩ (.int .u64 (IntKind.u64.wrap ((S[0]'hs).toNat : Int)))).cell? ⟨w.heap.size, 34, none⟩ = some (.string S) := by have h := H8.out.M.cells.2.2.2.1; rw [show (tickM k).inp = S from HSS.out] at h; exact h
      have p10 := H7.out.N.cells.1 10 (by omega)
      have pf := H7.out.N.cells.2.2.2.2.2.2.2.2
      have qn34 := H8.out.N.cells.2.2.2.1
      have qf := H8.out.N.cells.2.2.2.2.2.2.2.2
      have H9 := Lib.hid (H8.out.put 34 (.string (S.extract 1 S.size)) { addPc (tickM k) 4 with x := upd k.x 10 (firstB S), inp := S.extract 1 S.size } (mcells_set34 _ _))
      have HN7 := Lib.hid H9.out.N
      have HZ7 := Lib.hid H9.out.Z
      go_wp2_with (first | (refine load_mach rfl _ rfl _ rfl _ HN7.out ?_) | (refine store_mach rfl _ _ rfl _ _ rfl rfl _ HZ7.out ?_))
      refine bodyPost_ret (results_mach Tryd.results17 _ _ _ _ rfl (H9.out.Z.row _)) rfl ?_
      rw [outR_read1 HST.out H17.out HNI.out, HSS.out]
      exact H9.out.done _ ⟨rfl, rfl, rfl⟩
  by_cases h64 : k.x 17 = 64
  · have h17 := h64
    clear h63 h64
    have H17 := Lib.hid h17
    have HSUM := Lib.hid (fun W => run_string_add_sum (P := Tryd.prog) W k.out ⟨#[byteB (k.x 10)]⟩ HO.out)
    have g0 := (HMI.out.x 10 (by omega)).1
    have g1 := (HMI.out.x 10 (by omega)).2
    clear h17
    clear mx nx y0 m32 m33 m36 n32 n33 n36 n37
    rw [H17.out] at x17
    have hcv : (convert 45 9 (.slice (some ⟨U6.heap.size, 0, none⟩) 1 1)).run Tryd.prog (U6.alloc (.cells #[.int .u8 (k.x 10 % 256)] 5)) = .ok (.string ⟨#[byteB (k.x 10)]⟩) (U6.alloc (.cells #[.int .u8 (k.x 10 % 256)] 5)) := by
      have h := run_convert_bytes_arg (U6.alloc (.cells #[.int .u8 (k.x 10 % 256)] 5)) 45 5 Tryd.underlying45 Tryd.underlying5 U6.heap.size 0 1 1 [k.x 10 % 256] rfl (fun i hi => by
        obtain rfl : i = 0 := by omega
        simp [go_sem]) 9 Tryd.underlying9
      rw [h]
      simp [strOfNums, byteB]
    have hsum := HSUM.out (U6.alloc (.cells #[.int .u8 (k.x 10 % 256)] 5))
    have hmm : k.x 10 % 256 % 256 = k.x 10 % 256 := by omega
    have hn1 := H6.out.N.lt
    have H7 := Lib.hid ((H6.out.put 35 (.string (k.out ++ ⟨#[byteB (k.x 10)]⟩)) { addPc (tickM k) 4 with out := k.out ++ ⟨#[byteB (k.x 10)]⟩ } (mcells_set35 _ _)).next (balloc (Below.refl _ _) (.cells #[.int .u8 (k.x 10 % 256)] 5)))
    have HN7 := Lib.hid H7.out.N
    have HZ7 := Lib.hid H7.out.Z
    go_wp2_with (first | (refine load_mach rfl _ rfl _ rfl _ HN7.out ?_) | (refine store_mach rfl _ _ rfl _ _ rfl rfl _ HZ7.out ?_))
    refine bodyPost_ret (results_mach Tryd.results17 _ _ _ _ rfl (H7.out.Z.row _)) rfl ?_
    rw [outR_write HST.out H17.out]
    exact H7.out.done _ ⟨rfl, rfl, rfl⟩
  by_cases h93 : k.x 17 = 93
  · have h17 := h93
    clear h63 h64 h93
    have H17 := Lib.hid h17
    clear h17 mx nx y0 y10 m32 m33 n32 n33 n34 n35 n36 n37
    rw [H17.out] at x17
    have H7 := Lib.hid (H6.out.putM 36 (.int .i64 1) { tickM k with st := 1 } (mcells_set36 _ _) ⟨rfl, rfl, rfl⟩)
    have p10 : (U6.setCell ⟨w.heap.size, 36, none⟩ (.int .i64 1)).cell? ⟨w.heap.size, 10, none⟩ = some (.int .u64 (k.x 10)) := H7.out.M.cells.1 10 (by omega)
    have p37 := H7.out.M.cells.2.2.2.2.2.2.1
    have pf := H7.out.M.cells.2.2.2.2.2.2.2.2
    have H8 := Lib.hid (H7.out.putM 37 (.int .u64 (k.x 10)) { tickM k with st := 1, cd := k.x 10 } (mcells_set37 _ _) ⟨rfl, rfl, rfl⟩)
    have HN7 := Lib.hid H8.out.M
    have HZ7 := Lib.hid H8.out.Z
    go_wp2_with (first | (refine load_mach rfl _ rfl _ rfl _ HN7.out ?_) | (refine store_mach rfl _ _ rfl _ _ rfl rfl _ HZ7.out ?_))
    refine bodyPost_ret (results_mach Tryd.results17 _ _ _ _ rfl (H8.out.Z.row _)) rfl ?_
    rw [outR_exit H17.out]
    exact H8.out.done _ ⟨rfl, rfl, rfl⟩
  · have HNO := Lib.hid (And.intro h63 (And.intro h64 h93))
    have t63 : (k.x 17 == 63) = false := by simpa using h63
    have t64 : (k.x 17 == 64) = false := by simpa using h64
    have t93 : (k.x 17 == 93) = false := by simpa using h93
    clear h63 h64 h93 mx nx y0 y10 m32 m33 n32 n33 n34 n35 n36 n37
    have HN7 := Lib.hid H6.out.M
    go_wp2_with (refine load_mach rfl _ rfl _ rfl _ HN7.out ?_)
    refine (rtrap_any (tickM k) _).mono ?_
    rintro e w8 ⟨rfl, hb8⟩
    have H8 := Lib.hid (H6.out.next hb8)
    have HZ8 := Lib.hid H8.out.Z
    clear hb8
    go_wp2_with (refine store_mach rfl _ _ rfl _ _ rfl rfl _ HZ8.out ?_)
    refine bodyPost_ret (results_mach Tryd.results17 _ _ _ _ rfl (H8.out.Z.row (trap2 (tickM k)))) rfl ?_
    rw [outR_other HNO.out.1 HNO.out.2.1 HNO.out.2.2]
    exact H8.out.done (trap2 (tickM k)) ⟨rfl, rfl, rfl⟩
end Go.Proofs.YtclbkdnihhmglaaDoor

namespace Go.Proofs.YtclbkdnihhmglaaDoor
open Go.RowKit

set_option maxRecDepth 100000 in
set_option maxHeartbeats 4000000 in
theorem rstep_19 (k : Mc) (m : List M.Pg) (rd i : Int) (RA RB : Nat) (V : Int) (w : World) (hP : Pages w (.slice k.ma k.ml k.mc) m) (hM : MI k m) (hst : k.st = 0) (h4 : k.pc % 4 = 0) (he : numErr m k.pc 4 1 = 0) (hv : loadV m k.pc 4 1 = V) (v0 : 0 ≤ V) (v1 : V < 4294967296)
    (hT : ∀ W, Calls Tryd.prog 27 #[.int .u32 V] W fun e w' => e = .returned (.tuple #[.agg #[.int .i64 19, .int .i64 rd, .int .i64 RA, .int .i64 RB, .int .i64 i], .int .i64 0]) ∧ Below W.heap.size W w') (r0 : 0 ≤ rd) (r1 : rd < 32) (a1 : RA < 32) (b1 : RB < 32) (hz : k.x 0 = 0) :
    Calls Tryd.prog 17 #[.agg (mcells k)] w (StepPost (outR k m 19 rd i RA RB).1 (outR k m 19 rd i RA RB).2 w) := by
  have HZX := Lib.hid hz
  clear hz
  have HS := Lib.hid (fun W h => call_start k w W h)
  have HL := Lib.hid (fun (W : World) (hb : Below w.heap.size w W) => refLoad_any k.pc 4 1 (hP.next hb) hM.wf hM.pc.1 hM.pc.2 (by omega) (by omega))
  rw [he, hv] at HL
  have HT := Lib.hid hT
  have HP := Lib.hid hP
  have HST := Lib.hid hst
  have HMI := Lib.hid hM
  have m4 : (k.pc.tmod 4 != 0) = false := by rw [Int.tmod_eq_emod_of_nonneg hM.pc.1, h4]; rfl
  have m5 : (k.pc % 4 != 0) = false := by rw [h4]; rfl
  have wv : IntKind.u32.wrap V = V := by rw [IntKind.wrap_u32]; omega
  have a0 : (0 : Int) ≤ (RA : Int) := Int.natCast_nonneg _
  have b0 : (0 : Int) ≤ (RB : Int) := Int.natCast_nonneg _
  have a32 : (RA : Int) < 32 := by omega
  have b32 : (RB : Int) < 32 := by omega
  clear hT hP hst hM h4 he hv
  go_enter Tryd.func17, Tryd.ntmps17
  go_wp2_with (
    refine alloc_mach rfl rfl ?_
    obtain ⟨W, hW⟩ : ∃ W, W = ((w.alloc (.cells (mcells k) 26)).alloc (.cells (mcells zeroMc) 26)) := ⟨_, rfl⟩
    obtain ⟨hM, hZ, hB⟩ := HS.out W hW
    rw [← hW]
    clear hW HS
    obtain ⟨mx, m32, m33, m34, m35, m36, m37, m38, mf⟩ := hM.cells
    rw [HST.out] at m36
    have h1 := Whole.put hM 38 (.int .u64 (IntKind.u64.wrap (k.n + 1)))
    rw [mcells_set38] at h1
    have HM2 := Lib.hid (show Mach (W.setCell ⟨w.heap.size, 38, none⟩ (.int .u64 (IntKind.u64.wrap (k.n + 1)))) w.heap.size (tickM k) from h1)
    have HZ2 := Lib.hid (hZ.other ⟨w.heap.size, 38, none⟩ (.int .u64 (IntKind.u64.wrap (k.n + 1))) (by simp))
    have HB2 := Lib.hid (hB.setCell (p := ⟨w.heap.size, 38, none⟩) (by simp) (.int .u64 (IntKind.u64.wrap (k.n + 1))))
    clear hM hZ hB mx h1 m34 m35 m37)
  refine (HL.out _ HB2.out).mono ?_
  rintro e w3 ⟨rfl, hb3⟩
  have HM3 := Lib.hid (HM2.out.next hb3)
  have HZ3 := Lib.hid (HZ2.out.next hb3)
  have HB3 := Lib.hid (bthen HB2.out hb3)
  clear hb3 m32 m33 m36 m38 mf
  obtain ⟨-, m32', m33, -, -, -, -, -, mf⟩ := HM3.out.cells
  have m32 : w3.cell? ⟨w.heap.size, 32, none⟩ = some (.int .u64 k.pc) := m32'
  clear m32'
  go_wp2_with fail
  refine (HT.out _).mono ?_
  rintro e w4 ⟨rfl, hb4⟩
  have H3 := Lib.hid (show At3 k m 19 rd RA RB i w (w4.alloc (.cells #[.int .i64 19, .int .i64 rd, .int .i64 RA, .int .i64 RB, .int .i64 i] 35)) w4.heap.size from at3a (HM3.out.next hb4) (HZ3.out.next hb4) (bthen HB3.out hb4) HP.out)
  clear hb4 m32 m33 mf
  obtain ⟨o0, o1, o2, o3, o4, of, ol⟩ := H3.out.F
  obtain ⟨mx, -, -, -, -, -, -, -, mf⟩ := H3.out.M.cells
  have ma : (w4.alloc (.cells #[.int .i64 19, .int .i64 rd, .int .i64 RA, .int .i64 RB, .int .i64 i] 35)).cell? ⟨w.heap.size, RA, none⟩ = some (.int .u64 (k.x RA)) := mx RA a1
  have mb : (w4.alloc (.cells #[.int .i64 19, .int .i64 rd, .int .i64 RA, .int .i64 RB, .int .i64 i] 35)).cell? ⟨w.heap.size, RB, none⟩ = some (.int .u64 (k.x RB)) := mx RB b1
  have HMT := Lib.hid H3.out.M
  clear mx
  go_upto_region 15 with (first
    | (refine load_mach rfl _ rfl _ rfl _ HMT.out ?_
       obtain ⟨V3, hV3⟩ : ∃ V, w4.alloc (.cells #[.int .i64 19, .int .i64 rd, .int .i64 RA, .int .i64 RB, .int .i64 i] 35) = V := ⟨_, rfl⟩
       rw [hV3] at H3
       rw [hV3]
       obtain ⟨bo, hbo⟩ : ∃ b, w4.heap.size = b := ⟨_, rfl⟩
       rw [hbo] at H3
       rw [hbo]
       have H5 := Lib.hid (at5_of H3.out HP.out)
       have HNN := Lib.hid (Mach.new V3 zeroMc)
       clear hV3 hbo HMT o0 o1 o2 o3 o4 of ol mf ma mb)
    | (refine alloc_mach rfl rfl ?_)
    | (refine store_mach rfl _ _ rfl _ _ rfl rfl _ HNN.out ?_
       obtain ⟨U, hU⟩ : ∃ U, (V3.alloc (.cells (mcells zeroMc) 26)).setRow V3.heap.size (mcells (tickM k)) = U := ⟨_, rfl⟩
       rw [hU] at H5
       rw [hU]
       obtain ⟨nv, hnv⟩ : ∃ b, V3.heap.size = b := ⟨_, rfl⟩
       rw [hnv] at H5
       rw [hnv]
       have H6 := Lib.hid H5.out.pc4
       obtain ⟨-, m32', -, -, -, -, -, -, mf⟩ := H5.out.M.cells
       obtain ⟨-, n32, -, -, -, -, -, -, nf⟩ := H5.out.N.cells
       have m32 : U.cell? ⟨w.heap.size, 32, none⟩ = some (.int .u64 k.pc) := m32'
       clear hU hnv HNN H3 m32'))
  obtain ⟨U6, hU6⟩ : ∃ W, U.setCell ⟨nv, 32, none⟩ (.int .u64 (IntKind.u64.wrap (k.pc + 4))) = W := ⟨_, rfl⟩
  rw [show (tickM k).pc = k.pc from rfl, hU6] at H6
  rw [hU6]
  clear hU6 H5 m32 n32 mf nf
  obtain ⟨o0, o1, o2, o3, o4, of, ol⟩ := H6.out.F
  obtain ⟨mx', m32', m33', m34', m35', m36', m37', m38', mf⟩ := H6.out.M.cells
  obtain ⟨nx', n32, n33, n34, n35, n36, n37, n38, nf⟩ := H6.out.N.cells
  have m32 : U6.cell? ⟨w.heap.size, 32, none⟩ = some (.int .u64 k.pc) := m32'
  have m33 : U6.cell? ⟨w.heap.size, 33, none⟩ = some (.slice k.ma k.ml k.mc) := m33'
  have m34 : U6.cell? ⟨w.heap.size, 34, none⟩ = some (.string k.inp) := m34'
  have m35 : U6.cell? ⟨w.heap.size, 35, none⟩ = some (.string k.out) := m35'
  have m36 : U6.cell? ⟨w.heap.size, 36, none⟩ = some (.int .i64 0) := by rw [← HST.out]; exact m36'
  have m37 : U6.cell? ⟨w.heap.size, 37, none⟩ = some (.int .u64 k.cd) := m37'
  have mx : ∀ j, j < 32 → U6.cell? ⟨w.heap.size, j, none⟩ = some (.int .u64 (k.x j)) := mx'
  have nx : ∀ j, j < 32 → U6.cell? ⟨nv, j, none⟩ = some (.int .u64 (k.x j)) := nx'
  have x17 := mx 17 (by omega)
  have x10 := mx 10 (by omega)
  have y10 := nx 10 (by omega)
  have y0 := nx 0 (by omega)
  clear mx' nx' m32' m33' m34' m35' m36' m37' m38' n38
  have hat := lsAt_in (k.x RA) i
  have HLL := Lib.hid (fun (W' : World) (hb : Below w.heap.size w W') => refLoad_any (lsAt (k.x RA) i) 8 4 (HP.out.next hb) HMI.out.wf hat.1 hat.2 (by omega) (by omega))
  obtain ⟨D, hD⟩ : ∃ D, loadV m (lsAt (k.x RA) i) 8 4 = D := ⟨_, rfl⟩
  obtain ⟨E1, hE1⟩ : ∃ D, numErr m (lsAt (k.x RA) i) 8 4 = D := ⟨_, rfl⟩
  rw [hD, hE1] at HLL
  have HE := Lib.hid hE1
  have HD := Lib.hid hD
  have HAT := Lib.hid (show lsAt (k.x RA) i = IntKind.u64.wrap (k.x RA + IntKind.u64.wrap i) from rfl)
  rw [HAT.out] at HLL
  clear hE1 hat hD x17 x10 y10 m32 m34 m35 m36 m37 n32 n33 n34 n35 n36 n37 mx nx
  go_wp2_with fail
  refine (HLL.out _ H6.out.B).mono ?_
  rintro e w7 ⟨rfl, hb7⟩
  have H7 := Lib.hid (H6.out.next hb7)
  clear hb7 o0 o1 o2 o3 o4 of ol m33 mf nf y0
  by_cases hx : E1 = 0
  · subst hx
    obtain ⟨o0, o1, -, -, -, of, ol⟩ := H7.out.F
    have nf := H7.out.N.cells.2.2.2.2.2.2.2.2
    have yr := H7.out.N.cells.1 rd.toNat (by omega)
    have H8 := Lib.hid (H7.out.put rd.toNat (.int .u64 D) { addPc (tickM k) 4 with x := upd k.x rd.toNat D } (mcells_setX (addPc (tickM k) 4) rd.toNat (by omega) D))
    have y0 := H8.out.N.cells.1 0 (by omega)
    have nf8 := H8.out.N.cells.2.2.2.2.2.2.2.2
    have H9 := Lib.hid (H8.out.put 0 (.int .u64 0) { addPc (tickM k) 4 with x := upd (upd k.x rd.toNat D) 0 0 } (mcells_setX { addPc (tickM k) 4 with x := upd k.x rd.toNat D } 0 (by omega) 0))
    have HN7 := Lib.hid H9.out.N
    have HZ7 := Lib.hid H9.out.Z
    go_wp2_with (first | (refine load_mach rfl _ rfl _ rfl _ HN7.out ?_) | (refine store_mach rfl _ _ rfl _ _ rfl rfl _ HZ7.out ?_))
    refine bodyPost_ret (results_mach Tryd.results17 _ _ _ _ rfl (H9.out.Z.row _)) rfl ?_
    rw [outR_ld1 HZX.out r0 HE.out, HD.out]
    exact H9.out.done _ ⟨rfl, rfl, rfl⟩
  · have HX := Lib.hid hx
    have tx : (E1 != 0) = true := by simpa using hx
    clear hx
    have HN7 := Lib.hid H7.out.M
    go_wp2_with (refine load_mach rfl _ rfl _ rfl _ HN7.out ?_)
    refine (rtrap_any (tickM k) _).mono ?_
    rintro e w8 ⟨rfl, hb8⟩
    have H8 := Lib.hid (H7.out.next hb8)
    have HZ8 := Lib.hid H8.out.Z
    clear hb8
    go_wp2_with (refine store_mach rfl _ _ rfl _ _ rfl rfl _ HZ8.out ?_)
    refine bodyPost_ret (results_mach Tryd.results17 _ _ _ _ rfl (H8.out.Z.row (trap2 (tickM k)))) rfl ?_
    rw [outR_ld0 (by rw [HE.out]; exact HX.out)]
    exact H8.out.done (trap2 (tickM k)) ⟨rfl, rfl, rfl⟩
end Go.Proofs.YtclbkdnihhmglaaDoor

namespace Go.Proofs.YtclbkdnihhmglaaDoor
open Go.RowKit

set_option maxRecDepth 100000 in
set_option maxHeartbeats 4000000 in
theorem rstep_21 (k : Mc) (m : List M.Pg) (rd i : Int) (RA RB : Nat) (V : Int) (w : World) (hP : Pages w (.slice k.ma k.ml k.mc) m) (hM : MI k m) (hst : k.st = 0) (h4 : k.pc % 4 = 0) (he : numErr m k.pc 4 1 = 0) (hv : loadV m k.pc 4 1 = V) (v0 : 0 ≤ V) (v1 : V < 4294967296)
    (hT : ∀ W, Calls Tryd.prog 27 #[.int .u32 V] W fun e w' => e = .returned (.tuple #[.agg #[.int .i64 21, .int .i64 rd, .int .i64 RA, .int .i64 RB, .int .i64 i], .int .i64 0]) ∧ Below W.heap.size W w') (_r0 : 0 ≤ rd) (_r1 : rd < 32) (a1 : RA < 32) (b1 : RB < 32)  :
    Calls Tryd.prog 17 #[.agg (mcells k)] w (StepPost (outR k m 21 rd i RA RB).1 (outR k m 21 rd i RA RB).2 w) := by
  have HS := Lib.hid (fun W h => call_start k w W h)
  have HL := Lib.hid (fun (W : World) (hb : Below w.heap.size w W) => refLoad_any k.pc 4 1 (hP.next hb) hM.wf hM.pc.1 hM.pc.2 (by omega) (by omega))
  rw [he, hv] at HL
  have HT := Lib.hid hT
  have HP := Lib.hid hP
  have HST := Lib.hid hst
  have HMI := Lib.hid hM
  have m4 : (k.pc.tmod 4 != 0) = false := by rw [Int.tmod_eq_emod_of_nonneg hM.pc.1, h4]; rfl
  have m5 : (k.pc % 4 != 0) = false := by rw [h4]; rfl
  have wv : IntKind.u32.wrap V = V := by rw [IntKind.wrap_u32]; omega
  have a0 : (0 : Int) ≤ (RA : Int) := Int.natCast_nonneg _
  have b0 : (0 : Int) ≤ (RB : Int) := Int.natCast_nonneg _
  have a32 : (RA : Int) < 32 := by omega
  have b32 : (RB : Int) < 32 := by omega
  clear hT hP hst hM h4 he hv
  go_enter Tryd.func17, Tryd.ntmps17
  go_wp2_with (
    refine alloc_mach rfl rfl ?_
    obtain ⟨W, hW⟩ : ∃ W, W = ((w.alloc (.cells (mcells k) 26)).alloc (.cells (mcells zeroMc) 26)) := ⟨_, rfl⟩
    obtain ⟨hM, hZ, hB⟩ := HS.out W hW
    rw [← hW]
    clear hW HS
    obtain ⟨mx, m32, m33, m34, m35, m36, m37, m38, mf⟩ := hM.cells
    rw [HST.out] at m36
    have h1 := Whole.put hM 38 (.int .u64 (IntKind.u64.wrap (k.n + 1)))
    rw [mcells_set38] at h1
    have HM2 := Lib.hid (show Mach (W.setCell ⟨w.heap.size, 38, none⟩ (.int .u64 (IntKind.u64.wrap (k.n + 1)))) w.heap.size (tickM k) from h1)
    have HZ2 := Lib.hid (hZ.other ⟨w.heap.size, 38, none⟩ (.int .u64 (IntKind.u64.wrap (k.n + 1))) (by simp))
    have HB2 := Lib.hid (hB.setCell (p := ⟨w.heap.size, 38, none⟩) (by simp) (.int .u64 (IntKind.u64.wrap (k.n + 1))))
    clear hM hZ hB mx h1 m34 m35 m37)
  refine (HL.out _ HB2.out).mono ?_
  rintro e w3 ⟨rfl, hb3⟩
  have HM3 := Lib.hid (HM2.out.next hb3)
  have HZ3 := Lib.hid (HZ2.out.next hb3)
  have HB3 := Lib.hid (bthen HB2.out hb3)
  clear hb3 m32 m33 m36 m38 mf
  obtain ⟨-, m32', m33, -, -, -, -, -, mf⟩ := HM3.out.cells
  have m32 : w3.cell? ⟨w.heap.size, 32, none⟩ = some (.int .u64 k.pc) := m32'
  clear m32'
  go_wp2_with fail
  refine (HT.out _).mono ?_
  rintro e w4 ⟨rfl, hb4⟩
  have H3 := Lib.hid (show At3 k m 21 rd RA RB i w (w4.alloc (.cells #[.int .i64 21, .int .i64 rd, .int .i64 RA, .int .i64 RB, .int .i64 i] 35)) w4.heap.size from at3a (HM3.out.next hb4) (HZ3.out.next hb4) (bthen HB3.out hb4) HP.out)
  clear hb4 m32 m33 mf
  obtain ⟨o0, o1, o2, o3, o4, of, ol⟩ := H3.out.F
  obtain ⟨mx, -, -, -, -, -, -, -, mf⟩ := H3.out.M.cells
  have ma : (w4.alloc (.cells #[.int .i64 21, .int .i64 rd, .int .i64 RA, .int .i64 RB, .int .i64 i] 35)).cell? ⟨w.heap.size, RA, none⟩ = some (.int .u64 (k.x RA)) := mx RA a1
  have mb : (w4.alloc (.cells #[.int .i64 21, .int .i64 rd, .int .i64 RA, .int .i64 RB, .int .i64 i] 35)).cell? ⟨w.heap.size, RB, none⟩ = some (.int .u64 (k.x RB)) := mx RB b1
  have HMT := Lib.hid H3.out.M
  clear mx
  go_upto_region 15 with (first
    | (refine load_mach rfl _ rfl _ rfl _ HMT.out ?_
       obtain ⟨V3, hV3⟩ : ∃ V, w4.alloc (.cells #[.int .i64 21, .int .i64 rd, .int .i64 RA, .int .i64 RB, .int .i64 i] 35) = V := ⟨_, rfl⟩
       rw [hV3] at H3
       rw [hV3]
       obtain ⟨bo, hbo⟩ : ∃ b, w4.heap.size = b := ⟨_, rfl⟩
       rw [hbo] at H3
       rw [hbo]
       have H5 := Lib.hid (at5_of H3.out HP.out)
       have HNN := Lib.hid (Mach.new V3 zeroMc)
       clear hV3 hbo HMT o0 o1 o2 o3 o4 of ol mf ma mb)
    | (refine alloc_mach rfl rfl ?_)
    | (refine store_mach rfl _ _ rfl _ _ rfl rfl _ HNN.out ?_
       obtain ⟨U, hU⟩ : ∃ U, (V3.alloc (.cells (mcells zeroMc) 26)).setRow V3.heap.size (mcells (tickM k)) = U := ⟨_, rfl⟩
       rw [hU] at H5
       rw [hU]
       obtain ⟨nv, hnv⟩ : ∃ b, V3.heap.size = b := ⟨_, rfl⟩
       rw [hnv] at H5
       rw [hnv]
       have H6 := Lib.hid H5.out.pc4
       obtain ⟨-, m32', -, -, -, -, -, -, mf⟩ := H5.out.M.cells
       obtain ⟨-, n32, -, -, -, -, -, -, nf⟩ := H5.out.N.cells
       have m32 : U.cell? ⟨w.heap.size, 32, none⟩ = some (.int .u64 k.pc) := m32'
       clear hU hnv HNN H3 m32'))
  obtain ⟨U6, hU6⟩ : ∃ W, U.setCell ⟨nv, 32, none⟩ (.int .u64 (IntKind.u64.wrap (k.pc + 4))) = W := ⟨_, rfl⟩
  rw [show (tickM k).pc = k.pc from rfl, hU6] at H6
  rw [hU6]
  clear hU6 H5 m32 n32 mf nf
  obtain ⟨o0, o1, o2, o3, o4, of, ol⟩ := H6.out.F
  obtain ⟨mx', m32', m33', m34', m35', m36', m37', m38', mf⟩ := H6.out.M.cells
  obtain ⟨nx', n32, n33, n34, n35, n36, n37, n38, nf⟩ := H6.out.N.cells
  have m32 : U6.cell? ⟨w.heap.size, 32, none⟩ = some (.int .u64 k.pc) := m32'
  have m33 : U6.cell? ⟨w.heap.size, 33, none⟩ = some (.slice k.ma k.ml k.mc) := m33'
  have m34 : U6.cell? ⟨w.heap.size, 34, none⟩ = some (.string k.inp) := m34'
  have m35 : U6.cell? ⟨w.heap.size, 35, none⟩ = some (.string k.out) := m35'
  have m36 : U6.cell? ⟨w.heap.size, 36, none⟩ = some (.int .i64 0) := by rw [← HST.out]; exact m36'
  have m37 : U6.cell? ⟨w.heap.size, 37, none⟩ = some (.int .u64 k.cd) := m37'
  have mx : ∀ j, j < 32 → U6.cell? ⟨w.heap.size, j, none⟩ = some (.int .u64 (k.x j)) := mx'
  have nx : ∀ j, j < 32 → U6.cell? ⟨nv, j, none⟩ = some (.int .u64 (k.x j)) := nx'
  have x17 := mx 17 (by omega)
  have x10 := mx 10 (by omega)
  have y10 := nx 10 (by omega)
  have y0 := nx 0 (by omega)
  clear mx' nx' m32' m33' m34' m35' m36' m37' m38' n38
  have hat := lsAt_in (k.x RA) i
  have hxb := HMI.out.x RB b1
  have hxb0 := hxb.1
  have hxb1 := hxb.2
  have hxc : ((k.x RB).toNat : Int) = k.x RB := by omega
  have HLL := Lib.hid (fun (W' : World) (hb : Below w.heap.size w W') => refStore_any (lsAt (k.x RA) i) 8 (k.x RB).toNat (HP.out.next hb) HMI.out.wf hat.1 hat.2 (by omega) (by omega) (by omega))
  rw [hxc] at HLL
  obtain ⟨D, hD⟩ : ∃ D, storeM m (lsAt (k.x RA) i) 8 (k.x RB).toNat = D := ⟨_, rfl⟩
  obtain ⟨E1, hE1⟩ : ∃ D, numErr m (lsAt (k.x RA) i) 8 2 = D := ⟨_, rfl⟩
  rw [hD, hE1] at HLL
  have HE := Lib.hid hE1
  have HD := Lib.hid hD
  have HAT := Lib.hid (show lsAt (k.x RA) i = IntKind.u64.wrap (k.x RA + IntKind.u64.wrap i) from rfl)
  rw [HAT.out] at HLL
  clear hE1 hat hxb hxb0 hxb1 hxc hD x17 x10 y10 m32 m34 m35 m36 m37 n32 n33 n34 n35 n36 n37 mx nx y0
  go_wp2_with fail
  refine (HLL.out _ H6.out.B).mono ?_
  rintro e w7 ⟨v7, rfl, hp7, hb7⟩
  have H7 := Lib.hid (H6.out.next hb7)
  clear hb7 o0 o1 o2 o3 o4 of ol m33 mf nf
  obtain ⟨A7, c7, rfl⟩ := hp7.slice
  obtain ⟨l7, hl7⟩ : ∃ l, D.length = l := ⟨_, rfl⟩
  rw [hl7] at hp7
  rw [hl7]
  have HP7 := Lib.hid hp7
  clear hp7 hl7
  by_cases hx : E1 = 0
  · subst hx
    have nf := H7.out.N.cells.2.2.2.2.2.2.2.2
    have n33 := H7.out.N.cells.2.2.1
    have H8 := Lib.hid (H7.out.put 33 (.slice A7 l7 c7) { addPc (tickM k) 4 with ma := A7, ml := l7, mc := c7 } (mcells_set33 (addPc (tickM k) 4) A7 l7 c7))
    have HP8 := Lib.hid (pages_keepM HP7.out H7.out.N (grownBy_put w7 nv 33 (.slice A7 l7 c7)))
    have HN7 := Lib.hid H8.out.N
    have HZ7 := Lib.hid H8.out.Z
    go_wp2_with (first | (refine load_mach rfl _ rfl _ rfl _ HN7.out ?_) | (refine store_mach rfl _ _ rfl _ _ rfl rfl _ HZ7.out ?_))
    refine bodyPost_ret (results_mach Tryd.results17 _ _ _ _ rfl (H8.out.Z.row _)) rfl ?_
    rw [outR_sd1 HE.out, HD.out]
    exact ⟨A7, l7, c7, rfl, pages_keepM HP8.out H8.out.Z (grownBy_row _ _ _), below_row H8.out.B _ (by omega)⟩
  · have HX := Lib.hid hx
    have tx : (E1 != 0) = true := by simpa using hx
    clear hx
    have HN7 := Lib.hid H7.out.M
    go_wp2_with (refine load_mach rfl _ rfl _ rfl _ HN7.out ?_)
    refine (rtrap_any (tickM k) _).mono ?_
    rintro e w8 ⟨rfl, hb8⟩
    have H8 := Lib.hid (H7.out.next hb8)
    have HZ8 := Lib.hid H8.out.Z
    clear hb8
    go_wp2_with (refine store_mach rfl _ _ rfl _ _ rfl rfl _ HZ8.out ?_)
    refine bodyPost_ret (results_mach Tryd.results17 _ _ _ _ rfl (H8.out.Z.row (trap2 (tickM k)))) rfl ?_
    rw [outR_sd0 (by rw [HE.out]; exact HX.out)]
    exact H8.out.done (trap2 (tickM k)) ⟨rfl, rfl, rfl⟩
end Go.Proofs.YtclbkdnihhmglaaDoor

namespace Go.Proofs.YtclbkdnihhmglaaDoor
open Go.RowKit

set_option maxRecDepth 100000 in
set_option maxHeartbeats 4000000 in
theorem rstep_br1 (k : Mc) (m : List M.Pg) (kd rd i : Int) (RA RB : Nat) (V : Int) (w : World) (hP : Pages w (.slice k.ma k.ml k.mc) m) (hM : MI k m) (hst : k.st = 0) (h4 : k.pc % 4 = 0) (he : numErr m k.pc 4 1 = 0) (hv : loadV m k.pc 4 1 = V) (v0 : 0 ≤ V) (v1 : V < 4294967296)
    (hT : ∀ W, Calls Tryd.prog 27 #[.int .u32 V] W fun e w' => e = .returned (.tuple #[.agg #[.int .i64 kd, .int .i64 rd, .int .i64 RA, .int .i64 RB, .int .i64 i], .int .i64 0]) ∧ Below W.heap.size W w') (_r0 : 0 ≤ rd) (_r1 : rd < 32) (a1 : RA < 32) (b1 : RB < 32) (k1 : 23 ≤ kd) (k2 : kd ≤ 26) (hx : goesB kd (k.x RA) (k.x RB) = true) :
    Calls Tryd.prog 17 #[.agg (mcells k)] w (StepPost (addPc (tickM k) (IntKind.u64.wrap i)) m w) := by
  have t31 : (kd == 31) = false := by simp; omega
  have t19 : (kd == 19) = false := by simp; omega
  have t20 : (kd == 20) = false := by simp; omega
  have t21 : (kd == 21) = false := by simp; omega
  have t22 : (kd == 22) = false := by simp; omega
  have g1 : decide (23 ≤ kd) = true := decide_eq_true k1
  have g2 : decide (kd ≤ 26) = true := decide_eq_true k2
  have HG := Lib.hid (fun W => rgoes_any kd rd RA RB i (k.x RA) (k.x RB) W)
  rw [hx] at HG
  clear hx k1 k2
  have HS := Lib.hid (fun W h => call_start k w W h)
  have HL := Lib.hid (fun (W : World) (hb : Below w.heap.size w W) => refLoad_any k.pc 4 1 (hP.next hb) hM.wf hM.pc.1 hM.pc.2 (by omega) (by omega))
  rw [he, hv] at HL
  have HT := Lib.hid hT
  have HP := Lib.hid hP
  have HST := Lib.hid hst
  have HMI := Lib.hid hM
  have m4 : (k.pc.tmod 4 != 0) = false := by rw [Int.tmod_eq_emod_of_nonneg hM.pc.1, h4]; rfl
  have m5 : (k.pc % 4 != 0) = false := by rw [h4]; rfl
  have wv : IntKind.u32.wrap V = V := by rw [IntKind.wrap_u32]; omega
  have a0 : (0 : Int) ≤ (RA : Int) := Int.natCast_nonneg _
  have b0 : (0 : Int) ≤ (RB : Int) := Int.natCast_nonneg _
  have a32 : (RA : Int) < 32 := by omega
  have b32 : (RB : Int) < 32 := by omega
  clear hT hP hst hM h4 he hv
  go_enter Tryd.func17, Tryd.ntmps17
  go_wp2_with (
    refine alloc_mach rfl rfl ?_
    obtain ⟨W, hW⟩ : ∃ W, W = ((w.alloc (.cells (mcells k) 26)).alloc (.cells (mcells zeroMc) 26)) := ⟨_, rfl⟩
    obtain ⟨hM, hZ, hB⟩ := HS.out W hW
    rw [← hW]
    clear hW HS
    obtain ⟨mx, m32, m33, m34, m35, m36, m37, m38, mf⟩ := hM.cells
    rw [HST.out] at m36
    have h1 := Whole.put hM 38 (.int .u64 (IntKind.u64.wrap (k.n + 1)))
    rw [mcells_set38] at h1
    have HM2 := Lib.hid (show Mach (W.setCell ⟨w.heap.size, 38, none⟩ (.int .u64 (IntKind.u64.wrap (k.n + 1)))) w.heap.size (tickM k) from h1)
    have HZ2 := Lib.hid (hZ.other ⟨w.heap.size, 38, none⟩ (.int .u64 (IntKind.u64.wrap (k.n + 1))) (by simp))
    have HB2 := Lib.hid (hB.setCell (p := ⟨w.heap.size, 38, none⟩) (by simp) (.int .u64 (IntKind.u64.wrap (k.n + 1))))
    clear hM hZ hB mx h1 m34 m35 m37)
  refine (HL.out _ HB2.out).mono ?_
  rintro e w3 ⟨rfl, hb3⟩
  have HM3 := Lib.hid (HM2.out.next hb3)
  have HZ3 := Lib.hid (HZ2.out.next hb3)
  have HB3 := Lib.hid (bthen HB2.out hb3)
  clear hb3 m32 m33 m36 m38 mf
  obtain ⟨-, m32', m33, -, -, -, -, -, mf⟩ := HM3.out.cells
  have m32 : w3.cell? ⟨w.heap.size, 32, none⟩ = some (.int .u64 k.pc) := m32'
  clear m32'
  go_wp2_with fail
  refine (HT.out _).mono ?_
  rintro e w4 ⟨rfl, hb4⟩
  have H3 := Lib.hid (show At3 k m kd rd RA RB i w (w4.alloc (.cells #[.int .i64 kd, .int .i64 rd, .int .i64 RA, .int .i64 RB, .int .i64 i] 35)) w4.heap.size from at3a (HM3.out.next hb4) (HZ3.out.next hb4) (bthen HB3.out hb4) HP.out)
  clear hb4 m32 m33 mf
  obtain ⟨o0, o1, o2, o3, o4, of, ol⟩ := H3.out.F
  obtain ⟨mx, -, -, -, -, -, -, -, mf⟩ := H3.out.M.cells
  have ma : (w4.alloc (.cells #[.int .i64 kd, .int .i64 rd, .int .i64 RA, .int .i64 RB, .int .i64 i] 35)).cell? ⟨w.heap.size, RA, none⟩ = some (.int .u64 (k.x RA)) := mx RA a1
  have mb : (w4.alloc (.cells #[.int .i64 kd, .int .i64 rd, .int .i64 RA, .int .i64 RB, .int .i64 i] 35)).cell? ⟨w.heap.size, RB, none⟩ = some (.int .u64 (k.x RB)) := mx RB b1
  have HMT := Lib.hid H3.out.M
  clear mx
  go_upto_region 15 with (first
    | (refine load_mach rfl _ rfl _ rfl _ HMT.out ?_
       obtain ⟨V3, hV3⟩ : ∃ V, w4.alloc (.cells #[.int .i64 kd, .int .i64 rd, .int .i64 RA, .int .i64 RB, .int .i64 i] 35) = V := ⟨_, rfl⟩
       rw [hV3] at H3
       rw [hV3]
       obtain ⟨bo, hbo⟩ : ∃ b, w4.heap.size = b := ⟨_, rfl⟩
       rw [hbo] at H3
       rw [hbo]
       have H5 := Lib.hid (at5_of H3.out HP.out)
       have HNN := Lib.hid (Mach.new V3 zeroMc)
       clear hV3 hbo HMT o0 o1 o2 o3 o4 of ol mf ma mb)
    | (refine alloc_mach rfl rfl ?_)
    | (refine store_mach rfl _ _ rfl _ _ rfl rfl _ HNN.out ?_
       obtain ⟨U, hU⟩ : ∃ U, (V3.alloc (.cells (mcells zeroMc) 26)).setRow V3.heap.size (mcells (tickM k)) = U := ⟨_, rfl⟩
       rw [hU] at H5
       rw [hU]
       obtain ⟨nv, hnv⟩ : ∃ b, V3.heap.size = b := ⟨_, rfl⟩
       rw [hnv] at H5
       rw [hnv]
       have H6 := Lib.hid H5.out.pc4
       obtain ⟨-, m32', -, -, -, -, -, -, mf⟩ := H5.out.M.cells
       obtain ⟨-, n32, -, -, -, -, -, -, nf⟩ := H5.out.N.cells
       have m32 : U.cell? ⟨w.heap.size, 32, none⟩ = some (.int .u64 k.pc) := m32'
       clear hU hnv HNN H3 m32'))
  obtain ⟨U6, hU6⟩ : ∃ W, U.setCell ⟨nv, 32, none⟩ (.int .u64 (IntKind.u64.wrap (k.pc + 4))) = W := ⟨_, rfl⟩
  rw [show (tickM k).pc = k.pc from rfl, hU6] at H6
  rw [hU6]
  clear hU6 H5 m32 n32 mf nf
  obtain ⟨o0, o1, o2, o3, o4, of, ol⟩ := H6.out.F
  obtain ⟨mx', m32', m33', m34', m35', m36', m37', m38', mf⟩ := H6.out.M.cells
  obtain ⟨nx', n32, n33, n34, n35, n36, n37, n38, nf⟩ := H6.out.N.cells
  have m32 : U6.cell? ⟨w.heap.size, 32, none⟩ = some (.int .u64 k.pc) := m32'
  have m33 : U6.cell? ⟨w.heap.size, 33, none⟩ = some (.slice k.ma k.ml k.mc) := m33'
  have m34 : U6.cell? ⟨w.heap.size, 34, none⟩ = some (.string k.inp) := m34'
  have m35 : U6.cell? ⟨w.heap.size, 35, none⟩ = some (.string k.out) := m35'
  have m36 : U6.cell? ⟨w.heap.size, 36, none⟩ = some (.int .i64 0) := by rw [← HST.out]; exact m36'
  have m37 : U6.cell? ⟨w.heap.size, 37, none⟩ = some (.int .u64 k.cd) := m37'
  have mx : ∀ j, j < 32 → U6.cell? ⟨w.heap.size, j, none⟩ = some (.int .u64 (k.x j)) := mx'
  have nx : ∀ j, j < 32 → U6.cell? ⟨nv, j, none⟩ = some (.int .u64 (k.x j)) := nx'
  have x17 := mx 17 (by omega)
  have x10 := mx 10 (by omega)
  have y10 := nx 10 (by omega)
  have y0 := nx 0 (by omega)
  clear mx' nx' m32' m33' m34' m35' m36' m37' m38' n38
  clear x17 x10 y10 y0 mx nx m33 m34 m35 m36 m37 n33 n34 n35 n36 n37
  go_wp2_with fail
  refine (HG.out _).mono ?_
  rintro e w7 ⟨rfl, hb7⟩
  have H7 := Lib.hid (H6.out.next hb7)
  clear hb7 o0 o1 o2 o3 o4 of ol m32 mf nf n32
  have m32 : w7.cell? ⟨w.heap.size, 32, none⟩ = some (.int .u64 k.pc) := H7.out.M.cells.2.1
  have mf := H7.out.M.cells.2.2.2.2.2.2.2.2
  have n32 := H7.out.N.cells.2.1
  have nf := H7.out.N.cells.2.2.2.2.2.2.2.2
  have H8 := Lib.hid (H7.out.put 32 (.int .u64 (IntKind.u64.wrap (k.pc + IntKind.u64.wrap i))) (addPc (tickM k) (IntKind.u64.wrap i)) (mcells_set32 _ _))
  have HN7 := Lib.hid H8.out.N
  have HZ7 := Lib.hid H8.out.Z
  go_wp2_with (first | (refine load_mach rfl _ rfl _ rfl _ HN7.out ?_) | (refine store_mach rfl _ _ rfl _ _ rfl rfl _ HZ7.out ?_))
  exact bodyPost_ret (results_mach Tryd.results17 _ _ _ _ rfl (H8.out.Z.row _)) rfl (H8.out.done _ ⟨rfl, rfl, rfl⟩)
set_option maxRecDepth 100000 in
set_option maxHeartbeats 4000000 in
theorem rstep_br0 (k : Mc) (m : List M.Pg) (kd rd i : Int) (RA RB : Nat) (V : Int) (w : World) (hP : Pages w (.slice k.ma k.ml k.mc) m) (hM : MI k m) (hst : k.st = 0) (h4 : k.pc % 4 = 0) (he : numErr m k.pc 4 1 = 0) (hv : loadV m k.pc 4 1 = V) (v0 : 0 ≤ V) (v1 : V < 4294967296)
    (hT : ∀ W, Calls Tryd.prog 27 #[.int .u32 V] W fun e w' => e = .returned (.tuple #[.agg #[.int .i64 kd, .int .i64 rd, .int .i64 RA, .int .i64 RB, .int .i64 i], .int .i64 0]) ∧ Below W.heap.size W w') (_r0 : 0 ≤ rd) (_r1 : rd < 32) (a1 : RA < 32) (b1 : RB < 32) (k1 : 23 ≤ kd) (k2 : kd ≤ 26) (hx : goesB kd (k.x RA) (k.x RB) = false) :
    Calls Tryd.prog 17 #[.agg (mcells k)] w (StepPost (addPc (tickM k) 4) m w) := by
  have t31 : (kd == 31) = false := by simp; omega
  have t19 : (kd == 19) = false := by simp; omega
  have t20 : (kd == 20) = false := by simp; omega
  have t21 : (kd == 21) = false := by simp; omega
  have t22 : (kd == 22) = false := by simp; omega
  have g1 : decide (23 ≤ kd) = true := decide_eq_true k1
  have g2 : decide (kd ≤ 26) = true := decide_eq_true k2
  have HG := Lib.hid (fun W => rgoes_any kd rd RA RB i (k.x RA) (k.x RB) W)
  rw [hx] at HG
  clear hx k1 k2
  have HS := Lib.hid (fun W h => call_start k w W h)
  have HL := Lib.hid (fun (W : World) (hb : Below w.heap.size w W) => refLoad_any k.pc 4 1 (hP.next hb) hM.wf hM.pc.1 hM.pc.2 (by omega) (by omega))
  rw [he, hv] at HL
  have HT := Lib.hid hT
  have HP := Lib.hid hP
  have HST := Lib.hid hst
  have HMI := Lib.hid hM
  have m4 : (k.pc.tmod 4 != 0) = false := by rw [Int.tmod_eq_emod_of_nonneg hM.pc.1, h4]; rfl
  have m5 : (k.pc % 4 != 0) = false := by rw [h4]; rfl
  have wv : IntKind.u32.wrap V = V := by rw [IntKind.wrap_u32]; omega
  have a0 : (0 : Int) ≤ (RA : Int) := Int.natCast_nonneg _
  have b0 : (0 : Int) ≤ (RB : Int) := Int.natCast_nonneg _
  have a32 : (RA : Int) < 32 := by omega
  have b32 : (RB : Int) < 32 := by omega
  clear hT hP hst hM h4 he hv
  go_enter Tryd.func17, Tryd.ntmps17
  go_wp2_with (
    refine alloc_mach rfl rfl ?_
    obtain ⟨W, hW⟩ : ∃ W, W = ((w.alloc (.cells (mcells k) 26)).alloc (.cells (mcells zeroMc) 26)) := ⟨_, rfl⟩
    obtain ⟨hM, hZ, hB⟩ := HS.out W hW
    rw [← hW]
    clear hW HS
    obtain ⟨mx, m32, m33, m34, m35, m36, m37, m38, mf⟩ := hM.cells
    rw [HST.out] at m36
    have h1 := Whole.put hM 38 (.int .u64 (IntKind.u64.wrap (k.n + 1)))
    rw [mcells_set38] at h1
    have HM2 := Lib.hid (show Mach (W.setCell ⟨w.heap.size, 38, none⟩ (.int .u64 (IntKind.u64.wrap (k.n + 1)))) w.heap.size (tickM k) from h1)
    have HZ2 := Lib.hid (hZ.other ⟨w.heap.size, 38, none⟩ (.int .u64 (IntKind.u64.wrap (k.n + 1))) (by simp))
    have HB2 := Lib.hid (hB.setCell (p := ⟨w.heap.size, 38, none⟩) (by simp) (.int .u64 (IntKind.u64.wrap (k.n + 1))))
    clear hM hZ hB mx h1 m34 m35 m37)
  refine (HL.out _ HB2.out).mono ?_
  rintro e w3 ⟨rfl, hb3⟩
  have HM3 := Lib.hid (HM2.out.next hb3)
  have HZ3 := Lib.hid (HZ2.out.next hb3)
  have HB3 := Lib.hid (bthen HB2.out hb3)
  clear hb3 m32 m33 m36 m38 mf
  obtain ⟨-, m32', m33, -, -, -, -, -, mf⟩ := HM3.out.cells
  have m32 : w3.cell? ⟨w.heap.size, 32, none⟩ = some (.int .u64 k.pc) := m32'
  clear m32'
  go_wp2_with fail
  refine (HT.out _).mono ?_
  rintro e w4 ⟨rfl, hb4⟩
  have H3 := Lib.hid (show At3 k m kd rd RA RB i w (w4.alloc (.cells #[.int .i64 kd, .int .i64 rd, .int .i64 RA, .int .i64 RB, .int .i64 i] 35)) w4.heap.size from at3a (HM3.out.next hb4) (HZ3.out.next hb4) (bthen HB3.out hb4) HP.out)
  clear hb4 m32 m33 mf
  obtain ⟨o0, o1, o2, o3, o4, of, ol⟩ := H3.out.F
  obtain ⟨mx, -, -, -, -, -, -, -, mf⟩ := H3.out.M.cells
  have ma : (w4.alloc (.cells #[.int .i64 kd, .int .i64 rd, .int .i64 RA, .int .i64 RB, .int .i64 i] 35)).cell? ⟨w.heap.size, RA, none⟩ = some (.int .u64 (k.x RA)) := mx RA a1
  have mb : (w4.alloc (.cells #[.int .i64 kd, .int .i64 rd, .int .i64 RA, .int .i64 RB, .int .i64 i] 35)).cell? ⟨w.heap.size, RB, none⟩ = some (.int .u64 (k.x RB)) := mx RB b1
  have HMT := Lib.hid H3.out.M
  clear mx
  go_upto_region 15 with (first
    | (refine load_mach rfl _ rfl _ rfl _ HMT.out ?_
       obtain ⟨V3, hV3⟩ : ∃ V, w4.alloc (.cells #[.int .i64 kd, .int .i64 rd, .int .i64 RA, .int .i64 RB, .int .i64 i] 35) = V := ⟨_, rfl⟩
       rw [hV3] at H3
       rw [hV3]
       obtain ⟨bo, hbo⟩ : ∃ b, w4.heap.size = b := ⟨_, rfl⟩
       rw [hbo] at H3
       rw [hbo]
       have H5 := Lib.hid (at5_of H3.out HP.out)
       have HNN := Lib.hid (Mach.new V3 zeroMc)
       clear hV3 hbo HMT o0 o1 o2 o3 o4 of ol mf ma mb)
    | (refine alloc_mach rfl rfl ?_)
    | (refine store_mach rfl _ _ rfl _ _ rfl rfl _ HNN.out ?_
       obtain ⟨U, hU⟩ : ∃ U, (V3.alloc (.cells (mcells zeroMc) 26)).setRow V3.heap.size (mcells (tickM k)) = U := ⟨_, rfl⟩
       rw [hU] at H5
       rw [hU]
       obtain ⟨nv, hnv⟩ : ∃ b, V3.heap.size = b := ⟨_, rfl⟩
       rw [hnv] at H5
       rw [hnv]
       have H6 := Lib.hid H5.out.pc4
       obtain ⟨-, m32', -, -, -, -, -, -, mf⟩ := H5.out.M.cells
       obtain ⟨-, n32, -, -, -, -, -, -, nf⟩ := H5.out.N.cells
       have m32 : U.cell? ⟨w.heap.size, 32, none⟩ = some (.int .u64 k.pc) := m32'
       clear hU hnv HNN H3 m32'))
  obtain ⟨U6, hU6⟩ : ∃ W, U.setCell ⟨nv, 32, none⟩ (.int .u64 (IntKind.u64.wrap (k.pc + 4))) = W := ⟨_, rfl⟩
  rw [show (tickM k).pc = k.pc from rfl, hU6] at H6
  rw [hU6]
  clear hU6 H5 m32 n32 mf nf
  obtain ⟨o0, o1, o2, o3, o4, of, ol⟩ := H6.out.F
  obtain ⟨mx', m32', m33', m34', m35', m36', m37', m38', mf⟩ := H6.out.M.cells
  obtain ⟨nx', n32, n33, n34, n35, n36, n37, n38, nf⟩ := H6.out.N.cells
  have m32 : U6.cell? ⟨w.heap.size, 32, none⟩ = some (.int .u64 k.pc) := m32'
  have m33 : U6.cell? ⟨w.heap.size, 33, none⟩ = some (.slice k.ma k.ml k.mc) := m33'
  have m34 : U6.cell? ⟨w.heap.size, 34, none⟩ = some (.string k.inp) := m34'
  have m35 : U6.cell? ⟨w.heap.size, 35, none⟩ = some (.string k.out) := m35'
  have m36 : U6.cell? ⟨w.heap.size, 36, none⟩ = some (.int .i64 0) := by rw [← HST.out]; exact m36'
  have m37 : U6.cell? ⟨w.heap.size, 37, none⟩ = some (.int .u64 k.cd) := m37'
  have mx : ∀ j, j < 32 → U6.cell? ⟨w.heap.size, j, none⟩ = some (.int .u64 (k.x j)) := mx'
  have nx : ∀ j, j < 32 → U6.cell? ⟨nv, j, none⟩ = some (.int .u64 (k.x j)) := nx'
  have x17 := mx 17 (by omega)
  have x10 := mx 10 (by omega)
  have y10 := nx 10 (by omega)
  have y0 := nx 0 (by omega)
  clear mx' nx' m32' m33' m34' m35' m36' m37' m38' n38
  clear x17 x10 y10 y0 mx nx m33 m34 m35 m36 m37 n33 n34 n35 n36 n37
  go_wp2_with fail
  refine (HG.out _).mono ?_
  rintro e w7 ⟨rfl, hb7⟩
  have H7 := Lib.hid (H6.out.next hb7)
  clear hb7 o0 o1 o2 o3 o4 of ol m32 mf nf n32
  have HN7 := Lib.hid H7.out.N
  have HZ7 := Lib.hid H7.out.Z
  go_wp2_with (first | (refine load_mach rfl _ rfl _ rfl _ HN7.out ?_) | (refine store_mach rfl _ _ rfl _ _ rfl rfl _ HZ7.out ?_))
  exact bodyPost_ret (results_mach Tryd.results17 _ _ _ _ rfl (H7.out.Z.row _)) rfl (H7.out.done _ ⟨rfl, rfl, rfl⟩)
end Go.Proofs.YtclbkdnihhmglaaDoor

namespace Go.Proofs.YtclbkdnihhmglaaDoor
open Go.RowKit

set_option maxRecDepth 100000 in
set_option maxHeartbeats 4000000 in
theorem rstep_alu (k : Mc) (m : List M.Pg) (kd rd i : Int) (RA RB : Nat) (V : Int) (w : World) (hP : Pages w (.slice k.ma k.ml k.mc) m) (hM : MI k m) (hst : k.st = 0) (h4 : k.pc % 4 = 0) (he : numErr m k.pc 4 1 = 0) (hv : loadV m k.pc 4 1 = V) (v0 : 0 ≤ V) (v1 : V < 4294967296)
    (hT : ∀ W, Calls Tryd.prog 27 #[.int .u32 V] W fun e w' => e = .returned (.tuple #[.agg #[.int .i64 kd, .int .i64 rd, .int .i64 RA, .int .i64 RB, .int .i64 i], .int .i64 0]) ∧ Below W.heap.size W w') (r0 : 0 ≤ rd) (r1 : rd < 32) (a1 : RA < 32) (b1 : RB < 32) (hz : k.x 0 = 0) (k0 : kd ≠ 31 ∧ kd ≠ 19 ∧ kd ≠ 20 ∧ kd ≠ 21 ∧ kd ≠ 22 ∧ kd ≠ 29 ∧ kd ≠ 30) (k1 : ¬ (23 ≤ kd ∧ kd ≤ 26)) :
    Calls Tryd.prog 17 #[.agg (mcells k)] w (StepPost (outR k m kd rd i RA RB).1 (outR k m kd rd i RA RB).2 w) := by
  have HZX := Lib.hid hz
  clear hz
  have t31 : (kd == 31) = false := by simp; omega
  have t19 : (kd == 19) = false := by simp; omega
  have t20 : (kd == 20) = false := by simp; omega
  have t21 : (kd == 21) = false := by simp; omega
  have t22 : (kd == 22) = false := by simp; omega
  have t29 : (kd == 29) = false := by simp; omega
  have t30 : (kd == 30) = false := by simp; omega
  have HK0 := Lib.hid k0
  have HK := Lib.hid k1
  clear k0 k1
  have HDO := Lib.hid (fun W => rdoes_any kd rd RA RB i (k.x RA) (k.x RB) k.pc W (hM.x RA a1).1 (hM.x RA a1).2 (hM.x RB b1).1 (hM.x RB b1).2)
  obtain ⟨D, hD⟩ : ∃ D, doesI kd i (k.x RA) (k.x RB) k.pc = D := ⟨_, rfl⟩
  rw [hD] at HDO
  have HD := Lib.hid hD
  clear hD
  have HS := Lib.hid (fun W h => call_start k w W h)
  have HL := Lib.hid (fun (W : World) (hb : Below w.heap.size w W) => refLoad_any k.pc 4 1 (hP.next hb) hM.wf hM.pc.1 hM.pc.2 (by omega) (by omega))
  rw [he, hv] at HL
  have HT := Lib.hid hT
  have HP := Lib.hid hP
  have HST := Lib.hid hst
  have HMI := Lib.hid hM
  have m4 : (k.pc.tmod 4 != 0) = false := by rw [Int.tmod_eq_emod_of_nonneg hM.pc.1, h4]; rfl
  have m5 : (k.pc % 4 != 0) = false := by rw [h4]; rfl
  have wv : IntKind.u32.wrap V = V := by rw [IntKind.wrap_u32]; omega
  have a0 : (0 : Int) ≤ (RA : Int) := Int.natCast_nonneg _
  have b0 : (0 : Int) ≤ (RB : Int) := Int.natCast_nonneg _
  have a32 : (RA : Int) < 32 := by omega
  have b32 : (RB : Int) < 32 := by omega
  clear hT hP hst hM h4 he hv
  go_enter Tryd.func17, Tryd.ntmps17
  go_wp2_with (
    refine alloc_mach rfl rfl ?_
    obtain ⟨W, hW⟩ : ∃ W, W = ((w.alloc (.cells (mcells k) 26)).alloc (.cells (mcells zeroMc) 26)) := ⟨_, rfl⟩
    obtain ⟨hM, hZ, hB⟩ := HS.out W hW
    rw [← hW]
    clear hW HS
    obtain ⟨mx, m32, m33, m34, m35, m36, m37, m38, mf⟩ := hM.cells
    rw [HST.out] at m36
    have h1 := Whole.put hM 38 (.int .u64 (IntKind.u64.wrap (k.n + 1)))
    rw [mcells_set38] at h1
    have HM2 := Lib.hid (show Mach (W.setCell ⟨w.heap.size, 38, none⟩ (.int .u64 (IntKind.u64.wrap (k.n + 1)))) w.heap.size (tickM k) from h1)
    have HZ2 := Lib.hid (hZ.other ⟨w.heap.size, 38, none⟩ (.int .u64 (IntKind.u64.wrap (k.n + 1))) (by simp))
    have HB2 := Lib.hid (hB.setCell (p := ⟨w.heap.size, 38, none⟩) (by simp) (.int .u64 (IntKind.u64.wrap (k.n + 1))))
    clear hM hZ hB mx h1 m34 m35 m37)
  refine (HL.out _ HB2.out).mono ?_
  rintro e w3 ⟨rfl, hb3⟩
  have HM3 := Lib.hid (HM2.out.next hb3)
  have HZ3 := Lib.hid (HZ2.out.next hb3)
  have HB3 := Lib.hid (bthen HB2.out hb3)
  clear hb3 m32 m33 m36 m38 mf
  obtain ⟨-, m32', m33, -, -, -, -, -, mf⟩ := HM3.out.cells
  have m32 : w3.cell? ⟨w.heap.size, 32, none⟩ = some (.int .u64 k.pc) := m32'
  clear m32'
  go_wp2_with fail
  refine (HT.out _).mono ?_
  rintro e w4 ⟨rfl, hb4⟩
  have H3 := Lib.hid (show At3 k m kd rd RA RB i w (w4.alloc (.cells #[.int .i64 kd, .int .i64 rd, .int .i64 RA, .int .i64 RB, .int .i64 i] 35)) w4.heap.size from at3a (HM3.out.next hb4) (HZ3.out.next hb4) (bthen HB3.out hb4) HP.out)
  clear hb4 m32 m33 mf
  obtain ⟨o0, o1, o2, o3, o4, of, ol⟩ := H3.out.F
  obtain ⟨mx, -, -, -, -, -, -, -, mf⟩ := H3.out.M.cells
  have ma : (w4.alloc (.cells #[.int .i64 kd, .int .i64 rd, .int .i64 RA, .int .i64 RB, .int .i64 i] 35)).cell? ⟨w.heap.size, RA, none⟩ = some (.int .u64 (k.x RA)) := mx RA a1
  have mb : (w4.alloc (.cells #[.int .i64 kd, .int .i64 rd, .int .i64 RA, .int .i64 RB, .int .i64 i] 35)).cell? ⟨w.heap.size, RB, none⟩ = some (.int .u64 (k.x RB)) := mx RB b1
  have HMT := Lib.hid H3.out.M
  clear mx
  go_upto_region 15 with (first
    | (refine load_mach rfl _ rfl _ rfl _ HMT.out ?_
       obtain ⟨V3, hV3⟩ : ∃ V, w4.alloc (.cells #[.int .i64 kd, .int .i64 rd, .int .i64 RA, .int .i64 RB, .int .i64 i] 35) = V := ⟨_, rfl⟩
       rw [hV3] at H3
       rw [hV3]
       obtain ⟨bo, hbo⟩ : ∃ b, w4.heap.size = b := ⟨_, rfl⟩
       rw [hbo] at H3
       rw [hbo]
       have H5 := Lib.hid (at5_of H3.out HP.out)
       have HNN := Lib.hid (Mach.new V3 zeroMc)
       clear hV3 hbo HMT o0 o1 o2 o3 o4 of ol mf ma mb)
    | (refine alloc_mach rfl rfl ?_)
    | (refine store_mach rfl _ _ rfl _ _ rfl rfl _ HNN.out ?_
       obtain ⟨U, hU⟩ : ∃ U, (V3.alloc (.cells (mcells zeroMc) 26)).setRow V3.heap.size (mcells (tickM k)) = U := ⟨_, rfl⟩
       rw [hU] at H5
       rw [hU]
       obtain ⟨nv, hnv⟩ : ∃ b, V3.heap.size = b := ⟨_, rfl⟩
       rw [hnv] at H5
       rw [hnv]
       have H6 := Lib.hid H5.out.pc4
       obtain ⟨-, m32', -, -, -, -, -, -, mf⟩ := H5.out.M.cells
       obtain ⟨-, n32, -, -, -, -, -, -, nf⟩ := H5.out.N.cells
       have m32 : U.cell? ⟨w.heap.size, 32, none⟩ = some (.int .u64 k.pc) := m32'
       clear hU hnv HNN H3 m32'))
  obtain ⟨U6, hU6⟩ : ∃ W, U.setCell ⟨nv, 32, none⟩ (.int .u64 (IntKind.u64.wrap (k.pc + 4))) = W := ⟨_, rfl⟩
  rw [show (tickM k).pc = k.pc from rfl, hU6] at H6
  rw [hU6]
  clear hU6 H5 m32 n32 mf nf
  obtain ⟨o0, o1, o2, o3, o4, of, ol⟩ := H6.out.F
  obtain ⟨mx', m32', m33', m34', m35', m36', m37', m38', mf⟩ := H6.out.M.cells
  obtain ⟨nx', n32, n33, n34, n35, n36, n37, n38, nf⟩ := H6.out.N.cells
  have m32 : U6.cell? ⟨w.heap.size, 32, none⟩ = some (.int .u64 k.pc) := m32'
  have m33 : U6.cell? ⟨w.heap.size, 33, none⟩ = some (.slice k.ma k.ml k.mc) := m33'
  have m34 : U6.cell? ⟨w.heap.size, 34, none⟩ = some (.string k.inp) := m34'
  have m35 : U6.cell? ⟨w.heap.size, 35, none⟩ = some (.string k.out) := m35'
  have m36 : U6.cell? ⟨w.heap.size, 36, none⟩ = some (.int .i64 0) := by rw [← HST.out]; exact m36'
  have m37 : U6.cell? ⟨w.heap.size, 37, none⟩ = some (.int .u64 k.cd) := m37'
  have mx : ∀ j, j < 32 → U6.cell? ⟨w.heap.size, j, none⟩ = some (.int .u64 (k.x j)) := mx'
  have nx : ∀ j, j < 32 → U6.cell? ⟨nv, j, none⟩ = some (.int .u64 (k.x j)) := nx'
  have x17 := mx 17 (by omega)
  have x10 := mx 10 (by omega)
  have y10 := nx 10 (by omega)
  have y0 := nx 0 (by omega)
  clear mx' nx' m32' m33' m34' m35' m36' m37' m38' n38
  clear x17 x10 y10 y0 mx nx m33 m34 m35 m36 m37 n32 n33 n34 n35 n36 n37
  have HSP := Lib.hid (show (decide (23 ≤ kd) = true ∧ decide (kd ≤ 26) = false) ∨ decide (23 ≤ kd) = false by
    have := HK.out
    by_cases h : 23 ≤ kd
    · exact .inl ⟨decide_eq_true h, decide_eq_false (by omega)⟩
    · exact .inr (decide_eq_false h))
  rcases HSP.out with ⟨g1, g2⟩ | g1
  all_goals
    go_upto_region 54 with fail
    (try clear g2)
    clear g1
    clear o0 o1 o2 o3 o4 of ol m32 mf nf
    refine wp_region_noPanic ?_
    refine wp_region_held_drew (S := fun W => ∃ n, AtN (tickM k) n m kd rd RA RB i w W bo nv) (by kernel_rfl) (⟨_, H6.out.next (below_drew _)⟩) (fun hHeld => ?_)
    have H6 := Lib.hid (H6.out.next (below_drew _))
    refine wpAnyH_take (i := 0) (v := ?_) rfl (by kernel_rfl) (by kernel_rfl) (by kernel_rfl) (fun _ _ _ h => h) (Or.inl ⟨by rfl, ?_⟩) (by assumption) ?_
    rotate_left
    · intro W hSw; (try dsimp only at hSw); obtain ⟨nS, hSw⟩ := hSw; obtain ⟨o0, o1, o2, o3, o4, of, ol⟩ := hSw.F; have m32 : W.cell? ⟨w.heap.size, 32, none⟩ = some (.int .u64 k.pc) := hSw.M.cells.2.1; go_simp; try (with_reducible rfl)
    (try simp only [Act.put])
    refine wpAnyH_take (i := 1) (v := ?_) rfl (by kernel_rfl) (by kernel_rfl) (by kernel_rfl) (fun _ _ _ h => h) (Or.inl ⟨by rfl, ?_⟩) (by assumption) ?_
    rotate_left
    · intro W hSw; (try dsimp only at hSw); obtain ⟨nS, hSw⟩ := hSw; obtain ⟨o0, o1, o2, o3, o4, of, ol⟩ := hSw.F; have m32 : W.cell? ⟨w.heap.size, 32, none⟩ = some (.int .u64 k.pc) := hSw.M.cells.2.1; go_simp; try (with_reducible rfl)
    (try simp only [Act.put])
    refine wpAnyH_take (i := 2) (v := ?_) rfl (by kernel_rfl) (by kernel_rfl) (by kernel_rfl) (fun _ _ _ h => h) (Or.inl ⟨by rfl, ?_⟩) (by assumption) ?_
    rotate_left
    · intro W hSw; (try dsimp only at hSw); obtain ⟨nS, hSw⟩ := hSw; obtain ⟨o0, o1, o2, o3, o4, of, ol⟩ := hSw.F; have m32 : W.cell? ⟨w.heap.size, 32, none⟩ = some (.int .u64 k.pc) := hSw.M.cells.2.1; refine exec_op (.tmp 5) ?_ bo ?_ hSw.F <;> rfl
    (try simp only [Act.put])
    refine wpAnyH_take (i := 3) (v := ?_) rfl (by kernel_rfl) (by kernel_rfl) (by kernel_rfl) (fun _ _ _ h => h) (Or.inl ⟨by rfl, ?_⟩) (by assumption) ?_
    rotate_left
    · intro W hSw; (try dsimp only at hSw); obtain ⟨nS, hSw⟩ := hSw; obtain ⟨o0, o1, o2, o3, o4, of, ol⟩ := hSw.F; have m32 : W.cell? ⟨w.heap.size, 32, none⟩ = some (.int .u64 k.pc) := hSw.M.cells.2.1; go_simp; try (with_reducible rfl)
    (try simp only [Act.put])
    refine wpAnyH_take (i := 4) (v := ?_) rfl (by kernel_rfl) (by kernel_rfl) (by kernel_rfl) (fun _ _ _ h => h) (Or.inl ⟨by rfl, ?_⟩) (by assumption) ?_
    rotate_left
    · intro W hSw; (try dsimp only at hSw); obtain ⟨nS, hSw⟩ := hSw; obtain ⟨o0, o1, o2, o3, o4, of, ol⟩ := hSw.F; have m32 : W.cell? ⟨w.heap.size, 32, none⟩ = some (.int .u64 k.pc) := hSw.M.cells.2.1; go_simp; try (with_reducible rfl)
    (try simp only [Act.put])
    refine wpAnyH_take (i := 5) (v := ?_) rfl (by kernel_rfl) (by kernel_rfl) (by kernel_rfl) (fun _ _ _ h => h) (Or.inl ⟨by rfl, ?_⟩) (by assumption) ?_
    rotate_left
    · intro W hSw; (try dsimp only at hSw); obtain ⟨nS, hSw⟩ := hSw; obtain ⟨o0, o1, o2, o3, o4, of, ol⟩ := hSw.F; have m32 : W.cell? ⟨w.heap.size, 32, none⟩ = some (.int .u64 k.pc) := hSw.M.cells.2.1; go_simp; try (with_reducible rfl)
    (try simp only [Act.put])
    refine wpAnyH_take (i := 6) (v := ?_) rfl (by kernel_rfl) (by kernel_rfl) (by kernel_rfl) (fun _ _ _ h => h) (Or.inl ⟨by rfl, ?_⟩) (by assumption) ?_
    rotate_left
    · intro W hSw; (try dsimp only at hSw); obtain ⟨nS, hSw⟩ := hSw; obtain ⟨o0, o1, o2, o3, o4, of, ol⟩ := hSw.F; have m32 : W.cell? ⟨w.heap.size, 32, none⟩ = some (.int .u64 k.pc) := hSw.M.cells.2.1; go_simp; try (with_reducible rfl)
    (try simp only [Act.put])
    refine wpAnyH_take (i := 8) (v := ?_) rfl (by kernel_rfl) (by kernel_rfl) (by kernel_rfl) (fun _ _ _ h => h) (Or.inl ⟨by rfl, ?_⟩) (by assumption) ?_
    rotate_left
    · intro W hSw; (try dsimp only at hSw); obtain ⟨nS, hSw⟩ := hSw; obtain ⟨o0, o1, o2, o3, o4, of, ol⟩ := hSw.F; have m32 : W.cell? ⟨w.heap.size, 32, none⟩ = some (.int .u64 k.pc) := hSw.M.cells.2.1; go_simp; try (with_reducible rfl)
    (try simp only [Act.put])
    refine wpAnyH_ready (rs := [7]) (by kernel_rfl) (by simp) ?_
    refine AllReadyH.cons rfl (fun K hK => ?_) AllReadyH.nil
    go_simp
    refine (HDO.out _).mono ?_
    rintro e w7 ⟨rfl, hb7⟩
    have H7 := Lib.hid (H6.out.next hb7)
    refine hK.out _ _ ⟨_, H7.out⟩ (fun hHeld => ?_)
    clear hK K hb7 H6
    (try simp only [Act.put])
    refine wpAnyH_ready (rs := [9]) (by kernel_rfl) (by simp) ?_
    refine AllReadyH.cons rfl (fun K hK => ?_) AllReadyH.nil
    go_simp
    refine hK.out _ _ ⟨_, H7.out⟩ (fun hHeld => ?_)
    clear hK K
    (try simp only [Act.put])
    have nf := H7.out.N.cells.2.2.2.2.2.2.2.2
    have yr := H7.out.N.cells.1 rd.toNat (by omega)
    have H8 := Lib.hid (H7.out.put rd.toNat (.int .u64 D) { addPc (tickM k) 4 with x := upd k.x rd.toNat D } (mcells_setX (addPc (tickM k) 4) rd.toNat (by omega) D))
    refine wpAnyH_ready (rs := [10]) (by kernel_rfl) (by simp) ?_
    refine AllReadyH.cons rfl (fun K hK => ?_) AllReadyH.nil
    go_simp
    refine hK.out _ _ ⟨_, H8.out⟩ (fun hHeld => ?_)
    clear hK K nf yr
    (try simp only [Act.put])
    refine wpAnyH_done (by kernel_rfl) ?_ _
    refine NoPanic.normal ?_
    clear hHeld
    obtain ⟨U8, hU8⟩ : ∃ W, w7.setCell ⟨nv, rd.toNat, none⟩ (.int .u64 D) = W := ⟨_, rfl⟩
    rw [hU8] at H8
    rw [hU8]
    clear hU8
    have y0 := H8.out.N.cells.1 0 (by omega)
    have nf8 := H8.out.N.cells.2.2.2.2.2.2.2.2
    have H9 := Lib.hid (H8.out.put 0 (.int .u64 0) { addPc (tickM k) 4 with x := upd (upd k.x rd.toNat D) 0 0 } (mcells_setX { addPc (tickM k) 4 with x := upd k.x rd.toNat D } 0 (by omega) 0))
    obtain ⟨o0, -, -, -, -, of, ol⟩ := H9.out.F
    have HN7 := Lib.hid H9.out.N
    have HZ7 := Lib.hid H9.out.Z
    go_wp2_with (first | (refine load_mach rfl _ rfl _ rfl _ HN7.out ?_) | (refine store_mach rfl _ _ rfl _ _ rfl rfl _ HZ7.out ?_))
    refine bodyPost_ret (results_mach Tryd.results17 _ _ _ _ rfl (H9.out.Z.row _)) rfl ?_
    rw [outR_alu HK0.out HK.out HZX.out r0, HD.out]
    exact H9.out.done _ ⟨rfl, rfl, rfl⟩
end Go.Proofs.YtclbkdnihhmglaaDoor

namespace Go.Proofs.YtclbkdnihhmglaaDoor
open Go.RowKit

set_option maxRecDepth 100000 in
set_option maxHeartbeats 4000000 in
theorem rstep_20 (k : Mc) (m : List M.Pg) (rd i : Int) (RA RB : Nat) (V : Int) (w : World) (hP : Pages w (.slice k.ma k.ml k.mc) m) (hM : MI k m) (hst : k.st = 0) (h4 : k.pc % 4 = 0) (he : numErr m k.pc 4 1 = 0) (hv : loadV m k.pc 4 1 = V) (v0 : 0 ≤ V) (v1 : V < 4294967296)
    (hT : ∀ W, Calls Tryd.prog 27 #[.int .u32 V] W fun e w' => e = .returned (.tuple #[.agg #[.int .i64 20, .int .i64 rd, .int .i64 RA, .int .i64 RB, .int .i64 i], .int .i64 0]) ∧ Below W.heap.size W w') (r0 : 0 ≤ rd) (r1 : rd < 32) (a1 : RA < 32) (b1 : RB < 32) (hz : k.x 0 = 0) :
    Calls Tryd.prog 17 #[.agg (mcells k)] w (StepPost (outR k m 20 rd i RA RB).1 (outR k m 20 rd i RA RB).2 w) := by
  have HZX := Lib.hid hz
  clear hz
  have HS := Lib.hid (fun W h => call_start k w W h)
  have HL := Lib.hid (fun (W : World) (hb : Below w.heap.size w W) => refLoad_any k.pc 4 1 (hP.next hb) hM.wf hM.pc.1 hM.pc.2 (by omega) (by omega))
  rw [he, hv] at HL
  have HT := Lib.hid hT
  have HP := Lib.hid hP
  have HST := Lib.hid hst
  have HMI := Lib.hid hM
  have m4 : (k.pc.tmod 4 != 0) = false := by rw [Int.tmod_eq_emod_of_nonneg hM.pc.1, h4]; rfl
  have m5 : (k.pc % 4 != 0) = false := by rw [h4]; rfl
  have wv : IntKind.u32.wrap V = V := by rw [IntKind.wrap_u32]; omega
  have a0 : (0 : Int) ≤ (RA : Int) := Int.natCast_nonneg _
  have b0 : (0 : Int) ≤ (RB : Int) := Int.natCast_nonneg _
  have a32 : (RA : Int) < 32 := by omega
  have b32 : (RB : Int) < 32 := by omega
  clear hT hP hst hM h4 he hv
  go_enter Tryd.func17, Tryd.ntmps17
  go_wp2_with (
    refine alloc_mach rfl rfl ?_
    obtain ⟨W, hW⟩ : ∃ W, W = ((w.alloc (.cells (mcells k) 26)).alloc (.cells (mcells zeroMc) 26)) := ⟨_, rfl⟩
    obtain ⟨hM, hZ, hB⟩ := HS.out W hW
    rw [← hW]
    clear hW HS
    obtain ⟨mx, m32, m33, m34, m35, m36, m37, m38, mf⟩ := hM.cells
    rw [HST.out] at m36
    have h1 := Whole.put hM 38 (.int .u64 (IntKind.u64.wrap (k.n + 1)))
    rw [mcells_set38] at h1
    have HM2 := Lib.hid (show Mach (W.setCell ⟨w.heap.size, 38, none⟩ (.int .u64 (IntKind.u64.wrap (k.n + 1)))) w.heap.size (tickM k) from h1)
    have HZ2 := Lib.hid (hZ.other ⟨w.heap.size, 38, none⟩ (.int .u64 (IntKind.u64.wrap (k.n + 1))) (by simp))
    have HB2 := Lib.hid (hB.setCell (p := ⟨w.heap.size, 38, none⟩) (by simp) (.int .u64 (IntKind.u64.wrap (k.n + 1))))
    clear hM hZ hB mx h1 m34 m35 m37)
  refine (HL.out _ HB2.out).mono ?_
  rintro e w3 ⟨rfl, hb3⟩
  have HM3 := Lib.hid (HM2.out.next hb3)
  have HZ3 := Lib.hid (HZ2.out.next hb3)
  have HB3 := Lib.hid (bthen HB2.out hb3)
  clear hb3 m32 m33 m36 m38 mf
  obtain ⟨-, m32', m33, -, -, -, -, -, mf⟩ := HM3.out.cells
  have m32 : w3.cell? ⟨w.heap.size, 32, none⟩ = some (.int .u64 k.pc) := m32'
  clear m32'
  go_wp2_with fail
  refine (HT.out _).mono ?_
  rintro e w4 ⟨rfl, hb4⟩
  have H3 := Lib.hid (show At3 k m 20 rd RA RB i w (w4.alloc (.cells #[.int .i64 20, .int .i64 rd, .int .i64 RA, .int .i64 RB, .int .i64 i] 35)) w4.heap.size from at3a (HM3.out.next hb4) (HZ3.out.next hb4) (bthen HB3.out hb4) HP.out)
  clear hb4 m32 m33 mf
  obtain ⟨o0, o1, o2, o3, o4, of, ol⟩ := H3.out.F
  obtain ⟨mx, -, -, -, -, -, -, -, mf⟩ := H3.out.M.cells
  have ma : (w4.alloc (.cells #[.int .i64 20, .int .i64 rd, .int .i64 RA, .int .i64 RB, .int .i64 i] 35)).cell? ⟨w.heap.size, RA, none⟩ = some (.int .u64 (k.x RA)) := mx RA a1
  have mb : (w4.alloc (.cells #[.int .i64 20, .int .i64 rd, .int .i64 RA, .int .i64 RB, .int .i64 i] 35)).cell? ⟨w.heap.size, RB, none⟩ = some (.int .u64 (k.x RB)) := mx RB b1
  have HMT := Lib.hid H3.out.M
  clear mx
  go_upto_region 15 with (first
    | (refine load_mach rfl _ rfl _ rfl _ HMT.out ?_
       obtain ⟨V3, hV3⟩ : ∃ V, w4.alloc (.cells #[.int .i64 20, .int .i64 rd, .int .i64 RA, .int .i64 RB, .int .i64 i] 35) = V := ⟨_, rfl⟩
       rw [hV3] at H3
       rw [hV3]
       obtain ⟨bo, hbo⟩ : ∃ b, w4.heap.size = b := ⟨_, rfl⟩
       rw [hbo] at H3
       rw [hbo]
       have H5 := Lib.hid (at5_of H3.out HP.out)
       have HNN := Lib.hid (Mach.new V3 zeroMc)
       clear hV3 hbo HMT o0 o1 o2 o3 o4 of ol mf ma mb)
    | (refine alloc_mach rfl rfl ?_)
    | (refine store_mach rfl _ _ rfl _ _ rfl rfl _ HNN.out ?_
       obtain ⟨U, hU⟩ : ∃ U, (V3.alloc (.cells (mcells zeroMc) 26)).setRow V3.heap.size (mcells (tickM k)) = U := ⟨_, rfl⟩
       rw [hU] at H5
       rw [hU]
       obtain ⟨nv, hnv⟩ : ∃ b, V3.heap.size = b := ⟨_, rfl⟩
       rw [hnv] at H5
       rw [hnv]
       have H6 := Lib.hid H5.out.pc4
       obtain ⟨-, m32', -, -, -, -, -, -, mf⟩ := H5.out.M.cells
       obtain ⟨-, n32, -, -, -, -, -, -, nf⟩ := H5.out.N.cells
       have m32 : U.cell? ⟨w.heap.size, 32, none⟩ = some (.int .u64 k.pc) := m32'
       clear hU hnv HNN H3 m32'))
  obtain ⟨U6, hU6⟩ : ∃ W, U.setCell ⟨nv, 32, none⟩ (.int .u64 (IntKind.u64.wrap (k.pc + 4))) = W := ⟨_, rfl⟩
  rw [show (tickM k).pc = k.pc from rfl, hU6] at H6
  rw [hU6]
  clear hU6 H5 m32 n32 mf nf
  obtain ⟨o0, o1, o2, o3, o4, of, ol⟩ := H6.out.F
  obtain ⟨mx', m32', m33', m34', m35', m36', m37', m38', mf⟩ := H6.out.M.cells
  obtain ⟨nx', n32, n33, n34, n35, n36, n37, n38, nf⟩ := H6.out.N.cells
  have m32 : U6.cell? ⟨w.heap.size, 32, none⟩ = some (.int .u64 k.pc) := m32'
  have m33 : U6.cell? ⟨w.heap.size, 33, none⟩ = some (.slice k.ma k.ml k.mc) := m33'
  have m34 : U6.cell? ⟨w.heap.size, 34, none⟩ = some (.string k.inp) := m34'
  have m35 : U6.cell? ⟨w.heap.size, 35, none⟩ = some (.string k.out) := m35'
  have m36 : U6.cell? ⟨w.heap.size, 36, none⟩ = some (.int .i64 0) := by rw [← HST.out]; exact m36'
  have m37 : U6.cell? ⟨w.heap.size, 37, none⟩ = some (.int .u64 k.cd) := m37'
  have mx : ∀ j, j < 32 → U6.cell? ⟨w.heap.size, j, none⟩ = some (.int .u64 (k.x j)) := mx'
  have nx : ∀ j, j < 32 → U6.cell? ⟨nv, j, none⟩ = some (.int .u64 (k.x j)) := nx'
  have x17 := mx 17 (by omega)
  have x10 := mx 10 (by omega)
  have y10 := nx 10 (by omega)
  have y0 := nx 0 (by omega)
  clear mx' nx' m32' m33' m34' m35' m36' m37' m38' n38
  have hat := lsAt_in (k.x RA) i
  have HLL := Lib.hid (fun (W' : World) (hb : Below w.heap.size w W') => refLoad_any (lsAt (k.x RA) i) 1 4 (HP.out.next hb) HMI.out.wf hat.1 hat.2 (by omega) (by omega))
  obtain ⟨D, hD⟩ : ∃ D, loadV m (lsAt (k.x RA) i) 1 4 = D := ⟨_, rfl⟩
  obtain ⟨E1, hE1⟩ : ∃ D, numErr m (lsAt (k.x RA) i) 1 4 = D := ⟨_, rfl⟩
  rw [hD, hE1] at HLL
  have HE := Lib.hid hE1
  have HD := Lib.hid hD
  have HAT := Lib.hid (show lsAt (k.x RA) i = IntKind.u64.wrap (k.x RA + IntKind.u64.wrap i) from rfl)
  rw [HAT.out] at HLL
  clear hE1 hat hD x17 x10 y10 m32 m34 m35 m36 m37 n32 n33 n34 n35 n36 n37 mx nx
  go_wp2_with fail
  refine (HLL.out _ H6.out.B).mono ?_
  rintro e w7 ⟨rfl, hb7⟩
  have H7 := Lib.hid (H6.out.next hb7)
  clear hb7 o0 o1 o2 o3 o4 of ol m33 mf nf y0
  by_cases hx : E1 = 0
  · subst hx
    obtain ⟨o0, o1, -, -, -, of, ol⟩ := H7.out.F
    have nf := H7.out.N.cells.2.2.2.2.2.2.2.2
    have yr := H7.out.N.cells.1 rd.toNat (by omega)
    have H8 := Lib.hid (H7.out.put rd.toNat (.int .u64 D) { addPc (tickM k) 4 with x := upd k.x rd.toNat D } (mcells_setX (addPc (tickM k) 4) rd.toNat (by omega) D))
    have y0 := H8.out.N.cells.1 0 (by omega)
    have nf8 := H8.out.N.cells.2.2.2.2.2.2.2.2
    have H9 := Lib.hid (H8.out.put 0 (.int .u64 0) { addPc (tickM k) 4 with x := upd (upd k.x rd.toNat D) 0 0 } (mcells_setX { addPc (tickM k) 4 with x := upd k.x rd.toNat D } 0 (by omega) 0))
    have HN7 := Lib.hid H9.out.N
    have HZ7 := Lib.hid H9.out.Z
    go_wp2_with (first | (refine load_mach rfl _ rfl _ rfl _ HN7.out ?_) | (refine store_mach rfl _ _ rfl _ _ rfl rfl _ HZ7.out ?_))
    refine bodyPost_ret (results_mach Tryd.results17 _ _ _ _ rfl (H9.out.Z.row _)) rfl ?_
    rw [outR_lb1 HZX.out r0 HE.out, HD.out]
    exact H9.out.done _ ⟨rfl, rfl, rfl⟩
  · have HX := Lib.hid hx
    have tx : (E1 != 0) = true := by simpa using hx
    clear hx
    have HN7 := Lib.hid H7.out.M
    go_wp2_with (refine load_mach rfl _ rfl _ rfl _ HN7.out ?_)
    refine (rtrap_any (tickM k) _).mono ?_
    rintro e w8 ⟨rfl, hb8⟩
    have H8 := Lib.hid (H7.out.next hb8)
    have HZ8 := Lib.hid H8.out.Z
    clear hb8
    go_wp2_with (refine store_mach rfl _ _ rfl _ _ rfl rfl _ HZ8.out ?_)
    refine bodyPost_ret (results_mach Tryd.results17 _ _ _ _ rfl (H8.out.Z.row (trap2 (tickM k)))) rfl ?_
    rw [outR_lb0 (by rw [HE.out]; exact HX.out)]
    exact H8.out.done (trap2 (tickM k)) ⟨rfl, rfl, rfl⟩
end Go.Proofs.YtclbkdnihhmglaaDoor

namespace Go.Proofs.YtclbkdnihhmglaaDoor
open Go.RowKit

set_option maxRecDepth 100000 in
set_option maxHeartbeats 4000000 in
theorem rstep_22 (k : Mc) (m : List M.Pg) (rd i : Int) (RA RB : Nat) (V : Int) (w : World) (hP : Pages w (.slice k.ma k.ml k.mc) m) (hM : MI k m) (hst : k.st = 0) (h4 : k.pc % 4 = 0) (he : numErr m k.pc 4 1 = 0) (hv : loadV m k.pc 4 1 = V) (v0 : 0 ≤ V) (v1 : V < 4294967296)
    (hT : ∀ W, Calls Tryd.prog 27 #[.int .u32 V] W fun e w' => e = .returned (.tuple #[.agg #[.int .i64 22, .int .i64 rd, .int .i64 RA, .int .i64 RB, .int .i64 i], .int .i64 0]) ∧ Below W.heap.size W w') (_r0 : 0 ≤ rd) (_r1 : rd < 32) (a1 : RA < 32) (b1 : RB < 32)  :
    Calls Tryd.prog 17 #[.agg (mcells k)] w (StepPost (outR k m 22 rd i RA RB).1 (outR k m 22 rd i RA RB).2 w) := by
  have HS := Lib.hid (fun W h => call_start k w W h)
  have HL := Lib.hid (fun (W : World) (hb : Below w.heap.size w W) => refLoad_any k.pc 4 1 (hP.next hb) hM.wf hM.pc.1 hM.pc.2 (by omega) (by omega))
  rw [he, hv] at HL
  have HT := Lib.hid hT
  have HP := Lib.hid hP
  have HST := Lib.hid hst
  have HMI := Lib.hid hM
  have m4 : (k.pc.tmod 4 != 0) = false := by rw [Int.tmod_eq_emod_of_nonneg hM.pc.1, h4]; rfl
  have m5 : (k.pc % 4 != 0) = false := by rw [h4]; rfl
  have wv : IntKind.u32.wrap V = V := by rw [IntKind.wrap_u32]; omega
  have a0 : (0 : Int) ≤ (RA : Int) := Int.natCast_nonneg _
  have b0 : (0 : Int) ≤ (RB : Int) := Int.natCast_nonneg _
  have a32 : (RA : Int) < 32 := by omega
  have b32 : (RB : Int) < 32 := by omega
  clear hT hP hst hM h4 he hv
  go_enter Tryd.func17, Tryd.ntmps17
  go_wp2_with (
    refine alloc_mach rfl rfl ?_
    obtain ⟨W, hW⟩ : ∃ W, W = ((w.alloc (.cells (mcells k) 26)).alloc (.cells (mcells zeroMc) 26)) := ⟨_, rfl⟩
    obtain ⟨hM, hZ, hB⟩ := HS.out W hW
    rw [← hW]
    clear hW HS
    obtain ⟨mx, m32, m33, m34, m35, m36, m37, m38, mf⟩ := hM.cells
    rw [HST.out] at m36
    have h1 := Whole.put hM 38 (.int .u64 (IntKind.u64.wrap (k.n + 1)))
    rw [mcells_set38] at h1
    have HM2 := Lib.hid (show Mach (W.setCell ⟨w.heap.size, 38, none⟩ (.int .u64 (IntKind.u64.wrap (k.n + 1)))) w.heap.size (tickM k) from h1)
    have HZ2 := Lib.hid (hZ.other ⟨w.heap.size, 38, none⟩ (.int .u64 (IntKind.u64.wrap (k.n + 1))) (by simp))
    have HB2 := Lib.hid (hB.setCell (p := ⟨w.heap.size, 38, none⟩) (by simp) (.int .u64 (IntKind.u64.wrap (k.n + 1))))
    clear hM hZ hB mx h1 m34 m35 m37)
  refine (HL.out _ HB2.out).mono ?_
  rintro e w3 ⟨rfl, hb3⟩
  have HM3 := Lib.hid (HM2.out.next hb3)
  have HZ3 := Lib.hid (HZ2.out.next hb3)
  have HB3 := Lib.hid (bthen HB2.out hb3)
  clear hb3 m32 m33 m36 m38 mf
  obtain ⟨-, m32', m33, -, -, -, -, -, mf⟩ := HM3.out.cells
  have m32 : w3.cell? ⟨w.heap.size, 32, none⟩ = some (.int .u64 k.pc) := m32'
  clear m32'
  go_wp2_with fail
  refine (HT.out _).mono ?_
  rintro e w4 ⟨rfl, hb4⟩
  have H3 := Lib.hid (show At3 k m 22 rd RA RB i w (w4.alloc (.cells #[.int .i64 22, .int .i64 rd, .int .i64 RA, .int .i64 RB, .int .i64 i] 35)) w4.heap.size from at3a (HM3.out.next hb4) (HZ3.out.next hb4) (bthen HB3.out hb4) HP.out)
  clear hb4 m32 m33 mf
  obtain ⟨o0, o1, o2, o3, o4, of, ol⟩ := H3.out.F
  obtain ⟨mx, -, -, -, -, -, -, -, mf⟩ := H3.out.M.cells
  have ma : (w4.alloc (.cells #[.int .i64 22, .int .i64 rd, .int .i64 RA, .int .i64 RB, .int .i64 i] 35)).cell? ⟨w.heap.size, RA, none⟩ = some (.int .u64 (k.x RA)) := mx RA a1
  have mb : (w4.alloc (.cells #[.int .i64 22, .int .i64 rd, .int .i64 RA, .int .i64 RB, .int .i64 i] 35)).cell? ⟨w.heap.size, RB, none⟩ = some (.int .u64 (k.x RB)) := mx RB b1
  have HMT := Lib.hid H3.out.M
  clear mx
  go_upto_region 15 with (first
    | (refine load_mach rfl _ rfl _ rfl _ HMT.out ?_
       obtain ⟨V3, hV3⟩ : ∃ V, w4.alloc (.cells #[.int .i64 22, .int .i64 rd, .int .i64 RA, .int .i64 RB, .int .i64 i] 35) = V := ⟨_, rfl⟩
       rw [hV3] at H3
       rw [hV3]
       obtain ⟨bo, hbo⟩ : ∃ b, w4.heap.size = b := ⟨_, rfl⟩
       rw [hbo] at H3
       rw [hbo]
       have H5 := Lib.hid (at5_of H3.out HP.out)
       have HNN := Lib.hid (Mach.new V3 zeroMc)
       clear hV3 hbo HMT o0 o1 o2 o3 o4 of ol mf ma mb)
    | (refine alloc_mach rfl rfl ?_)
    | (refine store_mach rfl _ _ rfl _ _ rfl rfl _ HNN.out ?_
       obtain ⟨U, hU⟩ : ∃ U, (V3.alloc (.cells (mcells zeroMc) 26)).setRow V3.heap.size (mcells (tickM k)) = U := ⟨_, rfl⟩
       rw [hU] at H5
       rw [hU]
       obtain ⟨nv, hnv⟩ : ∃ b, V3.heap.size = b := ⟨_, rfl⟩
       rw [hnv] at H5
       rw [hnv]
       have H6 := Lib.hid H5.out.pc4
       obtain ⟨-, m32', -, -, -, -, -, -, mf⟩ := H5.out.M.cells
       obtain ⟨-, n32, -, -, -, -, -, -, nf⟩ := H5.out.N.cells
       have m32 : U.cell? ⟨w.heap.size, 32, none⟩ = some (.int .u64 k.pc) := m32'
       clear hU hnv HNN H3 m32'))
  obtain ⟨U6, hU6⟩ : ∃ W, U.setCell ⟨nv, 32, none⟩ (.int .u64 (IntKind.u64.wrap (k.pc + 4))) = W := ⟨_, rfl⟩
  rw [show (tickM k).pc = k.pc from rfl, hU6] at H6
  rw [hU6]
  clear hU6 H5 m32 n32 mf nf
  obtain ⟨o0, o1, o2, o3, o4, of, ol⟩ := H6.out.F
  obtain ⟨mx', m32', m33', m34', m35', m36', m37', m38', mf⟩ := H6.out.M.cells
  obtain ⟨nx', n32, n33, n34, n35, n36, n37, n38, nf⟩ := H6.out.N.cells
  have m32 : U6.cell? ⟨w.heap.size, 32, none⟩ = some (.int .u64 k.pc) := m32'
  have m33 : U6.cell? ⟨w.heap.size, 33, none⟩ = some (.slice k.ma k.ml k.mc) := m33'
  have m34 : U6.cell? ⟨w.heap.size, 34, none⟩ = some (.string k.inp) := m34'
  have m35 : U6.cell? ⟨w.heap.size, 35, none⟩ = some (.string k.out) := m35'
  have m36 : U6.cell? ⟨w.heap.size, 36, none⟩ = some (.int .i64 0) := by rw [← HST.out]; exact m36'
  have m37 : U6.cell? ⟨w.heap.size, 37, none⟩ = some (.int .u64 k.cd) := m37'
  have mx : ∀ j, j < 32 → U6.cell? ⟨w.heap.size, j, none⟩ = some (.int .u64 (k.x j)) := mx'
  have nx : ∀ j, j < 32 → U6.cell? ⟨nv, j, none⟩ = some (.int .u64 (k.x j)) := nx'
  have x17 := mx 17 (by omega)
  have x10 := mx 10 (by omega)
  have y10 := nx 10 (by omega)
  have y0 := nx 0 (by omega)
  clear mx' nx' m32' m33' m34' m35' m36' m37' m38' n38
  have hat := lsAt_in (k.x RA) i
  have hxb := HMI.out.x RB b1
  have hxb0 := hxb.1
  have hxb1 := hxb.2
  have hxc : ((k.x RB).toNat : Int) = k.x RB := by omega
  have HLL := Lib.hid (fun (W' : World) (hb : Below w.heap.size w W') => refStore_any (lsAt (k.x RA) i) 1 (k.x RB).toNat (HP.out.next hb) HMI.out.wf hat.1 hat.2 (by omega) (by omega) (by omega))
  rw [hxc] at HLL
  obtain ⟨D, hD⟩ : ∃ D, storeM m (lsAt (k.x RA) i) 1 (k.x RB).toNat = D := ⟨_, rfl⟩
  obtain ⟨E1, hE1⟩ : ∃ D, numErr m (lsAt (k.x RA) i) 1 2 = D := ⟨_, rfl⟩
  rw [hD, hE1] at HLL
  have HE := Lib.hid hE1
  have HD := Lib.hid hD
  have HAT := Lib.hid (show lsAt (k.x RA) i = IntKind.u64.wrap (k.x RA + IntKind.u64.wrap i) from rfl)
  rw [HAT.out] at HLL
  clear hE1 hat hxb hxb0 hxb1 hxc hD x17 x10 y10 m32 m34 m35 m36 m37 n32 n33 n34 n35 n36 n37 mx nx y0
  go_wp2_with fail
  refine (HLL.out _ H6.out.B).mono ?_
  rintro e w7 ⟨v7, rfl, hp7, hb7⟩
  have H7 := Lib.hid (H6.out.next hb7)
  clear hb7 o0 o1 o2 o3 o4 of ol m33 mf nf
  obtain ⟨A7, c7, rfl⟩ := hp7.slice
  obtain ⟨l7, hl7⟩ : ∃ l, D.length = l := ⟨_, rfl⟩
  rw [hl7] at hp7
  rw [hl7]
  have HP7 := Lib.hid hp7
  clear hp7 hl7
  by_cases hx : E1 = 0
  · subst hx
    have nf := H7.out.N.cells.2.2.2.2.2.2.2.2
    have n33 := H7.out.N.cells.2.2.1
    have H8 := Lib.hid (H7.out.put 33 (.slice A7 l7 c7) { addPc (tickM k) 4 with ma := A7, ml := l7, mc := c7 } (mcells_set33 (addPc (tickM k) 4) A7 l7 c7))
    have HP8 := Lib.hid (pages_keepM HP7.out H7.out.N (grownBy_put w7 nv 33 (.slice A7 l7 c7)))
    have HN7 := Lib.hid H8.out.N
    have HZ7 := Lib.hid H8.out.Z
    go_wp2_with (first | (refine load_mach rfl _ rfl _ rfl _ HN7.out ?_) | (refine store_mach rfl _ _ rfl _ _ rfl rfl _ HZ7.out ?_))
    refine bodyPost_ret (results_mach Tryd.results17 _ _ _ _ rfl (H8.out.Z.row _)) rfl ?_
    rw [outR_sb1 HE.out, HD.out]
    exact ⟨A7, l7, c7, rfl, pages_keepM HP8.out H8.out.Z (grownBy_row _ _ _), below_row H8.out.B _ (by omega)⟩
  · have HX := Lib.hid hx
    have tx : (E1 != 0) = true := by simpa using hx
    clear hx
    have HN7 := Lib.hid H7.out.M
    go_wp2_with (refine load_mach rfl _ rfl _ rfl _ HN7.out ?_)
    refine (rtrap_any (tickM k) _).mono ?_
    rintro e w8 ⟨rfl, hb8⟩
    have H8 := Lib.hid (H7.out.next hb8)
    have HZ8 := Lib.hid H8.out.Z
    clear hb8
    go_wp2_with (refine store_mach rfl _ _ rfl _ _ rfl rfl _ HZ8.out ?_)
    refine bodyPost_ret (results_mach Tryd.results17 _ _ _ _ rfl (H8.out.Z.row (trap2 (tickM k)))) rfl ?_
    rw [outR_sb0 (by rw [HE.out]; exact HX.out)]
    exact H8.out.done (trap2 (tickM k)) ⟨rfl, rfl, rfl⟩
end Go.Proofs.YtclbkdnihhmglaaDoor
