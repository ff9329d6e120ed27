/- rv's call, whatever it asks for. rv's call: a byte that is read. -/
import Derived.Test.YtclbkdnihhmglaaDoorZNE
import Derived.Test.YtclbkdnihhmglaaDoorZP43
import Derived.Laws.BytesArg
import Derived.Laws.Concat
namespace Go.Proofs.YtclbkdnihhmglaaDoor
open Go.RowKit

theorem upd_upd (x : Nat → Int) (i : Nat) (a b : Int) : upd (upd x i a) i b = upd x i b := by
  funext j
  unfold upd
  split <;> rfl
/-- the first byte of what is to be read -/
def firstB (s : ByteArray) : Int := ((s.data.toList.getD 0 0).toNat : Int)
/-- the byte that is written -/
def byteB (v : Int) : UInt8 := UInt8.ofNat (v % 256).toNat
set_option maxRecDepth 100000 in
set_option maxHeartbeats 1000000 in
theorem call_no (k : Mc) (w : World)  (h63 : k.x 17 ≠ 63) (h64 : k.x 17 ≠ 64) (h93 : k.x 17 ≠ 93) :
    Calls Tryd.prog 42 #[.agg (mcells k)] w (RetIs (.tuple #[.agg (mcells k), .bool false]) w) := by
  have HS := Lib.hid (fun W h => call_start k w W h)
  have t63 : (k.x 17 == 63) = false := by simpa using h63
  have t64 : (k.x 17 == 64) = false := by simpa using h64
  have t93 : (k.x 17 == 93) = false := by simpa using h93
  clear h63 h64 h93
  go_enter Tryd.func42, Tryd.ntmps42
  go_wp2_with (first
    | (refine load_mach rfl _ rfl _ rfl _ HM2.out ?_)
    | (refine store_mach rfl _ _ rfl _ _ rfl rfl _ HZ2.out ?_)
    | (
    refine alloc_mach rfl rfl ?_
    obtain ⟨W, hW⟩ : ∃ W, W = ((w.alloc (.cells (mcells k) 26)).alloc (.cells (mcells zeroMc) 26)) := ⟨_, rfl⟩
    obtain ⟨hM, hZ, hB⟩ := HS.out W hW
    rw [← hW]
    clear hW HS
    have HM := Lib.hid hM
    have HZ := Lib.hid hZ
    have HB := Lib.hid hB
    have z1 : w.heap.size + 1 < W.heap.size := hZ.lt
    obtain ⟨mx, m32, m33, m34, m35, m36, m37, m38, mf⟩ := hM.cells
    have m17 := mx 17 (by omega)
    have m10 := mx 10 (by omega)
    have HM2 := Lib.hid hM
    have HZ2 := Lib.hid hZ
    have HB2 := Lib.hid hB
    clear hM hZ hB mx))
  exact bodyPost_ret (results_mach_two Tryd.results42 _ _ _ _ _ rfl rfl (HZ2.out.row k)) rfl ⟨rfl, below_row HB2.out _ (by omega)⟩
set_option maxRecDepth 100000 in
set_option maxHeartbeats 1000000 in
theorem call_read0 (k : Mc) (w : World)  (h17 : k.x 17 = 63) (hi : k.inp = ⟨#[]⟩) :
    Calls Tryd.prog 42 #[.agg (mcells k)] w (RetIs (.tuple #[.agg (mcells { k with x := upd k.x 10 256 }), .bool true]) w) := by
  have HS := Lib.hid (fun W h => call_start k w W h)
  have H17 := Lib.hid h17
  have HI := Lib.hid hi
  clear h17 hi
  go_enter Tryd.func42, Tryd.ntmps42
  go_wp2_with (first
    | (refine load_mach rfl _ rfl _ rfl _ HM2.out ?_)
    | (refine store_mach rfl _ _ rfl _ _ rfl rfl _ HZ2.out ?_)
    | (
    refine alloc_mach rfl rfl ?_
    obtain ⟨W, hW⟩ : ∃ W, W = ((w.alloc (.cells (mcells k) 26)).alloc (.cells (mcells zeroMc) 26)) := ⟨_, rfl⟩
    obtain ⟨hM, hZ, hB⟩ := HS.out W hW
    rw [← hW]
    clear hW HS
    have HM := Lib.hid hM
    have HZ := Lib.hid hZ
    have HB := Lib.hid hB
    have z1 : w.heap.size + 1 < W.heap.size := hZ.lt
    obtain ⟨mx, m32, m33, m34, m35, m36, m37, m38, mf⟩ := hM.cells
    have m17 := mx 17 (by omega)
    have m10 := mx 10 (by omega)
    rw [H17.out] at m17
    have h1 := Whole.put hM 10 (.int .u64 256)
    rw [mcells_setX k 10 (by omega) 256] at h1
    have HM2 := Lib.hid (show Mach (W.setCell ⟨w.heap.size, 10, none⟩ (.int .u64 256)) w.heap.size { k with x := upd k.x 10 256 } from h1)
    have HZ2 := Lib.hid (hZ.other ⟨w.heap.size, 10, none⟩ (.int .u64 256) (by simp))
    have HB2 := Lib.hid (hB.setCell (p := ⟨w.heap.size, 10, none⟩) (by simp) (.int .u64 256))
    clear h1
    rw [HI.out] at m34
    clear hM hZ hB mx))
  exact bodyPost_ret (results_mach_two Tryd.results42 _ _ _ _ _ rfl rfl (HZ2.out.row { k with x := upd k.x 10 256 })) rfl ⟨rfl, below_row HB2.out _ (by omega)⟩
/-- the machine behind a byte that was written -/
def writeM (k : Mc) : Mc := { k with out := k.out ++ ⟨#[byteB (k.x 10)]⟩ }
set_option maxRecDepth 100000 in
set_option maxHeartbeats 1000000 in
theorem call_write (k : Mc) (w : World)  (h17 : k.x 17 = 64) (ho : k.out.size + 1 ≤ 9223372036854775807) :
    Calls Tryd.prog 42 #[.agg (mcells k)] w (RetIs (.tuple #[.agg (mcells (writeM k)), .bool true]) w) := by
  have HS := Lib.hid (fun W h => call_start k w W h)
  have H17 := Lib.hid h17
  have HSUM := Lib.hid (fun W => run_string_add_sum (P := Tryd.prog) W k.out ⟨#[byteB (k.x 10)]⟩ ho)
  clear h17 ho
  go_enter Tryd.func42, Tryd.ntmps42
  go_wp2_with (first
    | (refine load_mach rfl _ rfl _ rfl _ HM2.out ?_)
    | (refine store_mach rfl _ _ rfl _ _ rfl rfl _ HZ2.out ?_)
    | (
    refine alloc_mach rfl rfl ?_
    obtain ⟨W, hW⟩ : ∃ W, W = ((w.alloc (.cells (mcells k) 26)).alloc (.cells (mcells zeroMc) 26)) := ⟨_, rfl⟩
    obtain ⟨hM, hZ, hB⟩ := HS.out W hW
    rw [← hW]
    clear hW HS
    have HM := Lib.hid hM
    have HZ := Lib.hid hZ
    have HB := Lib.hid hB
    have z1 : w.heap.size + 1 < W.heap.size := hZ.lt
    obtain ⟨mx, m32, m33, m34, m35, m36, m37, m38, mf⟩ := hM.cells
    have m17 := mx 17 (by omega)
    have m10 := mx 10 (by omega)
    rw [H17.out] at m17
    have hcv : (convert 45 9 (.slice (some ⟨W.heap.size, 0, none⟩) 1 1)).run Tryd.prog (W.alloc (.cells #[.int .u8 (k.x 10 % 256)] 5)) = .ok (.string ⟨#[byteB (k.x 10)]⟩) (W.alloc (.cells #[.int .u8 (k.x 10 % 256)] 5)) := by
      have h := run_convert_bytes_arg (W.alloc (.cells #[.int .u8 (k.x 10 % 256)] 5)) 45 5 Tryd.underlying45 Tryd.underlying5 W.heap.size 0 1 1 [k.x 10 % 256] rfl (fun i hi => by
        obtain rfl : i = 0 := by omega
        simp [go_sem]) 9 Tryd.underlying9
      rw [h]
      simp [strOfNums, byteB]
    have hsum := HSUM.out (W.alloc (.cells #[.int .u8 (k.x 10 % 256)] 5))
    have z0 : w.heap.size < W.heap.size := by omega
    have h1 := Whole.put hM 35 (.string (k.out ++ ⟨#[byteB (k.x 10)]⟩))
    rw [mcells_set35] at h1
    have HM2 := Lib.hid (show Mach ((W.setCell ⟨w.heap.size, 35, none⟩ (.string (k.out ++ ⟨#[byteB (k.x 10)]⟩))).alloc (.cells #[.int .u8 (k.x 10 % 256)] 5)) w.heap.size (writeM k) from Mach.alloc h1 _)
    have HZ2 := Lib.hid ((hZ.other ⟨w.heap.size, 35, none⟩ (.string (k.out ++ ⟨#[byteB (k.x 10)]⟩)) (by simp)).alloc (.cells #[.int .u8 (k.x 10 % 256)] 5))
    have HB2 := Lib.hid (balloc (hB.setCell (p := ⟨w.heap.size, 35, none⟩) (by simp) (.string (k.out ++ ⟨#[byteB (k.x 10)]⟩))) (.cells #[.int .u8 (k.x 10 % 256)] 5))
    clear h1
    clear hM hZ hB mx))
  exact bodyPost_ret (results_mach_two Tryd.results42 _ _ _ _ _ rfl rfl (HZ2.out.row (writeM k))) rfl ⟨rfl, below_row HB2.out _ (by omega)⟩
end Go.Proofs.YtclbkdnihhmglaaDoor

namespace Go.Proofs.YtclbkdnihhmglaaDoor
open Go.RowKit

/-- the machine behind a byte that was read -/
def readM (k : Mc) : Mc := { k with x := upd k.x 10 (firstB k.inp), inp := k.inp.extract 1 k.inp.size }
set_option maxRecDepth 100000 in
set_option maxHeartbeats 4000000 in
theorem call_read1 (k : Mc) (w : World)  (h17 : k.x 17 = 63) (hi : k.inp ≠ ⟨#[]⟩) :
    Calls Tryd.prog 42 #[.agg (mcells k)] w (RetIs (.tuple #[.agg (mcells (readM k)), .bool true]) w) := by
  have HS := Lib.hid (fun W h => call_start k w W h)
  have H17 := Lib.hid h17
  obtain ⟨S, hS⟩ : ∃ S, k.inp = S := ⟨_, rfl⟩
  rw [hS] at hi
  have hs : 0 < S.size := by
    rcases Nat.eq_zero_or_pos S.size with h | h
    · exact absurd (by cases S with | mk a => have h' : a.size = 0 := h; rw [Array.size_eq_zero_iff.1 h']) hi
    · exact h
  have hne : (S == ⟨#[]⟩) = false := ba_ne hi
  have hne2 : (S != ⟨#[]⟩) = true := by unfold bne; rw [hne]; rfl
  have hfb : IntKind.u64.wrap ((S[0]'hs).toNat : Int) = firstB S := by
    have h1 : (S[0]'hs) = S.data[0]'hs := rfl
    have h2 : firstB S = ((S.data[0]'hs).toNat : Int) := by
      unfold firstB
      rw [List.getD_eq_getElem?_getD, Array.getElem?_toList, Array.getElem?_eq_getElem hs]
      rfl
    have h3 := (S.data[0]'hs).toNat_lt
    rw [h1, h2, IntKind.wrap_u64]
    omega
  have hemp : S.toList.isEmpty = false := by
    rw [ByteArray.toList_eq]
    cases h : S.data.toList with
    | nil => exact absurd (by cases S with | mk a => rw [show a = #[] from Array.toList_eq_nil_iff.1 h]) hi
    | cons _ _ => rfl
  have HFB := Lib.hid hfb
  clear hne hne2 hfb
  have HSS := Lib.hid hS
  clear h17 hS
  go_enter Tryd.func42, Tryd.ntmps42
  go_wp2_with (first
    | (refine load_mach rfl _ rfl _ rfl _ HM2.out ?_)
    | (refine store_mach rfl _ _ rfl _ _ rfl rfl _ HZ2.out ?_)
    | (
    refine alloc_mach rfl rfl ?_
    obtain ⟨W, hW⟩ : ∃ W, W = ((w.alloc (.cells (mcells k) 26)).alloc (.cells (mcells zeroMc) 26)) := ⟨_, rfl⟩
    obtain ⟨hM, hZ, hB⟩ := HS.out W hW
    rw [← hW]
    clear hW HS
    have HM := Lib.hid hM
    have HZ := Lib.hid hZ
    have HB := Lib.hid hB
    have z1 : w.heap.size + 1 < W.heap.size := hZ.lt
    obtain ⟨mx, m32, m33, m34, m35, m36, m37, m38, mf⟩ := hM.cells
    have m17 := mx 17 (by omega)
    have m10 := mx 10 (by omega)
    rw [H17.out] at m17
    rw [HSS.out] at m34
    have h1 := Whole.put hM 10 (.int .u64 256)
    rw [mcells_setX k 10 (by omega) 256] at h1
    have h2 := Whole.put h1 10 (.int .u64 (IntKind.u64.wrap ((S[0]'hs).toNat : Int)))
    rw [mcells_setX { k with x := upd k.x 10 256 } 10 (by omega) (IntKind.u64.wrap ((S[0]'hs).toNat : Int))] at h2
    have h3 := Whole.put h2 34 (.string (S.extract 1 S.size))
    rw [mcells_set34] at h3
    have HM2 := Lib.hid (show Mach (((W.setCell ⟨w.heap.size, 10, none⟩ (.int .u64 256)).setCell ⟨w.heap.size, 10, none⟩ (.int .u64 (IntKind.u64.wrap ((S[0]'hs).toNat : Int)))).setCell ⟨w.heap.size, 34, none⟩ (.string (S.extract 1 S.size))) w.heap.size (readM k) from by
      rw [show readM k = { k with x := upd (upd k.x 10 256) 10 (IntKind.u64.wrap ((S[0]'hs).toNat : Int)), inp := S.extract 1 S.size } by unfold readM; rw [upd_upd, HFB.out, HSS.out]]
      exact h3)
    have HZ2 := Lib.hid (((hZ.other ⟨w.heap.size, 10, none⟩ (.int .u64 256) (by simp)).other ⟨w.heap.size, 10, none⟩ (.int .u64 (IntKind.u64.wrap ((S[0]'hs).toNat : Int))) (by simp)).other ⟨w.heap.size, 34, none⟩ (.string (S.extract 1 S.size)) (by simp))
    have HB2 := Lib.hid (((hB.setCell (p := ⟨w.heap.size, 10, none⟩) (by simp) (.int .u64 256)).setCell (p := ⟨w.heap.size, 10, none⟩) (by simp) (.int .u64 (IntKind.u64.wrap ((S[0]'hs).toNat : Int)))).setCell (p := ⟨w.heap.size, 34, none⟩) (by simp) (.string (S.extract 1 S.size)))
    clear h1 h2 h3
    clear hM hZ hB mx))
  exact bodyPost_ret (results_mach_two Tryd.results42 _ _ _ _ _ rfl rfl (HZ2.out.row (readM k))) rfl ⟨rfl, below_row HB2.out _ (by omega)⟩
end Go.Proofs.YtclbkdnihhmglaaDoor
