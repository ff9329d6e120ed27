/- Package elf's laws: the document's example. -/
import Derived.Test.YtdlbhkdjcegbfaaF10
namespace Go.Proofs.Ytdlbhkdjcegbfaa
open Go.RowKit

def exG : Sg := ⟨65536, 1, ⟨#[115, 0, 0, 0]⟩, 4⟩
theorem exG_may : mayB [exG] 65536 = true := by decide +kernel
theorem exG_in : ∀ s ∈ [exG], SgIn s := by
  intro s hs
  simp at hs
  subst hs
  exact ⟨⟨by decide, by decide⟩, ⟨by decide, by decide⟩, ⟨by decide, by decide⟩, by decide⟩
theorem exF_len : (fileL 65536 [exG]).length = 260 := by decide +kernel
theorem exF_end : (fileL 65536 [exG]).drop 256 = [115, 0, 0, 0] := by decide +kernel
set_option maxRecDepth 100000 in
set_option maxHeartbeats 1000000 in
theorem eshown_any (w : World) : Calls Try.prog 20 #[] w fun e w' => e = .returned (.bool true) ∧ Below w.heap.size w w' := by
  have HW := Lib.hid (fun (W : World) (A : Option Addr) (hS : Segs W (.slice A 1 1) [exG]) => write_yes [exG] 65536 A 1 1 W hS exG_in (by omega) exG_may)
  obtain ⟨S, hS⟩ : ∃ S : ByteArray, (⟨(fileL 65536 [exG]).toArray⟩ : ByteArray) = S := ⟨_, rfl⟩
  have h1 : S.size = 260 := by
    rw [← hS]
    show (fileL 65536 [exG]).toArray.size = 260
    rw [List.size_toArray, exF_len]
  have h2 : S.extract 256 260 = ⟨#[115, 0, 0, 0]⟩ := by
    rw [← hS]
    apply ByteArray.ext
    rw [ByteArray.data_extract]
    apply Array.ext'
    rw [Array.toList_extract, List.extract_eq_take_drop]
    show List.take _ (List.drop 256 (fileL 65536 [exG])) = _
    rw [exF_end]
    rfl
  unfold WritePost at HW
  rw [hS] at HW
  have H1 := Lib.hid h1
  have H2 := Lib.hid h2
  clear h1 h2 hS
  go_enter Try.func20, Try.ntmps20
  go_wp2_with fail
  have hS0 : Segs (w.alloc (.cells #[.int .u64 65536, .int .i64 1, .string ⟨#[115, 0, 0, 0]⟩, .int .u64 4] 41)) (.slice (some ⟨w.heap.size, 0, none⟩) 1 1) [exG] := by
    refine .inr ⟨by simp, w.heap.size, 0, 1, rfl, by simp, fun i hi => ?_⟩
    obtain rfl : i = 0 := by simp at hi; omega
    simp [go_sem, exG]
  refine (HW.out _ _ hS0).mono ?_
  rintro r w1 ⟨rfl, hb⟩
  have HB := Lib.hid (bthen (balloc (Below.refl _ w) _) hb)
  have h1 := H1.out
  have h2 := H2.out
  clear hb hS0
  go_wp2_with fail
  go_ret
  exact ⟨rfl, HB.out⟩
end Go.Proofs.Ytdlbhkdjcegbfaa
