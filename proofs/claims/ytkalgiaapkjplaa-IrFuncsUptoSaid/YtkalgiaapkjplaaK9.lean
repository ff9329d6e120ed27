/- Package ir: the document's example at the head of its statements. -/
import Derived.Test.YtkalgiaapkjplaaK8
namespace Go.Proofs.Ytkalgiaapkjplaa
open Go.RowKit

def exIn : In := ⟨1, 0, 0, 7, ⟨#[]⟩, []⟩
def exBk : Bk := ⟨0, [exIn], ⟨3, 0, 0, [], 0, []⟩⟩
def exFn : Fn := ⟨⟨#[109, 97, 105, 110]⟩, 2, 0, [exBk]⟩
def exMd : Md := ⟨[exFn], []⟩
theorem exFn_right : funcB exFn = true := by decide +kernel
theorem exMd_right : checkE exMd = 0 := by decide +kernel
theorem exIn_ok : InOk exIn := ⟨by decide, by decide⟩
theorem exBk_ok : BkOk exBk := ⟨by decide, by decide, by decide, fun i hi => by obtain rfl : i = exIn := (by simpa [exBk] using hi); exact exIn_ok⟩
theorem exFn_ok : FnOk exFn := ⟨by decide, by decide, fun b hb => by obtain rfl : b = exBk := (by simpa [exFn] using hb); exact exBk_ok⟩
theorem exMd_ok : MdOk exMd := ⟨fun f hf => by obtain rfl : f = exFn := (by simpa [exMd] using hf); exact exFn_ok, fun g hg => by simp [exMd] at hg, by decide, by decide⟩
/-- the example's blocks -/
theorem ex_blocks (w : World) (W : World) (hW : W = ((w.alloc (.cells #[.int .i64 1, .int .i64 0, .int .i64 0, .int .u64 7, .string ⟨#[]⟩, .slice none 0 0] 60)).alloc (.cells #[.int .i64 0, .slice (some ⟨w.heap.size, 0, none⟩) 1 1, .int .i64 3, .int .i64 0, .int .i64 0, .slice none 0 0, .int .i64 0, .slice none 0 0] 58))) :
    Blocks W (.slice (some ⟨w.heap.size + 1, 0, none⟩) 1 1) [exBk] ∧ Below w.heap.size w W := by
  subst hW
  have i0 := heap_alloc_new w (.cells #[.int .i64 1, .int .i64 0, .int .i64 0, .int .u64 7, .string ⟨#[]⟩, .slice none 0 0] 60)
  have hb := balloc (Below.refl _ (w.alloc (.cells #[.int .i64 1, .int .i64 0, .int .i64 0, .int .u64 7, .string ⟨#[]⟩, .slice none 0 0] 60))) (.cells #[.int .i64 0, .slice (some ⟨w.heap.size, 0, none⟩) 1 1, .int .i64 3, .int .i64 0, .int .i64 0, .slice none 0 0, .int .i64 0, .slice none 0 0] 58)
  have i1 := (hb.block _ (Array.getElem?_eq_some_iff.1 i0).1).trans i0
  have b1 := heap_alloc_new (w.alloc (.cells #[.int .i64 1, .int .i64 0, .int .i64 0, .int .u64 7, .string ⟨#[]⟩, .slice none 0 0] 60)) (.cells #[.int .i64 0, .slice (some ⟨w.heap.size, 0, none⟩) 1 1, .int .i64 3, .int .i64 0, .int .i64 0, .slice none 0 0, .int .i64 0, .slice none 0 0] 58)
  rw [World.size_alloc] at b1
  refine ⟨.inr ⟨by simp, w.heap.size + 1, 0, 1, rfl, (Array.getElem?_eq_some_iff.1 b1).1, fun i hi => ?_⟩, bthen (balloc (Below.refl _ w) _) hb⟩
  obtain rfl : i = 0 := by simpa using hi
  refine ⟨Lib.cell_of_heap b1 0, ⟨some ⟨w.heap.size, 0, none⟩, 1, Lib.cell_of_heap b1 1, .inr ⟨by simp [exBk], w.heap.size, 0, 1, rfl, (Array.getElem?_eq_some_iff.1 i1).1, fun j hj => ?_⟩⟩, Lib.cell_of_heap b1 2, Lib.cell_of_heap b1 3, Lib.cell_of_heap b1 4, ⟨none, 0, Lib.cell_of_heap b1 5, .inl ⟨rfl, .inl rfl⟩⟩, Lib.cell_of_heap b1 6, none, 0, Lib.cell_of_heap b1 7, .inl ⟨rfl, .inl rfl⟩⟩
  obtain rfl : j = 0 := by simpa [exBk] using hj
  exact ⟨Lib.cell_of_heap i1 0, Lib.cell_of_heap i1 1, Lib.cell_of_heap i1 2, Lib.cell_of_heap i1 3, Lib.cell_of_heap i1 4, none, 0, Lib.cell_of_heap i1 5, .inl ⟨rfl, .inl rfl⟩⟩
set_option maxRecDepth 100000 in
set_option maxHeartbeats 4000000 in
theorem ishown_any (w : World) : Calls Try.prog 16 #[] w fun e w' => e = .returned (.bool true) ∧ Below w.heap.size w w' := by
  have HEX := Lib.hid (ex_blocks w)
  have HFN := Lib.hid (fun (W : World) (hS : Blocks W (.slice (some ⟨w.heap.size + 1, 0, none⟩) 1 1) [exBk]) => func_any exFn (some ⟨w.heap.size + 1, 0, none⟩) 1 W exFn_ok hS)
  rw [exFn_right] at HFN
  have HCK := Lib.hid (fun (W : World) (B : Nat) (hS : MdAt W (.slice (some ⟨B, 0, none⟩) 1 1) (.slice none 0 0) exMd) => check_any exMd (some ⟨B, 0, none⟩) none 1 1 0 0 W exMd_ok rfl rfl hS)
  rw [exMd_right] at HCK
  go_enter Try.func16, Try.ntmps16
  go_wp2_with fail
  obtain ⟨W, hW⟩ : ∃ W, W = ((w.alloc (.cells #[.int .i64 1, .int .i64 0, .int .i64 0, .int .u64 7, .string ⟨#[]⟩, .slice none 0 0] 60)).alloc (.cells #[.int .i64 0, .slice (some ⟨w.heap.size, 0, none⟩) 1 1, .int .i64 3, .int .i64 0, .int .i64 0, .slice none 0 0, .int .i64 0, .slice none 0 0] 58)) := ⟨_, rfl⟩
  obtain ⟨hS, hb⟩ := HEX.out W hW
  have hsz : W.heap.size = w.heap.size + 1 + 1 := by rw [hW]; simp
  have hfn := heap_alloc_new W (.cells #[.string ⟨#[109, 97, 105, 110]⟩, .int .i64 2, .int .i64 0, .slice (some ⟨w.heap.size + 1, 0, none⟩) 1 1] 24)
  have hbf := balloc (Below.refl _ W) (.cells #[.string ⟨#[109, 97, 105, 110]⟩, .int .i64 2, .int .i64 0, .slice (some ⟨w.heap.size + 1, 0, none⟩) 1 1] 24)
  rw [← hW]
  rw [hsz] at hfn
  have HB := Lib.hid (bthen hb hbf)
  have HS := Lib.hid (hS.next hbf)
  have HFB := Lib.hid hfn
  clear hW hsz hS hb hfn hbf HEX
  generalize W.alloc (.cells #[.string ⟨#[109, 97, 105, 110]⟩, .int .i64 2, .int .i64 0, .slice (some ⟨w.heap.size + 1, 0, none⟩) 1 1] 24) = W1 at *
  refine (HFN.out _ HS.out).mono ?_
  rintro r w2 ⟨rfl, hb⟩
  have hf2 := (hb.block _ (Array.getElem?_eq_some_iff.1 HFB.out).1).trans HFB.out
  have c0 := Lib.cell_of_heap hf2 0
  have c1 := Lib.cell_of_heap hf2 1
  have c2 := Lib.cell_of_heap hf2 2
  have c3 := Lib.cell_of_heap hf2 3
  simp only [List.getElem?_toArray, List.getElem?_cons_zero, List.getElem?_cons_succ] at c0 c1 c2 c3
  have HB2 := Lib.hid (bthen HB.out hb)
  have HS2 := Lib.hid (HS.out.next hb)
  clear hb hf2
  go_wp2_with fail
  have hfs := heap_alloc_new w2 (.cells #[.string ⟨#[109, 97, 105, 110]⟩, .int .i64 2, .int .i64 0, .slice (some ⟨w.heap.size + 1, 0, none⟩) 1 1] 24)
  have hbs := balloc (Below.refl _ w2) (.cells #[.string ⟨#[109, 97, 105, 110]⟩, .int .i64 2, .int .i64 0, .slice (some ⟨w.heap.size + 1, 0, none⟩) 1 1] 24)
  have HB3 := Lib.hid (bthen HB2.out hbs)
  have HC := Lib.hid (HCK.out _ w2.heap.size ⟨.inr ⟨by simp [exMd], w2.heap.size, 0, 1, rfl, (Array.getElem?_eq_some_iff.1 hfs).1, fun i hi => by
    obtain rfl : i = 0 := by simpa [exMd] using hi
    exact ⟨Lib.cell_of_heap hfs 0, Lib.cell_of_heap hfs 1, Lib.cell_of_heap hfs 2, some ⟨w.heap.size + 1, 0, none⟩, 1, Lib.cell_of_heap hfs 3, HS2.out.next hbs⟩⟩, .inl ⟨rfl, .inl rfl⟩⟩)
  refine HC.out.mono ?_
  rintro r w3 ⟨rfl, hb⟩
  have HB4 := Lib.hid (bthen HB3.out hb)
  clear hfs hbs hb c0 c1 c2 c3
  go_wp2_with fail
  go_ret
  exact ⟨rfl, HB4.out⟩
end Go.Proofs.Ytkalgiaapkjplaa
