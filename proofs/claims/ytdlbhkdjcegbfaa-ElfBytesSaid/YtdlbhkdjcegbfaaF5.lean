/- Package elf: a file that is laid: what the embedded builder's methods come to, in a block of a file's own. -/
import Derived.Test.YtdlbhkdjcegbfaaF1
import Derived.Test.YtdlbhkdjcegbfaaSh
import Derived.Deep.AppendSrc
import Derived.Lib.OthersKept
import Derived.Lib.FrozenHead
namespace Go.Proofs.Ytdlbhkdjcegbfaa
open Go.RowKit

/-- a file that holds these bytes -/
def Fl (W : World) (B b : Nat) (l : List UInt8) : Prop := Lib.IsBuilder 149 5 B b (Lib.byteCells l) W
/-- .. and has been written to -/
def Fu (W : World) (B b : Nat) (l : List UInt8) : Prop := Lib.BuilderAt 149 5 B b (.pointer (some ⟨b, 0, none⟩)) (Lib.byteCells l) W
theorem Fu.fl {W : World} {B b : Nat} {l : List UInt8} (h : Fu W B b l) : Fl W B b l := .inr h
theorem flInfo : ∃ j, Try.prog.info? 137 = some j ∧ j.size ≠ 0 := by
  have h : (Try.prog.info? 137).any (fun j => j.size != 0) = true := by kernel_rfl
  cases hi : Try.prog.info? 137 with
  | none => rw [hi] at h; cases h
  | some j => rw [hi] at h; exact ⟨j, rfl, by simpa using h⟩
theorem byteInfo : ∃ i0 : TypeInfo, Try.prog.info? 5 = some i0 ∧ i0.zero = some (.int .u8 0) ∧ i0.size = 1 ∧ i0.bytes = 1 := info_parts (by kernel_rfl)
set_option maxRecDepth 100000 in
set_option maxHeartbeats 1000000 in
/-- copyCheck of a file: it holds its own address behind it -/
theorem fcheck_any (B b : Nat) (l : List UInt8) (w : World) (h : Fl w B b l) : Calls Try.prog 139 #[.pointer (some ⟨b, 0, none⟩)] w fun e w' => e = .returned (.tuple #[]) ∧ Fu w' B b l ∧ Below B w w' ∧ Lib.OthersKept 5 (some b) w w' := by
  obtain ⟨j, hj, hjs⟩ := flInfo
  rcases h with h | h
  · have h0 := h.cell0
    have hsh := h.shape
    have hfz := h.frozen0
    have HR := Lib.hid (And.intro (h.used (.pointer (some ⟨b, 0, none⟩))) ((Below.refl B w).setCell (p := ⟨b, 0, none⟩) h.1 (.pointer (some ⟨b, 0, none⟩))))
    clear h
    go_enter Try.func139, Try.ntmps139
    go_wp2
    rw [Lib.run_to_unsafe w ⟨b, 0, none⟩ Try.underlying134 Try.underlying227 hj hjs hsh (Nat.zero_lt_succ 1)]
    simp only [Result.andThen]
    rw [Oper.upon_value]
    go_wp2
    rw [run_callFunc_extern Try.func171 (by kernel_rfl) (by kernel_rfl) (by kernel_rfl) (e := Extern.AbiNoEscape.same) (by kernel_rfl), Lib.run_noEscape]
    simp only [Result.andThen]
    rw [Oper.upon_value]
    go_wp2
    rw [Lib.run_from_unsafe w ⟨b, 0, none⟩ Try.underlying227 Try.underlying134 hj hsh (by kernel_rfl)]
    simp only [Result.andThen]
    rw [Oper.upon_value]
    go_wp2
    go_end0
    exact ⟨rfl, HR.out.1, HR.out.2, (Lib.OthersKept.refl _ _ w).setCell ⟨b, 0, none⟩ rfl _⟩
  · have h0 := h.cell0
    have HR := Lib.hid h
    clear h
    go_enter Try.func139, Try.ntmps139
    go_wp2
    rw [Lib.run_neq_ptr_same w _ Try.underlying134 hj]
    go_wp2
    go_end0
    exact ⟨rfl, HR.out, Below.refl B _, Lib.OthersKept.refl _ _ _⟩
/-- a written file's parts -/
theorem Fu.parts {W : World} {B b : Nat} {l : List UInt8} (h : Fu W B b l) : B ≤ b ∧ ∃ v, W.heap[b]? = some (.cells #[.pointer (some ⟨b, 0, none⟩), v] 149 (0, 0)) ∧ W.ownsRow B 5 1 v (Lib.byteCells l).length (Lib.byteCells l) ∧ v.ownBlock ≠ some b := h
theorem Fu.lt {W : World} {B b : Nat} {l : List UInt8} (h : Fu W B b l) : b < W.heap.size := by
  obtain ⟨-, v, hb, -⟩ := h.parts
  exact (Array.getElem?_eq_some_iff.1 hb).1
theorem Fl.lt {W : World} {B b : Nat} {l : List UInt8} (h : Fl W B b l) : b < W.heap.size := by
  rcases h with ⟨-, v, hb, -⟩ | ⟨-, v, hb, -⟩ <;> exact (Array.getElem?_eq_some_iff.1 hb).1
theorem Fl.new (W : World) : Fl (W.alloc (.cells #[.pointer none, .slice none 0 0] 149)) W.heap.size W.heap.size [] := Lib.fresh_isBuilder _ _ W
set_option maxRecDepth 100000 in
set_option maxHeartbeats 2000000 in
theorem fbyte_any (B b : Nat) (l : List UInt8) (c : UInt8) (w : World) (h : Fl w B b l) (hlen : l.length + 1 ≤ 140737488355328) (hBw : B ≤ w.heap.size) :
    Calls Try.prog 138 #[.pointer (some ⟨b, 0, none⟩), .int .u8 c.toNat] w fun e w' => e = .returned .nilIface ∧ Fu w' B b (l ++ [c]) ∧ Below B w w' ∧ Lib.OthersKept 5 (some b) w w' := by
  obtain ⟨i0, hi, hz0, hz1, hz2⟩ := byteInfo
  have HC := Lib.hid (fcheck_any B b l w h)
  have hl : (Lib.byteCells l).length = l.length := Lib.byteCells_length l
  have HBW := Lib.hid hBw
  clear h hBw
  go_enter Try.func138, Try.ntmps138
  go_wp2_with fail
  refine HC.out.mono ?_
  rintro e w1 ⟨rfl, h1, hb1, hk1⟩
  have HK1 := Lib.hid hk1
  clear hk1
  obtain ⟨hB, v, hbk, hown, hne⟩ := h1.parts
  have HLT := Lib.hid h1.lt
  have HB1 := Lib.hid hb1
  have hsz : B ≤ w1.heap.size := Nat.le_trans HBW.out hb1.size
  have c0 : w1.cell? ⟨b, 0, none⟩ = some (.pointer (some ⟨b, 0, none⟩)) := by rw [Lib.cell_of_heap hbk]; rfl
  have c1 : w1.cell? ⟨b, 1, none⟩ = some v := by rw [Lib.cell_of_heap hbk]; rfl
  have HBK := Lib.hid hbk
  have HNE := Lib.hid hne
  have HH := Lib.hid hown
  rw [hl] at hown
  clear h1 hb1 hbk hne
  go_wp2_with (at_builtin; refine wpList_append_own _ rfl _ _ 135 rfl B 5 i0 (.int .u8 0) 1 1 Try.underlying135 hi hz0 hz1 hz2 rfl (by decide) _ _ _ rfl (hown.alloc _) ⟨w1.heap.size, 0, none⟩ 1 1 [.int .u8 c.toNat] rfl rfl ?c1 ?c2 ?c3 ?c4 ?c5 ?_)
  case c1 =>
    intro j u hj
    cases j with
    | zero => simp at hj; subst hj; simp [Addr.add]
    | succ j => simp at hj
  case c2 => intro u hu; simp at hu; subst hu; rfl
  case c3 => unfold maxLen; omega
  case c4 => omega
  case c5 => simp; omega
  intro v' w2 hown' hgrow _
  have hlt := HLT.out
  have hb2 : w2.heap[b]? = some (.cells #[.pointer (some ⟨b, 0, none⟩), v] 149 (0, 0)) := by
    rw [hgrow.block b (by simp; omega) (fun e => HNE.out e.symm), Lib.alloc_old w1 _ b hlt]
    exact HBK.out
  have d0 : w2.cell? ⟨b, 0, none⟩ = some (.pointer (some ⟨b, 0, none⟩)) := by rw [Lib.cell_of_heap hb2]; rfl
  have d1 : w2.cell? ⟨b, 1, none⟩ = some v := by rw [Lib.cell_of_heap hb2]; rfl
  have f1 : w2.frozen? ⟨b, 1, none⟩ = false := Lib.frozen_of_heap hb2 1
  obtain ⟨g, cap, rfl⟩ : ∃ g cap, v' = .slice (some ⟨g, 0, none⟩) (l.length + 1) cap := by
    rcases hown'.2 with ⟨_, h0⟩ | ⟨g, cap, cur, hv, _⟩
    · omega
    · exact ⟨g, cap, hv⟩
  have HR := Lib.hid (show Fu (w2.setCell ⟨b, 1, none⟩ (.slice (some ⟨g, 0, none⟩) (l.length + 1) cap)) B b (l ++ [c]) from by
    refine Lib.BuilderAt.put (T := 149) (e := 5) hB hb2 (bs' := Lib.byteCells (l ++ [c])) ?_ (by decide)
    rw [Lib.byteCells_append]
    have h := hown'
    rw [show (Lib.byteCells l ++ Lib.byteCells [c]).length = l.length + 1 by simp [Lib.byteCells]]
    exact h)
  have HR2 := Lib.hid (((HB1.out.alloc hsz (.cells #[.int .u8 c.toNat] 5)).grown hgrow (by simp; omega) (fun k hk => (HH.out.lt k hk).1)).setCell (p := ⟨b, 1, none⟩) hB (.slice (some ⟨g, 0, none⟩) (l.length + 1) cap))
  have HK2 := Lib.hid (((HK1.out.alloc (.cells #[.int .u8 c.toNat] 5)).grown hgrow (Lib.ownsRowF_kind (World.ownsRowF_of (HH.out.alloc _)))).setCell ⟨b, 1, none⟩ rfl (.slice (some ⟨g, 0, none⟩) (l.length + 1) cap))
  clear hown hown' hgrow hb2
  go_wp2_with fail
  go_ret
  exact ⟨rfl, HR.out, HR2.out, HK2.out⟩
end Go.Proofs.Ytdlbhkdjcegbfaa
