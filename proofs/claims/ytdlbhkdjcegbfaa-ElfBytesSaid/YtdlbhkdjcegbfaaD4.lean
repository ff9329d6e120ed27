/- The machine as a value and as it lies: its cells, one written, all loaded and stored. -/
import Derived.Test.YtdlbhkdjcegbfaaP11
import Derived.Laws.Rows
import Derived.Laws.Tables
namespace Go.Proofs.Ytdlbhkdjcegbfaa
open Go.RowKit

/-- a machine: registers, where it goes on, memory (a slice), what is to be read, what was written, what it is, the code, the steps -/
structure Mc where
  x : Nat → Int
  pc : Int
  ma : Option Addr
  ml : Nat
  mc : Nat
  inp : ByteArray
  out : ByteArray
  st : Int
  cd : Int
  n : Int

def mtail (k : Mc) : List Value := [.int .u64 k.pc, .slice k.ma k.ml k.mc, .string k.inp, .string k.out, .int .i64 k.st, .int .u64 k.cd, .int .u64 k.n]
def mregs (x : Nat → Int) : List Value := (List.range 32).map (fun i => Value.int .u64 (x i))
def mcells (k : Mc) : Array Value := (mregs k.x ++ mtail k).toArray
theorem mregs_length (x : Nat → Int) : (mregs x).length = 32 := by simp [mregs]
theorem mcells_size (k : Mc) : (mcells k).size = 39 := by simp [mcells, mregs_length, mtail]
theorem mcells_x (k : Mc) (i : Nat) (h : i < 32) : (mcells k)[i]? = some (.int .u64 (k.x i)) := by
  rw [mcells, List.getElem?_toArray, List.getElem?_append_left (by rw [mregs_length]; exact h)]
  simp [mregs, h]
theorem mcells_t (k : Mc) (j : Nat) : (mcells k)[32 + j]? = (mtail k)[j]? := by
  rw [mcells, List.getElem?_toArray, List.getElem?_append_right (by rw [mregs_length]; omega), mregs_length, Nat.add_sub_cancel_left]
theorem mcells_32 (k : Mc) : (mcells k)[32]? = some (.int .u64 k.pc) := mcells_t k 0
theorem mcells_33 (k : Mc) : (mcells k)[33]? = some (.slice k.ma k.ml k.mc) := mcells_t k 1
theorem mcells_34 (k : Mc) : (mcells k)[34]? = some (.string k.inp) := mcells_t k 2
theorem mcells_35 (k : Mc) : (mcells k)[35]? = some (.string k.out) := mcells_t k 3
theorem mcells_36 (k : Mc) : (mcells k)[36]? = some (.int .i64 k.st) := mcells_t k 4
theorem mcells_37 (k : Mc) : (mcells k)[37]? = some (.int .u64 k.cd) := mcells_t k 5
theorem mcells_38 (k : Mc) : (mcells k)[38]? = some (.int .u64 k.n) := mcells_t k 6
theorem mcells_one (k : Mc) : (mcells k).all (·.oneCell') = true := by
  rw [Array.all_eq_true_iff_forall_mem]
  intro v hv
  rw [mcells, List.mem_toArray, List.mem_append] at hv
  rcases hv with hv | hv
  · obtain ⟨i, _, rfl⟩ := List.mem_map.1 hv
    rfl
  · simp only [mtail, List.mem_cons, List.not_mem_nil, or_false] at hv
    rcases hv with rfl | rfl | rfl | rfl | rfl | rfl | rfl <;> rfl
def upd (x : Nat → Int) (i : Nat) (v : Int) : Nat → Int := fun j => if j = i then v else x j
theorem mcells_setX (k : Mc) (i : Nat) (h : i < 32) (v : Int) : (mcells k).setIfInBounds i (.int .u64 v) = mcells { k with x := upd k.x i v } := by
  apply Array.ext'
  rw [Array.toList_setIfInBounds, mcells, mcells, List.toList_toArray, List.toList_toArray, List.set_append_left _ _ (by rw [mregs_length]; exact h)]
  congr 1
  apply List.ext_getElem?
  intro j
  by_cases e : j = i
  · subst e
    rw [List.getElem?_set_self (by rw [mregs_length]; exact h)]
    simp [mregs, upd, h]
  · rw [List.getElem?_set_ne (by omega)]
    simp only [mregs, upd, List.getElem?_map]
    by_cases hj : j < 32
    · rw [List.getElem?_range hj]
      simp [e]
    · rw [List.getElem?_eq_none (by simp; omega)]
      rfl
theorem mcells_setT (k k' : Mc) (j : Nat) (v : Value) (hx : k'.x = k.x) (ht : (mtail k).set j v = mtail k') : (mcells k).setIfInBounds (32 + j) v = mcells k' := by
  apply Array.ext'
  rw [Array.toList_setIfInBounds, mcells, mcells, List.toList_toArray, List.toList_toArray, List.set_append_right _ _ (by rw [mregs_length]; omega), mregs_length, Nat.add_sub_cancel_left, ht, hx]
theorem mcells_set32 (k : Mc) (v : Int) : (mcells k).setIfInBounds 32 (.int .u64 v) = mcells { k with pc := v } := mcells_setT k { k with pc := v } 0 _ rfl rfl
theorem mcells_set33 (k : Mc) (A : Option Addr) (n c : Nat) : (mcells k).setIfInBounds 33 (.slice A n c) = mcells { k with ma := A, ml := n, mc := c } := mcells_setT k { k with ma := A, ml := n, mc := c } 1 _ rfl rfl
theorem mcells_set34 (k : Mc) (v : ByteArray) : (mcells k).setIfInBounds 34 (.string v) = mcells { k with inp := v } := mcells_setT k { k with inp := v } 2 _ rfl rfl
theorem mcells_set35 (k : Mc) (v : ByteArray) : (mcells k).setIfInBounds 35 (.string v) = mcells { k with out := v } := mcells_setT k { k with out := v } 3 _ rfl rfl
theorem mcells_set36 (k : Mc) (v : Int) : (mcells k).setIfInBounds 36 (.int .i64 v) = mcells { k with st := v } := mcells_setT k { k with st := v } 4 _ rfl rfl
theorem mcells_set37 (k : Mc) (v : Int) : (mcells k).setIfInBounds 37 (.int .u64 v) = mcells { k with cd := v } := mcells_setT k { k with cd := v } 5 _ rfl rfl
theorem mcells_set38 (k : Mc) (v : Int) : (mcells k).setIfInBounds 38 (.int .u64 v) = mcells { k with n := v } := mcells_setT k { k with n := v } 6 _ rfl rfl

/-- a machine lies in block B -/
def Mach (W : World) (B : Nat) (k : Mc) : Prop := Whole W B 30 (mcells k)
theorem Mach.new (W : World) (k : Mc) : Mach (W.alloc (.cells (mcells k) 30)) W.heap.size k := heap_alloc_new W _
theorem Mach.alloc {W : World} {B : Nat} {k : Mc} (h : Mach W B k) (o : Obj) : Mach (W.alloc o) B k := (Below.heap_alloc W o B h.lt).trans h
theorem Mach.next {W W' : World} {B : Nat} {k : Mc} (h : Mach W B k) (hb : Below W.heap.size W W') : Mach W' B k := (hb.block B h.lt).trans h
theorem Mach.drew {W : World} {B : Nat} {k : Mc} (h : Mach W B k) : Mach W.drew B k := h
theorem Mach.other {W : World} {B : Nat} {k : Mc} (h : Mach W B k) (p : Addr) (v : Value) (hp : B ≠ p.block) : Mach (W.setCell p v) B k := (Below.heap_setCell W p v B hp).trans h
theorem Mach.row {W : World} {B : Nat} {k : Mc} (h : Mach W B k) (k' : Mc) : Mach (W.setRow B (mcells k')) B k' := by
  unfold Mach Whole at h ⊢
  simp [World.setRow, Array.getElem?_modify, h]
theorem Mach.rowOther {W : World} {B B' : Nat} {k : Mc} (h : Mach W B k) (cs : Array Value) (hn : B ≠ B') : Mach (W.setRow B' cs) B k := by
  unfold Mach Whole at h ⊢
  rw [← h]
  simp [World.setRow, Array.getElem?_modify, Ne.symm hn]
theorem Mach.setX {W : World} {B : Nat} {k : Mc} (h : Mach W B k) (i : Nat) (hi : i < 32) (v : Int) : Mach (W.setCell ⟨B, i, none⟩ (.int .u64 v)) B { k with x := upd k.x i v } := by
  have := Whole.put h i (.int .u64 v)
  rwa [mcells_setX k i hi v] at this
theorem Mach.cells {W : World} {B : Nat} {k : Mc} (h : Mach W B k) : (∀ i, i < 32 → W.cell? ⟨B, i, none⟩ = some (.int .u64 (k.x i))) ∧ W.cell? ⟨B, 32, none⟩ = some (.int .u64 k.pc) ∧ W.cell? ⟨B, 33, none⟩ = some (.slice k.ma k.ml k.mc) ∧
    W.cell? ⟨B, 34, none⟩ = some (.string k.inp) ∧ W.cell? ⟨B, 35, none⟩ = some (.string k.out) ∧ W.cell? ⟨B, 36, none⟩ = some (.int .i64 k.st) ∧ W.cell? ⟨B, 37, none⟩ = some (.int .u64 k.cd) ∧ W.cell? ⟨B, 38, none⟩ = some (.int .u64 k.n) ∧ ∀ i, W.frozen? ⟨B, i, none⟩ = false := by
  have hc := fun i => Whole.cell h i
  refine ⟨fun i hi => ?_, ?_, ?_, ?_, ?_, ?_, ?_, ?_, fun i => Whole.free h i⟩
  · rw [hc, mcells_x k i hi]
  · rw [hc, mcells_32]
  · rw [hc, mcells_33]
  · rw [hc, mcells_34]
  · rw [hc, mcells_35]
  · rw [hc, mcells_36]
  · rw [hc, mcells_37]
  · rw [hc, mcells_38]
theorem mach_info (k : Mc) : (Try.prog.info? 30).map (·.size) = some (mcells k).size := by
  rw [mcells_size]; kernel_rfl
/-- all of a machine loaded -/
theorem load_mach {ops : Array Oper} {rest : List Oper} {o : Oper} {a : Act} {w : World} {Q : Exit → Act → World → Prop} (hgd : o.guard = none) (x : Operand) (ho : o.op = .load 30 x)
    (B : Nat) (hx : a.eval x = .pointer (some ⟨B, 0, none⟩)) (k : Mc) (hM : Mach w B k) (h : wpList Try.prog ops Q rest (a.put o.dst (.agg (mcells k))) w) : wpList Try.prog ops Q (o :: rest) a w :=
  wpList_load_row hgd _ x ho B hx _ _ _ _ hM Try.underlying30 rfl (mach_info k) h
theorem store_mach {ops : Array Oper} {rest : List Oper} {o : Oper} {a : Act} {w : World} {Q : Exit → Act → World → Prop} (hgd : o.guard = none) (x y : Operand) (ho : o.op = .store 30 x y)
    (B : Nat) (k' : Mc) (hx : a.eval x = .pointer (some ⟨B, 0, none⟩)) (hy : a.eval y = .agg (mcells k')) (k : Mc) (hM : Mach w B k) (h : wpList Try.prog ops Q rest (a.put o.dst undef) (w.setRow B (mcells k'))) : wpList Try.prog ops Q (o :: rest) a w :=
  wpList_plain hgd fun K hK => wp_store_row _ x y ho B (mcells k') hx hy _ _ hM (mach_info k') (by rw [mcells_size, mcells_size]) (mcells_one k') (hK _ _ h)
theorem results_mach {fn : Func} {p : Tmp} (h : fn.results = #[.cell p 30]) (tmps : Array Value) (w : World) (B : Nat) (k : Mc) (hp : tmps.getD p undef = .pointer (some ⟨B, 0, none⟩)) (hM : Mach w B k) :
    (results fn tmps).run Try.prog w = .ok (.agg (mcells k)) w :=
  results_cell_row h tmps w B _ _ _ _ hp hM Try.underlying30 rfl (mach_info k)
theorem results_mach_two {fn : Func} {p q : Tmp} (h : fn.results = #[.cell p 30, .tmp q]) (tmps : Array Value) (w : World) (B : Nat) (k : Mc) (b : Value) (hp : tmps.getD p undef = .pointer (some ⟨B, 0, none⟩)) (hq : tmps.getD q undef = b) (hM : Mach w B k) :
    (results fn tmps).run Try.prog w = .ok (.tuple #[.agg (mcells k), b]) w := by
  have hp' : tmps[p]?.getD undef = .pointer (some ⟨B, 0, none⟩) := by simpa using hp
  have hq' : tmps[q]?.getD undef = b := by simpa using hq
  have hl := run_loadVar_row (P := Try.prog) w B _ 30 _ _ _ hM Try.underlying30 rfl (mach_info k)
  simp [results, h, hp', hq', asAddr, hl]
/-- a new machine of noughts -/
def zeroMc : Mc := ⟨fun _ => 0, 0, none, 0, 0, .empty, .empty, 0, 0, 0⟩
theorem zero_cells : (mcells zeroMc) = #[.int .u64 0, .int .u64 0, .int .u64 0, .int .u64 0, .int .u64 0, .int .u64 0, .int .u64 0, .int .u64 0, .int .u64 0, .int .u64 0, .int .u64 0, .int .u64 0, .int .u64 0, .int .u64 0, .int .u64 0, .int .u64 0, .int .u64 0, .int .u64 0, .int .u64 0, .int .u64 0, .int .u64 0, .int .u64 0, .int .u64 0, .int .u64 0, .int .u64 0, .int .u64 0, .int .u64 0, .int .u64 0, .int .u64 0, .int .u64 0, .int .u64 0, .int .u64 0, .int .u64 0, .slice none 0 0, .string ⟨#[]⟩, .string ⟨#[]⟩, .int .i64 0, .int .u64 0, .int .u64 0] := rfl
/-- a new machine's block -/
theorem alloc_mach {ops : Array Oper} {rest : List Oper} {o : Oper} {a : Act} {w : World} {Q : Exit → Act → World → Prop} (hgd : o.guard = none) (ho : o.op = .alloc 30)
    (h : wpList Try.prog ops Q rest (a.put o.dst (.pointer (some ⟨w.heap.size, 0, none⟩))) (w.alloc (.cells (mcells zeroMc) 30))) : wpList Try.prog ops Q (o :: rest) a w := by
  refine wpList_plain hgd fun K hK => ?_
  rw [zero_cells] at h
  unfold Oper.wp execOp
  simp only [ho]
  go_simp
  exact hK _ _ h
theorem below_row {w W : World} {B : Nat} (hb : Below w.heap.size w W) (cs : Array Value) (h : w.heap.size ≤ B) : Below w.heap.size w (W.setRow B cs) := by
  refine ⟨hb.os, hb.tape, hb.output, ?_, fun b hbb => ?_⟩
  · simpa [World.setRow] using hb.size
  · rw [← hb.block b hbb]
    simp [World.setRow, Array.getElem?_modify, show ¬ B = b by omega]
end Go.Proofs.Ytdlbhkdjcegbfaa
