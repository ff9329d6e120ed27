/- The reference's trap, its Take by one contract, and what it says of numbers as rv says it. The reference's step: what holds on the way, and where it ends at once. A step whose instruction is known, case by case. -/
import Derived.Test.YtclbkdnihhmglaaDoorZSE
import Derived.Test.YtclbkdnihhmglaaDoorZK
import Derived.Test.YtclbkdnihhmglaaDoorZNH
import Derived.Laws.BitsAllLaws
import Derived.Test.YtclbkdnihhmglaaDoorZSH
namespace Go.Proofs.YtclbkdnihhmglaaDoor
open Go.RowKit

theorem and_even (a : Nat) (ha : a < 18446744073709551616) : a &&& 18446744073709551614 = a / 2 * 2 := by
  apply Nat.eq_of_testBit_eq
  intro j
  rw [Nat.testBit_and]
  have h2 : a / 2 * 2 = (a >>> 1) <<< 1 := by rw [Nat.shiftRight_eq_div_pow, Nat.shiftLeft_eq]
  rw [h2, Nat.testBit_shiftLeft, Nat.testBit_shiftRight]
  by_cases hj : j < 64
  · by_cases h0 : j = 0
    · subst h0; simp
    · have : Nat.testBit 18446744073709551614 j = true := by
        have : ∀ j : Fin 64, j.1 ≠ 0 → Nat.testBit 18446744073709551614 j.1 = true := by decide +kernel
        exact this ⟨j, hj⟩ h0
      rw [this]
      have h1 : 1 ≤ j := by omega
      simp [h1]
  · have h1 : a.testBit j = false := Nat.testBit_lt_two_pow (Nat.lt_of_lt_of_le ha (Nat.pow_le_pow_right (n := 2) (by omega) (show 64 ≤ j by omega)))
    rw [h1]
    have h3 : 1 ≤ j := by omega
    rw [show 1 + (j - 1) = j by omega, h1]
    simp
theorem andNot_one (v : Int) (h0 : 0 ≤ v) (h1 : v ≤ 18446744073709551615) : bits BinOp.andNot IntKind.u64 v 1 = v / 2 * 2 := by
  rw [u64_andNot v 1 h0 (by omega) (by omega) (by omega)]
  obtain ⟨V, rfl⟩ := Int.eq_ofNat_of_zero_le h0
  show ((V &&& 18446744073709551614 : Nat) : Int) = _
  rw [and_even V (by omega)]
  omega
theorem setR_ref {x : Nat → Int} (hz : x 0 = 0) (rd : Int) (v : Int) (h0 : 0 ≤ rd) : upd (upd x rd.toNat v) 0 0 = setR x rd v := by
  unfold setR
  split
  · rename_i h
    subst h
    show upd (upd x 0 v) 0 0 = x
    rw [upd_upd, upd_zero hz]
  · funext j
    unfold upd
    split
    · rename_i h1
      subst h1
      rw [if_neg (by omega), hz]
    · rfl
/-- the reference's Take of an instruction's word, and of none's -/
theorem rtake_t {v : Int} {K : Nat} (k1 : 1 ≤ K) (k2 : K < 32) (hok : E.M.okAt v K = true) (w : World) (v0 : 0 ≤ v) (v1 : v < 4294967296) :
    Calls Tryd.prog 27 #[.int .u32 v] w fun e w' => e = .returned (.tuple #[.agg #[.int .i64 K, .int .i64 (E.M.tRd K v), .int .i64 (E.M.tA K v), .int .i64 (E.M.tB K v), .int .i64 (E.M.tI K v)], .int .i64 0]) ∧ Below w.heap.size w w' := by
  refine (E.rtake_any v w v0 v1).mono ?_
  rintro e w' ⟨⟨k, h1, h2, h3, rfl⟩ | ⟨h1, rfl⟩, hb⟩
  · obtain rfl := E.M.ok_one_kind h2 k2 h1 k1 h3 hok
    exact ⟨rfl, hb⟩
  · rw [h1 K k1 k2] at hok; cases hok
theorem rtake_f {v : Int} (hno : ∀ K : Nat, 1 ≤ K → K < 32 → E.M.okAt v K = false) (w : World) (v0 : 0 ≤ v) (v1 : v < 4294967296) :
    Calls Tryd.prog 27 #[.int .u32 v] w fun e w' => e = .returned (.tuple #[.agg #[.int .i64 0, .int .i64 0, .int .i64 0, .int .i64 0, .int .i64 0], .int .i64 5]) ∧ Below w.heap.size w w' := by
  refine (E.rtake_any v w v0 v1).mono ?_
  rintro e w' ⟨⟨k, h1, h2, h3, rfl⟩ | ⟨h1, rfl⟩, hb⟩
  · rw [hno k h1 h2] at h3; cases h3
  · exact ⟨rfl, hb⟩
def trap2 (k : Mc) : Mc := { k with st := 2 }
set_option maxRecDepth 100000 in
theorem rtrap_any (k : Mc) (w : World) : Calls Tryd.prog 26 #[.agg (mcells k)] w (RetIs (.agg (mcells (trap2 k))) w) := by
  have HS := Lib.hid (fun W h => call_start k w W h)
  go_enter Tryd.func26, Tryd.ntmps26
  go_wp2_with (first
    | (refine load_mach rfl _ rfl _ rfl _ HM2.out ?_)
    | (refine store_mach rfl _ _ rfl _ _ rfl rfl _ HZ2.out ?_)
    | (
    refine alloc_mach rfl rfl ?_
    obtain ⟨W, hW⟩ : ∃ W, W = ((w.alloc (.cells (mcells k) 26)).alloc (.cells (mcells zeroMc) 26)) := ⟨_, rfl⟩
    obtain ⟨hM, hZ, hB⟩ := HS.out W hW
    rw [← hW]
    clear hW HS
    have z1 : w.heap.size + 1 < W.heap.size := hZ.lt
    obtain ⟨mx, m32, m33, m34, m35, m36, m37, m38, mf⟩ := hM.cells
    have h1 := Whole.put hM 36 (.int .i64 2)
    rw [mcells_set36] at h1
    have HM2 := Lib.hid (show Mach (W.setCell ⟨w.heap.size, 36, none⟩ (.int .i64 2)) w.heap.size (trap2 k) from h1)
    have HZ2 := Lib.hid (hZ.other ⟨w.heap.size, 36, none⟩ (.int .i64 2) (by simp))
    have HB2 := Lib.hid (hB.setCell (p := ⟨w.heap.size, 36, none⟩) (by simp) (.int .i64 2))
    clear hM hZ hB mx m32 m33 m34 m35 m37 m38 h1))
  exact bodyPost_ret (results_mach Tryd.results26 _ _ _ _ rfl (HZ2.out.row (trap2 k))) rfl ⟨rfl, below_row HB2.out _ (by omega)⟩

/-- an instruction's block -/
def opCells (kd rd ra rb i : Int) : Array Value := #[.int .i64 kd, .int .i64 rd, .int .i64 ra, .int .i64 rb, .int .i64 i]
theorem five_of {W : World} {B : Nat} {kd rd ra rb i : Int} (h : Whole W B 35 (opCells kd rd ra rb i)) : E.Five W B kd rd ra rb i := by
  have hc := fun j => Whole.cell h j
  exact ⟨hc 0, hc 1, hc 2, hc 3, hc 4, fun j => Whole.free h j, h.lt⟩
theorem store_op {ops : Array Oper} {rest : List Oper} {o : Oper} {a : Act} {w : World} {Q : Exit → Act → World → Prop} (hgd : o.guard = none) (x y : Operand) (ho : o.op = .store 35 x y)
    (B : Nat) (kd rd ra rb i : Int) (hx : a.eval x = .pointer (some ⟨B, 0, none⟩)) (hy : a.eval y = .agg #[.int .i64 kd, .int .i64 rd, .int .i64 ra, .int .i64 rb, .int .i64 i]) (d0 d1 d2 d3 d4 : Int) (hM : Whole w B 35 (opCells d0 d1 d2 d3 d4)) (h : wpList Tryd.prog ops Q rest (a.put o.dst undef) (w.setRow B (opCells kd rd ra rb i))) : wpList Tryd.prog ops Q (o :: rest) a w :=
  wpList_plain hgd fun K hK => wp_store_row _ x y ho B (opCells kd rd ra rb i) hx hy _ _ hM (by show _ = some 5; kernel_rfl) rfl (by simp [opCells, Value.oneCell']) (hK _ _ h)
theorem whole_row {W : World} {B : Nat} {t : TypeId} {cs : Array Value} (h : Whole W B t cs) (cs' : Array Value) : Whole (W.setRow B cs') B t cs' := by
  unfold Whole at h ⊢
  simp [World.setRow, Array.getElem?_modify, h]
/-- where the reference's step stands behind Take -/
structure At3 (k : Mc) (m : List M.Pg) (kd rd ra rb i : Int) (w V : World) (bo : Nat) : Prop where
  M : Mach V w.heap.size (tickM k)
  Z : Mach V (w.heap.size + 1) zeroMc
  F : E.Five V bo kd rd ra rb i
  B : Below w.heap.size w V
  P : Pages V (.slice k.ma k.ml k.mc) m
  b : w.heap.size + 1 < bo
theorem at3_of {k : Mc} {m : List M.Pg} {w w3 : World} (kd rd ra rb i : Int) (hM : Mach w3 w.heap.size (tickM k)) (hZ : Mach w3 (w.heap.size + 1) zeroMc) (hB : Below w.heap.size w w3) (hP : Pages w (.slice k.ma k.ml k.mc) m) :
    At3 k m kd rd ra rb i w ((w3.alloc (.cells (opCells 0 0 0 0 0) 35)).setRow w3.heap.size (opCells kd rd ra rb i)) w3.heap.size := by
  have h1 := hM.lt
  have h2 := hZ.lt
  have hb := below_row (balloc hB (.cells (opCells 0 0 0 0 0) 35)) (B := w3.heap.size) (opCells kd rd ra rb i) (by omega)
  exact ⟨(hM.alloc _).rowOther _ (by omega), (hZ.alloc _).rowOther _ (by omega), five_of (whole_row (heap_alloc_new w3 _) _), hb, hP.next hb, h2⟩
/-- and behind the second machine -/
structure At4 (k : Mc) (m : List M.Pg) (kd rd ra rb i : Int) (w U : World) (bo nv : Nat) : Prop where
  M : Mach U w.heap.size (tickM k)
  Z : Mach U (w.heap.size + 1) zeroMc
  N : Mach U nv (tickM k)
  F : E.Five U bo kd rd ra rb i
  B : Below w.heap.size w U
  P : Pages U (.slice k.ma k.ml k.mc) m
  b : w.heap.size + 1 < bo
  n : bo < nv
theorem At3.four {k : Mc} {m : List M.Pg} {kd rd ra rb i : Int} {w V : World} {bo : Nat} (h : At3 k m kd rd ra rb i w V bo) (hP : Pages w (.slice k.ma k.ml k.mc) m) :
    At4 k m kd rd ra rb i w ((V.alloc (.cells (mcells zeroMc) 26)).setRow V.heap.size (mcells (tickM k))) bo V.heap.size := by
  have h1 := h.M.lt
  have h2 := h.Z.lt
  have h3 := h.F.2.2.2.2.2.2
  have hb := below_row (balloc h.B (.cells (mcells zeroMc) 26)) (B := V.heap.size) (mcells (tickM k)) (by omega)
  exact ⟨(h.M.alloc _).rowOther _ (by omega), (h.Z.alloc _).rowOther _ (by omega), (Mach.new V zeroMc).row _, five_row (h.F.next (balloc (Below.refl _ _) _)) _ (by omega), hb, hP.next hb, h.b, h3⟩
theorem At4.next {k : Mc} {m : List M.Pg} {kd rd ra rb i : Int} {w U W' : World} {bo nv : Nat} (h : At4 k m kd rd ra rb i w U bo nv) (hb : Below U.heap.size U W') : At4 k m kd rd ra rb i w W' bo nv :=
  ⟨h.M.next hb, h.Z.next hb, h.N.next hb, h.F.next hb, bthen h.B hb, h.P.next hb, h.b, h.n⟩
end Go.Proofs.YtclbkdnihhmglaaDoor

namespace Go.Proofs.YtclbkdnihhmglaaDoor
open Go.RowKit

/-- on the way of a step: the machine t as it was counted, the result's block, the new machine n, the instruction, the pages -/
structure AtN (t n : Mc) (m : List M.Pg) (kd rd ra rb i : Int) (w U : World) (bo nv : Nat) : Prop where
  M : Mach U w.heap.size t
  Z : Mach U (w.heap.size + 1) zeroMc
  N : Mach U nv n
  F : E.Five U bo kd rd ra rb i
  B : Below w.heap.size w U
  P : Pages U (.slice t.ma t.ml t.mc) m
  b : w.heap.size + 1 < bo
  n : bo < nv
theorem AtN.next {t n : Mc} {m : List M.Pg} {kd rd ra rb i : Int} {w U W' : World} {bo nv : Nat} (h : AtN t n m kd rd ra rb i w U bo nv) (hb : Below U.heap.size U W') : AtN t n m kd rd ra rb i w W' bo nv :=
  ⟨h.M.next hb, h.Z.next hb, h.N.next hb, h.F.next hb, bthen h.B hb, h.P.next hb, h.b, h.n⟩
theorem AtN.put {t n : Mc} {m : List M.Pg} {kd rd ra rb i : Int} {w U : World} {bo nv : Nat} (h : AtN t n m kd rd ra rb i w U bo nv) (j : Nat) (v : Value) (n' : Mc) (e : (mcells n).setIfInBounds j v = mcells n') : AtN t n' m kd rd ra rb i w (U.setCell ⟨nv, j, none⟩ v) bo nv := by
  have h1 := h.b
  have h2 := h.n
  have hN := Whole.put h.N j v
  rw [e] at hN
  refine ⟨h.M.other _ _ (by simp; omega), h.Z.other _ _ (by simp; omega), hN, five_heap h.F (Below.heap_setCell _ _ _ _ (by simp; omega)) (by have := h.F.2.2.2.2.2.2; simpa [World.setCell] using this), h.B.setCell (p := ⟨nv, j, none⟩) (by simp; omega) _, pages_keepM h.P h.N (grownBy_put U nv j v), h.b, h.n⟩
theorem at3a {k : Mc} {m : List M.Pg} {w w3 : World} {kd rd ra rb i : Int} (hM : Mach w3 w.heap.size (tickM k)) (hZ : Mach w3 (w.heap.size + 1) zeroMc) (hB : Below w.heap.size w w3) (hP : Pages w (.slice k.ma k.ml k.mc) m) :
    At3 k m kd rd ra rb i w (w3.alloc (.cells #[.int .i64 kd, .int .i64 rd, .int .i64 ra, .int .i64 rb, .int .i64 i] 35)) w3.heap.size := by
  have h1 := hM.lt
  have h2 := hZ.lt
  have hb := balloc hB (.cells #[.int .i64 kd, .int .i64 rd, .int .i64 ra, .int .i64 rb, .int .i64 i] 35)
  exact ⟨hM.alloc _, hZ.alloc _, E.Five.new w3 kd rd ra rb i, hb, hP.next hb, h2⟩
theorem at5_of {k : Mc} {m : List M.Pg} {kd rd ra rb i : Int} {w V : World} {bo : Nat} (h : At3 k m kd rd ra rb i w V bo) (hP : Pages w (.slice k.ma k.ml k.mc) m) :
    AtN (tickM k) (tickM k) m kd rd ra rb i w ((V.alloc (.cells (mcells zeroMc) 26)).setRow V.heap.size (mcells (tickM k))) bo V.heap.size := by
  have g := h.four hP
  exact ⟨g.M, g.Z, g.N, g.F, g.B, g.P, g.b, g.n⟩
/-- the end: the new machine is what comes out -/
theorem AtN.done {t n : Mc} {m : List M.Pg} {kd rd ra rb i : Int} {w U : World} {bo nv : Nat} (h : AtN t n m kd rd ra rb i w U bo nv) (r : Mc) (hn : r.ma = t.ma ∧ r.ml = t.ml ∧ r.mc = t.mc) :
    StepPost r m w (.returned (.agg (mcells r))) (U.setRow (w.heap.size + 1) (mcells r)) := by
  obtain ⟨e1, e2, e3⟩ := hn
  refine ⟨r.ma, r.ml, r.mc, rfl, ?_, below_row h.B _ (by omega)⟩
  rw [e1, e2, e3]
  exact pages_keepM h.P h.Z (grownBy_row _ _ _)
theorem exec_op {o : Oper} {a : Act} (x : Operand) (ho : o.op = .load 35 x) (B : Nat) (hx : a.eval x = .pointer (some ⟨B, 0, none⟩)) {w : World} {c0 c1 c2 c3 c4 : Int} (hM : E.Five w B c0 c1 c2 c3 c4) :
    (execOp a.eval o).run Tryd.prog w = .ok (.value (.agg #[.int .i64 c0, .int .i64 c1, .int .i64 c2, .int .i64 c3, .int .i64 c4])) w := by
  obtain ⟨o0, o1, o2, o3, o4, of, ol⟩ := hM
  unfold execOp
  simp only [ho, hx]
  go_simp
theorem below_drew (w : World) : Below w.heap.size w w.drew := below_drewN w 1
theorem AtN.putM {t n : Mc} {m : List M.Pg} {kd rd ra rb i : Int} {w U : World} {bo nv : Nat} (h : AtN t n m kd rd ra rb i w U bo nv) (j : Nat) (v : Value) (t' : Mc) (e : (mcells t).setIfInBounds j v = mcells t') (hm : t'.ma = t.ma ∧ t'.ml = t.ml ∧ t'.mc = t.mc) : AtN t' n m kd rd ra rb i w (U.setCell ⟨w.heap.size, j, none⟩ v) bo nv := by
  have h1 := h.b
  have h2 := h.n
  have hN := Whole.put h.M j v
  rw [e] at hN
  refine ⟨hN, h.Z.other _ _ (by simp), h.N.other _ _ (by simp; omega), five_heap h.F (Below.heap_setCell _ _ _ _ (by simp; omega)) (by have := h.F.2.2.2.2.2.2; simpa [World.setCell] using this), h.B.setCell (p := ⟨w.heap.size, j, none⟩) (by simp) _, ?_, h.b, h.n⟩
  rw [hm.1, hm.2.1, hm.2.2]
  exact pages_keepM h.P h.M (grownBy_put U w.heap.size j v)
def addPc (t : Mc) (d : Int) : Mc := { t with pc := IntKind.u64.wrap (t.pc + d) }
/-- at the same place as ahead, with the next place put down -/
theorem AtN.pc4 {t : Mc} {m : List M.Pg} {kd rd ra rb i : Int} {w U : World} {bo nv : Nat} (h : AtN t t m kd rd ra rb i w U bo nv) : AtN t (addPc t 4) m kd rd ra rb i w (U.setCell ⟨nv, 32, none⟩ (.int .u64 (IntKind.u64.wrap (t.pc + 4)))) bo nv :=
  h.put 32 _ (addPc t 4) (mcells_set32 t _)
end Go.Proofs.YtclbkdnihhmglaaDoor

namespace Go.Proofs.YtclbkdnihhmglaaDoor
open Go.RowKit

/-- the machine behind a step whose instruction is known, and its pages -/
def outR (k : Mc) (m : List M.Pg) (kd rd i : Int) (RA RB : Nat) : Mc × List M.Pg := match doR (tickM k) m kd rd i RA RB with | none => (trapM k, m) | some r => r
theorem nextI_plain {kd : Int} (h : ¬ (23 ≤ kd ∧ kd ≤ 26) ∧ kd ≠ 29 ∧ kd ≠ 30) (i a b pc : Int) : nextI kd i a b pc = IntKind.u64.wrap (pc + 4) := by
  unfold nextI; rw [if_neg h.1, if_neg h.2.1, if_neg h.2.2]
variable {k : Mc} {m : List M.Pg} {rd i : Int} {RA RB : Nat}
theorem outR_went {r : Mc} (h : callR (tickM k) = some r) (hs : r.st = 0) : outR k m 31 rd i RA RB = ({ r with pc := IntKind.u64.wrap (r.pc + 4) }, m) := by
  unfold outR doR
  rw [if_neg (by omega), if_neg (by omega), if_neg (by omega), if_neg (by omega), if_pos rfl, h]
  simp only
  rw [if_neg (by omega), nextI_plain (by omega)]
theorem outR_over {r : Mc} (h : callR (tickM k) = some r) (hs : r.st = 1) : outR k m 31 rd i RA RB = (r, m) := by
  unfold outR doR
  rw [if_neg (by omega), if_neg (by omega), if_neg (by omega), if_neg (by omega), if_pos rfl, h]
  simp only
  rw [if_pos hs]
theorem outR_read0 (hst : k.st = 0) (h17 : k.x 17 = 63) (hi : k.inp = ⟨#[]⟩) : outR k m 31 rd i RA RB = ({ addPc (tickM k) 4 with x := upd k.x 10 256 }, m) := by
  rw [outR_went (r := { tickM k with x := upd k.x 10 256 }) (by unfold callR; rw [if_pos (by exact h17), if_pos (by show k.inp.size = 0; rw [hi]; rfl)]; rfl) hst]
  rfl
theorem inp_size {s : ByteArray} (h : s ≠ ⟨#[]⟩) : s.size ≠ 0 := fun e => h (by cases s with | mk a => have h' : a.size = 0 := e; rw [Array.size_eq_zero_iff.1 h'])
theorem outR_read1 (hst : k.st = 0) (h17 : k.x 17 = 63) (hi : k.inp ≠ ⟨#[]⟩) : outR k m 31 rd i RA RB = ({ addPc (tickM k) 4 with x := upd k.x 10 (firstB k.inp), inp := k.inp.extract 1 k.inp.size }, m) := by
  rw [outR_went (r := readM (tickM k)) (by unfold callR; rw [if_pos (by exact h17), if_neg (by exact inp_size hi)]) hst]
  rfl
theorem outR_write (hst : k.st = 0) (h17 : k.x 17 = 64) : outR k m 31 rd i RA RB = ({ addPc (tickM k) 4 with out := k.out ++ ⟨#[byteB (k.x 10)]⟩ }, m) := by
  rw [outR_went (r := writeM (tickM k)) (by unfold callR; rw [if_neg (by show ¬ k.x 17 = 63; omega), if_pos (by exact h17)]) hst]
  rfl
theorem outR_exit (h17 : k.x 17 = 93) : outR k m 31 rd i RA RB = ({ tickM k with st := 1, cd := k.x 10 }, m) := by
  rw [outR_over (r := exitM (tickM k)) (by unfold callR; rw [if_neg (by show ¬ k.x 17 = 63; omega), if_neg (by show ¬ k.x 17 = 64; omega), if_pos (by exact h17)]) rfl]
  rfl
theorem outR_other (h63 : k.x 17 ≠ 63) (h64 : k.x 17 ≠ 64) (h93 : k.x 17 ≠ 93) : outR k m 31 rd i RA RB = (trapM k, m) := by
  have h : callR (tickM k) = none := by unfold callR; rw [if_neg (by exact h63), if_neg (by exact h64), if_neg (by exact h93)]
  unfold outR doR
  rw [if_neg (by omega), if_neg (by omega), if_neg (by omega), if_neg (by omega), if_pos rfl, h]
theorem outR_ld1 (hz : k.x 0 = 0) (r0 : 0 ≤ rd) (he : numErr m (lsAt (k.x RA) i) 8 4 = 0) : outR k m 19 rd i RA RB = ({ addPc (tickM k) 4 with x := upd (upd k.x rd.toNat (loadV m (lsAt (k.x RA) i) 8 4)) 0 0 }, m) := by
  have h : doR (tickM k) m 19 rd i RA RB = some (ldN (tickM k) m 19 rd i RA RB 8, m) := by unfold doR; rw [if_pos rfl, if_pos (by exact he)]
  unfold outR
  rw [h, setR_ref hz _ _ r0]
  unfold ldN
  rw [nextI_plain (by omega)]
  rfl
theorem outR_ld0 (he : numErr m (lsAt (k.x RA) i) 8 4 ≠ 0) : outR k m 19 rd i RA RB = (trapM k, m) := by
  have h : doR (tickM k) m 19 rd i RA RB = none := by unfold doR; rw [if_pos rfl, if_neg (by exact he)]
  unfold outR; rw [h]
theorem outR_lb1 (hz : k.x 0 = 0) (r0 : 0 ≤ rd) (he : numErr m (lsAt (k.x RA) i) 1 4 = 0) : outR k m 20 rd i RA RB = ({ addPc (tickM k) 4 with x := upd (upd k.x rd.toNat (loadV m (lsAt (k.x RA) i) 1 4)) 0 0 }, m) := by
  have h : doR (tickM k) m 20 rd i RA RB = some (ldN (tickM k) m 20 rd i RA RB 1, m) := by unfold doR; rw [if_neg (by omega), if_pos rfl, if_pos (by exact he)]
  unfold outR
  rw [h, setR_ref hz _ _ r0]
  unfold ldN
  rw [nextI_plain (by omega)]
  rfl
theorem outR_lb0 (he : numErr m (lsAt (k.x RA) i) 1 4 ≠ 0) : outR k m 20 rd i RA RB = (trapM k, m) := by
  have h : doR (tickM k) m 20 rd i RA RB = none := by unfold doR; rw [if_neg (by omega), if_pos rfl, if_neg (by exact he)]
  unfold outR; rw [h]
theorem outR_sd1 (he : numErr m (lsAt (k.x RA) i) 8 2 = 0) : outR k m 21 rd i RA RB = (addPc (tickM k) 4, storeM m (lsAt (k.x RA) i) 8 (k.x RB).toNat) := by
  have h : doR (tickM k) m 21 rd i RA RB = some (stN (tickM k) 21 i RA RB, storeM m (lsAt (k.x RA) i) 8 (k.x RB).toNat) := by unfold doR; rw [if_neg (by omega), if_neg (by omega), if_pos rfl, if_pos (by exact he)]; rfl
  unfold outR
  rw [h]
  unfold stN
  rw [nextI_plain (by omega)]
  rfl
theorem outR_sd0 (he : numErr m (lsAt (k.x RA) i) 8 2 ≠ 0) : outR k m 21 rd i RA RB = (trapM k, m) := by
  have h : doR (tickM k) m 21 rd i RA RB = none := by unfold doR; rw [if_neg (by omega), if_neg (by omega), if_pos rfl, if_neg (by exact he)]
  unfold outR; rw [h]
theorem outR_sb1 (he : numErr m (lsAt (k.x RA) i) 1 2 = 0) : outR k m 22 rd i RA RB = (addPc (tickM k) 4, storeM m (lsAt (k.x RA) i) 1 (k.x RB).toNat) := by
  have h : doR (tickM k) m 22 rd i RA RB = some (stN (tickM k) 22 i RA RB, storeM m (lsAt (k.x RA) i) 1 (k.x RB).toNat) := by unfold doR; rw [if_neg (by omega), if_neg (by omega), if_neg (by omega), if_pos rfl, if_pos (by exact he)]; rfl
  unfold outR
  rw [h]
  unfold stN
  rw [nextI_plain (by omega)]
  rfl
theorem outR_sb0 (he : numErr m (lsAt (k.x RA) i) 1 2 ≠ 0) : outR k m 22 rd i RA RB = (trapM k, m) := by
  have h : doR (tickM k) m 22 rd i RA RB = none := by unfold doR; rw [if_neg (by omega), if_neg (by omega), if_neg (by omega), if_pos rfl, if_neg (by exact he)]
  unfold outR; rw [h]
theorem outR_else {kd : Int} (h : kd ≠ 19 ∧ kd ≠ 20 ∧ kd ≠ 21 ∧ kd ≠ 22 ∧ kd ≠ 31) : outR k m kd rd i RA RB = (aluN (tickM k) kd rd i RA RB, m) := by
  have e : doR (tickM k) m kd rd i RA RB = some (aluN (tickM k) kd rd i RA RB, m) := by unfold doR; rw [if_neg h.1, if_neg h.2.1, if_neg h.2.2.1, if_neg h.2.2.2.1, if_neg h.2.2.2.2]
  unfold outR; rw [e]
theorem aluN_of {kd : Int} {X : Nat → Int} {P : Int} (hx : setR k.x rd (doesI kd i (k.x RA) (k.x RB) k.pc) = X) (hp : nextI kd i (k.x RA) (k.x RB) k.pc = P) : aluN (tickM k) kd rd i RA RB = { tickM k with x := X, pc := P } := by
  subst hx hp; rfl
theorem setR_none (x : Nat → Int) (v : Int) : setR x 0 v = x := by unfold setR; rw [if_pos rfl]
theorem outR_br1 {kd : Int} (k1 : 23 ≤ kd) (k2 : kd ≤ 26) (h0 : rd = 0) (hg : goesB kd (k.x RA) (k.x RB) = true) : outR k m kd rd i RA RB = (addPc (tickM k) (IntKind.u64.wrap i), m) := by
  subst h0
  rw [outR_else (by omega), aluN_of (setR_none _ _) (show _ = IntKind.u64.wrap (k.pc + IntKind.u64.wrap i) by unfold nextI; rw [if_pos ⟨k1, k2⟩, if_pos hg])]
  rfl
theorem outR_br0 {kd : Int} (k1 : 23 ≤ kd) (k2 : kd ≤ 26) (h0 : rd = 0) (hg : goesB kd (k.x RA) (k.x RB) = false) : outR k m kd rd i RA RB = (addPc (tickM k) 4, m) := by
  subst h0
  rw [outR_else (by omega), aluN_of (setR_none _ _) (show _ = IntKind.u64.wrap (k.pc + 4) by unfold nextI; rw [if_pos ⟨k1, k2⟩, if_neg (by rw [hg]; exact Bool.false_ne_true)])]
  rfl
theorem outR_alu {kd : Int} (h : kd ≠ 31 ∧ kd ≠ 19 ∧ kd ≠ 20 ∧ kd ≠ 21 ∧ kd ≠ 22 ∧ kd ≠ 29 ∧ kd ≠ 30) (k1 : ¬ (23 ≤ kd ∧ kd ≤ 26)) (hz : k.x 0 = 0) (r0 : 0 ≤ rd) : outR k m kd rd i RA RB = ({ addPc (tickM k) 4 with x := upd (upd k.x rd.toNat (doesI kd i (k.x RA) (k.x RB) k.pc)) 0 0 }, m) := by
  rw [outR_else ⟨h.2.1, h.2.2.1, h.2.2.2.1, h.2.2.2.2.1, h.1⟩, setR_ref hz _ _ r0, aluN_of rfl (nextI_plain ⟨k1, h.2.2.2.2.2.1, h.2.2.2.2.2.2⟩ _ _ _ _)]
  rfl
theorem outR_jal (hz : k.x 0 = 0) (r0 : 0 ≤ rd) : outR k m 29 rd i RA RB = ({ addPc (tickM k) (IntKind.u64.wrap i) with x := upd (upd k.x rd.toNat (doesI 29 i (k.x RA) (k.x RB) k.pc)) 0 0 }, m) := by
  rw [outR_else (by omega), setR_ref hz _ _ r0, aluN_of rfl (show _ = IntKind.u64.wrap (k.pc + IntKind.u64.wrap i) by unfold nextI; rw [if_neg (by omega), if_pos rfl])]
  rfl
theorem outR_jalr (hz : k.x 0 = 0) (r0 : 0 ≤ rd) : outR k m 30 rd i RA RB = ({ tickM k with pc := IntKind.u64.wrap (k.x RA + IntKind.u64.wrap i) / 2 * 2, x := upd (upd k.x rd.toNat (doesI 30 i (k.x RA) (k.x RB) k.pc)) 0 0 }, m) := by
  rw [outR_else (by omega), setR_ref hz _ _ r0, aluN_of rfl (show _ = IntKind.u64.wrap (k.x RA + IntKind.u64.wrap i) / 2 * 2 by unfold nextI; rw [if_neg (by omega), if_neg (by omega), if_pos rfl, andNot_one _ (u64_wr _).1 (u64_wr _).2])]
end Go.Proofs.YtclbkdnihhmglaaDoor
