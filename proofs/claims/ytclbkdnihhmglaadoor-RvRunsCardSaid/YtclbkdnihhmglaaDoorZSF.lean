/- The reference's Same: two machines compared, registers and all. -/
import Derived.Test.YtclbkdnihhmglaaDoorZSE
import Derived.Test.YtclbkdnihhmglaaDoorZP43
import Derived.Deep.MidRow
import Derived.ChangeKeysEq
import Derived.Laws.StructEq
namespace Go.Proofs.YtclbkdnihhmglaaDoor
open Go.RowKit

/-- are two machines' registers the same? -/
def eqX (x y : Nat → Int) : Bool := (List.range 32).all fun i => x i == y i
theorem eqX_iff (x y : Nat → Int) : eqX x y = true ↔ ∀ i, i < 32 → x i = y i := by
  unfold eqX
  rw [List.all_eq_true]
  exact ⟨fun h i hi => by simpa using h i (by simpa using hi), fun h i hi => by simpa using h i (by simpa using hi)⟩
theorem eqX_refl (x : Nat → Int) : eqX x x = true := (eqX_iff x x).2 fun _ _ => rfl
theorem info64 : ∃ i, Tryd.prog.info? 22 = some i := by
  have h : (Tryd.prog.info? 22).isSome = true := by kernel_rfl
  exact Option.isSome_iff_exists.1 h
theorem cells64' : Tryd.prog.cellsOf 22 = 1 := by kernel_rfl
theorem infoX (x : Nat → Int) : (Tryd.prog.info? 23).map (·.size) = some (mregs x).length := by rw [mregs_length]; kernel_rfl
theorem part_reg (x : Nat → Int) (j : Nat) (hj : j < 32) (w : World) : (part 22 (mregs x).toArray j).run Tryd.prog w = .ok (.int .u64 (x j)) w := by
  have h : (mregs x).toArray[j]? = some (.int .u64 (x j)) := by
    rw [List.getElem?_toArray]
    simp [mregs, hj]
  have ha : (isAgg 22).run Tryd.prog w = .ok false w := by
    unfold isAgg
    rw [Sem.run_bind, run_underlying Tryd.underlying22 w]
    rfl
  unfold part
  simp [Sem.run_bind, ha, h]
theorem items_reg (d : Nat) (x y : Nat → Int) : ∀ (l : List Nat) (w : World), (∀ j ∈ l, j < 32) → (Op.eqItems (d + 1) 22 1 (mregs x).toArray (mregs y).toArray l).run Tryd.prog w = .ok (l.all fun i => x i == y i) w := by
  intro l
  induction l with
  | nil => intro w _; simp [Op.eqItems]
  | cons j l ih =>
    intro w h
    have hj := h j (by simp)
    simp only [Op.eqItems, Sem.run_bind, Nat.mul_one]
    rw [part_reg x j hj]
    simp only [Result.andThen_ok]
    rw [part_reg y j hj]
    simp only [Result.andThen_ok]
    rw [run_equalIn_int w d 22 .u64 .u64 (x j) (y j) Tryd.underlying22]
    simp only [Result.andThen_ok]
    cases hb : (x j == y j)
    · simp [hb]
    · simp only [Bool.not_true, Bool.false_eq_true, if_false]
      rw [ih w (fun j' hj' => h j' (by simp [hj']))]
      simp [hb]
theorem eql_regs (x y : Nat → Int) (w : World) : (Op.equalIn 10000 23 (.agg (mregs x).toArray) (.agg (mregs y).toArray)).run Tryd.prog w = .ok (eqX x y) w := by
  obtain ⟨i, hi⟩ := info64
  rw [run_equalIn_array w 9999 _ _ Tryd.underlying23 hi, cells64']
  exact items_reg 9998 x y _ w fun j hj => by simpa using hj
theorem load_regs {ops : Array Oper} {rest : List Oper} {o : Oper} {a : Act} {w : World} {Q : Exit → Act → World → Prop} (x : Operand) (ho : o.op = .load 23 x)
    (B : Nat) (hx : a.eval x = .pointer (some ⟨B, 0, none⟩)) (r : Nat → Int) (hc : w.rangeAt B 0 (mregs r)) (hw : Region.wanted o (yielded ops a.tmps) = true)
    (h : wpList Tryd.prog ops Q rest (a.put o.dst (.agg (mregs r).toArray)) w) : wpList Tryd.prog ops Q (o :: rest) a w :=
  wpList_step fun K hK => by
    rw [if_pos hw]
    exact wp_load_mid _ x ho B 0 hx (mregs r) _ hc Tryd.underlying23 rfl (infoX r) (hK _ _ h)
theorem regs_range {W : World} {B : Nat} {k : Mc} (h : Mach W B k) : W.rangeAt B 0 (mregs k.x) := by
  intro j v hv
  have hj : j < 32 := by
    have := (List.getElem?_eq_some_iff.1 hv).1
    rwa [mregs_length] at this
  rw [Nat.zero_add, h.cells.1 j hj, ← hv]
  simp [mregs, hj]
def sameMc (a b : Mc) (m k : List M.Pg) : Bool := sameB m k && (eqX a.x b.x && ((a.pc == b.pc) && ((a.inp == b.inp) && ((a.out == b.out) && ((a.st == b.st) && ((a.cd == b.cd) && (a.n == b.n)))))))
theorem sameMc_true {a b : Mc} {m k : List M.Pg} (h1 : m = k) (h2 : ∀ i, i < 32 → a.x i = b.x i) (h3 : a.pc = b.pc) (h4 : a.inp = b.inp) (h5 : a.out = b.out) (h6 : a.st = b.st) (h7 : a.cd = b.cd) (h8 : a.n = b.n) : sameMc a b m k = true := by
  unfold sameMc
  rw [(sameB_iff m k).2 h1, (eqX_iff _ _).2 h2, h3, h4, h5, h6, h7, h8]
  simp [(ba_beq _ _).2]
theorem same_start (a b : Mc) (w W : World) (hW : W = ((w.alloc (.cells (mcells a) 26)).alloc (.cells (mcells b) 26))) :
    Mach W w.heap.size a ∧ Mach W (w.heap.size + 1) b ∧ Below w.heap.size w W := by
  subst hW
  have h3 := Mach.new (w.alloc (.cells (mcells a) 26)) b
  rw [World.size_alloc] at h3
  exact ⟨(Mach.new w a).alloc _, h3, balloc (balloc (Below.refl _ w) _) _⟩
set_option maxRecDepth 100000 in
set_option maxHeartbeats 1000000 in
theorem rsameM_0 (a b : Mc) (m k : List M.Pg) (w : World) (hP : Pages w (.slice a.ma a.ml a.mc) m) (hQ : Pages w (.slice b.ma b.ml b.mc) k) (hn : m.length ≤ 1000000) (h0 : sameB m k = false) :
    Calls Tryd.prog 6 #[.agg (mcells a), .agg (mcells b)] w (RetIs (.bool false) w) := by
  have HS := Lib.hid (fun W h => same_start a b w W h)
  have HC := Lib.hid (fun (W : World) (hb : Below w.heap.size w W) => rsame_any (hP.next hb) (hQ.next hb) hn)
  rw [h0] at HC
  have c33 := mcells_33 a
  have d33 := mcells_33 b
  clear hP hQ h0
  go_enter Tryd.func6, Tryd.ntmps6
  go_wp2_with fail
  obtain ⟨W, hW⟩ : ∃ W, W = ((w.alloc (.cells (mcells a) 26)).alloc (.cells (mcells b) 26)) := ⟨_, rfl⟩
  obtain ⟨hM, hN, hB⟩ := HS.out W hW
  rw [← hW]
  clear hW HS
  refine (HC.out _ hB).mono ?_
  rintro e w2 ⟨rfl, hb2⟩
  have HM := Lib.hid (hM.next hb2)
  have HN := Lib.hid (hN.next hb2)
  have HB := Lib.hid (bthen hB hb2)
  clear hM hN hB hb2 c33 d33
  obtain ⟨mx, m32, m33, m34, m35, m36, m37, m38, mf⟩ := HM.out.cells
  obtain ⟨nx, n32, n33, n34, n35, n36, n37, n38, nf⟩ := HN.out.cells
  have HRM := Lib.hid (regs_range HM.out)
  have HRN := Lib.hid (regs_range HN.out)
  clear mx nx mf nf
  go_wp2_with (first | (refine load_regs _ rfl _ rfl _ HRM.out (by rfl) ?_) | (refine load_regs _ rfl _ rfl _ HRN.out (by rfl) ?_))
  go_ret
  exact ⟨rfl, HB.out⟩
set_option maxRecDepth 100000 in
set_option maxHeartbeats 1000000 in
theorem rsameM_1 (a b : Mc) (m k : List M.Pg) (w : World) (hP : Pages w (.slice a.ma a.ml a.mc) m) (hQ : Pages w (.slice b.ma b.ml b.mc) k) (hn : m.length ≤ 1000000) (h0 : sameB m k = true) (h1 : eqX a.x b.x = false) :
    Calls Tryd.prog 6 #[.agg (mcells a), .agg (mcells b)] w (RetIs (.bool false) w) := by
  have HS := Lib.hid (fun W h => same_start a b w W h)
  have HC := Lib.hid (fun (W : World) (hb : Below w.heap.size w W) => rsame_any (hP.next hb) (hQ.next hb) hn)
  rw [h0] at HC
  have HE := Lib.hid (fun W => eql_regs a.x b.x W)
  rw [h1] at HE
  have c33 := mcells_33 a
  have d33 := mcells_33 b
  clear hP hQ h0 h1
  go_enter Tryd.func6, Tryd.ntmps6
  go_wp2_with fail
  obtain ⟨W, hW⟩ : ∃ W, W = ((w.alloc (.cells (mcells a) 26)).alloc (.cells (mcells b) 26)) := ⟨_, rfl⟩
  obtain ⟨hM, hN, hB⟩ := HS.out W hW
  rw [← hW]
  clear hW HS
  refine (HC.out _ hB).mono ?_
  rintro e w2 ⟨rfl, hb2⟩
  have HM := Lib.hid (hM.next hb2)
  have HN := Lib.hid (hN.next hb2)
  have HB := Lib.hid (bthen hB hb2)
  clear hM hN hB hb2 c33 d33
  obtain ⟨mx, m32, m33, m34, m35, m36, m37, m38, mf⟩ := HM.out.cells
  obtain ⟨nx, n32, n33, n34, n35, n36, n37, n38, nf⟩ := HN.out.cells
  have HRM := Lib.hid (regs_range HM.out)
  have HRN := Lib.hid (regs_range HN.out)
  clear mx nx mf nf
  have he := HE.out w2
  have hg : Tryd.prog.eqGuardType Tryd.prog.depth 23 = false := by kernel_rfl
  go_wp2_with (first | (refine load_regs _ rfl _ rfl _ HRM.out (by rfl) ?_) | (refine load_regs _ rfl _ rfl _ HRN.out (by rfl) ?_))
  go_ret
  exact ⟨rfl, HB.out⟩
set_option maxRecDepth 100000 in
set_option maxHeartbeats 1000000 in
theorem rsameM_2 (a b : Mc) (m k : List M.Pg) (w : World) (hP : Pages w (.slice a.ma a.ml a.mc) m) (hQ : Pages w (.slice b.ma b.ml b.mc) k) (hn : m.length ≤ 1000000) (h0 : sameB m k = true) (h1 : eqX a.x b.x = true) (h2 : (a.pc == b.pc) = false) :
    Calls Tryd.prog 6 #[.agg (mcells a), .agg (mcells b)] w (RetIs (.bool false) w) := by
  have HS := Lib.hid (fun W h => same_start a b w W h)
  have HC := Lib.hid (fun (W : World) (hb : Below w.heap.size w W) => rsame_any (hP.next hb) (hQ.next hb) hn)
  rw [h0] at HC
  have HE := Lib.hid (fun W => eql_regs a.x b.x W)
  rw [h1] at HE
  have c33 := mcells_33 a
  have d33 := mcells_33 b
  clear hP hQ h0 h1
  go_enter Tryd.func6, Tryd.ntmps6
  go_wp2_with fail
  obtain ⟨W, hW⟩ : ∃ W, W = ((w.alloc (.cells (mcells a) 26)).alloc (.cells (mcells b) 26)) := ⟨_, rfl⟩
  obtain ⟨hM, hN, hB⟩ := HS.out W hW
  rw [← hW]
  clear hW HS
  refine (HC.out _ hB).mono ?_
  rintro e w2 ⟨rfl, hb2⟩
  have HM := Lib.hid (hM.next hb2)
  have HN := Lib.hid (hN.next hb2)
  have HB := Lib.hid (bthen hB hb2)
  clear hM hN hB hb2 c33 d33
  obtain ⟨mx, m32, m33, m34, m35, m36, m37, m38, mf⟩ := HM.out.cells
  obtain ⟨nx, n32, n33, n34, n35, n36, n37, n38, nf⟩ := HN.out.cells
  have HRM := Lib.hid (regs_range HM.out)
  have HRN := Lib.hid (regs_range HN.out)
  clear mx nx mf nf
  have he := HE.out w2
  have hg : Tryd.prog.eqGuardType Tryd.prog.depth 23 = false := by kernel_rfl
  go_wp2_with (first | (refine load_regs _ rfl _ rfl _ HRM.out (by rfl) ?_) | (refine load_regs _ rfl _ rfl _ HRN.out (by rfl) ?_))
  go_ret
  exact ⟨rfl, HB.out⟩
set_option maxRecDepth 100000 in
set_option maxHeartbeats 1000000 in
theorem rsameM_3 (a b : Mc) (m k : List M.Pg) (w : World) (hP : Pages w (.slice a.ma a.ml a.mc) m) (hQ : Pages w (.slice b.ma b.ml b.mc) k) (hn : m.length ≤ 1000000) (h0 : sameB m k = true) (h1 : eqX a.x b.x = true) (h2 : (a.pc == b.pc) = true) (h3 : (a.inp == b.inp) = false) :
    Calls Tryd.prog 6 #[.agg (mcells a), .agg (mcells b)] w (RetIs (.bool false) w) := by
  have HS := Lib.hid (fun W h => same_start a b w W h)
  have HC := Lib.hid (fun (W : World) (hb : Below w.heap.size w W) => rsame_any (hP.next hb) (hQ.next hb) hn)
  rw [h0] at HC
  have HE := Lib.hid (fun W => eql_regs a.x b.x W)
  rw [h1] at HE
  have q3 : (a.inp.toList == b.inp.toList) = false := by rw [← beq_toListBytes]; exact h3
  have c33 := mcells_33 a
  have d33 := mcells_33 b
  clear hP hQ h0 h1
  go_enter Tryd.func6, Tryd.ntmps6
  go_wp2_with fail
  obtain ⟨W, hW⟩ : ∃ W, W = ((w.alloc (.cells (mcells a) 26)).alloc (.cells (mcells b) 26)) := ⟨_, rfl⟩
  obtain ⟨hM, hN, hB⟩ := HS.out W hW
  rw [← hW]
  clear hW HS
  refine (HC.out _ hB).mono ?_
  rintro e w2 ⟨rfl, hb2⟩
  have HM := Lib.hid (hM.next hb2)
  have HN := Lib.hid (hN.next hb2)
  have HB := Lib.hid (bthen hB hb2)
  clear hM hN hB hb2 c33 d33
  obtain ⟨mx, m32, m33, m34, m35, m36, m37, m38, mf⟩ := HM.out.cells
  obtain ⟨nx, n32, n33, n34, n35, n36, n37, n38, nf⟩ := HN.out.cells
  have HRM := Lib.hid (regs_range HM.out)
  have HRN := Lib.hid (regs_range HN.out)
  clear mx nx mf nf
  have he := HE.out w2
  have hg : Tryd.prog.eqGuardType Tryd.prog.depth 23 = false := by kernel_rfl
  go_wp2_with (first | (refine load_regs _ rfl _ rfl _ HRM.out (by rfl) ?_) | (refine load_regs _ rfl _ rfl _ HRN.out (by rfl) ?_))
  go_ret
  exact ⟨rfl, HB.out⟩
set_option maxRecDepth 100000 in
set_option maxHeartbeats 1000000 in
theorem rsameM_4 (a b : Mc) (m k : List M.Pg) (w : World) (hP : Pages w (.slice a.ma a.ml a.mc) m) (hQ : Pages w (.slice b.ma b.ml b.mc) k) (hn : m.length ≤ 1000000) (h0 : sameB m k = true) (h1 : eqX a.x b.x = true) (h2 : (a.pc == b.pc) = true) (h3 : (a.inp == b.inp) = true) (h4 : (a.out == b.out) = false) :
    Calls Tryd.prog 6 #[.agg (mcells a), .agg (mcells b)] w (RetIs (.bool false) w) := by
  have HS := Lib.hid (fun W h => same_start a b w W h)
  have HC := Lib.hid (fun (W : World) (hb : Below w.heap.size w W) => rsame_any (hP.next hb) (hQ.next hb) hn)
  rw [h0] at HC
  have HE := Lib.hid (fun W => eql_regs a.x b.x W)
  rw [h1] at HE
  have q3 : (a.inp.toList == b.inp.toList) = true := by rw [← beq_toListBytes]; exact h3
  have q4 : (a.out.toList == b.out.toList) = false := by rw [← beq_toListBytes]; exact h4
  have c33 := mcells_33 a
  have d33 := mcells_33 b
  clear hP hQ h0 h1
  go_enter Tryd.func6, Tryd.ntmps6
  go_wp2_with fail
  obtain ⟨W, hW⟩ : ∃ W, W = ((w.alloc (.cells (mcells a) 26)).alloc (.cells (mcells b) 26)) := ⟨_, rfl⟩
  obtain ⟨hM, hN, hB⟩ := HS.out W hW
  rw [← hW]
  clear hW HS
  refine (HC.out _ hB).mono ?_
  rintro e w2 ⟨rfl, hb2⟩
  have HM := Lib.hid (hM.next hb2)
  have HN := Lib.hid (hN.next hb2)
  have HB := Lib.hid (bthen hB hb2)
  clear hM hN hB hb2 c33 d33
  obtain ⟨mx, m32, m33, m34, m35, m36, m37, m38, mf⟩ := HM.out.cells
  obtain ⟨nx, n32, n33, n34, n35, n36, n37, n38, nf⟩ := HN.out.cells
  have HRM := Lib.hid (regs_range HM.out)
  have HRN := Lib.hid (regs_range HN.out)
  clear mx nx mf nf
  have he := HE.out w2
  have hg : Tryd.prog.eqGuardType Tryd.prog.depth 23 = false := by kernel_rfl
  go_wp2_with (first | (refine load_regs _ rfl _ rfl _ HRM.out (by rfl) ?_) | (refine load_regs _ rfl _ rfl _ HRN.out (by rfl) ?_))
  go_ret
  exact ⟨rfl, HB.out⟩
set_option maxRecDepth 100000 in
set_option maxHeartbeats 1000000 in
theorem rsameM_5 (a b : Mc) (m k : List M.Pg) (w : World) (hP : Pages w (.slice a.ma a.ml a.mc) m) (hQ : Pages w (.slice b.ma b.ml b.mc) k) (hn : m.length ≤ 1000000) (h0 : sameB m k = true) (h1 : eqX a.x b.x = true) (h2 : (a.pc == b.pc) = true) (h3 : (a.inp == b.inp) = true) (h4 : (a.out == b.out) = true) (h5 : (a.st == b.st) = false) :
    Calls Tryd.prog 6 #[.agg (mcells a), .agg (mcells b)] w (RetIs (.bool false) w) := by
  have HS := Lib.hid (fun W h => same_start a b w W h)
  have HC := Lib.hid (fun (W : World) (hb : Below w.heap.size w W) => rsame_any (hP.next hb) (hQ.next hb) hn)
  rw [h0] at HC
  have HE := Lib.hid (fun W => eql_regs a.x b.x W)
  rw [h1] at HE
  have q3 : (a.inp.toList == b.inp.toList) = true := by rw [← beq_toListBytes]; exact h3
  have q4 : (a.out.toList == b.out.toList) = true := by rw [← beq_toListBytes]; exact h4
  have c33 := mcells_33 a
  have d33 := mcells_33 b
  clear hP hQ h0 h1
  go_enter Tryd.func6, Tryd.ntmps6
  go_wp2_with fail
  obtain ⟨W, hW⟩ : ∃ W, W = ((w.alloc (.cells (mcells a) 26)).alloc (.cells (mcells b) 26)) := ⟨_, rfl⟩
  obtain ⟨hM, hN, hB⟩ := HS.out W hW
  rw [← hW]
  clear hW HS
  refine (HC.out _ hB).mono ?_
  rintro e w2 ⟨rfl, hb2⟩
  have HM := Lib.hid (hM.next hb2)
  have HN := Lib.hid (hN.next hb2)
  have HB := Lib.hid (bthen hB hb2)
  clear hM hN hB hb2 c33 d33
  obtain ⟨mx, m32, m33, m34, m35, m36, m37, m38, mf⟩ := HM.out.cells
  obtain ⟨nx, n32, n33, n34, n35, n36, n37, n38, nf⟩ := HN.out.cells
  have HRM := Lib.hid (regs_range HM.out)
  have HRN := Lib.hid (regs_range HN.out)
  clear mx nx mf nf
  have he := HE.out w2
  have hg : Tryd.prog.eqGuardType Tryd.prog.depth 23 = false := by kernel_rfl
  go_wp2_with (first | (refine load_regs _ rfl _ rfl _ HRM.out (by rfl) ?_) | (refine load_regs _ rfl _ rfl _ HRN.out (by rfl) ?_))
  go_ret
  exact ⟨rfl, HB.out⟩
set_option maxRecDepth 100000 in
set_option maxHeartbeats 1000000 in
theorem rsameM_6 (a b : Mc) (m k : List M.Pg) (w : World) (hP : Pages w (.slice a.ma a.ml a.mc) m) (hQ : Pages w (.slice b.ma b.ml b.mc) k) (hn : m.length ≤ 1000000) (h0 : sameB m k = true) (h1 : eqX a.x b.x = true) (h2 : (a.pc == b.pc) = true) (h3 : (a.inp == b.inp) = true) (h4 : (a.out == b.out) = true) (h5 : (a.st == b.st) = true) (h6 : (a.cd == b.cd) = false) :
    Calls Tryd.prog 6 #[.agg (mcells a), .agg (mcells b)] w (RetIs (.bool false) w) := by
  have HS := Lib.hid (fun W h => same_start a b w W h)
  have HC := Lib.hid (fun (W : World) (hb : Below w.heap.size w W) => rsame_any (hP.next hb) (hQ.next hb) hn)
  rw [h0] at HC
  have HE := Lib.hid (fun W => eql_regs a.x b.x W)
  rw [h1] at HE
  have q3 : (a.inp.toList == b.inp.toList) = true := by rw [← beq_toListBytes]; exact h3
  have q4 : (a.out.toList == b.out.toList) = true := by rw [← beq_toListBytes]; exact h4
  have c33 := mcells_33 a
  have d33 := mcells_33 b
  clear hP hQ h0 h1
  go_enter Tryd.func6, Tryd.ntmps6
  go_wp2_with fail
  obtain ⟨W, hW⟩ : ∃ W, W = ((w.alloc (.cells (mcells a) 26)).alloc (.cells (mcells b) 26)) := ⟨_, rfl⟩
  obtain ⟨hM, hN, hB⟩ := HS.out W hW
  rw [← hW]
  clear hW HS
  refine (HC.out _ hB).mono ?_
  rintro e w2 ⟨rfl, hb2⟩
  have HM := Lib.hid (hM.next hb2)
  have HN := Lib.hid (hN.next hb2)
  have HB := Lib.hid (bthen hB hb2)
  clear hM hN hB hb2 c33 d33
  obtain ⟨mx, m32, m33, m34, m35, m36, m37, m38, mf⟩ := HM.out.cells
  obtain ⟨nx, n32, n33, n34, n35, n36, n37, n38, nf⟩ := HN.out.cells
  have HRM := Lib.hid (regs_range HM.out)
  have HRN := Lib.hid (regs_range HN.out)
  clear mx nx mf nf
  have he := HE.out w2
  have hg : Tryd.prog.eqGuardType Tryd.prog.depth 23 = false := by kernel_rfl
  go_wp2_with (first | (refine load_regs _ rfl _ rfl _ HRM.out (by rfl) ?_) | (refine load_regs _ rfl _ rfl _ HRN.out (by rfl) ?_))
  go_ret
  exact ⟨rfl, HB.out⟩
set_option maxRecDepth 100000 in
set_option maxHeartbeats 1000000 in
theorem rsameM_7 (a b : Mc) (m k : List M.Pg) (w : World) (hP : Pages w (.slice a.ma a.ml a.mc) m) (hQ : Pages w (.slice b.ma b.ml b.mc) k) (hn : m.length ≤ 1000000) (h0 : sameB m k = true) (h1 : eqX a.x b.x = true) (h2 : (a.pc == b.pc) = true) (h3 : (a.inp == b.inp) = true) (h4 : (a.out == b.out) = true) (h5 : (a.st == b.st) = true) (h6 : (a.cd == b.cd) = true) (h7 : (a.n == b.n) = false) :
    Calls Tryd.prog 6 #[.agg (mcells a), .agg (mcells b)] w (RetIs (.bool false) w) := by
  have HS := Lib.hid (fun W h => same_start a b w W h)
  have HC := Lib.hid (fun (W : World) (hb : Below w.heap.size w W) => rsame_any (hP.next hb) (hQ.next hb) hn)
  rw [h0] at HC
  have HE := Lib.hid (fun W => eql_regs a.x b.x W)
  rw [h1] at HE
  have q3 : (a.inp.toList == b.inp.toList) = true := by rw [← beq_toListBytes]; exact h3
  have q4 : (a.out.toList == b.out.toList) = true := by rw [← beq_toListBytes]; exact h4
  have c33 := mcells_33 a
  have d33 := mcells_33 b
  clear hP hQ h0 h1
  go_enter Tryd.func6, Tryd.ntmps6
  go_wp2_with fail
  obtain ⟨W, hW⟩ : ∃ W, W = ((w.alloc (.cells (mcells a) 26)).alloc (.cells (mcells b) 26)) := ⟨_, rfl⟩
  obtain ⟨hM, hN, hB⟩ := HS.out W hW
  rw [← hW]
  clear hW HS
  refine (HC.out _ hB).mono ?_
  rintro e w2 ⟨rfl, hb2⟩
  have HM := Lib.hid (hM.next hb2)
  have HN := Lib.hid (hN.next hb2)
  have HB := Lib.hid (bthen hB hb2)
  clear hM hN hB hb2 c33 d33
  obtain ⟨mx, m32, m33, m34, m35, m36, m37, m38, mf⟩ := HM.out.cells
  obtain ⟨nx, n32, n33, n34, n35, n36, n37, n38, nf⟩ := HN.out.cells
  have HRM := Lib.hid (regs_range HM.out)
  have HRN := Lib.hid (regs_range HN.out)
  clear mx nx mf nf
  have he := HE.out w2
  have hg : Tryd.prog.eqGuardType Tryd.prog.depth 23 = false := by kernel_rfl
  go_wp2_with (first | (refine load_regs _ rfl _ rfl _ HRM.out (by rfl) ?_) | (refine load_regs _ rfl _ rfl _ HRN.out (by rfl) ?_))
  go_ret
  exact ⟨rfl, HB.out⟩
set_option maxRecDepth 100000 in
set_option maxHeartbeats 1000000 in
theorem rsameM_8 (a b : Mc) (m k : List M.Pg) (w : World) (hP : Pages w (.slice a.ma a.ml a.mc) m) (hQ : Pages w (.slice b.ma b.ml b.mc) k) (hn : m.length ≤ 1000000) (h0 : sameB m k = true) (h1 : eqX a.x b.x = true) (h2 : (a.pc == b.pc) = true) (h3 : (a.inp == b.inp) = true) (h4 : (a.out == b.out) = true) (h5 : (a.st == b.st) = true) (h6 : (a.cd == b.cd) = true) (h7 : (a.n == b.n) = true) :
    Calls Tryd.prog 6 #[.agg (mcells a), .agg (mcells b)] w (RetIs (.bool true) w) := by
  have HS := Lib.hid (fun W h => same_start a b w W h)
  have HC := Lib.hid (fun (W : World) (hb : Below w.heap.size w W) => rsame_any (hP.next hb) (hQ.next hb) hn)
  rw [h0] at HC
  have HE := Lib.hid (fun W => eql_regs a.x b.x W)
  rw [h1] at HE
  have q3 : (a.inp.toList == b.inp.toList) = true := by rw [← beq_toListBytes]; exact h3
  have q4 : (a.out.toList == b.out.toList) = true := by rw [← beq_toListBytes]; exact h4
  have c33 := mcells_33 a
  have d33 := mcells_33 b
  clear hP hQ h0 h1
  go_enter Tryd.func6, Tryd.ntmps6
  go_wp2_with fail
  obtain ⟨W, hW⟩ : ∃ W, W = ((w.alloc (.cells (mcells a) 26)).alloc (.cells (mcells b) 26)) := ⟨_, rfl⟩
  obtain ⟨hM, hN, hB⟩ := HS.out W hW
  rw [← hW]
  clear hW HS
  refine (HC.out _ hB).mono ?_
  rintro e w2 ⟨rfl, hb2⟩
  have HM := Lib.hid (hM.next hb2)
  have HN := Lib.hid (hN.next hb2)
  have HB := Lib.hid (bthen hB hb2)
  clear hM hN hB hb2 c33 d33
  obtain ⟨mx, m32, m33, m34, m35, m36, m37, m38, mf⟩ := HM.out.cells
  obtain ⟨nx, n32, n33, n34, n35, n36, n37, n38, nf⟩ := HN.out.cells
  have HRM := Lib.hid (regs_range HM.out)
  have HRN := Lib.hid (regs_range HN.out)
  clear mx nx mf nf
  have he := HE.out w2
  have hg : Tryd.prog.eqGuardType Tryd.prog.depth 23 = false := by kernel_rfl
  go_wp2_with (first | (refine load_regs _ rfl _ rfl _ HRM.out (by rfl) ?_) | (refine load_regs _ rfl _ rfl _ HRN.out (by rfl) ?_))
  go_ret
  exact ⟨rfl, HB.out⟩
theorem rsameM_any (a b : Mc) (m k : List M.Pg) (w : World) (hP : Pages w (.slice a.ma a.ml a.mc) m) (hQ : Pages w (.slice b.ma b.ml b.mc) k) (hn : m.length ≤ 1000000) :
    Calls Tryd.prog 6 #[.agg (mcells a), .agg (mcells b)] w (RetIs (.bool (sameMc a b m k)) w) := by
  unfold sameMc
  cases h0 : sameB m k
  · simpa using rsameM_0 a b m k w hP hQ hn h0
  cases h1 : eqX a.x b.x
  · simpa using rsameM_1 a b m k w hP hQ hn h0 h1
  cases h2 : (a.pc == b.pc)
  · simpa using rsameM_2 a b m k w hP hQ hn h0 h1 h2
  cases h3 : (a.inp == b.inp)
  · simpa using rsameM_3 a b m k w hP hQ hn h0 h1 h2 h3
  cases h4 : (a.out == b.out)
  · simpa using rsameM_4 a b m k w hP hQ hn h0 h1 h2 h3 h4
  cases h5 : (a.st == b.st)
  · simpa using rsameM_5 a b m k w hP hQ hn h0 h1 h2 h3 h4 h5
  cases h6 : (a.cd == b.cd)
  · simpa using rsameM_6 a b m k w hP hQ hn h0 h1 h2 h3 h4 h5 h6
  cases h7 : (a.n == b.n)
  · simpa using rsameM_7 a b m k w hP hQ hn h0 h1 h2 h3 h4 h5 h6 h7
  simpa using rsameM_8 a b m k w hP hQ hn h0 h1 h2 h3 h4 h5 h6 h7
end Go.Proofs.YtclbkdnihhmglaaDoor
