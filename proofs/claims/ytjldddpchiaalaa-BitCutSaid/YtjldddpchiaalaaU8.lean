/- Package bit: blocks laid by a writer. -/
import Derived.Test.YtjldddpchiaalaaU6
import Derived.Test.YtjldddpchiaalaaU7
namespace Go.Proofs.Ytjldddpchiaalaa
open Go.RowKit
namespace Q

theorem bkL_len {b : Bk} (h : BkG b) : (bkL b).length ≤ 6000 := by
  have h1 := nL_len h.1
  have h2 : ∀ (l : List In), (∀ i ∈ l, InG i) → (l.flatMap inL).length ≤ 150 * l.length := by
    intro l
    induction l with
    | nil => simp
    | cons i l ih =>
      intro hg
      have g1 := ih (fun x hx => hg x (by simp [hx]))
      have g2 := inL_len (hg i (by simp)).1
      rw [List.flatMap_cons, List.length_append, List.length_cons]
      omega
  have h3 := h2 b.i h.2.1.2
  have h4 := h.2.1.1
  have h5 := numL_ten (v := b.i.length) (by omega)
  have h6 := tmL_len h.2.2.1
  unfold bkL rowL
  simp only [List.length_append]
  omega
set_option maxRecDepth 100000 in
set_option maxHeartbeats 4000000 in
theorem block1_put {w0 : World} {B b q p : Nat} {l : List UInt8} {ins : List In} {t : Tm} {A0 A1 A2 : Option Addr} {n0 n1 n2 c0 c1 c2 : Nat} {W : World} (hB : w0.heap.size = B) (h : Lies B b W l W) (hw : Below B w0 W)
    (hbq : W.heap[q]? = some (.cells #[.pointer (some ⟨b, 0, none⟩)] 83 (0, 0))) (hqb : q ≠ b) (hG : BkG ⟨p, ins, t⟩) (hn0 : ins.length = n0) (hn1 : t.l.length = n1) (hn2 : t.m.length = n2) (hS0 : Insts w0 (.slice A0 n0 c0) ins) (hS1 : Ints w0 (.slice A1 n1 c1) t.l) (hS2 : Ints w0 (.slice A2 n2 c2) t.m)
    (hl : l.length ≤ 97000000) :
    Calls Try.prog 53 #[.agg #[.int .i64 p, .slice A0 n0 c0, .int .i64 t.k, .int .i64 t.a, .int .i64 t.t, .slice A1 n1 c1, .int .i64 t.e, .slice A2 n2 c2], .pointer (some ⟨q, 0, none⟩)] W fun e w' => e = .returned (.tuple #[]) ∧ Lies B b W (l ++ bkL ⟨p, ins, t⟩) w' := by
  obtain ⟨ob, hob⟩ : ∃ o, Obj.cells #[.int .i64 p, .slice A0 n0 c0, .int .i64 t.k, .int .i64 t.a, .int .i64 t.t, .slice A1 n1 c1, .int .i64 t.e, .slice A2 n2 c2] 74 (0, 0) = o := ⟨_, rfl⟩
  have hr : W.heap.size ≠ b := box_lt h
  have hA := h.alloc ob
  have hqs : q < W.heap.size := (Array.getElem?_eq_some_iff.1 hbq).1
  have HR := Lib.hid hr
  have HQB := Lib.hid hqb
  have HBR := Lib.hid (show (W.alloc ob).heap[W.heap.size]? = some (.cells #[.int .i64 p, .slice A0 n0 c0, .int .i64 t.k, .int .i64 t.a, .int .i64 t.t, .slice A1 n1 c1, .int .i64 t.e, .slice A2 n2 c2] 74 (0, 0)) by rw [heap_alloc_new, hob])
  have HBQ := Lib.hid (show (W.alloc ob).heap[q]? = some (.cells #[.pointer (some ⟨b, 0, none⟩)] 83 (0, 0)) by rw [Lib.alloc_old W ob q hqs]; exact hbq)
  have cq : (W.alloc ob).cell? ⟨q, 0, none⟩ = some (.pointer (some ⟨b, 0, none⟩)) := by rw [Lib.cell_of_heap HBQ.out]; rfl
  obtain ⟨gp, ⟨gi, gj⟩, gt⟩ := hG
  simp only at gp gi gj gt
  have hp : (p : Int) ≤ 4294967295 := gp.2
  have HA := Lib.hid hA
  have np : (numL p).length ≤ 10 := numL_ten (by omega)
  have hil : (rowL inL ins).length ≤ 6000 := by
    have := bkL_len (b := ⟨p, ins, t⟩) ⟨gp, ⟨gi, gj⟩, gt⟩
    unfold bkL at this
    simp only [List.length_append] at this
    omega
  have HC := Lib.hid (one_put (v := p) hA.start (by omega) (by omega))
  rw [World.size_alloc] at HC
  have H1 := Lib.hid (fun (U : World) (hU : Lies B b (W.alloc ob) (l ++ numL p) U) => layIns_any inL 55 #[.pointer (some ⟨b, 0, none⟩)] #[] w0 B b (l ++ numL p) ins A0 n0 c0 U hB hU.start ((hw.trans hA.k.below).trans hU.k.below) hn0 (by omega) hS0 98000000 (by decide)
    (by simp only [List.length_append]; omega) cf_inst (fun x hxm A c hI l' U' hU' hle => inst_put hB hU'.start (((hw.trans hA.k.below).trans hU.k.below).trans hU'.k.below) (gj x hxm).1 (gj x hxm).2.1 hI (by omega)))
  have hk : 1 ≤ t.k ∧ t.k ≤ 3 := by rcases gt.2 with h | h | h <;> omega
  have H2 := Lib.hid (fun (U : World) (hU : Lies B b (W.alloc ob) (l ++ numL p ++ rowL inL ins) U) => end_put hB hU.start ((hw.trans hA.k.below).trans hU.k.below) gt.1 hk (hn1.symm ▸ hS1) (hn2.symm ▸ hS2) (by simp only [List.length_append]; omega))
  rw [hn1, hn2] at H2
  have HE := Lib.hid (show l ++ bkL ⟨p, ins, t⟩ = l ++ numL p ++ rowL inL ins ++ tmL t by simp [bkL, nL, List.append_assoc])
  rw [HE.out]
  have wp : IntKind.u64.wrap (p : Int) = (p : Int) := IntWalk.u64_in _ (by omega)
  subst hob
  clear h hw hbq hqb hn0 hn1 hn2 hS0 hS1 hS2 hl hB hA hr hqs gp gi gj gt np hil hk
  go_enter Try.func53, Try.ntmps53
  go_wp2_with fail
  refine (HC.out).mono ?_
  rintro e w1 ⟨rfl, h1⟩
  have G1 := Lib.hid (h1)
  have hc0 := G1.out.kept HBQ.out HQB.out (by decide)
  have d100 : w1.cell? ⟨q, 0, none⟩ = some (.pointer (some ⟨b, 0, none⟩)) := by rw [Lib.cell_of_heap hc0]; rfl
  clear hc0
  have hc1 := G1.out.kept HBR.out HR.out (by decide)
  have d111 : w1.cell? ⟨W.heap.size, 1, none⟩ = some (.slice A0 n0 c0) := by rw [Lib.cell_of_heap hc1]; rfl
  clear hc1
  clear h1
  go_wp2_with fail
  refine (H1.out w1 G1.out).mono ?_
  rintro e w2 ⟨rfl, h2⟩
  have G2 := Lib.hid (G1.out.then_ h2)
  have hc0 := G2.out.kept HBQ.out HQB.out (by decide)
  have d200 : w2.cell? ⟨q, 0, none⟩ = some (.pointer (some ⟨b, 0, none⟩)) := by rw [Lib.cell_of_heap hc0]; rfl
  clear hc0
  have hc1 := G2.out.kept HBR.out HR.out (by decide)
  have d212 : w2.cell? ⟨W.heap.size, 2, none⟩ = some (.int .i64 t.k) := by rw [Lib.cell_of_heap hc1]; rfl
  have d213 : w2.cell? ⟨W.heap.size, 3, none⟩ = some (.int .i64 t.a) := by rw [Lib.cell_of_heap hc1]; rfl
  have d214 : w2.cell? ⟨W.heap.size, 4, none⟩ = some (.int .i64 t.t) := by rw [Lib.cell_of_heap hc1]; rfl
  have d215 : w2.cell? ⟨W.heap.size, 5, none⟩ = some (.slice A1 n1 c1) := by rw [Lib.cell_of_heap hc1]; rfl
  have d216 : w2.cell? ⟨W.heap.size, 6, none⟩ = some (.int .i64 t.e) := by rw [Lib.cell_of_heap hc1]; rfl
  have d217 : w2.cell? ⟨W.heap.size, 7, none⟩ = some (.slice A2 n2 c2) := by rw [Lib.cell_of_heap hc1]; rfl
  clear hc1
  clear h2
  go_wp2_with fail
  refine (H2.out w2 G2.out).mono ?_
  rintro e w3 ⟨rfl, h3⟩
  have G3 := Lib.hid (G2.out.then_ h3)
  clear h3
  go_wp2_with fail
  go_end0
  exact ⟨rfl, HA.out.then_ G3.out⟩
theorem row_part {α : Type} {p : α → List UInt8} {l : List α} {x : α} (h : x ∈ l) : (p x).length ≤ (rowL p l).length := by
  obtain ⟨a, c, rfl⟩ := List.append_of_mem h
  unfold rowL
  rw [List.flatMap_append, List.flatMap_cons]
  simp only [List.length_append]
  omega
set_option maxRecDepth 100000 in
set_option maxHeartbeats 4000000 in
theorem blocks_put {w0 : World} {B b : Nat} {l : List UInt8} {xs : List Bk} {A : Option Addr} {n c : Nat} {W : World} (hB : w0.heap.size = B) (h : Lies B b W l W) (hw : Below B w0 W) (hn : xs.length = n) (h9 : n ≤ 16) (hS : Blocks w0 (.slice A n c) xs) (hG : ∀ x ∈ xs, BkG x)
    (hl : l.length + (rowL bkL xs).length ≤ 97000000) :
    Calls Try.prog 36 #[.pointer (some ⟨b, 0, none⟩), .slice A n c] W fun e w' => e = .returned (.tuple #[]) ∧ Lies B b W (l ++ rowL bkL xs) w' := by
  obtain ⟨o, ho⟩ : ∃ o, Obj.cells #[.pointer (some ⟨b, 0, none⟩)] 83 (0, 0) = o := ⟨_, rfl⟩
  have hq : W.heap.size ≠ b := box_lt h
  have hA := h.alloc o
  have hbx : (W.alloc o).heap[W.heap.size]? = some (.cells #[.pointer (some ⟨b, 0, none⟩)] 83 (0, 0)) := by rw [heap_alloc_new, ho]
  have hlen : ∀ x ∈ xs, (bkL x).length ≤ (rowL bkL xs).length := fun x hx => row_part hx
  have HC := Lib.hid (layBks_any bkL 53 #[] #[.pointer (some ⟨W.heap.size, 0, none⟩)] w0 B b l xs A n c (W.alloc o) hB hA.start (hw.trans hA.k.below) hn (by omega) hS 97000000 (by decide) (by omega) cf_block1
    (fun x hxm A0 A1 A2 c0 c1 c2 hI0 hI1 hI2 l' U hU hle => by
      have hg := hG x hxm
      obtain ⟨p, ins, t⟩ := x
      obtain ⟨p, rfl⟩ : ∃ z : Nat, p = z := ⟨p.toNat, by have := hg.1.1; simp only at this; omega⟩
      have hh := hl
      have hx2 := hlen _ hxm
      exact block1_put hB hU.start ((hw.trans hA.k.below).trans hU.k.below) (hU.kept hbx hq (by decide)) hq hg rfl rfl rfl hI0 hI1 hI2 (by omega)))
  have HA := Lib.hid hA
  subst ho
  clear h hw hn h9 hS hG hl hB hA hbx hq hlen
  go_enter Try.func36, Try.ntmps36
  go_wp2_with fail
  refine HC.out.mono ?_
  rintro e w1 ⟨rfl, h1⟩
  have H1 := Lib.hid (HA.out.then_ h1)
  clear h1
  go_wp2_with fail
  go_end0
  exact ⟨rfl, H1.out⟩
end Q
end Go.Proofs.Ytjldddpchiaalaa
