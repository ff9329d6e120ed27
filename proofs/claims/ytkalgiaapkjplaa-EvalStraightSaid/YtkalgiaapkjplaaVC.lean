/- Package eval: the last call has one value more, or goes on to its next instruction. Package eval: a call is closed. Package eval: a block goes on with another one. Package eval: a block ends. -/
import Derived.Test.YtkalgiaapkjplaaV8
namespace Go.Proofs.Ytkalgiaapkjplaa
open Go.RowKit

section
variable {W0 : World} {m : Md} {inp : ByteArray} {R : Nat} {L : Lay} {s : Rs} {W : World}
theorem top_at (h : RunOk W0 m inp R L s W) {pre : List Gc} {y : Gc} (hgs : L.gs = pre ++ [y]) : ∃ og ocap, L.opv = .slice (some ⟨og, 0, none⟩) (pre.length + 1) ocap ∧ L.lab og = 4 ∧ og < W.heap.size ∧ pre.length + 1 ≤ ocap ∧ ocap ≤ maxLen ∧
    W.ownsRow 0 134 4 (.slice (some ⟨og, 0, none⟩) (pre.length + 1) ocap) (pre.length + 1) (gcsV (pre ++ [y])) ∧ (∀ j, j < 4 → W.cell? ⟨og, pre.length * 4 + j, none⟩ = (gcV y)[j]? ∧ W.frozen? ⟨og, pre.length * 4 + j, none⟩ = false) ∧
    W.ownsRow 0 41 1 (.slice (some ⟨y.g, 0, none⟩) y.c.vs.length y.cap) y.c.vs.length (u64s y.c.vs) ∧ L.lab y.g = pre.length + 6 ∧ y.g < W.heap.size := by
  have hop := h.hop
  rw [hgs, List.length_append, List.length_singleton] at hop
  obtain ⟨og, ocap, e, -, hlt⟩ := hop.form (by omega)
  have hop' := hop
  rw [e] at hop'
  have hcap : pre.length + 1 ≤ ocap ∧ ocap ≤ maxLen := by
    rcases hop'.2 with ⟨h1, _⟩ | ⟨g, cap, cur, h1, _, _, h2, h3, _⟩
    · cases h1
    · cases h1; exact ⟨h2, h3⟩
  have hi : pre.length < L.gs.length := by rw [hgs, List.length_append, List.length_singleton]; omega
  have ey : L.gs[pre.length] = y := by simp only [hgs, List.getElem_concat_length]
  obtain ⟨a, b⟩ := h.hv pre.length hi
  rw [ey] at a b
  refine ⟨og, ocap, e, h.top og (by rw [e]; rfl), hlt, hcap.1, hcap.2, hop', fun j hj => ⟨?_, hop'.frozenAt _⟩, a, b, (a.lt y.g rfl).2⟩
  rw [hop'.cellAt _ (by omega), gcsV_at]
theorem top_set (h : RunOk W0 m inp R L s W) {pre : List Gc} {y y' : Gc} {og ocap j : Nat} {v : Value} {W1 : World} {s' : Rs} (hgs : L.gs = pre ++ [y]) (hopv : L.opv = .slice (some ⟨og, 0, none⟩) (pre.length + 1) ocap)
    (hgc : gcV y' = (gcV y).set j v) (hg : y'.g = y.g) (hcap : y'.cap = y.cap) (hbv : y'.bv = y.bv) (hbs : y'.c.bs = y.c.bs) (hk : y'.c.k = y.c.k)
    (hs : W.heap.size ≤ W1.heap.size) (e1 : W1.os = W.os) (e2 : W1.tape = W.tape) (e3 : W1.output = W.output) (hq : ∀ k, k < W.heap.size → L.lab k ≠ pre.length + 6 → W1.heap[k]? = W.heap[k]?)
    (ho : W1.ownsRow 0 41 1 (.slice (some ⟨y'.g, 0, none⟩) y'.c.vs.length y'.cap) y'.c.vs.length (u64s y'.c.vs))
    (h0 : rcells inp L s' = rcells inp L s) (h1 : s'.out = s.out) (h2 : s'.gl = s.gl) (h3 : s'.cs = y'.c :: (pre.map (·.c)).reverse) (h4 : s.steps ≤ s'.steps) :
    RunOk W0 m inp R { L with gs := pre ++ [y'] } s' (W1.setCell ⟨og, pre.length * 4 + j, none⟩ v) ∧ Fr L W (W1.setCell ⟨og, pre.length * 4 + j, none⟩ v) { L with gs := pre ++ [y'] } := by
  obtain ⟨og', ocap', e, hl4, hlt, -, -, hop, -, hv, hl6, hgl⟩ := top_at h hgs
  rw [hopv] at e
  cases e
  have q2 : ∀ k, k ≠ og → (W1.setCell ⟨og, pre.length * 4 + j, none⟩ v).heap[k]? = W1.heap[k]? := fun k hk => heap_setCell_other W1 ⟨og, pre.length * 4 + j, none⟩ k v hk
  have hop1 := own_same (W' := W1) hop (fun g hg' hlt' => hq g hlt' (by cases hg'; rw [hl4]; omega))
  obtain ⟨hop2, -⟩ := hop1.stored (pre.length * 4 + j) v
  rw [gcsV_set, ← hgc, ← gcsV_snoc] at hop2
  have hgo : y.g ≠ og := fun e => by rw [e, hl4] at hl6; omega
  have q : ∀ k, k < W.heap.size → L.lab k ≠ 4 → L.lab k ≠ pre.length + 6 → (W1.setCell ⟨og, pre.length * 4 + j, none⟩ v).heap[k]? = W.heap[k]? := fun k hk a b => (q2 k (fun e => a (by rw [e, hl4]))).trans (hq k hk b)
  have hsz : (W1.setCell ⟨og, pre.length * 4 + j, none⟩ v).heap.size = W1.heap.size := by simp
  have hR := (q R (Array.getElem?_eq_some_iff.1 h.hR).1 (by rw [h.tR]; decide) (by rw [h.tR]; omega)).trans h.hR
  have hb := h.hb y (by rw [hgs]; simp)
  have e5 : L = { L with opv := L.opv } := rfl
  refine ⟨h.top' (lab' := L.lab) (opv' := L.opv) ⟨[y], hgs⟩ ⟨e1, e2, e3, by rw [hsz]; exact hs, fun k hk => q k (Nat.lt_of_lt_of_le hk h.bel.size) (by rw [h.low k hk]; decide) (by rw [h.low k hk]; omega)⟩ (fun k hk _ a b => q k hk a b) (fun _ _ _ _ => rfl) h.low (fun k hk => h.high k (by rw [hsz] at hk; omega)) (by rw [hopv]; exact hop2) h.top (own_same ho (fun g hg' _ => q2 g (by cases hg'; rw [hg]; exact hgo))) (by rw [hg]; exact hl6) (by rw [hbv, hbs, hk, hcap]; exact hb) ?_ h1 h2 h3 h4, by rw [hsz]; exact hs, fun k hk a => ⟨q k hk (by omega) (by omega), a⟩⟩
  rw [← e5, h0]
  exact hR
end
/-- the next instruction -/
def nxG (y : Gc) : Gc := { y with c := { y.c with nx := y.c.nx + 1 } }
/-- one value more -/
def vsG (y : Gc) (v : Int) : Gc := { y with c := { y.c with vs := y.c.vs ++ [v] } }
theorem top_nx {W0 : World} {m : Md} {inp : ByteArray} {R : Nat} {L : Lay} {s : Rs} {W : World} (h : RunOk W0 m inp R L s W) {pre : List Gc} {y : Gc} {og ocap : Nat} (hgs : L.gs = pre ++ [y]) (hopv : L.opv = .slice (some ⟨og, 0, none⟩) (pre.length + 1) ocap) :
    RunOk W0 m inp R { L with gs := pre ++ [nxG y] } { s with cs := (nxG y).c :: (pre.map (·.c)).reverse } (W.setCell ⟨og, pre.length * 4 + 2, none⟩ (.int .i64 ((y.c.nx + 1 : Nat) : Int))) ∧
      Fr L W (W.setCell ⟨og, pre.length * 4 + 2, none⟩ (.int .i64 ((y.c.nx + 1 : Nat) : Int))) { L with gs := pre ++ [nxG y] } := by
  obtain ⟨_, _, _, _, _, _, _, _, _, hv, _, _⟩ := top_at h hgs
  exact top_set h hgs hopv rfl rfl rfl rfl rfl rfl (Nat.le_refl _) rfl rfl rfl (fun _ _ _ => rfl) hv rfl rfl rfl rfl (Nat.le_refl _)
theorem top_val {W0 : World} {m : Md} {inp : ByteArray} {R : Nat} {L : Lay} {s : Rs} {W W1 : World} {o : Obj} (h : RunOk W0 m inp R L s W) {pre : List Gc} {y : Gc} {og ocap : Nat} {v : Int} (hgs : L.gs = pre ++ [y]) (hopv : L.opv = .slice (some ⟨og, 0, none⟩) (pre.length + 1) ocap)
    (hg : (W.alloc o).grownBy W1 (some y.g)) (ho : W1.ownsRow 0 41 1 (.slice (some ⟨y.g, 0, none⟩) (y.c.vs.length + 1) y.cap) (y.c.vs.length + 1) (u64s y.c.vs ++ [.int .u64 v])) :
    RunOk W0 m inp R { L with gs := pre ++ [vsG y v] } { s with cs := (vsG y v).c :: (pre.map (·.c)).reverse } (W1.setCell ⟨og, pre.length * 4 + 3, none⟩ (.slice (some ⟨y.g, 0, none⟩) (y.c.vs.length + 1) y.cap)) ∧
      Fr L W (W1.setCell ⟨og, pre.length * 4 + 3, none⟩ (.slice (some ⟨y.g, 0, none⟩) (y.c.vs.length + 1) y.cap)) { L with gs := pre ++ [vsG y v] } := by
  obtain ⟨_, _, _, _, _, _, _, _, _, hv, hl6, _⟩ := top_at h hgs
  have hsz := hg.size
  simp at hsz
  refine top_set h hgs hopv (y' := vsG y v) ?_ rfl rfl rfl rfl rfl (by omega) hg.os hg.tape hg.output (fun k hk hl => (hg.block k (by simp; omega) (fun e => hl (by cases e; exact hl6))).trans (heap_alloc_old W o hk)) ?_ rfl rfl rfl rfl (Nat.le_refl _)
  · simp [gcV, vsG]
  · have e : (vsG y v).c.vs.length = y.c.vs.length + 1 := by simp [vsG]
    rw [e]
    simpa [vsG, u64s] using ho
end Go.Proofs.Ytkalgiaapkjplaa

namespace Go.Proofs.Ytkalgiaapkjplaa
open Go.RowKit

set_option maxRecDepth 100000 in
set_option maxHeartbeats 4000000 in
theorem give_last {W0 : World} {m : Md} {inp : ByteArray} {R : Nat} {L : Lay} {s : Rs} (w : World) (h : RunOk W0 m inp R L s w) (x : Gc) (hgs : L.gs = [x]) (v : Int) :
    Calls Try.prog 119 #[.pointer (some ⟨R, 0, none⟩), .int .u64 v] w (CallPost W0 m inp R L { s with en := true, co := v, cs := [] } w) := by
  obtain ⟨u0, hu0⟩ : ∃ u, w.drew = u := ⟨_, rfl⟩
  have hB0 : Below w.heap.size w u0 := by rw [← hu0]; exact drew_below w
  have h0 := h.quiet hB0
  obtain ⟨og, ocap, e, -, -, hc1, hc2, -, -, -, -, -⟩ := top_at h0 (pre := []) hgs
  have c10 : u0.cell? ⟨R, 10, none⟩ = some (.slice (some ⟨og, 0, none⟩) 1 ocap) := by rw [rcell h0 10]; simp [rcells, e]
  have z10 := rfrozen h0 10
  obtain ⟨a1, b1⟩ := h0.pop (pre := []) (s' := { s with cs := [] }) hgs e rfl rfl rfl rfl rfl
  have o0 : (0 : Int) ≤ (ocap : Int) := by omega
  have o1 : (1 : Int) ≤ (ocap : Int) := by simp at hc1; omega
  have HA := Lib.hid a1
  have HF := Lib.hid ((fr_quiet (L := L) hB0).trans b1)
  obtain ⟨u1, hu1⟩ : ∃ u, u0.setCell ⟨R, 10, none⟩ (.slice (some ⟨og, 0, none⟩) 0 ocap) = u := ⟨_, rfl⟩
  have HU1 := Lib.hid (show ∃ L', RunOk W0 m inp R L' { s with cs := [] } u1 ∧ Fr L w u1 L' ∧ L'.gn = L.gn ∧ u1.cell? ⟨R, 10, none⟩ = some (.slice (some ⟨og, 0, none⟩) 0 ocap) by
    rw [← hu1]
    exact ⟨_, HA.out, HF.out, rfl, rcell HA.out 10⟩)
  clear HA HF
  obtain ⟨L', ha, hf, hgn, d10⟩ := HU1.out
  have HA := Lib.hid ha
  have d0 : u1.cell? ⟨R, 0, none⟩ = some (.bool s.en) := rcell ha 0
  have f0 := rfrozen ha 0
  have e1 : (u1.setCell ⟨R, 0, none⟩ (.bool true)).heap[R]? = some (.cells (rcells inp L' { s with en := true, cs := [] }) 102 (0, 0)) := heap_setCell_same u1 R 0 _ _ _ ha.hR
  have d1 : (u1.setCell ⟨R, 0, none⟩ (.bool true)).cell? ⟨R, 1, none⟩ = some (.int .u64 s.co) := Lib.cell_of_heap e1 1
  have f1 : (u1.setCell ⟨R, 0, none⟩ (.bool true)).frozen? ⟨R, 1, none⟩ = false := frozen_of_row _ R 1 _ _ e1
  have HFIN := Lib.hid (show CallPost W0 m inp R L { s with en := true, co := v, cs := [] } w (.returned (.tuple #[])) ((u1.setCell ⟨R, 0, none⟩ (.bool true)).setCell ⟨R, 1, none⟩ (.int .u64 v)) by
    obtain ⟨a, b⟩ := ha.setR (W' := (u1.setCell ⟨R, 0, none⟩ (.bool true)).setCell ⟨R, 1, none⟩ (.int .u64 v)) (s' := { s with en := true, co := v, cs := [] })
      ⟨rfl, rfl, rfl, by simp, fun k hk hn => (heap_setCell_other _ ⟨R, 1, none⟩ k _ (fun e => hn (by simp [e]))).trans (heap_setCell_other _ ⟨R, 0, none⟩ k _ (fun e => hn (by simp [e])))⟩
      (heap_setCell_same _ R 1 _ _ _ e1) rfl rfl rfl (Nat.le_refl _)
    exact ⟨⟨_, rfl⟩, L', a, hf.trans b, hgn⟩)
  clear e1 ha hf hgn HU1
  clear h h0 hc1 hc2 hgs a1 b1 hB0
  have hw0 : IntKind.i64.wrap (0 : Int) = 0 := by rw [IntKind.wrap_i64]; omega
  go_enter Try.func119, Try.ntmps119
  go_wp2_with fail
  refine tail_drewV 14 (by kernel_rfl) (by kernel_rfl) ?_
  rw [hu0]
  simp only [List.take_succ_cons, List.take_zero, List.drop_succ_cons, List.drop_zero]
  repeat still_step
  try refine wpStill_nil ?_
  go_wp2_with fail
  exact bodyPost_ret (results_none Try.results119 _ _ _) rfl HFIN.out
set_option maxRecDepth 100000 in
set_option maxHeartbeats 4000000 in
theorem give_more {W0 : World} {m : Md} {inp : ByteArray} {R : Nat} {L : Lay} {s : Rs} (w : World) (h : RunOk W0 m inp R L s w) (pre : List Gc) (y x : Gc) (hgs : L.gs = (pre ++ [y]) ++ [x]) (hp : pre.length ≤ 64) (hy : y.c.vs.length < y.cap) (hy9 : y.cap ≤ 44) (v : Int) :
    Calls Try.prog 119 #[.pointer (some ⟨R, 0, none⟩), .int .u64 v] w (CallPost W0 m inp R L { s with cs := (vsG y v).c :: (pre.map (·.c)).reverse } w) := by
  obtain ⟨u0, hu0⟩ : ∃ u, w.drew = u := ⟨_, rfl⟩
  have hB0 : Below w.heap.size w u0 := by rw [← hu0]; exact drew_below w
  have h0 := h.quiet hB0
  obtain ⟨og, ocap, e, -, -, hc1, hc2, -, -, -, -, -⟩ := top_at h0 hgs
  obtain ⟨np, hnp⟩ : ∃ n, pre.length = n := ⟨_, rfl⟩
  rw [List.length_append, List.length_singleton, hnp] at e hc1
  have c10 : u0.cell? ⟨R, 10, none⟩ = some (.slice (some ⟨og, 0, none⟩) (np + 1 + 1) ocap) := by rw [rcell h0 10]; simp [rcells, e]
  have z10 := rfrozen h0 10
  have hpop := h0.pop (s' := { s with cs := ((pre ++ [y]).map (·.c)).reverse }) hgs (by rw [List.length_append, List.length_singleton, hnp]; exact e) rfl rfl rfl rfl rfl
  rw [List.length_append, List.length_singleton, hnp] at hpop
  obtain ⟨a1, b1⟩ := hpop
  have HF := Lib.hid ((fr_quiet (L := L) hB0).trans b1)
  obtain ⟨u1, hu1⟩ : ∃ u, u0.setCell ⟨R, 10, none⟩ (.slice (some ⟨og, 0, none⟩) (np + 1) ocap) = u := ⟨_, rfl⟩
  have HU1 := Lib.hid (show ∃ L', RunOk W0 m inp R L' { s with cs := ((pre ++ [y]).map (·.c)).reverse } u1 ∧ Fr L w u1 L' ∧ L'.gn = L.gn ∧ L'.gs = pre ++ [y] ∧ L'.opv = .slice (some ⟨og, 0, none⟩) (np + 1) ocap by
    rw [← hu1]
    exact ⟨_, a1, HF.out, rfl, rfl, rfl⟩)
  clear HF
  obtain ⟨L', ha, hf, hgn, hgs', hopv'⟩ := HU1.out
  have HA := Lib.hid ha
  have d10 : u1.cell? ⟨R, 10, none⟩ = some (.slice (some ⟨og, 0, none⟩) (np + 1) ocap) := by rw [rcell ha 10]; simp [rcells, hopv']
  have HW := Lib.hid (show Fr L w u1 L' ∧ L'.gn = L.gn ∧ L'.gs = pre ++ [y] ∧ L'.opv = .slice (some ⟨og, 0, none⟩) (np + 1) ocap from ⟨hf, hgn, hgs', hopv'⟩)
  have HNP := Lib.hid (show pre.length ≤ np ∧ np ≤ pre.length by omega)
  have HYY := Lib.hid (show y.c.vs.length < y.cap ∧ y.cap ≤ 44 from ⟨hy, hy9⟩)
  have hwn : IntKind.i64.wrap (np : Int) = (np : Int) := by rw [IntKind.wrap_i64]; omega
  have hwn1 : IntKind.i64.wrap ((np : Int) + 1) = (np : Int) + 1 := by rw [IntKind.wrap_i64]; omega
  have hln : (np : Int) < (np : Int) + 1 := by omega
  have n0 : (0 : Int) ≤ (np : Int) := by omega
  have n1 : (0 : Int) ≤ (np : Int) + 1 := by omega
  have n2 : (np : Int) + 1 ≤ (ocap : Int) := by omega
  have n64 : (np : Int) ≤ 64 := by omega
  clear h h0 hc1 hc2 hgs a1 b1 hB0 ha hf hgn hgs' hopv' HU1 e hnp hy hy9
  go_enter Try.func119, Try.ntmps119
  go_wp2_with fail
  refine tail_drewV 14 (by kernel_rfl) (by kernel_rfl) ?_
  rw [hu0]
  simp only [List.take_succ_cons, List.take_zero, List.drop_succ_cons, List.drop_zero]
  repeat still_step
  try refine wpStill_nil ?_
  go_wp2_with fail
  go_quiet (fail)
  have HB2 := Lib.hid (drewN_below' u1 nq)
  have HA2 := Lib.hid (HA.out.quiet HB2.out)
  have HF2 := Lib.hid (HW.out.1.trans (fr_quiet (L := L') HB2.out))
  clear d10
  generalize u1.drewN nq = u2 at *
  obtain ⟨i0, hi, hz0, hz1, hz2⟩ := info_three u64_info
  have HTP := Lib.hid (show u2.cell? ⟨og, np * 4 + 3, none⟩ = some (.slice (some ⟨y.g, 0, none⟩) y.c.vs.length y.cap) ∧ (u2.alloc (.cells #[.int .u64 v] 41)).ownsRow 0 41 1 (.slice (some ⟨y.g, 0, none⟩) y.c.vs.length y.cap) y.c.vs.length (u64s y.c.vs) ∧
      ∀ w5 : World, w5.ownsRow 0 41 1 (.slice (some ⟨y.g, 0, none⟩) (y.c.vs.length + 1) y.cap) (y.c.vs.length + 1) (u64s y.c.vs ++ [.int .u64 v]) → (u2.alloc (.cells #[.int .u64 v] 41)).grownBy w5 (some y.g) →
        (CallPost W0 m inp R L { s with cs := (vsG y v).c :: (pre.map (·.c)).reverse } w (.returned (.tuple #[])) (w5.setCell ⟨og, np * 4 + 3, none⟩ (.slice (some ⟨y.g, 0, none⟩) (y.c.vs.length + 1) y.cap)) ∧ w5.frozen? ⟨og, np * 4 + 3, none⟩ = false ∧ ∃ z, w5.cell? ⟨og, np * 4 + 3, none⟩ = some z) by
    have hnp : pre.length = np := by have := HNP.out; omega
    subst hnp
    obtain ⟨-, hgn, hgs', hopv'⟩ := HW.out
    obtain ⟨og', ocap', e, hl4, hlt, -, -, hop, hcs, hv, hl6, hgl⟩ := top_at HA2.out hgs'
    rw [hopv'] at e
    cases e
    obtain ⟨q1, q2⟩ := hcs 3 (by decide)
    refine ⟨q1, hv.alloc _, fun w5 h5 g5 => ?_⟩
    obtain ⟨a, b⟩ := top_val HA2.out hgs' hopv' g5 h5
    have hne : og ≠ y.g := fun e => by rw [← e, hl4] at hl6; omega
    have hb : w5.heap[og]? = u2.heap[og]? := (g5.block og (by simp; omega) (by simpa using hne)).trans (heap_alloc_old u2 _ hlt)
    refine ⟨⟨⟨_, rfl⟩, _, a, HF2.out.trans b, hgn⟩, ?_, ?_⟩
    · rw [World.frozen?_of_block (w := u2) (a := ⟨og, pre.length * 4 + 3, none⟩) hb]; exact q2
    · exact ⟨_, (World.cell?_of_block (w := u2) (a := ⟨og, pre.length * 4 + 3, none⟩) hb).trans q1⟩)
  obtain ⟨yg, hyg⟩ : ∃ x, y.g = x := ⟨_, rfl⟩
  obtain ⟨yc, hyc⟩ : ∃ x, y.cap = x := ⟨_, rfl⟩
  obtain ⟨ny, hny⟩ : ∃ x, y.c.vs.length = x := ⟨_, rfl⟩
  rw [hyg, hyc, hny] at HTP
  rw [hyc, hny] at HYY
  obtain ⟨c3, ho, hfin⟩ := HTP.out
  have HO := Lib.hid ho
  have HFIN := Lib.hid hfin
  clear HTP ho hfin hyg hyc hny hz0 hz2
  go_wp2_with (at_builtin; refine wpList_append_fits rfl _ _ _ rfl 0 41 i0 1 Try.underlying105 hi hz1 yg ny yc (u64s y.c.vs) rfl HO.out ⟨u2.heap.size, 0, none⟩ 1 1 [.int .u64 v] rfl rfl (World.news_of_block (heap_alloc_new u2 _)) (by intro u hu; simp at hu; subst hu; rfl) (by have := HYY.out; omega) ?_; intro w5 h5 g5; obtain ⟨hp5, z3, zz, c35⟩ := HFIN.out w5 h5 g5; have HP5 := Lib.hid hp5; clear hp5 h5 g5)
  exact bodyPost_end (results_none Try.results119 _ _ _) rfl HP5.out
end Go.Proofs.Ytkalgiaapkjplaa

namespace Go.Proofs.Ytkalgiaapkjplaa
open Go.RowKit

theorem gcsV_put (pre : List Gc) (l : List Value) (j : Nat) (v : Value) : (gcsV pre ++ l).set (pre.length * 4 + j) v = gcsV pre ++ l.set j v := by
  rw [List.set_append_right _ _ (by rw [gcsV_length]; omega), gcsV_length, Nat.add_sub_cancel_left]
/-- a block of the last call begins: memory -/
theorem enter_ok {W0 : World} {m : Md} {inp : ByteArray} {R : Nat} {L : Lay} {s : Rs} {u w' : World} {pre : List Gc} {y : Gc} {og ocap k cap : Nat} {hd : List Int} {e : Ending} {b : Bk} (h : RunOk W0 m inp R L s u) (hgs : L.gs = pre ++ [y]) (hopv : L.opv = .slice (some ⟨og, 0, none⟩) (pre.length + 1) ocap)
    (he : EnterPost og ocap (pre.length + 1) pre.length k (gcsV (pre ++ [y])) cap hd u e w') (hb : y.c.bs[k]? = some b) (hcap : (cap : Int) = b.p + b.i.length) :
    ∃ L', RunOk W0 m inp R L' { s with cs := ⟨y.c.bs, k, 0, hd⟩ :: (pre.map (·.c)).reverse } w' ∧ Fr L u w' L' ∧ L'.gn = L.gn := by
  obtain ⟨-, g, hg0, hg1, hgr, ho, hv⟩ := he
  obtain ⟨og', ocap', e, hl4, hlt, -, -, hop, -, -, hl6, hgl⟩ := top_at h hgs
  rw [hopv] at e
  cases e
  have hat : L.lab g = pre.length + 6 ∨ u.heap.size ≤ g := .inr hg0
  have q : ∀ k, k < u.heap.size → L.lab k ≠ 4 → w'.heap[k]? = u.heap[k]? := fun k hk h4 => hgr.block k hk (fun e => h4 (by cases e; exact hl4))
  have hgo : g ≠ og := by omega
  have hR := (q R (Array.getElem?_eq_some_iff.1 h.hR).1 (by rw [h.tR]; decide)).trans h.hR
  refine ⟨{ L with gs := pre ++ [⟨⟨y.c.bs, k, 0, hd⟩, y.bv, g, cap⟩], lab := relab L g (pre.length + 6) }, ?_, ⟨hgr.size, fun k hk h0 => ⟨q k hk (by omega), relab_zero (by omega) hat hk h0⟩⟩, rfl⟩
  refine h.top' (opv' := L.opv) ⟨[y], hgs⟩ ⟨hgr.os, hgr.tape, hgr.output, hgr.size, fun k hk => q k (Nat.lt_of_lt_of_le hk h.bel.size) (by rw [h.low k hk]; decide)⟩ (fun k hk _ a _ => q k hk a) (fun k a _ b => relab_ne h hat a b) (fun k hk => relab_low h (by omega) hat hk) (fun k hk => relab_high h hg1 hgr.size hk) ?_ ?_ hv (relab_self g _) ⟨(h.hb y (by rw [hgs]; simp)).1, b, hb, hcap⟩ ?_ rfl rfl rfl (Nat.le_refl _)
  · rw [hopv]
    rw [gcsV_set, gcsV_put, gcsV_put] at ho
    rw [gcsV_snoc]
    exact ho
  · intro q hq
    rw [hopv] at hq
    cases hq
    exact (relab_ne h hat (by rw [hl4]; decide) (by rw [hl4]; omega)).trans hl4
  · exact hR
theorem callPost_any {W0 : World} {m : Md} {inp : ByteArray} {R : Nat} {L : Lay} {s' : Rs} {w w' : World} {e : Ending} (h : CallPost W0 m inp R L s' w e w') (v : Value) : CallPost W0 m inp R L s' w (.returned v) w' := ⟨⟨v, rfl⟩, h.2⟩
set_option maxRecDepth 100000 in
set_option maxHeartbeats 4000000 in
theorem goes_run {W0 : World} {m : Md} {inp : ByteArray} {R : Nat} {L : Lay} {s : Rs} (w : World) (h : RunOk W0 m inp R L s w) (pre : List Gc) (y : Gc) (hgs : L.gs = pre ++ [y]) (og ocap Bc : Nat) (hopv : L.opv = .slice (some ⟨og, 0, none⟩) (pre.length + 1) ocap)
    (hbox : w.cell? ⟨Bc, 0, none⟩ = some (.pointer (some ⟨og, pre.length * 4, none⟩))) (hl0 : L.lab Bc = 0) (k : Nat) (b : Bk) (hb : y.c.bs[k]? = some b) (cap : Nat) (hcap : (cap : Int) = b.p + b.i.length) (hc6 : cap ≤ 44)
    (l : List Int) (A : Option Addr) (nl ca : Nat) (hnl : l.length = nl) (hl6 : nl ≤ 6) (hl : Ints w (.slice A nl ca) l) (hin : ∀ x ∈ l, 0 ≤ x ∧ x < y.c.vs.length) (hfit : nl ≤ cap) :
    Calls Try.prog 118 #[.int .i64 k, .slice A nl ca, .pointer (some ⟨Bc, 0, none⟩)] w (CallPost W0 m inp R L { s with cs := ⟨y.c.bs, k, 0, pickE y.c.vs l⟩ :: (pre.map (·.c)).reverse } w) := by
  obtain ⟨u0, hu0⟩ : ∃ u, w.drew = u := ⟨_, rfl⟩
  have hB0 : Below w.heap.size w u0 := by rw [← hu0]; exact drew_below w
  have h0 := h.quiet hB0
  have cb : u0.cell? ⟨Bc, 0, none⟩ = some (.pointer (some ⟨og, pre.length * 4, none⟩)) := by rw [← hbox, ← hu0]; rfl
  have hBl : Bc < u0.heap.size := World.block_lt_of_cell? u0 _ cb
  obtain ⟨og', ocap', e, hl4, hlt, -, -, hop, hcs, hv, hlv, hgl⟩ := top_at h0 hgs
  rw [hopv] at e
  cases e
  have HKN := Lib.hid (known_any og (pre.length * 4) y.g y.cap y.c.vs.length nl y.c.vs l A ca u0 rfl hnl hl6 ((hcs 3 (by decide)).1) hv (hl.next hB0) hin)
  have HEN := Lib.hid (fun (u1 : World) (hn1 : u1.ownsRow 0 41 1 (.slice (some ⟨u0.heap.size, 0, none⟩) nl nl) nl (u64s (pickE y.c.vs l))) (hb1 : Below u0.heap.size u0 u1) =>
    show Calls Try.prog 115 #[.pointer (some ⟨og, pre.length * 4, none⟩), .int .i64 k, .slice (some ⟨u0.heap.size, 0, none⟩) nl nl] u1 (fun e w' => CallPost W0 m inp R L { s with cs := ⟨y.c.bs, k, 0, pickE y.c.vs l⟩ :: (pre.map (·.c)).reverse } w e w' ∧ w'.cell? ⟨Bc, 0, none⟩ = some (.pointer (some ⟨og, pre.length * 4, none⟩))) from by
      have h1 := h0.quiet hb1
      obtain ⟨og', ocap', e, hl4', hlt1, -, -, hop1, hcs1, -, -, -⟩ := top_at h1 hgs
      rw [hopv] at e
      cases e
      obtain ⟨hB, b', hb', -⟩ := h.hb y (by rw [hgs]; simp)
      have hk := (List.getElem?_eq_some_iff.1 hb).1
      obtain ⟨A', cap', e'⟩ := RowOf.slice hB
      have hB' := hB
      rw [e'] at hB'
      obtain ⟨bb', bo', hA', hbl', hBk'⟩ := RowOf.at_ hB' hk
      subst hA'
      rw [(List.getElem?_eq_some_iff.1 hb).2] at hBk'
      have hne : bb' ≠ og := fun e => by rw [← e, h.low _ hbl'] at hl4'; cases hl4'
      have hlen : (pickE y.c.vs l).length = nl := by rw [pick_length, hnl]
      refine (enter_any og ocap (pre.length + 1) pre.length k cap (gcsV (pre ++ [y])) bb' bo' y.c.bs.length cap' b (.slice (some ⟨u0.heap.size, 0, none⟩) nl nl) (pickE y.c.vs l) u1 (by omega) hop1 ?_ hk hne (BkAt.next W0 u1 _ _ _ hbl' h1.bel hBk') hcap hc6 (.inr ⟨u0.heap.size, nl, by rw [hlen], by omega, by rw [hlen]; exact hn1⟩) (by rw [hlen]; exact hfit)).mono ?_
      · have := gcsV_at pre y 0
        rw [Nat.add_zero] at this
        rw [this, ← e']
        rfl
      · intro e w' he
        obtain ⟨L', a, c, d⟩ := enter_ok h1 hgs hopv he hb hcap
        have hF := (fr_quiet (L := L) hB0).trans ((fr_quiet (L := L) hb1).trans c)
        exact ⟨⟨he.1, L', a, hF, d⟩, (World.cell?_of_block (w := w) (a := ⟨Bc, 0, none⟩) (hF.2 Bc (World.block_lt_of_cell? w _ hbox) hl0).1).trans hbox⟩)
  have HBX := Lib.hid (fun (u1 : World) (hb1 : Below u0.heap.size u0 u1) => show u1.cell? ⟨Bc, 0, none⟩ = some (.pointer (some ⟨og, pre.length * 4, none⟩)) from (cellNext hBl hb1 _).trans cb)
  obtain ⟨off, hoff⟩ : ∃ x, pre.length * 4 = x := ⟨_, rfl⟩
  rw [hoff] at cb HKN HEN HBX
  clear h hgs hopv hbox hl0 hb hcap hc6 hnl hl6 hl hin hfit hB0 h0 hBl hl4 hlt hop hcs hv hlv hgl hoff
  go_enter Try.func118, Try.ntmps118
  go_wp2_with fail
  refine wp_region_held_drew (S := (fun U => U.cell? ⟨Bc, 0, none⟩ = some (.pointer (some ⟨og, off, none⟩)))) (by kernel_rfl) (by rw [hu0]; exact cb) ?_
  rw [hu0]
  intro hHeld
  refine wpAnyH_take (i := 0) (v := ?_) rfl (by kernel_rfl) (by kernel_rfl) (by kernel_rfl) (fun _ _ _ h => h) (Or.inl ⟨by rfl, ?_⟩) hHeld ?_
  rotate_left
  · intro W' hSw; (try dsimp only at hSw); go_simp; try (with_reducible rfl)
  (try simp only [Act.put, List.getElem_toArray, List.getElem_cons_zero, List.setIfInBounds_toArray, List.set_cons_zero, List.set_cons_succ])
  refine wpAnyH_take (i := 1) (v := ?_) rfl (by kernel_rfl) (by kernel_rfl) (by kernel_rfl) (fun _ _ _ h => h) (Or.inl ⟨by rfl, ?_⟩) hHeld ?_
  rotate_left
  · intro W' hSw; (try dsimp only at hSw); go_simp; try (with_reducible rfl)
  (try simp only [Act.put, List.getElem_toArray, List.getElem_cons_zero, List.getElem_cons_succ, List.setIfInBounds_toArray, List.set_cons_zero, List.set_cons_succ])
  refine wpAnyH_take (i := 2) (v := ?_) rfl (by kernel_rfl) (by kernel_rfl) (by kernel_rfl) (fun _ _ _ h => h) (Or.inl ⟨by rfl, ?_⟩) hHeld ?_
  rotate_left
  · intro W' hSw; (try dsimp only at hSw); go_simp; try (with_reducible rfl)
  (try simp only [Act.put, List.getElem_toArray, List.getElem_cons_zero, List.getElem_cons_succ, List.setIfInBounds_toArray, List.set_cons_zero, List.set_cons_succ])
  refine wpAnyH_take (i := 3) (v := ?_) rfl (by kernel_rfl) (by kernel_rfl) (by kernel_rfl) (fun _ _ _ h => h) (Or.inl ⟨by rfl, ?_⟩) hHeld ?_
  rotate_left
  · intro W' hSw; (try dsimp only at hSw); go_simp; try (with_reducible rfl)
  (try simp only [Act.put, List.getElem_toArray, List.getElem_cons_zero, List.getElem_cons_succ, List.setIfInBounds_toArray, List.set_cons_zero, List.set_cons_succ])
  refine wpAnyH_ready (rs := [4]) (by kernel_rfl) (by simp) ?_
  refine AllReadyH.cons rfl (fun K hK => ?_) AllReadyH.nil
  go_simp
  refine HKN.out.mono ?_
  rintro e u1 ⟨rfl, hn1, hb1⟩
  have HC := Lib.hid (HEN.out u1 hn1 hb1)
  have cb1 := HBX.out u1 hb1
  refine hK.out _ _ cb1 (fun hHeld1 => ?_)
  clear hK hn1 hb1
  (try simp only [Act.put, List.getElem_toArray, List.getElem_cons_zero, List.getElem_cons_succ, List.setIfInBounds_toArray, List.set_cons_zero, List.set_cons_succ])
  refine wpAnyH_ready (rs := [5]) (by kernel_rfl) (by simp) ?_
  refine AllReadyH.cons rfl (fun K hK => ?_) AllReadyH.nil
  go_simp
  refine HC.out.mono ?_
  intro e u2 hh
  obtain ⟨hp, cb2⟩ := hh
  obtain ⟨⟨v, rfl⟩, -⟩ := id hp
  have HP := Lib.hid hp
  clear hp
  refine hK.out _ _ cb2 (fun _ => ?_)
  clear hK
  (try simp only [Act.put, List.getElem_toArray, List.getElem_cons_zero, List.getElem_cons_succ, List.setIfInBounds_toArray, List.set_cons_zero, List.set_cons_succ])
  refine wpAnyH_done (by kernel_rfl) ?_ _
  go_wp2_with fail
  exact bodyPost_end (results_none Try.results118 _ _ _) rfl (callPost_any HP.out _)
end Go.Proofs.Ytkalgiaapkjplaa

namespace Go.Proofs.Ytkalgiaapkjplaa
open Go.RowKit

/-- a block that there is, with what it is handed -/
def ToOk (y : Cl) (d : Int) (l : List Int) : Prop := ∃ (k cap : Nat) (b : Bk), d = k ∧ y.bs[k]? = some b ∧ (cap : Int) = b.p + b.i.length ∧ cap ≤ 44 ∧ l.length ≤ 6 ∧ (∀ x ∈ l, 0 ≤ x ∧ x < y.vs.length) ∧ l.length ≤ cap
theorem two_boxes (w : World) (p : Value) (cs : Array Value) (T1 T2 : TypeId) : Below w.heap.size w ((w.alloc (.cells #[p] T1)).alloc (.cells cs T2)) ∧ ((w.alloc (.cells #[p] T1)).alloc (.cells cs T2)).cell? ⟨w.heap.size, 0, none⟩ = some p ∧ ∀ j, ((w.alloc (.cells #[p] T1)).alloc (.cells cs T2)).cell? ⟨w.heap.size + 1, j, none⟩ = cs[j]? := by
  have h1 := heap_alloc_new w (.cells #[p] T1)
  have h2 := heap_alloc_new (w.alloc (.cells #[p] T1)) (.cells cs T2)
  rw [World.size_alloc] at h2
  refine ⟨balloc (balloc (Below.refl _ w) _) _, ?_, fun j => Lib.cell_of_heap h2 j⟩
  have h3 := ((balloc (Below.refl _ (w.alloc (.cells #[p] T1))) (.cells cs T2)).block w.heap.size (by simp)).trans h1
  rw [Lib.cell_of_heap h3 0]
  rfl
set_option maxRecDepth 100000 in
set_option maxHeartbeats 4000000 in
theorem end_ret {W0 : World} {m : Md} {inp : ByteArray} {R : Nat} {L : Lay} {s : Rs} (w : World) (h : RunOk W0 m inp R L s w) (pre : List Gc) (y : Gc) (hgs : L.gs = pre ++ [y]) (og ocap : Nat) (hopv : L.opv = .slice (some ⟨og, 0, none⟩) (pre.length + 1) ocap)
    (a t e : Int) (Al Am : Option Addr) (nl cl nm cm : Nat) (an : Nat) (ha : a = an) (han : an < y.c.vs.length) (s' : Rs)
    (hgive : ∀ u, RunOk W0 m inp R L s u → Calls Try.prog 119 #[.pointer (some ⟨R, 0, none⟩), .int .u64 (y.c.vs.getD an 0)] u (CallPost W0 m inp R L s' u)) :
    Calls Try.prog 92 #[.pointer (some ⟨R, 0, none⟩), .pointer (some ⟨og, pre.length * 4, none⟩), .agg #[.int .i64 3, .int .i64 a, .int .i64 t, .slice Al nl cl, .int .i64 e, .slice Am nm cm]] w (CallPost W0 m inp R L s' w) := by
  obtain ⟨hB2, cb, ct⟩ := two_boxes w (.pointer (some ⟨og, pre.length * 4, none⟩)) #[.int .i64 3, .int .i64 a, .int .i64 t, .slice Al nl cl, .int .i64 e, .slice Am nm cm] 132 55
  have t0 := ct 0
  have t1 := ct 1
  have t2 := ct 2
  have t3 := ct 3
  have t4 := ct 4
  have t5 := ct 5
  simp only [List.getElem?_toArray, List.getElem?_cons_zero, List.getElem?_cons_succ] at t0 t1 t2 t3 t4 t5
  obtain ⟨W2, hW2⟩ : ∃ W, ((w.alloc (.cells #[.pointer (some ⟨og, pre.length * 4, none⟩)] 132)).alloc (.cells #[.int .i64 3, .int .i64 a, .int .i64 t, .slice Al nl cl, .int .i64 e, .slice Am nm cm] 55)) = W := ⟨_, rfl⟩
  rw [hW2] at hB2 cb t0 t1 t2 t3 t4 t5
  have HB2 := Lib.hid hB2
  have H2 := Lib.hid (h.quiet hB2)
  have hlh : L.lab w.heap.size = 0 := h.high _ (Nat.le_refl _)
  subst ha
  obtain ⟨og', ocap', e', hl4, hlt, -, -, hop, hcs, hv, hlv, hgl⟩ := top_at H2.out hgs
  rw [hopv] at e'
  cases e'
  have c3 : W2.cell? ⟨og, pre.length * 4 + 3, none⟩ = some (.slice (some ⟨y.g, 0, none⟩) y.c.vs.length y.cap) := (hcs 3 (by decide)).1
  have cv : W2.cell? ⟨y.g, an, none⟩ = some (.int .u64 (y.c.vs.getD an 0)) := by
    rw [hv.cellAt an (by omega)]
    simp [u64s, List.getElem?_eq_getElem han]
  have HG := Lib.hid (fun (u : World) (hb : Below W2.heap.size W2 u) => (hgive u (H2.out.quiet hb)).mono fun e w' (hp : CallPost W0 m inp R L s' u e w') => (show CallPost W0 m inp R L s' w e w' from ⟨hp.1, by obtain ⟨L', x1, x2, x3⟩ := hp.2; exact ⟨L', x1, (fr_quiet HB2.out).trans ((fr_quiet hb).trans x2), x3⟩⟩))
  obtain ⟨off, hoff⟩ : ∃ x, pre.length * 4 = x := ⟨_, rfl⟩
  obtain ⟨yg, hyg⟩ : ∃ x, y.g = x := ⟨_, rfl⟩
  obtain ⟨yc, hyc⟩ : ∃ x, y.cap = x := ⟨_, rfl⟩
  obtain ⟨ny, hny⟩ : ∃ x, y.c.vs.length = x := ⟨_, rfl⟩
  obtain ⟨v, hv'⟩ : ∃ x, y.c.vs.getD an 0 = x := ⟨_, rfl⟩
  rw [hyg, hyc, hny] at c3
  rw [hyg, hv'] at cv
  rw [hv'] at HG
  rw [hny] at han
  rw [hoff] at cb c3 hW2 ⊢
  have a0 : (0 : Int) ≤ (an : Int) := by omega
  have a1 : (an : Int) < (ny : Int) := by omega
  clear hgive hcs hv hop hlt hl4 hlv hgl hlh hoff hyg hyc hny hv' h hgs hopv ct hB2 t2 t3 t4 t5
  go_enter Try.func92, Try.ntmps92
  go_wp2_with fail
  refine tail_drewV 9 (by kernel_rfl) (by kernel_rfl) ?_
  have HB3 := Lib.hid (drew_below W2)
  have cb' : W2.drew.cell? ⟨w.heap.size, 0, none⟩ = some (.pointer (some ⟨og, off, none⟩)) := cb
  have t1' : W2.drew.cell? ⟨w.heap.size + 1, 1, none⟩ = some (.int .i64 an) := t1
  have c3' : W2.drew.cell? ⟨og, off + 3, none⟩ = some (.slice (some ⟨yg, 0, none⟩) ny yc) := c3
  have cv' : W2.drew.cell? ⟨yg, an, none⟩ = some (.int .u64 v) := cv
  clear cb t0 t1 c3 cv
  generalize W2.drew = u at *
  simp only [List.take_succ_cons, List.take_zero, List.drop_succ_cons, List.drop_zero]
  repeat still_step
  try refine wpStill_nil ?_
  go_wp2_with fail
  refine (HG.out u HB3.out).mono ?_
  intro e w' hp
  obtain ⟨⟨v', rfl⟩, -⟩ := id hp
  have HP := Lib.hid hp
  clear hp
  go_wp2_with fail
  all_goals first | exact bodyPost_end (results_none Try.results92 _ _ _) rfl (callPost_any HP.out _) | exact bodyPost_ret (results_none Try.results92 _ _ _) rfl (callPost_any HP.out _)
set_option maxRecDepth 100000 in
set_option maxHeartbeats 4000000 in
theorem end_jump {W0 : World} {m : Md} {inp : ByteArray} {R : Nat} {L : Lay} {s : Rs} (w : World) (h : RunOk W0 m inp R L s w) (pre : List Gc) (y : Gc) (hgs : L.gs = pre ++ [y]) (og ocap : Nat) (hopv : L.opv = .slice (some ⟨og, 0, none⟩) (pre.length + 1) ocap)
    (a t e : Int) (Al Am : Option Addr) (nl cl nm cm : Nat) (l : List Int) (hln : l.length = nl) (hl : Ints w (.slice Al nl cl) l) (hto : ToOk y.c t l) (s' : Rs)
    (hs' : s' = { s with cs := ⟨y.c.bs, (t).toNat, 0, pickE y.c.vs l⟩ :: (pre.map (·.c)).reverse }) :
    Calls Try.prog 92 #[.pointer (some ⟨R, 0, none⟩), .pointer (some ⟨og, pre.length * 4, none⟩), .agg #[.int .i64 1, .int .i64 a, .int .i64 t, .slice Al nl cl, .int .i64 e, .slice Am nm cm]] w (CallPost W0 m inp R L s' w) := by
  obtain ⟨hB2, cb, ct⟩ := two_boxes w (.pointer (some ⟨og, pre.length * 4, none⟩)) #[.int .i64 1, .int .i64 a, .int .i64 t, .slice Al nl cl, .int .i64 e, .slice Am nm cm] 132 55
  have t0 := ct 0
  have t1 := ct 1
  have t2 := ct 2
  have t3 := ct 3
  have t4 := ct 4
  have t5 := ct 5
  simp only [List.getElem?_toArray, List.getElem?_cons_zero, List.getElem?_cons_succ] at t0 t1 t2 t3 t4 t5
  obtain ⟨W2, hW2⟩ : ∃ W, ((w.alloc (.cells #[.pointer (some ⟨og, pre.length * 4, none⟩)] 132)).alloc (.cells #[.int .i64 1, .int .i64 a, .int .i64 t, .slice Al nl cl, .int .i64 e, .slice Am nm cm] 55)) = W := ⟨_, rfl⟩
  rw [hW2] at hB2 cb t0 t1 t2 t3 t4 t5
  have HB2 := Lib.hid hB2
  have H2 := Lib.hid (h.quiet hB2)
  have hlh : L.lab w.heap.size = 0 := h.high _ (Nat.le_refl _)
  obtain ⟨kn, cap, b, rfl, hb, hcap, hc6, hl6, hin, hfit⟩ := hto
  have HG := Lib.hid (fun (u : World) (hb2 : Below W2.heap.size W2 u) => (goes_run u (H2.out.quiet hb2) pre y hgs og ocap w.heap.size hopv ((cellNext (World.block_lt_of_cell? W2 _ cb) hb2 0).trans cb) hlh kn b hb cap hcap hc6 l Al nl cl hln (by omega) ((hl.next HB2.out).next hb2) hin (by omega)).mono fun e w' hp => (show CallPost W0 m inp R L { s with cs := ⟨y.c.bs, kn, 0, pickE y.c.vs l⟩ :: (pre.map (·.c)).reverse } w e w' from ⟨hp.1, by obtain ⟨L', x1, x2, x3⟩ := hp.2; exact ⟨L', x1, (fr_quiet HB2.out).trans ((fr_quiet hb2).trans x2), x3⟩⟩))
  rw [show s' = { s with cs := ⟨y.c.bs, kn, 0, pickE y.c.vs l⟩ :: (pre.map (·.c)).reverse } from hs']
  clear hb hcap hc6 hl6 hin hfit hl hln hs' s'
  obtain ⟨off, hoff⟩ : ∃ x, pre.length * 4 = x := ⟨_, rfl⟩
  rw [hoff] at cb hW2 ⊢
  clear h hgs hopv ct hB2 hlh hoff
  go_enter Try.func92, Try.ntmps92
  go_wp2_with fail
  refine (HG.out W2 (Below.refl _ _)).mono ?_
  intro e w' hp
  obtain ⟨⟨v', rfl⟩, -⟩ := id hp
  have HP := Lib.hid hp
  clear hp
  go_wp2_with fail
  all_goals first | exact bodyPost_end (results_none Try.results92 _ _ _) rfl (callPost_any HP.out _) | exact bodyPost_ret (results_none Try.results92 _ _ _) rfl (callPost_any HP.out _)
set_option maxRecDepth 100000 in
set_option maxHeartbeats 4000000 in
theorem end_then {W0 : World} {m : Md} {inp : ByteArray} {R : Nat} {L : Lay} {s : Rs} (w : World) (h : RunOk W0 m inp R L s w) (pre : List Gc) (y : Gc) (hgs : L.gs = pre ++ [y]) (og ocap : Nat) (hopv : L.opv = .slice (some ⟨og, 0, none⟩) (pre.length + 1) ocap)
    (a t e : Int) (Al Am : Option Addr) (nl cl nm cm : Nat) (an : Nat) (ha : a = an) (han : an < y.c.vs.length) (hz : y.c.vs.getD an 0 ≠ 0) (l : List Int) (hln : l.length = nl) (hl : Ints w (.slice Al nl cl) l) (hto : ToOk y.c t l) (s' : Rs)
    (hs' : s' = { s with cs := ⟨y.c.bs, (t).toNat, 0, pickE y.c.vs l⟩ :: (pre.map (·.c)).reverse }) :
    Calls Try.prog 92 #[.pointer (some ⟨R, 0, none⟩), .pointer (some ⟨og, pre.length * 4, none⟩), .agg #[.int .i64 2, .int .i64 a, .int .i64 t, .slice Al nl cl, .int .i64 e, .slice Am nm cm]] w (CallPost W0 m inp R L s' w) := by
  obtain ⟨hB2, cb, ct⟩ := two_boxes w (.pointer (some ⟨og, pre.length * 4, none⟩)) #[.int .i64 2, .int .i64 a, .int .i64 t, .slice Al nl cl, .int .i64 e, .slice Am nm cm] 132 55
  have t0 := ct 0
  have t1 := ct 1
  have t2 := ct 2
  have t3 := ct 3
  have t4 := ct 4
  have t5 := ct 5
  simp only [List.getElem?_toArray, List.getElem?_cons_zero, List.getElem?_cons_succ] at t0 t1 t2 t3 t4 t5
  obtain ⟨W2, hW2⟩ : ∃ W, ((w.alloc (.cells #[.pointer (some ⟨og, pre.length * 4, none⟩)] 132)).alloc (.cells #[.int .i64 2, .int .i64 a, .int .i64 t, .slice Al nl cl, .int .i64 e, .slice Am nm cm] 55)) = W := ⟨_, rfl⟩
  rw [hW2] at hB2 cb t0 t1 t2 t3 t4 t5
  have HB2 := Lib.hid hB2
  have H2 := Lib.hid (h.quiet hB2)
  have hlh : L.lab w.heap.size = 0 := h.high _ (Nat.le_refl _)
  subst ha
  obtain ⟨og', ocap', e', hl4, hlt, -, -, hop, hcs, hv, hlv, hgl⟩ := top_at H2.out hgs
  rw [hopv] at e'
  cases e'
  have c3 : W2.cell? ⟨og, pre.length * 4 + 3, none⟩ = some (.slice (some ⟨y.g, 0, none⟩) y.c.vs.length y.cap) := (hcs 3 (by decide)).1
  have cv : W2.cell? ⟨y.g, an, none⟩ = some (.int .u64 (y.c.vs.getD an 0)) := by
    rw [hv.cellAt an (by omega)]
    simp [u64s, List.getElem?_eq_getElem han]
  obtain ⟨kn, cap, b, rfl, hb, hcap, hc6, hl6, hin, hfit⟩ := hto
  have HG := Lib.hid (fun (u : World) (hb2 : Below W2.heap.size W2 u) => (goes_run u (H2.out.quiet hb2) pre y hgs og ocap w.heap.size hopv ((cellNext (World.block_lt_of_cell? W2 _ cb) hb2 0).trans cb) hlh kn b hb cap hcap hc6 l Al nl cl hln (by omega) ((hl.next HB2.out).next hb2) hin (by omega)).mono fun e w' hp => (show CallPost W0 m inp R L { s with cs := ⟨y.c.bs, kn, 0, pickE y.c.vs l⟩ :: (pre.map (·.c)).reverse } w e w' from ⟨hp.1, by obtain ⟨L', x1, x2, x3⟩ := hp.2; exact ⟨L', x1, (fr_quiet HB2.out).trans ((fr_quiet hb2).trans x2), x3⟩⟩))
  rw [show s' = { s with cs := ⟨y.c.bs, kn, 0, pickE y.c.vs l⟩ :: (pre.map (·.c)).reverse } from hs']
  obtain ⟨yg, hyg⟩ : ∃ x, y.g = x := ⟨_, rfl⟩
  obtain ⟨yc, hyc⟩ : ∃ x, y.cap = x := ⟨_, rfl⟩
  obtain ⟨ny, hny⟩ : ∃ x, y.c.vs.length = x := ⟨_, rfl⟩
  obtain ⟨v, hv'⟩ : ∃ x, y.c.vs.getD an 0 = x := ⟨_, rfl⟩
  rw [hyg, hyc, hny] at c3
  rw [hyg, hv'] at cv
  rw [hny] at han
  rw [hv'] at hz
  have a0 : (0 : Int) ≤ (an : Int) := by omega
  have a1 : (an : Int) < (ny : Int) := by omega
  have d : (v == 0) = false := by simpa using hz
  clear hb hcap hc6 hl6 hin hfit hl hln hs' s' hcs hv hop hlt hl4 hlv hgl hyg hyc hny hv'
  obtain ⟨off, hoff⟩ : ∃ x, pre.length * 4 = x := ⟨_, rfl⟩
  rw [hoff] at cb hW2 c3 ⊢
  clear h hgs hopv ct hB2 hlh hoff
  go_enter Try.func92, Try.ntmps92
  go_wp2_with fail
  go_quiet (fail)
  have HB3 := Lib.hid (drewN_below' W2 nq)
  have t2' : (W2.drewN nq).cell? ⟨w.heap.size + 1, 2, none⟩ = _ := t2
  have t3' : (W2.drewN nq).cell? ⟨w.heap.size + 1, 3, none⟩ = _ := t3
  clear cb t0 t1 t2 t3 t4 t5 c3 cv hW2
  generalize W2.drewN nq = u at *
  go_wp2_with fail
  refine (HG.out u HB3.out).mono ?_
  intro e w' hp
  obtain ⟨⟨v', rfl⟩, -⟩ := id hp
  have HP := Lib.hid hp
  clear hp
  go_wp2_with fail
  all_goals first | exact bodyPost_end (results_none Try.results92 _ _ _) rfl (callPost_any HP.out _) | exact bodyPost_ret (results_none Try.results92 _ _ _) rfl (callPost_any HP.out _)
set_option maxRecDepth 100000 in
set_option maxHeartbeats 4000000 in
theorem end_else {W0 : World} {m : Md} {inp : ByteArray} {R : Nat} {L : Lay} {s : Rs} (w : World) (h : RunOk W0 m inp R L s w) (pre : List Gc) (y : Gc) (hgs : L.gs = pre ++ [y]) (og ocap : Nat) (hopv : L.opv = .slice (some ⟨og, 0, none⟩) (pre.length + 1) ocap)
    (a t e : Int) (Al Am : Option Addr) (nl cl nm cm : Nat) (an : Nat) (ha : a = an) (han : an < y.c.vs.length) (hz : y.c.vs.getD an 0 = 0) (l : List Int) (hln : l.length = nm) (hl : Ints w (.slice Am nm cm) l) (hto : ToOk y.c e l) (s' : Rs)
    (hs' : s' = { s with cs := ⟨y.c.bs, (e).toNat, 0, pickE y.c.vs l⟩ :: (pre.map (·.c)).reverse }) :
    Calls Try.prog 92 #[.pointer (some ⟨R, 0, none⟩), .pointer (some ⟨og, pre.length * 4, none⟩), .agg #[.int .i64 2, .int .i64 a, .int .i64 t, .slice Al nl cl, .int .i64 e, .slice Am nm cm]] w (CallPost W0 m inp R L s' w) := by
  obtain ⟨hB2, cb, ct⟩ := two_boxes w (.pointer (some ⟨og, pre.length * 4, none⟩)) #[.int .i64 2, .int .i64 a, .int .i64 t, .slice Al nl cl, .int .i64 e, .slice Am nm cm] 132 55
  have t0 := ct 0
  have t1 := ct 1
  have t2 := ct 2
  have t3 := ct 3
  have t4 := ct 4
  have t5 := ct 5
  simp only [List.getElem?_toArray, List.getElem?_cons_zero, List.getElem?_cons_succ] at t0 t1 t2 t3 t4 t5
  obtain ⟨W2, hW2⟩ : ∃ W, ((w.alloc (.cells #[.pointer (some ⟨og, pre.length * 4, none⟩)] 132)).alloc (.cells #[.int .i64 2, .int .i64 a, .int .i64 t, .slice Al nl cl, .int .i64 e, .slice Am nm cm] 55)) = W := ⟨_, rfl⟩
  rw [hW2] at hB2 cb t0 t1 t2 t3 t4 t5
  have HB2 := Lib.hid hB2
  have H2 := Lib.hid (h.quiet hB2)
  have hlh : L.lab w.heap.size = 0 := h.high _ (Nat.le_refl _)
  subst ha
  obtain ⟨og', ocap', e', hl4, hlt, -, -, hop, hcs, hv, hlv, hgl⟩ := top_at H2.out hgs
  rw [hopv] at e'
  cases e'
  have c3 : W2.cell? ⟨og, pre.length * 4 + 3, none⟩ = some (.slice (some ⟨y.g, 0, none⟩) y.c.vs.length y.cap) := (hcs 3 (by decide)).1
  have cv : W2.cell? ⟨y.g, an, none⟩ = some (.int .u64 (y.c.vs.getD an 0)) := by
    rw [hv.cellAt an (by omega)]
    simp [u64s, List.getElem?_eq_getElem han]
  obtain ⟨kn, cap, b, rfl, hb, hcap, hc6, hl6, hin, hfit⟩ := hto
  have HG := Lib.hid (fun (u : World) (hb2 : Below W2.heap.size W2 u) => (goes_run u (H2.out.quiet hb2) pre y hgs og ocap w.heap.size hopv ((cellNext (World.block_lt_of_cell? W2 _ cb) hb2 0).trans cb) hlh kn b hb cap hcap hc6 l Am nm cm hln (by omega) ((hl.next HB2.out).next hb2) hin (by omega)).mono fun e w' hp => (show CallPost W0 m inp R L { s with cs := ⟨y.c.bs, kn, 0, pickE y.c.vs l⟩ :: (pre.map (·.c)).reverse } w e w' from ⟨hp.1, by obtain ⟨L', x1, x2, x3⟩ := hp.2; exact ⟨L', x1, (fr_quiet HB2.out).trans ((fr_quiet hb2).trans x2), x3⟩⟩))
  rw [show s' = { s with cs := ⟨y.c.bs, kn, 0, pickE y.c.vs l⟩ :: (pre.map (·.c)).reverse } from hs']
  obtain ⟨yg, hyg⟩ : ∃ x, y.g = x := ⟨_, rfl⟩
  obtain ⟨yc, hyc⟩ : ∃ x, y.cap = x := ⟨_, rfl⟩
  obtain ⟨ny, hny⟩ : ∃ x, y.c.vs.length = x := ⟨_, rfl⟩
  obtain ⟨v, hv'⟩ : ∃ x, y.c.vs.getD an 0 = x := ⟨_, rfl⟩
  rw [hyg, hyc, hny] at c3
  rw [hyg, hv'] at cv
  rw [hny] at han
  rw [hv'] at hz
  have a0 : (0 : Int) ≤ (an : Int) := by omega
  have a1 : (an : Int) < (ny : Int) := by omega
  subst hz
  clear hb hcap hc6 hl6 hin hfit hl hln hs' s' hcs hv hop hlt hl4 hlv hgl hyg hyc hny hv'
  obtain ⟨off, hoff⟩ : ∃ x, pre.length * 4 = x := ⟨_, rfl⟩
  rw [hoff] at cb hW2 c3 ⊢
  clear h hgs hopv ct hB2 hlh hoff
  go_enter Try.func92, Try.ntmps92
  go_wp2_with fail
  go_quiet (fail)
  have HB3 := Lib.hid (drewN_below' W2 nq)
  have t2' : (W2.drewN nq).cell? ⟨w.heap.size + 1, 4, none⟩ = _ := t4
  have t3' : (W2.drewN nq).cell? ⟨w.heap.size + 1, 5, none⟩ = _ := t5
  clear cb t0 t1 t2 t3 t4 t5 c3 cv hW2
  generalize W2.drewN nq = u at *
  go_wp2_with fail
  refine (HG.out u HB3.out).mono ?_
  intro e w' hp
  obtain ⟨⟨v', rfl⟩, -⟩ := id hp
  have HP := Lib.hid hp
  clear hp
  go_wp2_with fail
  all_goals first | exact bodyPost_end (results_none Try.results92 _ _ _) rfl (callPost_any HP.out _) | exact bodyPost_ret (results_none Try.results92 _ _ _) rfl (callPost_any HP.out _)
end Go.Proofs.Ytkalgiaapkjplaa
