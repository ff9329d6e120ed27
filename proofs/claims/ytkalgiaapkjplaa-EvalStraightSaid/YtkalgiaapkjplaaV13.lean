/- Package eval: what an instruction gives that is no call. -/
import Derived.Test.YtkalgiaapkjplaaVC
namespace Go.Proofs.Ytkalgiaapkjplaa
open Go.RowKit

/-- what an instruction gives, and what it does -/
def valueE (inp : ByteArray) (s : Rs) (i : In) (vs : List Int) : Int × Rs :=
  if i.o = 1 then (i.k, s)
  else if i.o = 12 then (s.gl i.s, s)
  else if i.o = 13 then (0, { s with gl := fun x => if x = i.s then vs.getD i.a.toNat 0 else s.gl x })
  else if i.o = 15 then readE inp s
  else if i.o = 16 then (0, { s with out := s.out ++ [vs.getD i.a.toNat 0 % 256] })
  else (reckE i.o (vs.getD i.a.toNat 0) (vs.getD i.b.toNat 0), s)
/-- what value leaves -/
def ValuePost (W0 : World) (m : Md) (inp : ByteArray) (R : Nat) (L : Lay) (x : Int × Rs) (w : World) (e : Ending) (w' : World) : Prop :=
  e = .returned (.int .u64 x.1) ∧ ∃ L', RunOk W0 m inp R L' x.2 w' ∧ Fr L w w' L' ∧ L'.gs = L.gs ∧ L'.opv = L.opv
theorem one_box (w : World) (cs : Array Value) (T : TypeId) : Below w.heap.size w (w.alloc (.cells cs T)) ∧ ∀ j, (w.alloc (.cells cs T)).cell? ⟨w.heap.size, j, none⟩ = cs[j]? :=
  ⟨balloc (Below.refl _ w) _, fun j => Lib.cell_of_heap (heap_alloc_new w (.cells cs T)) j⟩
theorem val_at {w : World} {g nv cap : Nat} {vs : List Int} (hv : w.ownsRow 0 41 1 (.slice (some ⟨g, 0, none⟩) nv cap) nv (u64s vs)) (hn : vs.length = nv) {an : Nat} (ha : an < nv) : w.cell? ⟨g, an, none⟩ = some (.int .u64 (vs.getD an 0)) := by
  rw [hv.cellAt an (by omega)]
  simp [u64s, List.getElem?_eq_getElem (show an < vs.length by omega)]
set_option maxRecDepth 100000 in
set_option maxHeartbeats 8000000 in
theorem value_1 {W0 : World} {m : Md} {inp : ByteArray} {R : Nat} {L : Lay} {s : Rs} (w : World) (h : RunOk W0 m inp R L s w) (a b k : Int) (nm : ByteArray) (l : List Int) (vA : Value) (vs : List Int) (g nv cap : Nat) :
    Calls Try.prog 90 #[.pointer (some ⟨R, 0, none⟩), .agg #[.int .i64 1, .int .i64 a, .int .i64 b, .int .u64 k, .string nm, vA], .slice (some ⟨g, 0, none⟩) nv cap] w (ValuePost W0 m inp R L (valueE inp s ⟨1, a, b, k, nm, l⟩ vs) w) := by
  obtain ⟨hB1, ct⟩ := one_box w #[.int .i64 1, .int .i64 a, .int .i64 b, .int .u64 k, .string nm, vA] 60
  have t0 := ct 0
  have t1 := ct 1
  have t2 := ct 2
  have t3 := ct 3
  have t4 := ct 4
  simp only [List.getElem?_toArray, List.getElem?_cons_zero, List.getElem?_cons_succ] at t0 t1 t2 t3 t4
  obtain ⟨W1, hW1⟩ : ∃ W, (w.alloc (.cells #[.int .i64 1, .int .i64 a, .int .i64 b, .int .u64 k, .string nm, vA] 60)) = W := ⟨_, rfl⟩
  rw [hW1] at hB1 t0 t1 t2 t3 t4
  have HB1 := Lib.hid hB1
  have H1 := Lib.hid (h.quiet hB1)
  have HX := Lib.hid (show valueE inp s ⟨1, a, b, k, nm, l⟩ vs = (k, s) by simp [valueE])
  clear h ct hB1
  go_enter Try.func90, Try.ntmps90
  go_wp2_with fail
  go_ret
  rw [HX.out]
  exact ⟨rfl, L, H1.out, fr_quiet HB1.out, rfl, rfl⟩
set_option maxRecDepth 100000 in
set_option maxHeartbeats 8000000 in
theorem value_12 {W0 : World} {m : Md} {inp : ByteArray} {R : Nat} {L : Lay} {s : Rs} (w : World) (h : RunOk W0 m inp R L s w) (a b k : Int) (nm : ByteArray) (l : List Int) (vA : Value) (vs : List Int) (g nv cap : Nat) (hnm : nm.size < 9223372036854775808) :
    Calls Try.prog 90 #[.pointer (some ⟨R, 0, none⟩), .agg #[.int .i64 12, .int .i64 a, .int .i64 b, .int .u64 k, .string nm, vA], .slice (some ⟨g, 0, none⟩) nv cap] w (ValuePost W0 m inp R L (valueE inp s ⟨12, a, b, k, nm, l⟩ vs) w) := by
  obtain ⟨hB1, ct⟩ := one_box w #[.int .i64 12, .int .i64 a, .int .i64 b, .int .u64 k, .string nm, vA] 60
  have t0 := ct 0
  have t1 := ct 1
  have t2 := ct 2
  have t3 := ct 3
  have t4 := ct 4
  simp only [List.getElem?_toArray, List.getElem?_cons_zero, List.getElem?_cons_succ] at t0 t1 t2 t3 t4
  obtain ⟨W1, hW1⟩ : ∃ W, (w.alloc (.cells #[.int .i64 12, .int .i64 a, .int .i64 b, .int .u64 k, .string nm, vA] 60)) = W := ⟨_, rfl⟩
  rw [hW1] at hB1 t0 t1 t2 t3 t4
  have HB1 := Lib.hid hB1
  have H1 := Lib.hid (h.quiet hB1)
  have HX := Lib.hid (show valueE inp s ⟨12, a, b, k, nm, l⟩ vs = (s.gl nm, s) by simp [valueE])
  have hgm := H1.out.hg
  have hgF := H1.out.gF nm
  have hlk : ∀ n, (Instr.lookup 99 (.map (some L.gm)) (.string nm) false).run Try.prog (W1.drewN n) = .ok (.int .u64 (s.gl nm)) (W1.drewN n) := fun n => by
    have hU : (W1.drewN n).ownsMap Try.prog 9 nuR L.gm L.gn L.GD := hgm
    obtain ⟨v, ps, hr, hv⟩ := hU.lookup skeyed Try.underlying99 (Try.zeroValue41 _) rfl (skey_of hnm)
    rw [hgF] at hv
    rw [hr, nuR_inv hv]
  have c9 : W1.cell? ⟨R, 9, none⟩ = some (.map (some L.gm)) := rcell H1.out 9
  obtain ⟨gm, hgm'⟩ : ∃ x, L.gm = x := ⟨_, rfl⟩
  obtain ⟨v, hv⟩ : ∃ x, s.gl nm = x := ⟨_, rfl⟩
  rw [hgm'] at hlk c9
  rw [hv] at hlk HX
  clear h ct hB1 hgm hgF hgm' hv hnm
  go_enter Try.func90, Try.ntmps90
  go_wp2_with fail
  go_quiet (fail)
  have HB2 := Lib.hid (drewN_below' W1 nq)
  have HQ := Lib.hid (H1.out.quiet HB2.out)
  clear t0 t1 t2 t3 t4 c9 hlk hW1
  generalize W1.drewN nq = u at *
  go_wp2_with fail
  go_ret
  rw [HX.out]
  exact ⟨rfl, L, HQ.out, (fr_quiet HB1.out).trans (fr_quiet HB2.out), rfl, rfl⟩
set_option maxRecDepth 100000 in
set_option maxHeartbeats 8000000 in
theorem value_13 {W0 : World} {m : Md} {inp : ByteArray} {R : Nat} {L : Lay} {s : Rs} (w : World) (h : RunOk W0 m inp R L s w) (a b k : Int) (nm : ByteArray) (l : List Int) (vA : Value) (vs : List Int) (g nv cap : Nat) (hnm : nm.size < 9223372036854775808) (hnv : vs.length = nv) (hv : w.ownsRow 0 41 1 (.slice (some ⟨g, 0, none⟩) nv cap) nv (u64s vs)) (an : Nat) (ha : a = an) (han : an < nv) (hgn : L.gn < 1000 + s.steps) (hst : s.steps ≤ 100000) :
    Calls Try.prog 90 #[.pointer (some ⟨R, 0, none⟩), .agg #[.int .i64 13, .int .i64 a, .int .i64 b, .int .u64 k, .string nm, vA], .slice (some ⟨g, 0, none⟩) nv cap] w (ValuePost W0 m inp R L (valueE inp s ⟨13, a, b, k, nm, l⟩ vs) w) := by
  obtain ⟨hB1, ct⟩ := one_box w #[.int .i64 13, .int .i64 a, .int .i64 b, .int .u64 k, .string nm, vA] 60
  have t0 := ct 0
  have t1 := ct 1
  have t2 := ct 2
  have t3 := ct 3
  have t4 := ct 4
  simp only [List.getElem?_toArray, List.getElem?_cons_zero, List.getElem?_cons_succ] at t0 t1 t2 t3 t4
  obtain ⟨W1, hW1⟩ : ∃ W, (w.alloc (.cells #[.int .i64 13, .int .i64 a, .int .i64 b, .int .u64 k, .string nm, vA] 60)) = W := ⟨_, rfl⟩
  rw [hW1] at hB1 t0 t1 t2 t3 t4
  have HB1 := Lib.hid hB1
  have H1 := Lib.hid (h.quiet hB1)
  subst ha
  have hv1 := own_same hv (fun q _ hl => hB1.block q hl)
  have cv := val_at hv1 hnv han
  obtain ⟨v, hv'⟩ : ∃ x, vs.getD an 0 = x := ⟨_, rfl⟩
  rw [hv'] at cv
  have a0 : (0 : Int) ≤ (an : Int) := by omega
  have a1 : (an : Int) < (nv : Int) := by omega
  have HX := Lib.hid (show valueE inp s ⟨13, an, b, k, nm, l⟩ vs = (0, { s with gl := fun x => if x = nm then v else s.gl x }) by simp [valueE, ← hv'])
  have c9 : W1.cell? ⟨R, 9, none⟩ = some (.map (some L.gm)) := rcell H1.out 9
  have HKY := Lib.hid (skey_of hnm)
  have HFIN := Lib.hid (fun (u w3 : World) (hb : Below W1.heap.size W1 u) (hm : w3.ownsMap Try.prog 9 nuR L.gm (L.gn + 1) (L.GD.put (slit nm) (.lit (.int .u64 v)))) (hg : u.grownBy w3 (some L.gm)) =>
    show ValuePost W0 m inp R L (0, { s with gl := fun x => if x = nm then v else s.gl x }) w (.returned (.int .u64 0)) w3 from by
      obtain ⟨x, y⟩ := (H1.out.quiet hb).setG nm v hgn hg hm
      exact ⟨rfl, _, x, (fr_quiet HB1.out).trans ((fr_quiet hb).trans y), rfl, rfl⟩)
  have HM := Lib.hid (fun (u : World) (hb : Below W1.heap.size W1 u) => (H1.out.quiet hb).hg)
  have HML := Lib.hid (show L.gn < maxLen by unfold maxLen; omega)
  obtain ⟨gm, hgm'⟩ : ∃ x, L.gm = x := ⟨_, rfl⟩
  rw [hgm'] at c9 HFIN HM
  clear h ct hB1 hgm' hv hnm hv1 hv' hgn hst han hnv
  go_enter Try.func90, Try.ntmps90
  go_wp2_with fail
  refine tail_drewV 11 (by kernel_rfl) (by kernel_rfl) ?_
  have HB2 := Lib.hid (drew_below W1)
  have c9' : W1.drew.cell? ⟨R, 9, none⟩ = _ := c9
  have t1' : W1.drew.cell? ⟨w.heap.size, 1, none⟩ = _ := t1
  have t4' : W1.drew.cell? ⟨w.heap.size, 4, none⟩ = _ := t4
  have cv' : W1.drew.cell? ⟨g, an, none⟩ = _ := cv
  clear t0 t1 t2 t3 t4 c9 cv hW1
  have HMU := Lib.hid (HM.out _ HB2.out)
  generalize W1.drew = u at *
  simp only [List.take_succ_cons, List.take_zero, List.drop_succ_cons, List.drop_zero]
  repeat still_step
  try refine wpStill_nil ?_
  go_wp2_with (at_mapUpdate; refine wpList_mapUpdate_own _ rfl _ _ _ 99 rfl 9 41 skeyed Try.underlying99 _ gm L.gn _ rfl HMU.out HML.out _ _ _ rfl rfl HKY.out _ [] rfl ?_; intro w3 hm3 hg3; have HF3 := Lib.hid (HFIN.out _ w3 HB2.out hm3 hg3); clear hm3 hg3)
  go_ret
  rw [HX.out]
  exact ⟨HF3.out.1, HF3.out.2⟩
set_option maxRecDepth 100000 in
set_option maxHeartbeats 8000000 in
theorem value_15 {W0 : World} {m : Md} {inp : ByteArray} {R : Nat} {L : Lay} {s : Rs} (w : World) (h : RunOk W0 m inp R L s w) (a b k : Int) (nm : ByteArray) (l : List Int) (vA : Value) (vs : List Int) (g nv cap : Nat) (hi : inp.size < 9223372036854775808) (hr : s.read ≤ inp.size) :
    Calls Try.prog 90 #[.pointer (some ⟨R, 0, none⟩), .agg #[.int .i64 15, .int .i64 a, .int .i64 b, .int .u64 k, .string nm, vA], .slice (some ⟨g, 0, none⟩) nv cap] w (ValuePost W0 m inp R L (valueE inp s ⟨15, a, b, k, nm, l⟩ vs) w) := by
  obtain ⟨hB1, ct⟩ := one_box w #[.int .i64 15, .int .i64 a, .int .i64 b, .int .u64 k, .string nm, vA] 60
  have t0 := ct 0
  have t1 := ct 1
  have t2 := ct 2
  have t3 := ct 3
  have t4 := ct 4
  simp only [List.getElem?_toArray, List.getElem?_cons_zero, List.getElem?_cons_succ] at t0 t1 t2 t3 t4
  obtain ⟨W1, hW1⟩ : ∃ W, (w.alloc (.cells #[.int .i64 15, .int .i64 a, .int .i64 b, .int .u64 k, .string nm, vA] 60)) = W := ⟨_, rfl⟩
  rw [hW1] at hB1 t0 t1 t2 t3 t4
  have HB1 := Lib.hid hB1
  have H1 := Lib.hid (h.quiet hB1)
  have HX := Lib.hid (show valueE inp s ⟨15, a, b, k, nm, l⟩ vs = readE inp s by simp [valueE])
  have HRD := Lib.hid (read_any W1 H1.out hi hr)
  clear h ct hB1
  go_enter Try.func90, Try.ntmps90
  go_wp2_with fail
  refine HRD.out.mono ?_
  rintro e w2 ⟨rfl, hr2, hf2⟩
  have HR2 := Lib.hid hr2
  have HF2 := Lib.hid hf2
  clear hr2 hf2
  go_wp2_with fail
  go_ret
  rw [HX.out]
  exact ⟨rfl, L, HR2.out, (fr_quiet HB1.out).trans HF2.out, rfl, rfl⟩
set_option maxRecDepth 100000 in
set_option maxHeartbeats 8000000 in
theorem value_16 {W0 : World} {m : Md} {inp : ByteArray} {R : Nat} {L : Lay} {s : Rs} (w : World) (h : RunOk W0 m inp R L s w) (a b k : Int) (nm : ByteArray) (l : List Int) (vA : Value) (vs : List Int) (g nv cap : Nat) (hnv : vs.length = nv) (hv : w.ownsRow 0 41 1 (.slice (some ⟨g, 0, none⟩) nv cap) nv (u64s vs)) (an : Nat) (ha : a = an) (han : an < nv) (hgl : L.lab g ≠ 5 ∧ L.lab g ≠ 1) (hno : s.out.length ≤ 100000) :
    Calls Try.prog 90 #[.pointer (some ⟨R, 0, none⟩), .agg #[.int .i64 16, .int .i64 a, .int .i64 b, .int .u64 k, .string nm, vA], .slice (some ⟨g, 0, none⟩) nv cap] w (ValuePost W0 m inp R L (valueE inp s ⟨16, a, b, k, nm, l⟩ vs) w) := by
  obtain ⟨hB1, ct⟩ := one_box w #[.int .i64 16, .int .i64 a, .int .i64 b, .int .u64 k, .string nm, vA] 60
  have t0 := ct 0
  have t1 := ct 1
  have t2 := ct 2
  have t3 := ct 3
  have t4 := ct 4
  simp only [List.getElem?_toArray, List.getElem?_cons_zero, List.getElem?_cons_succ] at t0 t1 t2 t3 t4
  obtain ⟨W1, hW1⟩ : ∃ W, (w.alloc (.cells #[.int .i64 16, .int .i64 a, .int .i64 b, .int .u64 k, .string nm, vA] 60)) = W := ⟨_, rfl⟩
  rw [hW1] at hB1 t0 t1 t2 t3 t4
  have HB1 := Lib.hid hB1
  have H1 := Lib.hid (h.quiet hB1)
  subst ha
  have hv1 := own_same hv (fun q _ hl => hB1.block q hl)
  have cv := val_at hv1 hnv han
  obtain ⟨v, hv'⟩ : ∃ x, vs.getD an 0 = x := ⟨_, rfl⟩
  rw [hv'] at cv
  have a0 : (0 : Int) ≤ (an : Int) := by omega
  have a1 : (an : Int) < (nv : Int) := by omega
  have HX := Lib.hid (show valueE inp s ⟨16, an, b, k, nm, l⟩ vs = (0, { s with out := s.out ++ [v % 256] }) by simp [valueE, ← hv'])
  have c6 : W1.cell? ⟨R, 6, none⟩ = some L.ov := rcell H1.out 6
  obtain ⟨ib, hi, hz0, hz1, hz2⟩ := info_three bytes_info
  have hw8 : IntKind.u8.wrap v = v % 256 := by rw [IntKind.wrap_u8]
  have HUF := Lib.hid (fun (u0 : World) (hb : Below W1.heap.size W1 u0) => show u0.cell? ⟨R, 6, none⟩ = some L.ov ∧ (u0.alloc (.cells #[.int .u8 (v % 256)] 5)).cell? ⟨R, 6, none⟩ = some L.ov ∧
      ((u0.alloc (.cells #[.int .u8 (v % 256)] 5)).cell? ⟨w.heap.size, 1, none⟩ = some (.int .i64 an) ∧ (u0.alloc (.cells #[.int .u8 (v % 256)] 5)).cell? ⟨g, an, none⟩ = some (.int .u64 v)) ∧
      (u0.alloc (.cells #[.int .u8 (v % 256)] 5)).ownsRow 0 5 1 L.ov s.out.length (s.out.map (Value.int .u8)) ∧
      ∀ (w1 : World) (og ocap : Nat), w1.ownsRow 0 5 1 (.slice (some ⟨og, 0, none⟩) (s.out.length + 1) ocap) (s.out.length + 1) (s.out.map (Value.int .u8) ++ [.int .u8 (v % 256)]) → (u0.alloc (.cells #[.int .u8 (v % 256)] 5)).grownBy w1 L.ov.ownBlock →
        (L.ov.ownBlock = some og ∨ og = (u0.alloc (.cells #[.int .u8 (v % 256)] 5)).heap.size) → og < w1.heap.size →
        ((w1.cell? ⟨w.heap.size, 1, none⟩ = some (.int .i64 an) ∧ w1.cell? ⟨g, an, none⟩ = some (.int .u64 v)) ∧ ((w1.setCell ⟨R, 6, none⟩ (.slice (some ⟨og, 0, none⟩) (s.out.length + 1) ocap)).cell? ⟨w.heap.size, 1, none⟩ = some (.int .i64 an) ∧ (w1.setCell ⟨R, 6, none⟩ (.slice (some ⟨og, 0, none⟩) (s.out.length + 1) ocap)).cell? ⟨g, an, none⟩ = some (.int .u64 v)) ∧
          w1.frozen? ⟨R, 6, none⟩ = false ∧ w1.cell? ⟨R, 6, none⟩ = some L.ov ∧ ∃ L', RunOk W0 m inp R L' { s with out := s.out ++ [v % 256] } (w1.setCell ⟨R, 6, none⟩ (.slice (some ⟨og, 0, none⟩) (s.out.length + 1) ocap)) ∧ Fr L w (w1.setCell ⟨R, 6, none⟩ (.slice (some ⟨og, 0, none⟩) (s.out.length + 1) ocap)) L' ∧ L'.gs = L.gs ∧ L'.opv = L.opv) from by
    have q0 := H1.out.quiet hb
    have q1 := q0.quiet (balloc (Below.refl _ u0) (.cells #[.int .u8 (v % 256)] 5))
    have hRl : R < u0.heap.size := (Array.getElem?_eq_some_iff.1 q0.hR).1
    have k1 : ∀ q o x, W1.cell? ⟨q, o, none⟩ = some x → (u0.alloc (.cells #[.int .u8 (v % 256)] 5)).cell? ⟨q, o, none⟩ = some x := fun q o x hx => by
      have hq := World.block_lt_of_cell? W1 _ hx
      rw [cellNext (Nat.lt_of_lt_of_le hq hb.size) (balloc (Below.refl _ u0) _), cellNext hq hb, hx]
    refine ⟨rcell q0 6, rcell q1 6, ⟨k1 _ _ _ t1, k1 _ _ _ cv⟩, q1.hout, fun w1 og ocap ho hg hat hlt => ?_⟩
    obtain ⟨a, b⟩ := q1.setOut hg ho hat hlt
    have hk : ∀ q o x, W1.cell? ⟨q, o, none⟩ = some x → L.lab q ≠ 5 → w1.cell? ⟨q, o, none⟩ = some x := fun q o x hx h5 => by
      have := k1 q o x hx
      rw [World.cell?_of_block (hg.block q (World.block_lt_of_cell? _ _ this) (fun e => h5 (q1.tout q e.symm)))]
      exact this
    have hk2 : ∀ q o x V, W1.cell? ⟨q, o, none⟩ = some x → L.lab q ≠ 5 → L.lab q ≠ 1 → (w1.setCell ⟨R, 6, none⟩ V).cell? ⟨q, o, none⟩ = some x := fun q o x V hx h5 h1 => by
      rw [World.cell?_of_block (w := w1) (heap_setCell_other w1 ⟨R, 6, none⟩ q V (fun e => h1 (by rw [show q = R from e, q1.tR])))]
      exact hk q o x hx h5
    have l0 : L.lab w.heap.size = 0 := h.high _ (Nat.le_refl _)
    have hR1 : w1.heap[R]? = _ := (hg.block R (Array.getElem?_eq_some_iff.1 q1.hR).1 (fun e => by have := q1.tout R e.symm; rw [q1.tR] at this; cases this)).trans q1.hR
    exact ⟨⟨hk _ _ _ t1 (by rw [l0]; decide), hk _ _ _ cv hgl.1⟩, ⟨hk2 _ _ _ _ t1 (by rw [l0]; decide) (by rw [l0]; decide), hk2 _ _ _ _ cv hgl.1 hgl.2⟩, frozen_of_row w1 R 6 _ _ hR1, (Lib.cell_of_heap hR1 6), _, a, (fr_quiet HB1.out).trans ((fr_quiet hb).trans ((fr_quiet (balloc (Below.refl _ u0) _)).trans b)), rfl, rfl⟩)
  have HNO := Lib.hid hno
  obtain ⟨ov, hov⟩ : ∃ x, L.ov = x := ⟨_, rfl⟩
  obtain ⟨no, hno'⟩ : ∃ x, s.out.length = x := ⟨_, rfl⟩
  rw [hov] at c6 HUF
  rw [hno'] at HUF HNO
  clear h ct hB1 hv hv1 hv' han hnv hgl hno hov hno' H1
  go_enter Try.func90, Try.ntmps90
  go_wp2_with fail
  refine wp_region_held_drew (S := (fun U => U.cell? ⟨w.heap.size, 1, none⟩ = some (.int .i64 an) ∧ U.cell? ⟨g, an, none⟩ = some (.int .u64 v))) (by kernel_rfl) ⟨t1, cv⟩ ?_
  have HU0 := Lib.hid (HUF.out _ (drew_below W1))
  have hs0 : (fun U => U.cell? ⟨w.heap.size, 1, none⟩ = some (.int .i64 an) ∧ U.cell? ⟨g, an, none⟩ = some (.int .u64 v)) W1.drew := ⟨t1, cv⟩
  have d6 := HU0.out.1
  have d6A := HU0.out.2.1
  have sA := HU0.out.2.2.1
  have HAP := Lib.hid HU0.out.2.2.2
  clear t0 t1 t2 t3 t4 c6 cv hW1 HU0
  generalize W1.drew = u0 at *
  intro hHeld
  refine wpAnyH_take (i := 0) (v := ?_) rfl (by kernel_rfl) (by kernel_rfl) (by kernel_rfl) (fun _ _ _ h => h) (Or.inl ⟨by rfl, ?_⟩) hHeld ?_
  rotate_left
  · intro W' hSw; (try dsimp only at hSw); go_simp; try (with_reducible rfl)
  (try simp only [Act.put, List.getElem_toArray, List.getElem_cons_zero, List.setIfInBounds_toArray, List.set_cons_zero, List.set_cons_succ])
  refine wpAnyH_take (i := 1) (v := ?_) rfl (by kernel_rfl) (by kernel_rfl) (by kernel_rfl) (fun _ _ _ h => h) (Or.inl ⟨by rfl, ?_⟩) hHeld ?_
  rotate_left
  · intro W' hSw; (try dsimp only at hSw); go_simp; try (with_reducible rfl)
  (try simp only [Act.put, List.getElem_toArray, List.getElem_cons_zero, List.getElem_cons_succ, List.setIfInBounds_toArray, List.set_cons_zero, List.set_cons_succ])
  refine wpAnyH_take (i := 2) (v := ?_) rfl (by kernel_rfl) (by kernel_rfl) (by kernel_rfl) (fun _ _ _ h => h) (Or.inl ⟨by rfl, ?_⟩) hHeld ?_
  rotate_left
  · intro W' hSw; (try dsimp only at hSw); go_simp; try (with_reducible rfl)
  (try simp only [Act.put, List.getElem_toArray, List.getElem_cons_zero, List.getElem_cons_succ, List.setIfInBounds_toArray, List.set_cons_zero, List.set_cons_succ])
  refine wpAnyH_take (i := 3) (v := ?_) rfl (by kernel_rfl) (by kernel_rfl) (by kernel_rfl) (fun _ _ _ h => h) (Or.inl ⟨by rfl, ?_⟩) hHeld ?_
  rotate_left
  · intro W' hSw; (try dsimp only at hSw); go_simp; try (with_reducible rfl)
  (try simp only [Act.put, List.getElem_toArray, List.getElem_cons_zero, List.getElem_cons_succ, List.setIfInBounds_toArray, List.set_cons_zero, List.set_cons_succ])
  refine wpAnyH_take (i := 5) (v := ?_) rfl (by kernel_rfl) (by kernel_rfl) (by kernel_rfl) (fun _ _ _ h => h) (Or.inl ⟨by rfl, ?_⟩) hHeld ?_
  rotate_left
  · intro W' hSw; (try dsimp only at hSw); go_simp; try (with_reducible rfl)
  (try simp only [Act.put, List.getElem_toArray, List.getElem_cons_zero, List.getElem_cons_succ, List.setIfInBounds_toArray, List.set_cons_zero, List.set_cons_succ])
  refine wpAnyH_take (i := 6) (v := ?_) rfl (by kernel_rfl) (by kernel_rfl) (by kernel_rfl) (fun _ _ _ h => h) (Or.inl ⟨by rfl, ?_⟩) hHeld ?_
  rotate_left
  · intro W' hSw; (try dsimp only at hSw); go_simp; try (with_reducible rfl)
  (try simp only [Act.put, List.getElem_toArray, List.getElem_cons_zero, List.getElem_cons_succ, List.setIfInBounds_toArray, List.set_cons_zero, List.set_cons_succ])
  refine wpAnyH_take (i := 7) (v := ?_) rfl (by kernel_rfl) (by kernel_rfl) (by kernel_rfl) (fun _ _ _ h => h) (Or.inl ⟨by rfl, ?_⟩) hHeld ?_
  rotate_left
  · intro W' hSw; (try dsimp only at hSw); go_simp; try (with_reducible rfl)
  (try simp only [Act.put, List.getElem_toArray, List.getElem_cons_zero, List.getElem_cons_succ, List.setIfInBounds_toArray, List.set_cons_zero, List.set_cons_succ])
  refine wpAnyH_take (i := 8) (v := ?_) rfl (by kernel_rfl) (by kernel_rfl) (by kernel_rfl) (fun _ _ _ h => h) (Or.inl ⟨by rfl, ?_⟩) hHeld ?_
  rotate_left
  · intro W' hSw; (try dsimp only at hSw); go_simp; try (with_reducible rfl)
  (try simp only [Act.put, List.getElem_toArray, List.getElem_cons_zero, List.getElem_cons_succ, List.setIfInBounds_toArray, List.set_cons_zero, List.set_cons_succ])
  refine wpAnyH_take (i := 9) (v := ?_) rfl (by kernel_rfl) (by kernel_rfl) (by kernel_rfl) (fun _ _ _ h => h) (Or.inl ⟨by rfl, ?_⟩) hHeld ?_
  rotate_left
  · intro W' hSw; (try dsimp only at hSw); go_simp; try (with_reducible rfl)
  (try simp only [Act.put, List.getElem_toArray, List.getElem_cons_zero, List.getElem_cons_succ, List.setIfInBounds_toArray, List.set_cons_zero, List.set_cons_succ])
  refine wpAnyH_take (i := 10) (v := ?_) rfl (by kernel_rfl) (by kernel_rfl) (by kernel_rfl) (fun _ _ _ h => h) (Or.inl ⟨by rfl, ?_⟩) hHeld ?_
  rotate_left
  · intro W' hSw; (try dsimp only at hSw); go_simp; try (with_reducible rfl)
  (try simp only [Act.put, List.getElem_toArray, List.getElem_cons_zero, List.getElem_cons_succ, List.setIfInBounds_toArray, List.set_cons_zero, List.set_cons_succ])
  refine wpAnyH_ready (rs := [4, 11]) (by kernel_rfl) (by simp) ?_
  refine AllReadyH.cons rfl (fun K hK => ?_) (AllReadyH.cons rfl (fun K hK => ?_) AllReadyH.nil)
  · go_simp
    refine hK.out _ _ hHeld (fun _ => ?_)
    clear hK
    (try simp only [Act.put, List.getElem_toArray, List.getElem_cons_zero, List.getElem_cons_succ, List.setIfInBounds_toArray, List.set_cons_zero, List.set_cons_succ])
    refine wpAnyH_ready (rs := [11]) (by kernel_rfl) (by simp) ?_
    refine AllReadyH.cons rfl (fun K hK => ?_) AllReadyH.nil
    go_simp
    refine hK.out _ _ sA (fun _ => ?_)
    clear hK
    (try simp only [Act.put, List.getElem_toArray, List.getElem_cons_zero, List.getElem_cons_succ, List.setIfInBounds_toArray, List.set_cons_zero, List.set_cons_succ])
    refine wpAnyH_ready (rs := [12]) (by kernel_rfl) (by simp) ?_
    refine AllReadyH.cons rfl (fun K hK => ?_) AllReadyH.nil
    refine step_append_lies _ rfl (.tmp 45) (.tmp 52) 97 rfl 0 5 ib _ 1 1 Try.underlying97 hi hz0 hz1 hz2 rfl (by omega) ov no _ (by rfl) HAP.out.1 ⟨u0.heap.size, 0, none⟩ 1 1 [.int .u8 (v % 256)] (by rfl) rfl (World.news_of_block (heap_alloc_new u0 _)) (by intro u hu; simp at hu; subst hu; rfl) (by omega) (by have := HNO.out; unfold maxLen; omega) (by have := HNO.out; omega) (Nat.zero_le _) _ rfl ?_
    intro og ocap w1 ho1 hg1 hat1 hlt1
    obtain ⟨s1, s2, z6, z6c, hfin⟩ := HAP.out.2 w1 og ocap ho1 hg1 hat1 hlt1
    refine hK.out _ _ s1 (fun hHeld2 => ?_)
    clear hK
    (try simp only [Act.put, List.getElem_toArray, List.getElem_cons_zero, List.getElem_cons_succ, List.setIfInBounds_toArray, List.set_cons_zero, List.set_cons_succ])
    refine wpAnyH_take (i := 13) (v := ?_) rfl (by kernel_rfl) (by kernel_rfl) (by kernel_rfl) (fun _ _ _ h => h) (Or.inl ⟨by rfl, ?_⟩) hHeld2 ?_
    rotate_left
    · intro W' hSw; (try dsimp only at hSw); go_simp; try (with_reducible rfl)
    (try simp only [Act.put, List.getElem_toArray, List.getElem_cons_zero, List.getElem_cons_succ, List.setIfInBounds_toArray, List.set_cons_zero, List.set_cons_succ])
    refine wpAnyH_take (i := 14) (v := ?_) rfl (by kernel_rfl) (by kernel_rfl) (by kernel_rfl) (fun _ _ _ h => h) (Or.inl ⟨by rfl, ?_⟩) hHeld2 ?_
    rotate_left
    · intro W' hSw; (try dsimp only at hSw); go_simp; try (with_reducible rfl)
    (try simp only [Act.put, List.getElem_toArray, List.getElem_cons_zero, List.getElem_cons_succ, List.setIfInBounds_toArray, List.set_cons_zero, List.set_cons_succ])
    refine wpAnyH_ready (rs := [15]) (by kernel_rfl) (by simp) ?_
    refine AllReadyH.cons rfl (fun K hK => ?_) AllReadyH.nil
    go_simp
    refine hK.out _ _ s2 (fun _ => ?_)
    clear hK
    (try simp only [Act.put, List.getElem_toArray, List.getElem_cons_zero, List.getElem_cons_succ, List.setIfInBounds_toArray, List.set_cons_zero, List.set_cons_succ])
    refine wpAnyH_done (by kernel_rfl) ?_ _
    have HFI := Lib.hid hfin
    clear hfin ho1 hg1 hat1 hlt1 s1 s2 z6 z6c d6 d6A sA hs0 hHeld
    go_wp2_with fail
    go_ret
    rw [HX.out]
    exact ⟨rfl, HFI.out⟩
  · go_simp
    refine hK.out _ _ sA (fun _ => ?_)
    clear hK
    (try simp only [Act.put, List.getElem_toArray, List.getElem_cons_zero, List.getElem_cons_succ, List.setIfInBounds_toArray, List.set_cons_zero, List.set_cons_succ])
    refine wpAnyH_ready (rs := [4]) (by kernel_rfl) (by simp) ?_
    refine AllReadyH.cons rfl (fun K hK => ?_) AllReadyH.nil
    go_simp
    refine hK.out _ _ sA (fun _ => ?_)
    clear hK
    (try simp only [Act.put, List.getElem_toArray, List.getElem_cons_zero, List.getElem_cons_succ, List.setIfInBounds_toArray, List.set_cons_zero, List.set_cons_succ])
    refine wpAnyH_ready (rs := [12]) (by kernel_rfl) (by simp) ?_
    refine AllReadyH.cons rfl (fun K hK => ?_) AllReadyH.nil
    refine step_append_lies _ rfl (.tmp 45) (.tmp 52) 97 rfl 0 5 ib _ 1 1 Try.underlying97 hi hz0 hz1 hz2 rfl (by omega) ov no _ (by rfl) HAP.out.1 ⟨u0.heap.size, 0, none⟩ 1 1 [.int .u8 (v % 256)] (by rfl) rfl (World.news_of_block (heap_alloc_new u0 _)) (by intro u hu; simp at hu; subst hu; rfl) (by omega) (by have := HNO.out; unfold maxLen; omega) (by have := HNO.out; omega) (Nat.zero_le _) _ rfl ?_
    intro og ocap w1 ho1 hg1 hat1 hlt1
    obtain ⟨s1, s2, z6, z6c, hfin⟩ := HAP.out.2 w1 og ocap ho1 hg1 hat1 hlt1
    refine hK.out _ _ s1 (fun hHeld2 => ?_)
    clear hK
    (try simp only [Act.put, List.getElem_toArray, List.getElem_cons_zero, List.getElem_cons_succ, List.setIfInBounds_toArray, List.set_cons_zero, List.set_cons_succ])
    refine wpAnyH_take (i := 13) (v := ?_) rfl (by kernel_rfl) (by kernel_rfl) (by kernel_rfl) (fun _ _ _ h => h) (Or.inl ⟨by rfl, ?_⟩) hHeld2 ?_
    rotate_left
    · intro W' hSw; (try dsimp only at hSw); go_simp; try (with_reducible rfl)
    (try simp only [Act.put, List.getElem_toArray, List.getElem_cons_zero, List.getElem_cons_succ, List.setIfInBounds_toArray, List.set_cons_zero, List.set_cons_succ])
    refine wpAnyH_take (i := 14) (v := ?_) rfl (by kernel_rfl) (by kernel_rfl) (by kernel_rfl) (fun _ _ _ h => h) (Or.inl ⟨by rfl, ?_⟩) hHeld2 ?_
    rotate_left
    · intro W' hSw; (try dsimp only at hSw); go_simp; try (with_reducible rfl)
    (try simp only [Act.put, List.getElem_toArray, List.getElem_cons_zero, List.getElem_cons_succ, List.setIfInBounds_toArray, List.set_cons_zero, List.set_cons_succ])
    refine wpAnyH_ready (rs := [15]) (by kernel_rfl) (by simp) ?_
    refine AllReadyH.cons rfl (fun K hK => ?_) AllReadyH.nil
    go_simp
    refine hK.out _ _ s2 (fun _ => ?_)
    clear hK
    (try simp only [Act.put, List.getElem_toArray, List.getElem_cons_zero, List.getElem_cons_succ, List.setIfInBounds_toArray, List.set_cons_zero, List.set_cons_succ])
    refine wpAnyH_done (by kernel_rfl) ?_ _
    have HFI := Lib.hid hfin
    clear hfin ho1 hg1 hat1 hlt1 s1 s2 z6 z6c d6 d6A sA hs0 hHeld
    go_wp2_with fail
    go_ret
    rw [HX.out]
    exact ⟨rfl, HFI.out⟩
set_option maxRecDepth 100000 in
set_option maxHeartbeats 8000000 in
theorem value_reck {W0 : World} {m : Md} {inp : ByteArray} {R : Nat} {L : Lay} {s : Rs} (w : World) (h : RunOk W0 m inp R L s w) (o : Int) (a b k : Int) (nm : ByteArray) (l : List Int) (vA : Value) (vs : List Int) (g nv cap : Nat) (hnv : vs.length = nv) (hv : w.ownsRow 0 41 1 (.slice (some ⟨g, 0, none⟩) nv cap) nv (u64s vs)) (an bn : Nat) (ha : a = an) (hb : b = bn) (han : an < nv) (hbn : bn < nv) (hu : ∀ x ∈ vs, 0 ≤ x ∧ x ≤ 18446744073709551615) (ho : 2 ≤ o ∧ o ≤ 11) :
    Calls Try.prog 90 #[.pointer (some ⟨R, 0, none⟩), .agg #[.int .i64 o, .int .i64 a, .int .i64 b, .int .u64 k, .string nm, vA], .slice (some ⟨g, 0, none⟩) nv cap] w (ValuePost W0 m inp R L (valueE inp s ⟨o, a, b, k, nm, l⟩ vs) w) := by
  obtain ⟨hB1, ct⟩ := one_box w #[.int .i64 o, .int .i64 a, .int .i64 b, .int .u64 k, .string nm, vA] 60
  have t0 := ct 0
  have t1 := ct 1
  have t2 := ct 2
  have t3 := ct 3
  have t4 := ct 4
  simp only [List.getElem?_toArray, List.getElem?_cons_zero, List.getElem?_cons_succ] at t0 t1 t2 t3 t4
  obtain ⟨W1, hW1⟩ : ∃ W, (w.alloc (.cells #[.int .i64 o, .int .i64 a, .int .i64 b, .int .u64 k, .string nm, vA] 60)) = W := ⟨_, rfl⟩
  rw [hW1] at hB1 t0 t1 t2 t3 t4
  have HB1 := Lib.hid hB1
  have H1 := Lib.hid (h.quiet hB1)
  have hvb : vs.getD bn 0 ∈ vs := by
    have hb' : bn < vs.length := by omega
    rw [List.getD_eq_getElem?_getD, List.getElem?_eq_getElem hb']
    exact List.getElem_mem hb'
  obtain ⟨ub0, ub1⟩ := hu _ hvb
  have HX := Lib.hid (show valueE inp s ⟨o, a, b, k, nm, l⟩ vs = (reckE o (vs.getD an 0) (vs.getD bn 0), s) by
    subst ha
    subst hb
    unfold valueE
    rw [if_neg (by simp only; omega), if_neg (by simp only; omega), if_neg (by simp only; omega), if_neg (by simp only; omega), if_neg (by simp only; omega)]
    rfl)
  subst ha
  subst hb
  have hv1 := own_same hv (fun q _ hl => hB1.block q hl)
  have cv := val_at hv1 hnv han
  have cw := val_at hv1 hnv hbn
  have HRK := Lib.hid (fun (u : World) => reck_any o (vs.getD an 0) (vs.getD bn 0) u ub0 ub1)
  obtain ⟨v, hv'⟩ : ∃ x, vs.getD an 0 = x := ⟨_, rfl⟩
  obtain ⟨y, hy'⟩ : ∃ x, vs.getD bn 0 = x := ⟨_, rfl⟩
  rw [hv'] at cv HX HRK
  rw [hy'] at cw HX HRK
  have a0 : (0 : Int) ≤ (an : Int) := by omega
  have a1 : (an : Int) < (nv : Int) := by omega
  have b0 : (0 : Int) ≤ (bn : Int) := by omega
  have b1 : (bn : Int) < (nv : Int) := by omega
  have o1 : (o == 1) = false := by simp; omega
  have o12 : (o == 12) = false := by simp; omega
  have o13 : (o == 13) = false := by simp; omega
  have o15 : (o == 15) = false := by simp; omega
  have o16 : (o == 16) = false := by simp; omega
  clear h ct hB1 hv hv1 hv' hy' han hbn hnv hu hvb ub0 ub1 ho
  go_enter Try.func90, Try.ntmps90
  go_wp2_with fail
  go_quiet ((go_at_call 117; exact Calls.quiet_of_same ((HRK.out _).mono fun _ _ ⟨h1, h2⟩ => ⟨h1, h2.symm⟩)))
  have HB2 := Lib.hid (drewN_below' W1 nq)
  have HQ := Lib.hid (H1.out.quiet HB2.out)
  clear t0 t1 t2 t3 t4 cv cw hW1
  generalize W1.drewN nq = u at *
  go_wp2_with fail
  go_ret
  rw [HX.out]
  exact ⟨rfl, L, HQ.out, (fr_quiet HB1.out).trans (fr_quiet HB2.out), rfl, rfl⟩
end Go.Proofs.Ytkalgiaapkjplaa
