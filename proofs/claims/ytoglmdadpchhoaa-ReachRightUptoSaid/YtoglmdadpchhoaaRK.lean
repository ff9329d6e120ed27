/- A module that came in as an argument, opened: no row in it is longer than its bulk, nor are all instructions together. -/
import Derived.Test.YtoglmdadpchhoaaHY3
import Derived.Test.YtoglmdadpchhoaaRQ
namespace Go.Proofs.Ytoglmdadpchhoaa
open Go.ChangeShapes Go.WideShapes Go.ChangeAt Go.RowKit Go.Deep Go.Joins

section
variable {H : Type} {enc : TypeId × Value → H} {W : World} {base : Nat} {spare : Nat → Bool} {held : Bool}
theorem openk_inst (n b off : Nat) (cs : List Value) (y : DataW H × List MemPlace) (hc : ∀ j, j < 6 → W.cell? ⟨b, off + j, none⟩ = cs[j]?) (_hl : cs.length = 6) (ht : DataW.trod enc Try.prog W base spare held n 62 cs = some y) (hz : ∀ k ∈ y.1.weights Try.prog 62, k ≤ reachBytes) : ∃ x, (InW x ∧ InK (Rows.uptoBulk y.1) x) ∧ InAt W b off x := by
  obtain ⟨ys, q, hd, _, _, hg⟩ := row_of Try.underlying62 (by kernel_rfl) cellsInst ht
  obtain ⟨c0, y0, g0, _, r0⟩ := hg 0 _ rfl
  obtain ⟨c1, y1, g1, _, r1⟩ := hg 1 _ rfl
  obtain ⟨c2, y2, g2, _, r2⟩ := hg 2 _ rfl
  obtain ⟨c3, y3, g3, _, r3⟩ := hg 3 _ rfl
  obtain ⟨c4, y4, g4, _, r4⟩ := hg 4 _ rfl
  obtain ⟨c5, y5, g5, hy5, r5⟩ := hg 5 _ rfl
  obtain ⟨z0, e0, _, _⟩ := DataW.trod_int Try.underlying3 r0
  obtain ⟨z1, e1, _, _⟩ := DataW.trod_int Try.underlying3 r1
  obtain ⟨z2, e2, _, _⟩ := DataW.trod_int Try.underlying3 r2
  obtain ⟨z3, e3, _, w3⟩ := DataW.trod_int Try.underlying29 r3
  obtain ⟨z4, e4, _, w4⟩ := DataW.trod_string Try.underlying9 r4
  obtain ⟨A, cap, l, rfl, hi, hl9, hl8⟩ := openw_ints r5 (fun k hk => hz k (by
      have hq : (ys.map (·.1))[5]? = some y5.1 := by rw [List.getElem?_map, hy5]; rfl
      (try simp only at hd)
      rw [hd]
      simp only [DataW.weights, Try.underlying62]
      exact DataW.weights_mem_each (j := 5) rfl hq _ hk))
  have hb : l.length ≤ Rows.uptoBulk y.1 := by
    have h1 := slice_bulk Try.underlying60 r5
    have h2 : Rows.uptoBulk y5.1 ≤ Rows.uptoBulkAll (ys.map (·.1)) := bulk_mem (List.mem_map_of_mem (List.mem_of_getElem? hy5))
    rw [hd]
    simp only [Rows.uptoBulk]
    omega
  simp only [List.cons.injEq, and_true] at e0 e1 e2 e3 e4
  subst e0 e1 e2 e3 e4
  exact ⟨⟨z0, z1, z2, z3, z4, l⟩, ⟨⟨⟨by have := w4; rw [maxLen_is] at this; simp only; omega, hl9⟩, bounds_u64 w3, hl8⟩, hb⟩, (hc 0 (by omega)).trans g0, (hc 1 (by omega)).trans g1, (hc 2 (by omega)).trans g2, (hc 3 (by omega)).trans g3, (hc 4 (by omega)).trans g4, A, cap, (hc 5 (by omega)).trans g5, hi⟩
theorem openk_insts {c : Value} {fuel : Nat} {y : DataW H × List MemPlace} (h : DataW.trod enc Try.prog W base spare held fuel 63 [c] = some y) (hz : ∀ k ∈ y.1.weights Try.prog 63, k ≤ reachBytes) :
    ∃ (A : Option Addr) (cap : Nat) (l : List In), c = .slice A l.length cap ∧ Insts W c l ∧ (∀ x ∈ l, InW x ∧ InK (Rows.uptoBulk y.1) x) ∧ l.length ≤ 9223372036854775807 ∧ l.length ≤ Rows.uptoBulk y.1 := by
  obtain ⟨A, cap, l, ds, rfl, hr, hdl, ho, h1, h2, h3⟩ := open_rowb (H := H) InAt (fun (x : In) d => InW x ∧ InK (Rows.uptoBulk d) x) Try.underlying63 cellsInst (by omega) openk_inst h hz
  refine ⟨A, cap, l, rfl, hr, fun x hx => ?_, by rw [maxLen_is] at h2; omega, ?_⟩
  · obtain ⟨i, hi, rfl⟩ := List.getElem_of_mem hx
    have h5 := ho i hi (by omega)
    refine ⟨h5.1, h5.2.mono (Nat.le_trans (bulk_mem (List.getElem_mem (by omega))) h3)⟩
  · have := bulk_len ds
    omega
set_option maxRecDepth 100000 in
theorem openk_blk (n : Nat) (cs : List Value) (y : DataW H × List MemPlace) (hl : cs.length = 8) (ht : DataW.trod enc Try.prog W base spare held n 67 cs = some y) (hz : ∀ k ∈ y.1.weights Try.prog 67, k ≤ reachBytes) :
    ∃ (x : Bk) (A A5 A7 : Option Addr) (c c5 c7 : Nat), BkW x ∧ cs = [.int .i64 x.p, .slice A x.i.length c, .int .i64 x.e.k, .int .i64 x.e.a, .int .i64 x.e.t, .slice A5 x.e.l.length c5, .int .i64 x.e.e, .slice A7 x.e.m.length c7] ∧
      Insts W (.slice A x.i.length c) x.i ∧ Ints W (.slice A5 x.e.l.length c5) x.e.l ∧ Ints W (.slice A7 x.e.m.length c7) x.e.m ∧ BkK (Rows.uptoBulk y.1) x := by
  match cs, hl with
  | [b0, b1, b2, b3, b4, b5, b6, b7], _ =>
    obtain ⟨ys, m, _, hd, _, hyl, hf⟩ := DataW.trod_struct Try.underlying67 ht
    have f0 : DataW.trod enc Try.prog W base spare held m 3 (List.take (Try.prog.cellsOf 3) (List.drop 0 [b0, b1, b2, b3, b4, b5, b6, b7])) = ys[0]? := hf 0 _ rfl
    have f1 : DataW.trod enc Try.prog W base spare held m 63 (List.take (Try.prog.cellsOf 63) (List.drop 1 [b0, b1, b2, b3, b4, b5, b6, b7])) = ys[1]? := hf 1 _ rfl
    have f2 : DataW.trod enc Try.prog W base spare held m 65 (List.take (Try.prog.cellsOf 65) (List.drop 2 [b0, b1, b2, b3, b4, b5, b6, b7])) = ys[2]? := hf 2 _ rfl
    rw [cellsInt] at f0
    rw [cellsInsts] at f1
    rw [cellsTerm] at f2
    simp only [List.drop_zero, List.drop_succ_cons, List.take_succ_cons, List.take_zero] at f0 f1 f2
    have hyl' : ys.length = 3 := hyl
    rw [List.getElem?_eq_getElem (by omega)] at f0 f1 f2
    obtain ⟨z0, e0, _, _⟩ := DataW.trod_int Try.underlying3 f0
    have hd1 := congrArg Prod.fst hd
    simp only at hd1
    have s1 : Rows.uptoBulk (ys[1]'(by omega)).1 ≤ Rows.uptoBulk y.1 := by
      have := bulk_mem (List.mem_map_of_mem (f := fun x : DataW H × List MemPlace => x.1) (List.getElem_mem (l := ys) (n := 1) (by omega)))
      rw [hd1]
      simp only [Rows.uptoBulk]
      omega
    have s2 : Rows.uptoBulk (ys[2]'(by omega)).1 ≤ Rows.uptoBulk y.1 := by
      have := bulk_mem (List.mem_map_of_mem (f := fun x : DataW H × List MemPlace => x.1) (List.getElem_mem (l := ys) (n := 2) (by omega)))
      rw [hd1]
      simp only [Rows.uptoBulk]
      omega
    obtain ⟨A, c, l, rfl, hI, hok, h9, hbk⟩ := openk_insts f1 (fun k hk => hz k (by
      have hq : (ys.map (·.1))[1]? = some (ys[1]'(by omega)).1 := by rw [List.getElem?_map, List.getElem?_eq_getElem (by omega)]; rfl
      rw [hd1]
      simp only [DataW.weights, Try.underlying67]
      exact DataW.weights_mem_each (j := 1) rfl hq _ hk))
    obtain ⟨zs, q, hdz, _, _, hg⟩ := row_of Try.underlying65 (by kernel_rfl) cellsTerm f2
    obtain ⟨c0, y0, g0, _, r0⟩ := hg 0 _ rfl
    obtain ⟨c1, y1, g1, _, r1⟩ := hg 1 _ rfl
    obtain ⟨c2, y2, g2, _, r2⟩ := hg 2 _ rfl
    obtain ⟨c3, y3, g3, hy3, r3⟩ := hg 3 _ rfl
    obtain ⟨c4, y4, g4, _, r4⟩ := hg 4 _ rfl
    obtain ⟨c5, y5, g5, hy5, r5⟩ := hg 5 _ rfl
    obtain rfl : b2 = c0 := Option.some.inj g0
    obtain rfl : b3 = c1 := Option.some.inj g1
    obtain rfl : b4 = c2 := Option.some.inj g2
    obtain rfl : b5 = c3 := Option.some.inj g3
    obtain rfl : b6 = c4 := Option.some.inj g4
    obtain rfl : b7 = c5 := Option.some.inj g5
    obtain ⟨t0, k0, _, _⟩ := DataW.trod_int Try.underlying3 r0
    obtain ⟨t1, k1, _, _⟩ := DataW.trod_int Try.underlying3 r1
    obtain ⟨t2, k2, _, _⟩ := DataW.trod_int Try.underlying3 r2
    obtain ⟨A5, c5, l5, rfl, h5, h59⟩ := open_ints r3
    obtain ⟨t4, k4, _, _⟩ := DataW.trod_int Try.underlying3 r4
    obtain ⟨A7, c7, l7, rfl, h7, h79⟩ := open_ints r5
    have v3 := slice_bulk Try.underlying60 r3
    have v5 := slice_bulk Try.underlying60 r5
    have u3 : Rows.uptoBulk y3.1 ≤ Rows.uptoBulkAll (zs.map (·.1)) := bulk_mem (List.mem_map_of_mem (List.mem_of_getElem? hy3))
    have u5 : Rows.uptoBulk y5.1 ≤ Rows.uptoBulkAll (zs.map (·.1)) := bulk_mem (List.mem_map_of_mem (List.mem_of_getElem? hy5))
    have u : Rows.uptoBulkAll (zs.map (·.1)) ≤ Rows.uptoBulk (ys[2]'(by omega)).1 := by
      rw [hdz]
      simp only [Rows.uptoBulk]
      omega
    simp only [List.cons.injEq, and_true] at e0 k0 k1 k2 k4
    subst e0 k0 k1 k2 k4
    exact ⟨⟨z0, l, ⟨t0, t1, t2, l5, t4, l7⟩⟩, A, A5, A7, c, c5, c7, ⟨⟨h9, h59, h79, fun i hi => (hok i hi).1.1⟩, fun i hi => (hok i hi).1⟩, rfl, hI, h5, h7, by simp only; omega, by simp only; omega, by simp only; omega, fun i hi => (hok i hi).2.mono s1⟩
theorem openk_block (n b off : Nat) (cs : List Value) (y : DataW H × List MemPlace) (hc : ∀ j, j < 8 → W.cell? ⟨b, off + j, none⟩ = cs[j]?) (hl : cs.length = 8) (ht : DataW.trod enc Try.prog W base spare held n 67 cs = some y) (hz : ∀ k ∈ y.1.weights Try.prog 67, k ≤ reachBytes) : ∃ x, (BkW x ∧ BkK (Rows.uptoBulk y.1) x) ∧ BkAt W b off x := by
  obtain ⟨x, A, A5, A7, c, c5, c7, ok, rfl, h1, h5, h7, hk⟩ := openk_blk n cs y hl ht hz
  exact ⟨x, ⟨ok, hk⟩, hc 0 (by omega), ⟨A, c, hc 1 (by omega), h1⟩, hc 2 (by omega), hc 3 (by omega), hc 4 (by omega), ⟨A5, c5, hc 5 (by omega), h5⟩, hc 6 (by omega), A7, c7, hc 7 (by omega), h7⟩
theorem openk_fnc (n : Nat) (cs : List Value) (y : DataW H × List MemPlace) (hl : cs.length = 4) (ht : DataW.trod enc Try.prog W base spare held n 50 cs = some y) (hz : ∀ k ∈ y.1.weights Try.prog 50, k ≤ reachBytes) :
    ∃ (x : Fn) (A : Option Addr) (c : Nat), FnW x ∧ cs = [.string x.s, .int .i64 x.b, .int .i64 x.p, .slice A x.l.length c] ∧ Blocks W (.slice A x.l.length c) x.l ∧ FnK (Rows.uptoBulk y.1) x := by
  match cs, hl with
  | [b0, b1, b2, b3], _ =>
    obtain ⟨ys, q, hd, _, _, hg⟩ := row_of Try.underlying50 (by kernel_rfl) cellsFunc ht
    obtain ⟨c0, y0, g0, _, r0⟩ := hg 0 _ rfl
    obtain ⟨c1, y1, g1, _, r1⟩ := hg 1 _ rfl
    obtain ⟨c2, y2, g2, _, r2⟩ := hg 2 _ rfl
    obtain ⟨c3, y3, g3, hy3, r3⟩ := hg 3 _ rfl
    obtain rfl : b0 = c0 := Option.some.inj g0
    obtain rfl : b1 = c1 := Option.some.inj g1
    obtain rfl : b2 = c2 := Option.some.inj g2
    obtain rfl : b3 = c3 := Option.some.inj g3
    obtain ⟨z0, e0, _, w0⟩ := DataW.trod_string Try.underlying9 r0
    obtain ⟨z1, e1, _, _⟩ := DataW.trod_int Try.underlying3 r1
    obtain ⟨z2, e2, _, _⟩ := DataW.trod_int Try.underlying3 r2
    obtain ⟨A, c, l, ds, rfl, hB, hdl, ho, h1, h2, h3⟩ := open_rowb (H := H) BkAt (fun (x : Bk) d => BkW x ∧ BkK (Rows.uptoBulk d) x) Try.underlying48 cellsBlock (by omega) openk_block r3 (fun k hk => hz k (by
      have hq : (ys.map (·.1))[3]? = some y3.1 := by rw [List.getElem?_map, hy3]; rfl
      (try simp only at hd)
      rw [hd]
      simp only [DataW.weights, Try.underlying50]
      exact DataW.weights_mem_each (j := 3) rfl hq _ hk))
    have s3 : Rows.uptoBulk y3.1 ≤ Rows.uptoBulk y.1 := by
      have := bulk_mem (List.mem_map_of_mem (f := fun x : DataW H × List MemPlace => x.1) (List.mem_of_getElem? hy3))
      (try simp only at hd)
      rw [hd]
      simp only [Rows.uptoBulk]
      omega
    have hsum := sum_bulk l ds hdl (fun i h h' => (ho i h h').2.1)
    have hlen := bulk_len ds
    have hok : ∀ b ∈ l, BkW b ∧ BkK (Rows.uptoBulk y.1) b := fun b hb => by
      obtain ⟨i, hi, rfl⟩ := List.getElem_of_mem hb
      have h5 := ho i hi (by omega)
      exact ⟨h5.1, h5.2.mono (Nat.le_trans (bulk_mem (List.getElem_mem (by omega))) (Nat.le_trans h3 s3))⟩
    simp only [List.cons.injEq, and_true] at e0 e1 e2
    subst e0 e1 e2
    exact ⟨⟨z0, z1, z2, l⟩, A, c, ⟨⟨by have := w0; rw [maxLen_is] at this; simp only; omega, by rw [maxLen_is] at h2; simp only; omega, fun b hb => (hok b hb).1.1⟩, fun b hb => (hok b hb).1⟩, rfl, hB, by simp only; omega, by unfold insF; simp only; omega, fun b hb => (hok b hb).2⟩
theorem openk_func_at (n b off : Nat) (cs : List Value) (y : DataW H × List MemPlace) (hc : ∀ j, j < 4 → W.cell? ⟨b, off + j, none⟩ = cs[j]?) (hl : cs.length = 4) (ht : DataW.trod enc Try.prog W base spare held n 50 cs = some y) (hz : ∀ k ∈ y.1.weights Try.prog 50, k ≤ reachBytes) : ∃ x, (FnW x ∧ FnK (Rows.uptoBulk y.1) x) ∧ FnAt W b off x := by
  obtain ⟨x, A, c, ok, rfl, h1, hk⟩ := openk_fnc n cs y hl ht hz
  exact ⟨x, ⟨ok, hk⟩, hc 0 (by omega), hc 1 (by omega), hc 2 (by omega), A, c, hc 3 (by omega), h1⟩
theorem sum_bulkf : ∀ (l : List Fn) (ds : List (DataW H)), ds.length = l.length → (∀ (i : Nat) (h : i < l.length) (h' : i < ds.length), (insF l[i]).length ≤ Rows.uptoBulk ds[i]) → (l.map fun f => (insF f).length).sum ≤ Rows.uptoBulkAll ds
  | [], _, _, _ => Nat.zero_le _
  | x :: l, [], h, _ => by simp at h
  | x :: l, d :: ds, h, hk => by
    have h0 := hk 0 (by simp) (by simp)
    simp only [List.getElem_cons_zero] at h0
    have h1 := sum_bulkf l ds (by simpa using h) (fun i h h' => by
      have := hk (i + 1) (by simp; omega) (by simp; omega)
      simpa using this)
    rw [List.map_cons, List.sum_cons]
    simp only [Rows.uptoBulkAll]
    omega
theorem openk_mod (n : Nat) (cs : List Value) (y : DataW H × List MemPlace) (hl : cs.length = 2) (ht : DataW.trod enc Try.prog W base spare held n 25 cs = some y) (hz : ∀ k ∈ y.1.weights Try.prog 25, k ≤ reachBytes) :
    ∃ (m : Md) (F G : Option Addr) (cf cg : Nat), (MdOk m ∧ MdW m) ∧ MdK (Rows.uptoBulk y.1) m ∧ cs = [.slice F m.f.length cf, .slice G m.g.length cg] ∧ MdAt W (.slice F m.f.length cf) (.slice G m.g.length cg) m := by
  match cs, hl with
  | [b0, b1], _ =>
    obtain ⟨ys, q, hd, _, _, hg⟩ := row_of Try.underlying25 (by kernel_rfl) cellsModule ht
    obtain ⟨c0, y0, g0, hy0, r0⟩ := hg 0 _ rfl
    obtain ⟨c1, y1, g1, hy1, r1⟩ := hg 1 _ rfl
    obtain rfl : b0 = c0 := Option.some.inj g0
    obtain rfl : b1 = c1 := Option.some.inj g1
    obtain ⟨A, cap, l, ds, rfl, hr, hdl, ho, h1, h2, h3⟩ := open_rowb (H := H) FnAt (fun (x : Fn) d => FnW x ∧ FnK (Rows.uptoBulk d) x) Try.underlying22 cellsFunc (by omega) openk_func_at r0 (fun k hk => hz k (by
      have hq : (ys.map (·.1))[0]? = some y0.1 := by rw [List.getElem?_map, hy0]; rfl
      (try simp only at hd)
      rw [hd]
      simp only [DataW.weights, Try.underlying25]
      exact DataW.weights_mem_each (j := 0) rfl hq _ hk))
    obtain ⟨A', cap', l', rfl, hr', ho', h1', h2', -⟩ := open_roww GlAt GlW Try.underlying23 cellsGlob (by omega) openw_glob_at r1 (fun k hk => hz k (by
      have hq : (ys.map (·.1))[1]? = some y1.1 := by rw [List.getElem?_map, hy1]; rfl
      (try simp only at hd)
      rw [hd]
      simp only [DataW.weights, Try.underlying25]
      exact DataW.weights_mem_each (j := 1) rfl hq _ hk))
    have v2 := slice_bulk Try.underlying23 r1
    have s01 : Rows.uptoBulk y0.1 + Rows.uptoBulk y1.1 ≤ Rows.uptoBulk y.1 := by
      have hs : Rows.uptoBulk y0.1 + Rows.uptoBulk y1.1 ≤ Rows.uptoBulkAll (ys.map (·.1)) := by
        match ys, hy0, hy1 with
        | a :: b :: r, hy0, hy1 =>
          obtain rfl : a = y0 := by simpa using hy0
          obtain rfl : b = y1 := by simpa using hy1
          simp only [List.map_cons, Rows.uptoBulkAll]
          omega
      (try simp only at hd)
      rw [hd]
      simp only [Rows.uptoBulk]
      omega
    have hlen := bulk_len ds
    have hsum := sum_bulkf l ds hdl (fun i h h' => (ho i h h').2.2.1)
    have hok : ∀ f ∈ l, FnW f ∧ FnK (Rows.uptoBulk y.1) f := fun f hf => by
      obtain ⟨i, hi, rfl⟩ := List.getElem_of_mem hf
      have h5 := ho i hi (by omega)
      exact ⟨h5.1, h5.2.mono (Nat.le_trans (bulk_mem (List.getElem_mem (by omega))) (by omega))⟩
    rw [maxLen_is] at h2 h2'
    exact ⟨⟨l, l'⟩, A, A', cap, cap', ⟨⟨fun f hf => (hok f hf).1.1, fun g hg => (ho' g hg).1, by simp only; omega, by simp only; omega⟩, fun f hf => (hok f hf).1, ho'⟩, ⟨by simp only; omega, by simp only; omega, fun f hf => (hok f hf).2⟩, rfl, hr, hr'⟩
set_option maxRecDepth 100000 in
theorem argk_module {r : Reach} {b0 : Nat} {v : Value} {d : DataW H} {p : List MemPlace} (hv : Value.okWide Try.prog W r b0 25 v) (h : DataW.Trod enc Try.prog W base spare held 25 v d p) (hz : ∀ k ∈ d.weights Try.prog 25, k ≤ reachBytes) :
    ∃ (m : Md) (F G : Option Addr) (cf cg : Nat), v = .agg #[.slice F m.f.length cf, .slice G m.g.length cg] ∧ (MdOk m ∧ MdW m) ∧ MdAt W (.slice F m.f.length cf) (.slice G m.g.length cg) m ∧ MdK (Rows.uptoBulk d) m := by
  obtain ⟨cs, rfl, hsz⟩ := okWide_struct Try.underlying25 hv
  obtain ⟨l⟩ := cs
  obtain ⟨fuel, hf⟩ := h
  obtain ⟨m, F, G, cf, cg, ok, hk, e, hA⟩ := openk_mod fuel l _ (hsz.trans cellsModule) hf hz
  subst e
  exact ⟨m, F, G, cf, cg, rfl, ok, hA, hk⟩
end
end Go.Proofs.Ytoglmdadpchhoaa
