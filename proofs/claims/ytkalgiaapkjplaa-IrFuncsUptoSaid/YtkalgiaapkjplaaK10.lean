/- Instructions, blocks, functions, globals, modules that came in as arguments, opened. -/
import Derived.Test.YtkalgiaapkjplaaJ9
import Derived.Test.YtkalgiaapkjplaaK4
namespace Go.Proofs.Ytkalgiaapkjplaa
open Go.ChangeShapes Go.WideShapes Go.ChangeAt Go.RowKit Go.Deep Go.Joins

theorem cellsInt : Try.prog.cellsOf 3 = 1 := by kernel_rfl
theorem cellsInst : Try.prog.cellsOf 60 = 6 := by kernel_rfl
theorem cellsTerm : Try.prog.cellsOf 55 = 6 := by kernel_rfl
theorem cellsBlock : Try.prog.cellsOf 58 = 8 := by kernel_rfl
theorem cellsFunc : Try.prog.cellsOf 24 = 4 := by kernel_rfl
theorem cellsGlob : Try.prog.cellsOf 92 = 4 := by kernel_rfl
theorem cellsModule : Try.prog.cellsOf 33 = 2 := by kernel_rfl
theorem cellsInsts : Try.prog.cellsOf 56 = 1 := by kernel_rfl
theorem maxLen_is : maxLen = 9223372036854775807 := rfl
section
variable {H : Type} {enc : TypeId × Value → H} {W : World} {base : Nat} {spare : Nat → Bool} {held : Bool}
theorem open_ints {c : Value} {fuel : Nat} {y : DataW H × List MemPlace} (h : DataW.trod enc Try.prog W base spare held fuel 53 [c] = some y) :
    ∃ (A : Option Addr) (cap : Nat) (l : List Int), c = .slice A l.length cap ∧ Ints W c l ∧ l.length ≤ 9223372036854775807 := by
  obtain ⟨A, cap, l, rfl, hr, -, h1, h2⟩ := open_row (α := Int) (sz := 1) (fun W b off x => W.cell? ⟨b, off, none⟩ = some (.int .i64 x)) (fun _ => True) Try.underlying53 cellsInt (by omega) (fun n b off cs y hc hl ht => by
    match cs, hl with
    | [c], _ =>
      obtain ⟨x, e, -, -⟩ := DataW.trod_int Try.underlying3 ht
      simp only [List.cons.injEq, and_true] at e
      subst e
      exact ⟨x, trivial, by simpa using hc 0 (by omega)⟩) h
  refine ⟨A, cap, l, rfl, ?_, by rw [maxLen_is] at h2; omega⟩
  rcases hr with hr | ⟨h0, b, off, c, e, hb, hat⟩
  · exact .inl hr
  · exact .inr ⟨h0, b, off, c, e, hb, fun i hi => by simpa using hat i hi⟩
theorem open_inst (n b off : Nat) (cs : List Value) (y : DataW H × List MemPlace) (hc : ∀ j, j < 6 → W.cell? ⟨b, off + j, none⟩ = cs[j]?) (_hl : cs.length = 6) (ht : DataW.trod enc Try.prog W base spare held n 60 cs = some y) : ∃ x, InOk x ∧ InAt W b off x := by
  obtain ⟨ys, q, _, _, _, hg⟩ := row_of Try.underlying60 (by kernel_rfl) cellsInst ht
  obtain ⟨c0, y0, g0, _, r0⟩ := hg 0 _ rfl
  obtain ⟨c1, y1, g1, _, r1⟩ := hg 1 _ rfl
  obtain ⟨c2, y2, g2, _, r2⟩ := hg 2 _ rfl
  obtain ⟨c3, y3, g3, _, r3⟩ := hg 3 _ rfl
  obtain ⟨c4, y4, g4, _, r4⟩ := hg 4 _ rfl
  obtain ⟨c5, y5, g5, _, r5⟩ := hg 5 _ rfl
  obtain ⟨z0, e0, _, _⟩ := DataW.trod_int Try.underlying3 r0
  obtain ⟨z1, e1, _, _⟩ := DataW.trod_int Try.underlying3 r1
  obtain ⟨z2, e2, _, _⟩ := DataW.trod_int Try.underlying3 r2
  obtain ⟨z3, e3, _, _⟩ := DataW.trod_int Try.underlying41 r3
  obtain ⟨z4, e4, _, w4⟩ := DataW.trod_string Try.underlying9 r4
  obtain ⟨A, cap, l, rfl, hi, hl9⟩ := open_ints r5
  simp only [List.cons.injEq, and_true] at e0 e1 e2 e3 e4
  subst e0 e1 e2 e3 e4
  exact ⟨⟨z0, z1, z2, z3, z4, l⟩, ⟨by have := w4; rw [maxLen_is] at this; simp only; omega, hl9⟩, (hc 0 (by omega)).trans g0, (hc 1 (by omega)).trans g1, (hc 2 (by omega)).trans g2, (hc 3 (by omega)).trans g3, (hc 4 (by omega)).trans g4, A, cap, (hc 5 (by omega)).trans g5, hi⟩
theorem open_insts {c : Value} {fuel : Nat} {y : DataW H × List MemPlace} (h : DataW.trod enc Try.prog W base spare held fuel 56 [c] = some y) :
    ∃ (A : Option Addr) (cap : Nat) (l : List In), c = .slice A l.length cap ∧ Insts W c l ∧ (∀ x ∈ l, InOk x) ∧ l.length ≤ 9223372036854775807 := by
  obtain ⟨A, cap, l, rfl, hr, ho, h1, h2⟩ := open_row InAt InOk Try.underlying56 cellsInst (by omega) open_inst h
  exact ⟨A, cap, l, rfl, hr, ho, by rw [maxLen_is] at h2; omega⟩
set_option maxRecDepth 100000 in
theorem open_blk (n : Nat) (cs : List Value) (y : DataW H × List MemPlace) (hl : cs.length = 8) (ht : DataW.trod enc Try.prog W base spare held n 58 cs = some y) :
    ∃ (x : Bk) (A A5 A7 : Option Addr) (c c5 c7 : Nat), BkOk x ∧ cs = [.int .i64 x.p, .slice A x.i.length c, .int .i64 x.e.k, .int .i64 x.e.a, .int .i64 x.e.t, .slice A5 x.e.l.length c5, .int .i64 x.e.e, .slice A7 x.e.m.length c7] ∧
      Insts W (.slice A x.i.length c) x.i ∧ Ints W (.slice A5 x.e.l.length c5) x.e.l ∧ Ints W (.slice A7 x.e.m.length c7) x.e.m := by
  match cs, hl with
  | [b0, b1, b2, b3, b4, b5, b6, b7], _ =>
    obtain ⟨ys, m, _, _, _, hyl, hf⟩ := DataW.trod_struct Try.underlying58 ht
    have f0 : DataW.trod enc Try.prog W base spare held m 3 (List.take (Try.prog.cellsOf 3) (List.drop 0 [b0, b1, b2, b3, b4, b5, b6, b7])) = ys[0]? := hf 0 _ rfl
    have f1 : DataW.trod enc Try.prog W base spare held m 56 (List.take (Try.prog.cellsOf 56) (List.drop 1 [b0, b1, b2, b3, b4, b5, b6, b7])) = ys[1]? := hf 1 _ rfl
    have f2 : DataW.trod enc Try.prog W base spare held m 55 (List.take (Try.prog.cellsOf 55) (List.drop 2 [b0, b1, b2, b3, b4, b5, b6, b7])) = ys[2]? := hf 2 _ rfl
    rw [cellsInt] at f0
    rw [cellsInsts] at f1
    rw [cellsTerm] at f2
    simp only [List.drop_zero, List.drop_succ_cons, List.take_succ_cons, List.take_zero] at f0 f1 f2
    have hyl' : ys.length = 3 := hyl
    rw [List.getElem?_eq_getElem (by omega)] at f0 f1 f2
    obtain ⟨z0, e0, _, _⟩ := DataW.trod_int Try.underlying3 f0
    obtain ⟨A, c, l, rfl, hI, hok, h9⟩ := open_insts f1
    obtain ⟨_, q, _, _, _, hg⟩ := row_of Try.underlying55 (by kernel_rfl) cellsTerm f2
    obtain ⟨c0, y0, g0, _, r0⟩ := hg 0 _ rfl
    obtain ⟨c1, y1, g1, _, r1⟩ := hg 1 _ rfl
    obtain ⟨c2, y2, g2, _, r2⟩ := hg 2 _ rfl
    obtain ⟨c3, y3, g3, _, r3⟩ := hg 3 _ rfl
    obtain ⟨c4, y4, g4, _, r4⟩ := hg 4 _ rfl
    obtain ⟨c5, y5, g5, _, r5⟩ := hg 5 _ rfl
    obtain rfl : b2 = c0 := Option.some.inj g0
    obtain rfl : b3 = c1 := Option.some.inj g1
    obtain rfl : b4 = c2 := Option.some.inj g2
    obtain rfl : b5 = c3 := Option.some.inj g3
    obtain rfl : b6 = c4 := Option.some.inj g4
    obtain rfl : b7 = c5 := Option.some.inj g5
    obtain ⟨t0, k0, _, _⟩ := DataW.trod_int Try.underlying3 r0
    obtain ⟨t1, k1, _, _⟩ := DataW.trod_int Try.underlying3 r1
    obtain ⟨t2, k2, _, _⟩ := DataW.trod_int Try.underlying3 r2
    obtain ⟨A5, c5, l5, rfl, h5, h59⟩ := open_ints r3
    obtain ⟨t4, k4, _, _⟩ := DataW.trod_int Try.underlying3 r4
    obtain ⟨A7, c7, l7, rfl, h7, h79⟩ := open_ints r5
    simp only [List.cons.injEq, and_true] at e0 k0 k1 k2 k4
    subst e0 k0 k1 k2 k4
    exact ⟨⟨z0, l, ⟨t0, t1, t2, l5, t4, l7⟩⟩, A, A5, A7, c, c5, c7, ⟨h9, h59, h79, hok⟩, rfl, hI, h5, h7⟩
theorem open_block (n b off : Nat) (cs : List Value) (y : DataW H × List MemPlace) (hc : ∀ j, j < 8 → W.cell? ⟨b, off + j, none⟩ = cs[j]?) (hl : cs.length = 8) (ht : DataW.trod enc Try.prog W base spare held n 58 cs = some y) : ∃ x, BkOk x ∧ BkAt W b off x := by
  obtain ⟨x, A, A5, A7, c, c5, c7, ok, rfl, h1, h5, h7⟩ := open_blk n cs y hl ht
  exact ⟨x, ok, hc 0 (by omega), ⟨A, c, hc 1 (by omega), h1⟩, hc 2 (by omega), hc 3 (by omega), hc 4 (by omega), ⟨A5, c5, hc 5 (by omega), h5⟩, hc 6 (by omega), A7, c7, hc 7 (by omega), h7⟩
theorem open_blocks {c : Value} {fuel : Nat} {y : DataW H × List MemPlace} (h : DataW.trod enc Try.prog W base spare held fuel 22 [c] = some y) :
    ∃ (A : Option Addr) (cap : Nat) (l : List Bk), c = .slice A l.length cap ∧ Blocks W c l ∧ (∀ x ∈ l, BkOk x) ∧ l.length ≤ 9223372036854775807 := by
  obtain ⟨A, cap, l, rfl, hr, ho, h1, h2⟩ := open_row BkAt BkOk Try.underlying22 cellsBlock (by omega) open_block h
  exact ⟨A, cap, l, rfl, hr, ho, by rw [maxLen_is] at h2; omega⟩
theorem open_fnc (n : Nat) (cs : List Value) (y : DataW H × List MemPlace) (hl : cs.length = 4) (ht : DataW.trod enc Try.prog W base spare held n 24 cs = some y) :
    ∃ (x : Fn) (A : Option Addr) (c : Nat), FnOk x ∧ cs = [.string x.s, .int .i64 x.b, .int .i64 x.p, .slice A x.l.length c] ∧ Blocks W (.slice A x.l.length c) x.l := by
  match cs, hl with
  | [b0, b1, b2, b3], _ =>
    obtain ⟨ys, q, _, _, _, hg⟩ := row_of Try.underlying24 (by kernel_rfl) cellsFunc ht
    obtain ⟨c0, y0, g0, _, r0⟩ := hg 0 _ rfl
    obtain ⟨c1, y1, g1, _, r1⟩ := hg 1 _ rfl
    obtain ⟨c2, y2, g2, _, r2⟩ := hg 2 _ rfl
    obtain ⟨c3, y3, g3, _, r3⟩ := hg 3 _ rfl
    obtain rfl : b0 = c0 := Option.some.inj g0
    obtain rfl : b1 = c1 := Option.some.inj g1
    obtain rfl : b2 = c2 := Option.some.inj g2
    obtain rfl : b3 = c3 := Option.some.inj g3
    obtain ⟨z0, e0, _, w0⟩ := DataW.trod_string Try.underlying9 r0
    obtain ⟨z1, e1, _, _⟩ := DataW.trod_int Try.underlying3 r1
    obtain ⟨z2, e2, _, _⟩ := DataW.trod_int Try.underlying3 r2
    obtain ⟨A, c, l, rfl, hB, hok, h9⟩ := open_blocks r3
    simp only [List.cons.injEq, and_true] at e0 e1 e2
    subst e0 e1 e2
    exact ⟨⟨z0, z1, z2, l⟩, A, c, ⟨by have := w0; rw [maxLen_is] at this; simp only; omega, h9, hok⟩, rfl, hB⟩
theorem open_func_at (n b off : Nat) (cs : List Value) (y : DataW H × List MemPlace) (hc : ∀ j, j < 4 → W.cell? ⟨b, off + j, none⟩ = cs[j]?) (hl : cs.length = 4) (ht : DataW.trod enc Try.prog W base spare held n 24 cs = some y) : ∃ x, FnOk x ∧ FnAt W b off x := by
  obtain ⟨x, A, c, ok, rfl, h1⟩ := open_fnc n cs y hl ht
  exact ⟨x, ok, hc 0 (by omega), hc 1 (by omega), hc 2 (by omega), A, c, hc 3 (by omega), h1⟩
theorem open_glob_at (n b off : Nat) (cs : List Value) (y : DataW H × List MemPlace) (hc : ∀ j, j < 4 → W.cell? ⟨b, off + j, none⟩ = cs[j]?) (_hl : cs.length = 4) (ht : DataW.trod enc Try.prog W base spare held n 92 cs = some y) : ∃ x, GlOk x ∧ GlAt W b off x := by
  obtain ⟨ys, q, _, _, _, hg⟩ := row_of Try.underlying92 (by kernel_rfl) cellsGlob ht
  obtain ⟨c0, y0, g0, _, r0⟩ := hg 0 _ rfl
  obtain ⟨c1, y1, g1, _, r1⟩ := hg 1 _ rfl
  obtain ⟨c2, y2, g2, _, r2⟩ := hg 2 _ rfl
  obtain ⟨c3, y3, g3, _, r3⟩ := hg 3 _ rfl
  obtain ⟨z0, e0, _, w0⟩ := DataW.trod_string Try.underlying9 r0
  obtain ⟨z1, e1, _, _⟩ := DataW.trod_int Try.underlying3 r1
  obtain ⟨z2, e2, _⟩ := DataW.trod_bool Try.underlying4 r2
  obtain ⟨z3, e3, _, _⟩ := DataW.trod_int Try.underlying41 r3
  simp only [List.cons.injEq, and_true] at e0 e1 e2 e3
  subst e0 e1 e2 e3
  exact ⟨⟨z0, z1, z2, z3⟩, by have := w0; rw [maxLen_is] at this; show z0.size < _; omega, (hc 0 (by omega)).trans g0, (hc 1 (by omega)).trans g1, (hc 2 (by omega)).trans g2, (hc 3 (by omega)).trans g3⟩
theorem open_mod (n : Nat) (cs : List Value) (y : DataW H × List MemPlace) (hl : cs.length = 2) (ht : DataW.trod enc Try.prog W base spare held n 33 cs = some y) :
    ∃ (m : Md) (F G : Option Addr) (cf cg : Nat), MdOk m ∧ cs = [.slice F m.f.length cf, .slice G m.g.length cg] ∧ MdAt W (.slice F m.f.length cf) (.slice G m.g.length cg) m := by
  match cs, hl with
  | [b0, b1], _ =>
    obtain ⟨ys, q, _, _, _, hg⟩ := row_of Try.underlying33 (by kernel_rfl) cellsModule ht
    obtain ⟨c0, y0, g0, _, r0⟩ := hg 0 _ rfl
    obtain ⟨c1, y1, g1, _, r1⟩ := hg 1 _ rfl
    obtain rfl : b0 = c0 := Option.some.inj g0
    obtain rfl : b1 = c1 := Option.some.inj g1
    obtain ⟨A, cap, l, rfl, hr, ho, h1, h2⟩ := open_row FnAt FnOk Try.underlying30 cellsFunc (by omega) open_func_at r0
    obtain ⟨A', cap', l', rfl, hr', ho', h1', h2'⟩ := open_row GlAt GlOk Try.underlying31 cellsGlob (by omega) open_glob_at r1
    rw [maxLen_is] at h2 h2'
    exact ⟨⟨l, l'⟩, A, A', cap, cap', ⟨ho, ho', by simp only; omega, by simp only; omega⟩, rfl, hr, hr'⟩

set_option maxRecDepth 100000 in
theorem arg_inst {r : Reach} {b0 : Nat} {v : Value} {d : DataW H} {p : List MemPlace} (hv : Value.okWide Try.prog W r b0 60 v) (h : DataW.Trod enc Try.prog W base spare held 60 v d p) :
    ∃ (x : In) (A : Option Addr) (c : Nat), v = inV x (.slice A x.l.length c) ∧ InOk x ∧ Ints W (.slice A x.l.length c) x.l := by
  obtain ⟨cs, rfl, hsz⟩ := okWide_struct Try.underlying60 hv
  obtain ⟨l⟩ := cs
  match l, hsz.trans cellsInst with
  | [c0, c1, c2, c3, c4, c5], _ =>
    obtain ⟨fuel, hf⟩ := h
    obtain ⟨ys, q, _, _, _, hg⟩ := row_of Try.underlying60 (by kernel_rfl) cellsInst hf
    obtain ⟨k0, y0, g0, _, r0⟩ := hg 0 _ rfl
    obtain ⟨k1, y1, g1, _, r1⟩ := hg 1 _ rfl
    obtain ⟨k2, y2, g2, _, r2⟩ := hg 2 _ rfl
    obtain ⟨k3, y3, g3, _, r3⟩ := hg 3 _ rfl
    obtain ⟨k4, y4, g4, _, r4⟩ := hg 4 _ rfl
    obtain ⟨k5, y5, g5, _, r5⟩ := hg 5 _ rfl
    obtain rfl : c0 = k0 := Option.some.inj g0
    obtain rfl : c1 = k1 := Option.some.inj g1
    obtain rfl : c2 = k2 := Option.some.inj g2
    obtain rfl : c3 = k3 := Option.some.inj g3
    obtain rfl : c4 = k4 := Option.some.inj g4
    obtain rfl : c5 = k5 := Option.some.inj g5
    obtain ⟨z0, e0, _, _⟩ := DataW.trod_int Try.underlying3 r0
    obtain ⟨z1, e1, _, _⟩ := DataW.trod_int Try.underlying3 r1
    obtain ⟨z2, e2, _, _⟩ := DataW.trod_int Try.underlying3 r2
    obtain ⟨z3, e3, _, _⟩ := DataW.trod_int Try.underlying41 r3
    obtain ⟨z4, e4, _, w4⟩ := DataW.trod_string Try.underlying9 r4
    obtain ⟨A, cap, l, rfl, hi, hl9⟩ := open_ints r5
    simp only [List.cons.injEq, and_true] at e0 e1 e2 e3 e4
    subst e0 e1 e2 e3 e4
    exact ⟨⟨z0, z1, z2, z3, z4, l⟩, A, cap, rfl, ⟨by have := w4; rw [maxLen_is] at this; simp only; omega, hl9⟩, hi⟩
set_option maxRecDepth 100000 in
theorem arg_block {r : Reach} {b0 : Nat} {v : Value} {d : DataW H} {p : List MemPlace} (hv : Value.okWide Try.prog W r b0 58 v) (h : DataW.Trod enc Try.prog W base spare held 58 v d p) :
    ∃ (x : Bk) (A A5 A7 : Option Addr) (c c5 c7 : Nat), v = .agg #[.int .i64 x.p, .slice A x.i.length c, .int .i64 x.e.k, .int .i64 x.e.a, .int .i64 x.e.t, .slice A5 x.e.l.length c5, .int .i64 x.e.e, .slice A7 x.e.m.length c7] ∧ BkOk x := by
  obtain ⟨cs, rfl, hsz⟩ := okWide_struct Try.underlying58 hv
  obtain ⟨l⟩ := cs
  obtain ⟨fuel, hf⟩ := h
  obtain ⟨x, A, A5, A7, c, c5, c7, ok, e, -⟩ := open_blk fuel l _ (hsz.trans cellsBlock) hf
  subst e
  exact ⟨x, A, A5, A7, c, c5, c7, rfl, ok⟩
set_option maxRecDepth 100000 in
theorem arg_func {r : Reach} {b0 : Nat} {v : Value} {d : DataW H} {p : List MemPlace} (hv : Value.okWide Try.prog W r b0 24 v) (h : DataW.Trod enc Try.prog W base spare held 24 v d p) :
    ∃ (x : Fn) (A : Option Addr) (c : Nat), v = .agg #[.string x.s, .int .i64 x.b, .int .i64 x.p, .slice A x.l.length c] ∧ FnOk x ∧ Blocks W (.slice A x.l.length c) x.l := by
  obtain ⟨cs, rfl, hsz⟩ := okWide_struct Try.underlying24 hv
  obtain ⟨l⟩ := cs
  obtain ⟨fuel, hf⟩ := h
  obtain ⟨x, A, c, ok, e, hB⟩ := open_fnc fuel l _ (hsz.trans cellsFunc) hf
  subst e
  exact ⟨x, A, c, rfl, ok, hB⟩
set_option maxRecDepth 100000 in
theorem arg_module {r : Reach} {b0 : Nat} {v : Value} {d : DataW H} {p : List MemPlace} (hv : Value.okWide Try.prog W r b0 33 v) (h : DataW.Trod enc Try.prog W base spare held 33 v d p) :
    ∃ (m : Md) (F G : Option Addr) (cf cg : Nat), v = .agg #[.slice F m.f.length cf, .slice G m.g.length cg] ∧ MdOk m ∧ MdAt W (.slice F m.f.length cf) (.slice G m.g.length cg) m := by
  obtain ⟨cs, rfl, hsz⟩ := okWide_struct Try.underlying33 hv
  obtain ⟨l⟩ := cs
  obtain ⟨fuel, hf⟩ := h
  obtain ⟨m, F, G, cf, cg, ok, e, hA⟩ := open_mod fuel l _ (hsz.trans cellsModule) hf
  subst e
  exact ⟨m, F, G, cf, cg, rfl, ok, hA⟩
end
end Go.Proofs.Ytkalgiaapkjplaa
