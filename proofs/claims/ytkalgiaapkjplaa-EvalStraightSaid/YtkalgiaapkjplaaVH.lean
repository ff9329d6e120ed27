/- Modules that came in as arguments, opened: all of a value's range is known; EvalCounts: pure. -/
import Derived.Test.YtkalgiaapkjplaaK10
import Derived.Test.YtkalgiaapkjplaaVF
namespace Go.Proofs.Ytkalgiaapkjplaa
open Go.ChangeShapes Go.WideShapes Go.ChangeAt Go.RowKit Go.Deep Go.Joins

def InR (i : In) : Prop := InOk i ∧ U64 i.k
def BkR (b : Bk) : Prop := BkOk b ∧ ∀ i ∈ b.i, U64 i.k
def FnR (f : Fn) : Prop := FnOk f ∧ ∀ i ∈ insF f, U64 i.k
def GlR (g : Gl) : Prop := GlOk g ∧ U64 g.i
section
variable {H : Type} {enc : TypeId × Value → H} {W : World} {base : Nat} {spare : Nat → Bool} {held : Bool}
theorem openr_inst (n b off : Nat) (cs : List Value) (y : DataW H × List MemPlace) (hc : ∀ j, j < 6 → W.cell? ⟨b, off + j, none⟩ = cs[j]?) (_hl : cs.length = 6) (ht : DataW.trod enc Try.prog W base spare held n 60 cs = some y) : ∃ x, InR x ∧ InAt W b off x := by
  obtain ⟨ys, q, _, _, _, hg⟩ := row_of Try.underlying60 (by kernel_rfl) cellsInst ht
  obtain ⟨c0, y0, g0, _, r0⟩ := hg 0 _ rfl
  obtain ⟨c1, y1, g1, _, r1⟩ := hg 1 _ rfl
  obtain ⟨c2, y2, g2, _, r2⟩ := hg 2 _ rfl
  obtain ⟨c3, y3, g3, _, r3⟩ := hg 3 _ rfl
  obtain ⟨c4, y4, g4, _, r4⟩ := hg 4 _ rfl
  obtain ⟨c5, y5, g5, _, r5⟩ := hg 5 _ rfl
  obtain ⟨z0, e0, _, _⟩ := DataW.trod_int Try.underlying3 r0
  obtain ⟨z1, e1, _, _⟩ := DataW.trod_int Try.underlying3 r1
  obtain ⟨z2, e2, _, _⟩ := DataW.trod_int Try.underlying3 r2
  obtain ⟨z3, e3, _, w3⟩ := DataW.trod_int Try.underlying41 r3
  obtain ⟨z4, e4, _, w4⟩ := DataW.trod_string Try.underlying9 r4
  obtain ⟨A, cap, l, rfl, hi, hl9⟩ := open_ints r5
  simp only [List.cons.injEq, and_true] at e0 e1 e2 e3 e4
  subst e0 e1 e2 e3 e4
  exact ⟨⟨z0, z1, z2, z3, z4, l⟩, ⟨⟨by have := w4; rw [maxLen_is] at this; simp only; omega, hl9⟩, bounds_u64 w3⟩, (hc 0 (by omega)).trans g0, (hc 1 (by omega)).trans g1, (hc 2 (by omega)).trans g2, (hc 3 (by omega)).trans g3, (hc 4 (by omega)).trans g4, A, cap, (hc 5 (by omega)).trans g5, hi⟩
theorem openr_insts {c : Value} {fuel : Nat} {y : DataW H × List MemPlace} (h : DataW.trod enc Try.prog W base spare held fuel 56 [c] = some y) :
    ∃ (A : Option Addr) (cap : Nat) (l : List In), c = .slice A l.length cap ∧ Insts W c l ∧ (∀ x ∈ l, InR x) ∧ l.length ≤ 9223372036854775807 := by
  obtain ⟨A, cap, l, rfl, hr, ho, h1, h2⟩ := open_row InAt InR Try.underlying56 cellsInst (by omega) openr_inst h
  exact ⟨A, cap, l, rfl, hr, ho, by rw [maxLen_is] at h2; omega⟩
set_option maxRecDepth 100000 in
theorem openr_blk (n : Nat) (cs : List Value) (y : DataW H × List MemPlace) (hl : cs.length = 8) (ht : DataW.trod enc Try.prog W base spare held n 58 cs = some y) :
    ∃ (x : Bk) (A A5 A7 : Option Addr) (c c5 c7 : Nat), BkR x ∧ cs = [.int .i64 x.p, .slice A x.i.length c, .int .i64 x.e.k, .int .i64 x.e.a, .int .i64 x.e.t, .slice A5 x.e.l.length c5, .int .i64 x.e.e, .slice A7 x.e.m.length c7] ∧
      Insts W (.slice A x.i.length c) x.i ∧ Ints W (.slice A5 x.e.l.length c5) x.e.l ∧ Ints W (.slice A7 x.e.m.length c7) x.e.m := by
  match cs, hl with
  | [b0, b1, b2, b3, b4, b5, b6, b7], _ =>
    obtain ⟨ys, m, _, _, _, hyl, hf⟩ := DataW.trod_struct Try.underlying58 ht
    have f0 : DataW.trod enc Try.prog W base spare held m 3 (List.take (Try.prog.cellsOf 3) (List.drop 0 [b0, b1, b2, b3, b4, b5, b6, b7])) = ys[0]? := hf 0 _ rfl
    have f1 : DataW.trod enc Try.prog W base spare held m 56 (List.take (Try.prog.cellsOf 56) (List.drop 1 [b0, b1, b2, b3, b4, b5, b6, b7])) = ys[1]? := hf 1 _ rfl
    have f2 : DataW.trod enc Try.prog W base spare held m 55 (List.take (Try.prog.cellsOf 55) (List.drop 2 [b0, b1, b2, b3, b4, b5, b6, b7])) = ys[2]? := hf 2 _ rfl
    rw [cellsInt] at f0
    rw [cellsInsts] at f1
    rw [cellsTerm] at f2
    simp only [List.drop_zero, List.drop_succ_cons, List.take_succ_cons, List.take_zero] at f0 f1 f2
    have hyl' : ys.length = 3 := hyl
    rw [List.getElem?_eq_getElem (by omega)] at f0 f1 f2
    obtain ⟨z0, e0, _, _⟩ := DataW.trod_int Try.underlying3 f0
    obtain ⟨A, c, l, rfl, hI, hok, h9⟩ := openr_insts f1
    obtain ⟨_, q, _, _, _, hg⟩ := row_of Try.underlying55 (by kernel_rfl) cellsTerm f2
    obtain ⟨c0, y0, g0, _, r0⟩ := hg 0 _ rfl
    obtain ⟨c1, y1, g1, _, r1⟩ := hg 1 _ rfl
    obtain ⟨c2, y2, g2, _, r2⟩ := hg 2 _ rfl
    obtain ⟨c3, y3, g3, _, r3⟩ := hg 3 _ rfl
    obtain ⟨c4, y4, g4, _, r4⟩ := hg 4 _ rfl
    obtain ⟨c5, y5, g5, _, r5⟩ := hg 5 _ rfl
    obtain rfl : b2 = c0 := Option.some.inj g0
    obtain rfl : b3 = c1 := Option.some.inj g1
    obtain rfl : b4 = c2 := Option.some.inj g2
    obtain rfl : b5 = c3 := Option.some.inj g3
    obtain rfl : b6 = c4 := Option.some.inj g4
    obtain rfl : b7 = c5 := Option.some.inj g5
    obtain ⟨t0, k0, _, _⟩ := DataW.trod_int Try.underlying3 r0
    obtain ⟨t1, k1, _, _⟩ := DataW.trod_int Try.underlying3 r1
    obtain ⟨t2, k2, _, _⟩ := DataW.trod_int Try.underlying3 r2
    obtain ⟨A5, c5, l5, rfl, h5, h59⟩ := open_ints r3
    obtain ⟨t4, k4, _, _⟩ := DataW.trod_int Try.underlying3 r4
    obtain ⟨A7, c7, l7, rfl, h7, h79⟩ := open_ints r5
    simp only [List.cons.injEq, and_true] at e0 k0 k1 k2 k4
    subst e0 k0 k1 k2 k4
    exact ⟨⟨z0, l, ⟨t0, t1, t2, l5, t4, l7⟩⟩, A, A5, A7, c, c5, c7, ⟨⟨h9, h59, h79, fun i hi => (hok i hi).1⟩, fun i hi => (hok i hi).2⟩, rfl, hI, h5, h7⟩
theorem openr_block (n b off : Nat) (cs : List Value) (y : DataW H × List MemPlace) (hc : ∀ j, j < 8 → W.cell? ⟨b, off + j, none⟩ = cs[j]?) (hl : cs.length = 8) (ht : DataW.trod enc Try.prog W base spare held n 58 cs = some y) : ∃ x, BkR x ∧ BkAt W b off x := by
  obtain ⟨x, A, A5, A7, c, c5, c7, ok, rfl, h1, h5, h7⟩ := openr_blk n cs y hl ht
  exact ⟨x, ok, hc 0 (by omega), ⟨A, c, hc 1 (by omega), h1⟩, hc 2 (by omega), hc 3 (by omega), hc 4 (by omega), ⟨A5, c5, hc 5 (by omega), h5⟩, hc 6 (by omega), A7, c7, hc 7 (by omega), h7⟩
theorem openr_blocks {c : Value} {fuel : Nat} {y : DataW H × List MemPlace} (h : DataW.trod enc Try.prog W base spare held fuel 22 [c] = some y) :
    ∃ (A : Option Addr) (cap : Nat) (l : List Bk), c = .slice A l.length cap ∧ Blocks W c l ∧ (∀ x ∈ l, BkR x) ∧ l.length ≤ 9223372036854775807 := by
  obtain ⟨A, cap, l, rfl, hr, ho, h1, h2⟩ := open_row BkAt BkR Try.underlying22 cellsBlock (by omega) openr_block h
  exact ⟨A, cap, l, rfl, hr, ho, by rw [maxLen_is] at h2; omega⟩
theorem openr_fnc (n : Nat) (cs : List Value) (y : DataW H × List MemPlace) (hl : cs.length = 4) (ht : DataW.trod enc Try.prog W base spare held n 24 cs = some y) :
    ∃ (x : Fn) (A : Option Addr) (c : Nat), FnR x ∧ cs = [.string x.s, .int .i64 x.b, .int .i64 x.p, .slice A x.l.length c] ∧ Blocks W (.slice A x.l.length c) x.l := by
  match cs, hl with
  | [b0, b1, b2, b3], _ =>
    obtain ⟨ys, q, _, _, _, hg⟩ := row_of Try.underlying24 (by kernel_rfl) cellsFunc ht
    obtain ⟨c0, y0, g0, _, r0⟩ := hg 0 _ rfl
    obtain ⟨c1, y1, g1, _, r1⟩ := hg 1 _ rfl
    obtain ⟨c2, y2, g2, _, r2⟩ := hg 2 _ rfl
    obtain ⟨c3, y3, g3, _, r3⟩ := hg 3 _ rfl
    obtain rfl : b0 = c0 := Option.some.inj g0
    obtain rfl : b1 = c1 := Option.some.inj g1
    obtain rfl : b2 = c2 := Option.some.inj g2
    obtain rfl : b3 = c3 := Option.some.inj g3
    obtain ⟨z0, e0, _, w0⟩ := DataW.trod_string Try.underlying9 r0
    obtain ⟨z1, e1, _, _⟩ := DataW.trod_int Try.underlying3 r1
    obtain ⟨z2, e2, _, _⟩ := DataW.trod_int Try.underlying3 r2
    obtain ⟨A, c, l, rfl, hB, hok, h9⟩ := openr_blocks r3
    simp only [List.cons.injEq, and_true] at e0 e1 e2
    subst e0 e1 e2
    exact ⟨⟨z0, z1, z2, l⟩, A, c, ⟨⟨by have := w0; rw [maxLen_is] at this; simp only; omega, h9, fun b hb => (hok b hb).1⟩, fun i hi => by
      obtain ⟨_, hl, hi⟩ := List.mem_flatten.1 hi
      obtain ⟨b, hb, rfl⟩ := List.mem_map.1 hl
      exact (hok b hb).2 i hi⟩, rfl, hB⟩
theorem openr_func_at (n b off : Nat) (cs : List Value) (y : DataW H × List MemPlace) (hc : ∀ j, j < 4 → W.cell? ⟨b, off + j, none⟩ = cs[j]?) (hl : cs.length = 4) (ht : DataW.trod enc Try.prog W base spare held n 24 cs = some y) : ∃ x, FnR x ∧ FnAt W b off x := by
  obtain ⟨x, A, c, ok, rfl, h1⟩ := openr_fnc n cs y hl ht
  exact ⟨x, ok, hc 0 (by omega), hc 1 (by omega), hc 2 (by omega), A, c, hc 3 (by omega), h1⟩
theorem openr_glob_at (n b off : Nat) (cs : List Value) (y : DataW H × List MemPlace) (hc : ∀ j, j < 4 → W.cell? ⟨b, off + j, none⟩ = cs[j]?) (_hl : cs.length = 4) (ht : DataW.trod enc Try.prog W base spare held n 92 cs = some y) : ∃ x, GlR x ∧ GlAt W b off x := by
  obtain ⟨ys, q, _, _, _, hg⟩ := row_of Try.underlying92 (by kernel_rfl) cellsGlob ht
  obtain ⟨c0, y0, g0, _, r0⟩ := hg 0 _ rfl
  obtain ⟨c1, y1, g1, _, r1⟩ := hg 1 _ rfl
  obtain ⟨c2, y2, g2, _, r2⟩ := hg 2 _ rfl
  obtain ⟨c3, y3, g3, _, r3⟩ := hg 3 _ rfl
  obtain ⟨z0, e0, _, w0⟩ := DataW.trod_string Try.underlying9 r0
  obtain ⟨z1, e1, _, _⟩ := DataW.trod_int Try.underlying3 r1
  obtain ⟨z2, e2, _⟩ := DataW.trod_bool Try.underlying4 r2
  obtain ⟨z3, e3, _, w3⟩ := DataW.trod_int Try.underlying41 r3
  simp only [List.cons.injEq, and_true] at e0 e1 e2 e3
  subst e0 e1 e2 e3
  exact ⟨⟨z0, z1, z2, z3⟩, ⟨by have := w0; rw [maxLen_is] at this; show z0.size < _; omega, bounds_u64 w3⟩, (hc 0 (by omega)).trans g0, (hc 1 (by omega)).trans g1, (hc 2 (by omega)).trans g2, (hc 3 (by omega)).trans g3⟩
theorem openr_mod (n : Nat) (cs : List Value) (y : DataW H × List MemPlace) (hl : cs.length = 2) (ht : DataW.trod enc Try.prog W base spare held n 33 cs = some y) :
    ∃ (m : Md) (F G : Option Addr) (cf cg : Nat), (MdOk m ∧ MdR m) ∧ cs = [.slice F m.f.length cf, .slice G m.g.length cg] ∧ MdAt W (.slice F m.f.length cf) (.slice G m.g.length cg) m := by
  match cs, hl with
  | [b0, b1], _ =>
    obtain ⟨ys, q, _, _, _, hg⟩ := row_of Try.underlying33 (by kernel_rfl) cellsModule ht
    obtain ⟨c0, y0, g0, _, r0⟩ := hg 0 _ rfl
    obtain ⟨c1, y1, g1, _, r1⟩ := hg 1 _ rfl
    obtain rfl : b0 = c0 := Option.some.inj g0
    obtain rfl : b1 = c1 := Option.some.inj g1
    obtain ⟨A, cap, l, rfl, hr, ho, h1, h2⟩ := open_row FnAt FnR Try.underlying30 cellsFunc (by omega) openr_func_at r0
    obtain ⟨A', cap', l', rfl, hr', ho', h1', h2'⟩ := open_row GlAt GlR Try.underlying31 cellsGlob (by omega) openr_glob_at r1
    rw [maxLen_is] at h2 h2'
    exact ⟨⟨l, l'⟩, A, A', cap, cap', ⟨⟨fun f hf => (ho f hf).1, fun g hg => (ho' g hg).1, by simp only; omega, by simp only; omega⟩, fun f hf => (ho f hf).2, fun g hg => (ho' g hg).2⟩, rfl, hr, hr'⟩

set_option maxRecDepth 100000 in
theorem argr_module {r : Reach} {b0 : Nat} {v : Value} {d : DataW H} {p : List MemPlace} (hv : Value.okWide Try.prog W r b0 33 v) (h : DataW.Trod enc Try.prog W base spare held 33 v d p) :
    ∃ (m : Md) (F G : Option Addr) (cf cg : Nat), v = .agg #[.slice F m.f.length cf, .slice G m.g.length cg] ∧ (MdOk m ∧ MdR m) ∧ MdAt W (.slice F m.f.length cf) (.slice G m.g.length cg) m := by
  obtain ⟨cs, rfl, hsz⟩ := okWide_struct Try.underlying33 hv
  obtain ⟨l⟩ := cs
  obtain ⟨fuel, hf⟩ := h
  obtain ⟨m, F, G, cf, cg, ok, e, hA⟩ := openr_mod fuel l _ (hsz.trans cellsModule) hf
  subst e
  exact ⟨m, F, G, cf, cg, rfl, ok, hA⟩
theorem cellsString : Try.prog.cellsOf 9 = 1 := by kernel_rfl
set_option maxRecDepth 100000 in
theorem argr_evalRunsIn {r : Reach} {b0 : Nat} {v : Value} {d : DataW H} {p : List MemPlace} (hv : Value.okWide Try.prog W r b0 40 v) (h : DataW.Trod enc Try.prog W base spare held 40 v d p) :
    ∃ (m : Md) (F G : Option Addr) (cf cg : Nat) (x0 : ByteArray) (x1 : Int) (x2 : Int), v = .agg #[.slice F m.f.length cf, .slice G m.g.length cg, .string x0, .int .i64 x1, .int .i64 x2] ∧ (MdOk m ∧ MdR m) ∧ (x0.size < 9223372036854775808 ∧ (Lit.int .i64 x1).wf = true ∧ (Lit.int .i64 x2).wf = true) ∧ MdAt W (.slice F m.f.length cf) (.slice G m.g.length cg) m := by
  obtain ⟨cs, rfl, hsz⟩ := okWide_struct Try.underlying40 hv
  obtain ⟨l⟩ := cs
  obtain ⟨fuel, hf⟩ := h
  have hC : Try.prog.cellsOf 40 = 5 := by kernel_rfl
  match l, hsz.trans hC with
  | [b0, b1, b2, b3, b4], _ =>
    obtain ⟨ys, q, _, _, _, hyl, hf⟩ := DataW.trod_struct Try.underlying40 hf
    have hyl' : ys.length = 4 := hyl
    have f0 : DataW.trod enc Try.prog W base spare held q 33 (List.take (Try.prog.cellsOf 33) (List.drop 0 [b0, b1, b2, b3, b4])) = ys[0]? := hf 0 _ rfl
    have f1 : DataW.trod enc Try.prog W base spare held q 9 (List.take (Try.prog.cellsOf 9) (List.drop 2 [b0, b1, b2, b3, b4])) = ys[1]? := hf 1 _ rfl
    have f2 : DataW.trod enc Try.prog W base spare held q 3 (List.take (Try.prog.cellsOf 3) (List.drop 3 [b0, b1, b2, b3, b4])) = ys[2]? := hf 2 _ rfl
    have f3 : DataW.trod enc Try.prog W base spare held q 3 (List.take (Try.prog.cellsOf 3) (List.drop 4 [b0, b1, b2, b3, b4])) = ys[3]? := hf 3 _ rfl
    rw [cellsModule] at f0
    rw [cellsString] at f1
    rw [cellsInt] at f2
    rw [cellsInt] at f3
    simp only [List.drop_zero, List.drop_succ_cons, List.take_succ_cons, List.take_zero] at f0 f1 f2 f3
    rw [List.getElem?_eq_getElem (by omega)] at f0 f1 f2 f3
    obtain ⟨m, F, G, cf, cg, ok, e, hA⟩ := openr_mod q _ _ rfl f0
    obtain ⟨z0, e0, _, w0⟩ := DataW.trod_string Try.underlying9 f1
    obtain ⟨z1, e1, _, w1⟩ := DataW.trod_int Try.underlying3 f2
    obtain ⟨z2, e2, _, w2⟩ := DataW.trod_int Try.underlying3 f3
    simp only [List.cons.injEq, and_true] at e e0 e1 e2
    obtain ⟨ea, eb⟩ := e
    subst ea eb e0 e1 e2
    exact ⟨m, F, G, cf, cg, z0, z1, z2, rfl, ok, ⟨by have := w0; rw [maxLen_is] at this; omega, w1, w2⟩, hA⟩
set_option maxRecDepth 100000 in
theorem argr_evalAheadIn {r : Reach} {b0 : Nat} {v : Value} {d : DataW H} {p : List MemPlace} (hv : Value.okWide Try.prog W r b0 51 v) (h : DataW.Trod enc Try.prog W base spare held 51 v d p) :
    ∃ (m : Md) (F G : Option Addr) (cf cg : Nat) (x0 : ByteArray) (x1 : ByteArray) (x2 : Int) (x3 : Int), v = .agg #[.slice F m.f.length cf, .slice G m.g.length cg, .string x0, .string x1, .int .i64 x2, .int .i64 x3] ∧ (MdOk m ∧ MdR m) ∧ (x0.size < 9223372036854775808 ∧ x1.size < 9223372036854775808 ∧ (Lit.int .i64 x2).wf = true ∧ (Lit.int .i64 x3).wf = true) ∧ MdAt W (.slice F m.f.length cf) (.slice G m.g.length cg) m := by
  obtain ⟨cs, rfl, hsz⟩ := okWide_struct Try.underlying51 hv
  obtain ⟨l⟩ := cs
  obtain ⟨fuel, hf⟩ := h
  have hC : Try.prog.cellsOf 51 = 6 := by kernel_rfl
  match l, hsz.trans hC with
  | [b0, b1, b2, b3, b4, b5], _ =>
    obtain ⟨ys, q, _, _, _, hyl, hf⟩ := DataW.trod_struct Try.underlying51 hf
    have hyl' : ys.length = 5 := hyl
    have f0 : DataW.trod enc Try.prog W base spare held q 33 (List.take (Try.prog.cellsOf 33) (List.drop 0 [b0, b1, b2, b3, b4, b5])) = ys[0]? := hf 0 _ rfl
    have f1 : DataW.trod enc Try.prog W base spare held q 9 (List.take (Try.prog.cellsOf 9) (List.drop 2 [b0, b1, b2, b3, b4, b5])) = ys[1]? := hf 1 _ rfl
    have f2 : DataW.trod enc Try.prog W base spare held q 9 (List.take (Try.prog.cellsOf 9) (List.drop 3 [b0, b1, b2, b3, b4, b5])) = ys[2]? := hf 2 _ rfl
    have f3 : DataW.trod enc Try.prog W base spare held q 3 (List.take (Try.prog.cellsOf 3) (List.drop 4 [b0, b1, b2, b3, b4, b5])) = ys[3]? := hf 3 _ rfl
    have f4 : DataW.trod enc Try.prog W base spare held q 3 (List.take (Try.prog.cellsOf 3) (List.drop 5 [b0, b1, b2, b3, b4, b5])) = ys[4]? := hf 4 _ rfl
    rw [cellsModule] at f0
    rw [cellsString] at f1
    rw [cellsString] at f2
    rw [cellsInt] at f3
    rw [cellsInt] at f4
    simp only [List.drop_zero, List.drop_succ_cons, List.take_succ_cons, List.take_zero] at f0 f1 f2 f3 f4
    rw [List.getElem?_eq_getElem (by omega)] at f0 f1 f2 f3 f4
    obtain ⟨m, F, G, cf, cg, ok, e, hA⟩ := openr_mod q _ _ rfl f0
    obtain ⟨z0, e0, _, w0⟩ := DataW.trod_string Try.underlying9 f1
    obtain ⟨z1, e1, _, w1⟩ := DataW.trod_string Try.underlying9 f2
    obtain ⟨z2, e2, _, w2⟩ := DataW.trod_int Try.underlying3 f3
    obtain ⟨z3, e3, _, w3⟩ := DataW.trod_int Try.underlying3 f4
    simp only [List.cons.injEq, and_true] at e e0 e1 e2 e3
    obtain ⟨ea, eb⟩ := e
    subst ea eb e0 e1 e2 e3
    exact ⟨m, F, G, cf, cg, z0, z1, z2, z3, rfl, ok, ⟨by have := w0; rw [maxLen_is] at this; omega, by have := w1; rw [maxLen_is] at this; omega, w2, w3⟩, hA⟩
end
end Go.Proofs.Ytkalgiaapkjplaa

namespace Go.Proofs.Ytkalgiaapkjplaa
open Go.RowKit

/-- what holds between two steps, and at the end -/
structure Cnt (inp : ByteArray) (dp : Nat) (s : Rs) : Prop where
  rd : s.read ≤ inp.size
  d1 : 1 ≤ s.deep
  d2 : s.deep ≤ dp
  ou : s.out.length ≤ s.steps
theorem value_more {inp : ByteArray} {s : Rs} {i : In} {vs : List Int} : (valueE inp s i vs).2.en = s.en ∧ (valueE inp s i vs).2.co = s.co := by
  unfold valueE
  split; · exact ⟨rfl, rfl⟩
  split; · exact ⟨rfl, rfl⟩
  split; · exact ⟨rfl, rfl⟩
  split
  · unfold readE
    simp only
    split <;> exact ⟨rfl, rfl⟩
  split; · exact ⟨rfl, rfl⟩
  exact ⟨rfl, rfl⟩
/-- it goes on, with a call at least; or it has ended -/
def Goes (s : Rs) : Prop := (s.cs = [] ∧ s.en = true) ∨ (s.cs ≠ [] ∧ s.en = false ∧ s.co = 0)
theorem end_goes (s : Rs) (c : Cl) (r : List Cl) (t : Tm) (h : s.en = false ∧ s.co = 0) : Goes (endE s c r t) := by
  unfold endE
  split
  · cases r
    · exact .inl ⟨rfl, rfl⟩
    · exact .inr ⟨by simp, h.1, h.2⟩
  · split <;> exact .inr ⟨by simp, h.1, h.2⟩
theorem tick_cnt {m : Md} {inp : ByteArray} {dp : Nat} {s : Rs} {c : Cl} {r : List Cl} (hs : s.cs = c :: r) (h : Cnt inp dp s) (hl : s.cs.length ≤ dp) (hg : s.en = false ∧ s.co = 0) :
    Cnt inp dp (tick m inp dp s c r).1 ∧ (tick m inp dp s c r).1.cs.length ≤ dp ∧ Goes (tick m inp dp s c r).1 ∧ (tick m inp dp s c r).1.steps ≤ s.steps + 1 ∧ ((tick m inp dp s c r).2 = false → (tick m inp dp s c r).1.en = false ∧ (tick m inp dp s c r).1.co = 0) := by
  have hl' := hl
  rw [hs, List.length_cons] at hl'
  obtain ⟨h1, h2, h3, h4⟩ := h
  unfold tick
  split
  · exact ⟨⟨h1, h2, h3, h4⟩, hl, .inr ⟨by rw [hs]; simp, hg⟩, by simp only; omega, fun _ => hg⟩
  · rename_i b _
    simp only
    split
    · rename_i i _
      by_cases ho : i.o = 14
      · rw [if_pos ho]
        by_cases hd' : r.length + 1 = dp
        · rw [if_pos hd']
          exact ⟨⟨h1, h2, h3, by simp only; omega⟩, by simp only [List.length_cons]; omega, .inr ⟨by simp, hg⟩, by simp, fun _ => hg⟩
        · rw [if_neg hd']
          exact ⟨⟨h1, by simp only; omega, by simp only; omega, by simp only; omega⟩, by simp only [List.length_cons]; omega, .inr ⟨by simp, hg⟩, by simp, fun h => by cases h⟩
      · rw [if_neg ho]
        obtain ⟨a, b', c', d⟩ := value_bnd (inp := inp) (s := { s with steps := s.steps + 1 }) (i := i) (vs := c.vs) h1
        obtain ⟨e1, e2⟩ := value_more (inp := inp) (s := { s with steps := s.steps + 1 }) (i := i) (vs := c.vs)
        simp only at b' c' d e1 e2
        exact ⟨⟨a, by simp only; omega, by simp only; omega, by simp only; omega⟩, by simp only [List.length_cons]; omega, .inr ⟨by simp, e1.trans hg.1, e2.trans hg.2⟩, by simp only; omega, fun h => by cases h⟩
    · simp only
      obtain ⟨a, b', c', d, e⟩ := end_bnd { s with steps := s.steps + 1 } c r b.e
      simp only at a b' c' d
      exact ⟨⟨by omega, by omega, by omega, by rw [b', d]; omega⟩, by omega, end_goes _ c r b.e hg, by omega, fun h => by cases h⟩
theorem run_cnt {m : Md} {inp : ByteArray} {dp : Nat} : ∀ (n : Nat) (s : Rs), Cnt inp dp s → s.cs.length ≤ dp → Goes s →
    Cnt inp dp (runE m inp dp n s).1 ∧ (runE m inp dp n s).1.steps ≤ s.steps + n ∧ (((runE m inp dp n s).2 = 0 ∧ (runE m inp dp n s).1.en = true) ∨ (((runE m inp dp n s).2 = 12 ∨ (runE m inp dp n s).2 = 13) ∧ (runE m inp dp n s).1.en = false ∧ (runE m inp dp n s).1.co = 0)) := by
  intro n
  induction n with
  | zero =>
    intro s h hl hg
    unfold runE
    rcases hg with ⟨h0, he⟩ | ⟨h0, he⟩
    · rw [h0]
      exact ⟨h, by simp only; omega, .inl ⟨rfl, he⟩⟩
    · obtain ⟨c, r, hcr⟩ := List.exists_cons_of_ne_nil h0
      rw [hcr]
      exact ⟨h, by simp only; omega, .inr ⟨.inl rfl, he⟩⟩
  | succ n ih =>
    intro s h hl hg
    unfold runE
    rcases hg with ⟨h0, he⟩ | ⟨h0, he⟩
    · rw [h0]
      exact ⟨h, by simp only; omega, .inl ⟨rfl, he⟩⟩
    · obtain ⟨c, r, hcr⟩ := List.exists_cons_of_ne_nil h0
      have ht := tick_cnt (m := m) hcr h hl he
      rw [hcr]
      simp only
      obtain ⟨q, hq⟩ : ∃ q, tick m inp dp s c r = q := ⟨_, rfl⟩
      rw [hq] at ht ⊢
      obtain ⟨q1, q2⟩ := q
      obtain ⟨t1, t2, t3, t4, t5⟩ := ht
      cases q2 with
      | true =>
        obtain ⟨i1, i2, i3⟩ := ih q1 t1 t2 t3
        exact ⟨i1, by simp only at i2 t4 ⊢; omega, i3⟩
      | false => exact ⟨t1, by simp only at t4 ⊢; omega, .inr ⟨.inr rfl, t5 rfl⟩⟩
end Go.Proofs.Ytkalgiaapkjplaa
