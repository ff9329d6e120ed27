/- Modules that came in as arguments, opened, with the room of the row of functions. -/
import Derived.Test.YtkalgiaapkjplaaK10
namespace Go.Proofs.Ytkalgiaapkjplaa
open Go.ChangeShapes Go.WideShapes Go.ChangeAt Go.RowKit Go.Deep Go.Joins

section
variable {H : Type} {enc : TypeId × Value → H} {W : World} {base : Nat} {spare : Nat → Bool} {held : Bool}
theorem openc_mod (n : Nat) (cs : List Value) (y : DataW H × List MemPlace) (hl : cs.length = 2) (ht : DataW.trod enc Try.prog W base spare held n 33 cs = some y) :
    ∃ (m : Md) (F G : Option Addr) (cf cg : Nat), (MdOk m ∧ m.f.length ≤ cf ∧ cf ≤ 9223372036854775807) ∧ cs = [.slice F m.f.length cf, .slice G m.g.length cg] ∧ MdAt W (.slice F m.f.length cf) (.slice G m.g.length cg) m := by
  match cs, hl with
  | [b0, b1], _ =>
    obtain ⟨ys, q, _, _, _, hg⟩ := row_of Try.underlying33 (by kernel_rfl) cellsModule ht
    obtain ⟨c0, y0, g0, _, r0⟩ := hg 0 _ rfl
    obtain ⟨c1, y1, g1, _, r1⟩ := hg 1 _ rfl
    obtain rfl : b0 = c0 := Option.some.inj g0
    obtain rfl : b1 = c1 := Option.some.inj g1
    obtain ⟨A, cap, l, rfl, hr, ho, h1, h2⟩ := open_row FnAt FnOk Try.underlying30 cellsFunc (by omega) open_func_at r0
    obtain ⟨A', cap', l', rfl, hr', ho', h1', h2'⟩ := open_row GlAt GlOk Try.underlying31 cellsGlob (by omega) open_glob_at r1
    rw [maxLen_is] at h2 h2'
    exact ⟨⟨l, l'⟩, A, A', cap, cap', ⟨⟨ho, ho', by simp only; omega, by simp only; omega⟩, h1, by omega⟩, rfl, hr, hr'⟩

set_option maxRecDepth 100000 in
theorem argc_module {r : Reach} {b0 : Nat} {v : Value} {d : DataW H} {p : List MemPlace} (hv : Value.okWide Try.prog W r b0 33 v) (h : DataW.Trod enc Try.prog W base spare held 33 v d p) :
    ∃ (m : Md) (F G : Option Addr) (cf cg : Nat), v = .agg #[.slice F m.f.length cf, .slice G m.g.length cg] ∧ (MdOk m ∧ m.f.length ≤ cf ∧ cf ≤ 9223372036854775807) ∧ MdAt W (.slice F m.f.length cf) (.slice G m.g.length cg) m := by
  obtain ⟨cs, rfl, hsz⟩ := okWide_struct Try.underlying33 hv
  obtain ⟨l⟩ := cs
  obtain ⟨fuel, hf⟩ := h
  obtain ⟨m, F, G, cf, cg, ok, e, hA⟩ := openc_mod fuel l _ (hsz.trans cellsModule) hf
  subst e
  exact ⟨m, F, G, cf, cg, rfl, ok, hA⟩
end
end Go.Proofs.Ytkalgiaapkjplaa
