/- A module that came in as an argument, opened: how many functions and globals it has at most. -/
import Derived.Test.YtniolkjeblocaaaTH
namespace Go.Proofs.Ytniolkjeblocaaa
open Go.ChangeShapes Go.WideShapes Go.ChangeAt Go.RowKit Go.Deep Go.Joins

section
variable {H : Type} {enc : TypeId × Value → H} {W : World} {base : Nat} {spare : Nat → Bool} {held : Bool}
set_option maxRecDepth 100000 in
theorem argb_module {r : Reach} {b0 : Nat} {v : Value} {d : DataW H} {p : List MemPlace} (hv : Value.okWide Try.prog W r b0 25 v) (h : DataW.Trod enc Try.prog W base spare held 25 v d p) (hz : ∀ k ∈ d.weights Try.prog 25, k ≤ reachBytes) :
    ∃ (m : Md) (F G : Option Addr) (cf cg : Nat), v = .agg #[.slice F m.f.length cf, .slice G m.g.length cg] ∧ (MdOk m ∧ MdW m) ∧ MdAt W (.slice F m.f.length cf) (.slice G m.g.length cg) m ∧ m.f.length + m.g.length ≤ Rows.uptoBulk d := by
  obtain ⟨cs, rfl, hsz⟩ := okWide_struct Try.underlying25 hv
  obtain ⟨l⟩ := cs
  obtain ⟨fuel, hf⟩ := h
  obtain ⟨m, F, G, cf, cg, ok, e, hA⟩ := openw_mod fuel l _ (hsz.trans cellsModule) hf hz
  subst e
  exact ⟨m, F, G, cf, cg, rfl, ok, hA, mod_bulk hf⟩
end
end Go.Proofs.Ytniolkjeblocaaa
