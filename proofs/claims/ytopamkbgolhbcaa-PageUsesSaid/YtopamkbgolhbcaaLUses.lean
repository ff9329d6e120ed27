/- PageUses: what is loaded, stored and filled in is as the document's own answer says. For every argument that can be read. -/
import Derived.Test.YtopamkbgolhbcaaP44
import Derived.Test.YtopamkbgolhbcaaFr
namespace Go.Proofs.Ytopamkbgolhbcaa.pageUses
open Go.ChangeShapes Go.WideShapes Go.ChangeAt Go.RowKit Go.Deep

theorem cellsIn : Try.prog.cellsOf 36 = 6 := by kernel_rfl
theorem types_ok : ∀ t ∈ Try.f4.params.toList, Try.prog.readableRec t = true ∧ t < Try.prog.types.size := by
  rw [Try.params4]
  intro t ht
  simp at ht
  subst ht
  exact ⟨by kernel_rfl, of_decide_eq_true (by kernel_rfl)⟩

section
variable {H : Type} {enc : TypeId × Value → H}
set_option maxRecDepth 100000 in
theorem open_in {W : World} {r : Reach} {b0 base : Nat} {spare : Nat → Bool} {held : Bool} {v : Value} {d : DataW H} {p : List MemPlace} (hv : Value.okWide Try.prog W r b0 36 v)
    (h : DataW.Trod enc Try.prog W base spare held 36 v d p) :
    ∃ (A : Option Addr) (nv cap : Nat) (m : List M.Pg) (a n p z : Int) (s : ByteArray), v = .agg #[.slice A nv cap, .int .u64 a, .int .i64 n, .int .i64 p, .int .u64 z, .string s] ∧ Pages W (.slice A nv cap) m ∧ Wf m ∧ nv ≤ cap ∧ cap ≤ maxLen ∧
      (0 ≤ a ∧ a ≤ 18446744073709551615) ∧ (-9223372036854775808 ≤ n ∧ n ≤ 9223372036854775807) ∧ (0 ≤ z ∧ z ≤ 18446744073709551615) := by
  obtain ⟨cs, rfl, hsz⟩ := okWide_struct Try.underlying36 hv
  obtain ⟨l⟩ := cs
  match l, hsz.trans cellsIn with
  | [c0, c1, c2, c3, c4, c5], _ =>
    obtain ⟨fuel, hf⟩ := h
    obtain ⟨ys, q, _, _, _, hg⟩ := row_of Try.underlying36 (by kernel_rfl) cellsIn hf
    obtain ⟨k0, y0, g0, _, r0⟩ := hg 0 _ rfl
    obtain ⟨k1, y1, g1, _, r1⟩ := hg 1 _ rfl
    obtain ⟨k2, y2, g2, _, r2⟩ := hg 2 _ rfl
    obtain ⟨k3, y3, g3, _, r3⟩ := hg 3 _ rfl
    obtain ⟨k4, y4, g4, _, r4⟩ := hg 4 _ rfl
    obtain ⟨k5, y5, g5, _, r5⟩ := hg 5 _ rfl
    obtain rfl : c0 = k0 := Option.some.inj g0
    obtain rfl : c1 = k1 := Option.some.inj g1
    obtain rfl : c2 = k2 := Option.some.inj g2
    obtain rfl : c3 = k3 := Option.some.inj g3
    obtain rfl : c4 = k4 := Option.some.inj g4
    obtain rfl : c5 = k5 := Option.some.inj g5
    obtain ⟨A, nv, cap, m, rfl, hP, hW, h1, h2⟩ := open_pages r0
    obtain ⟨a, e1, _, w1⟩ := DataW.trod_int Try.underlying23 r1
    obtain ⟨n, e2, _, w2⟩ := DataW.trod_int Try.underlying3 r2
    obtain ⟨pp, e3, _, _⟩ := DataW.trod_int Try.underlying3 r3
    obtain ⟨z, e4, _, w4⟩ := DataW.trod_int Try.underlying23 r4
    obtain ⟨s, e5, _, _⟩ := DataW.trod_string Try.underlying9 r5
    simp only [List.cons.injEq, and_true] at e1 e2 e3 e4 e5
    subst e1 e2 e3 e4 e5
    exact ⟨A, nv, cap, m, a, n, pp, z, s, rfl, hP, hW, h1, h2, bounds_u64 w1, bounds_i64 w2, bounds_u64 w4⟩
end

set_option maxRecDepth 100000 in
theorem contract (H : Type) (enc : TypeId × Value → H) (W : World) (base : Nat) (args : Array Value) (ds gs : List (DataW H)) (before : List MemPlace)
    (hval : ∀ (j : Nat) t v, Try.f4.params[j]? = some t → args[j]? = some v → Value.okWide Try.prog W .any base t v)
    (hW : DataW.Whole enc Try.prog Try.f4.params.toList Rows.pageUsesSpec.vars false W args.toList ds gs before) :
    Calls Try.prog 4 args W fun e W' => ∃ v, e = .returned v ∧ Rows.pageUsesSpec.post enc Try.prog Try.f4 false true false false W args v W' := by
  have hW' := hW
  obtain ⟨p, q, hA0, hV, rfl, hfz, hnd⟩ := hW
  have hA : DataW.TrodAll enc Try.prog W 0 (fun _ => true) true Try.f4.params.toList args.toList ds p := hA0
  rw [Try.params4] at hA hval
  obtain ⟨v0, vs0, d0, ds0, p0, q0, hargs, rfl, rfl, h0, r0⟩ := trodAll_cons hA
  obtain ⟨rfl, rfl, rfl⟩ := trodAll_nil r0
  obtain rfl : args = #[v0] := by cases args; simp_all
  obtain ⟨rfl, rfl⟩ := trodVars_none hV
  obtain ⟨A, nv, cap, m, a, n, pp, z, s, rfl, hP, hwf, _, _, ⟨a0, a1⟩, ⟨n0, n1⟩, ⟨z0, z1⟩⟩ := open_in (hval 0 36 v0 rfl rfl) h0
  obtain ⟨Z, rfl⟩ := Int.eq_ofNat_of_zero_le z0
  refine (uses_walk a n pp Z s W hP hwf a0 a1 n0 n1 (by omega)).mono fun e W' ⟨he, bel⟩ => ?_
  subst he
  exact ⟨_, rfl, law_post rfl rfl types_ok hW' bel rfl rfl rfl⟩

theorem reads (os : Os) {H : Type} (enc : TypeId × Value → H) : ∃ places, DataW.whole enc Try.prog ((World.holding Try.prog os ⟨#[], #[], []⟩).forCall (fun _ _ => 0) ⟨#[], #[.agg #[.slice none 0 0, .int .u64 0, .int .i64 0, .int .i64 0, .int .u64 0, .string ByteArray.empty]], []⟩).memory Try.f4.params.toList Rows.pageUsesSpec.vars false (#[.agg #[.slice none 0 0, .int .u64 0, .int .i64 0, .int .i64 0, .int .u64 0, .string ByteArray.empty]] : Array Value).toList 8 = some ([.agg [.nil, .lit (.int .u64 0), .lit (.int .i64 0), .lit (.int .i64 0), .lit (.int .u64 0), .lit (.string [])]], [], places) :=
  ⟨[], by kernel_rfl⟩

set_option maxRecDepth 100000 in
theorem lifted (os : Os) (started : os.Started) (H : Type) (enc : TypeId × Value → H) (F : Stop.Interp) :
    ReturnsInHanded {} Try.checked os 4 .any ((OpenSpec.ofChange Rows.pageUsesSpec).preRow enc Try.prog Try.f4 Rows.pageUsesRow.domain false Rows.pageUsesRow.laid) (((OpenSpec.ofChange Rows.pageUsesSpec).at F).post enc Try.prog Try.f4 false true false false) := by
  obtain ⟨places, hx⟩ := reads os enc
  refine returnsInHanded_of_row (C := Try.checked) (s := OpenSpec.ofChange Rows.pageUsesSpec) own started (by kernel_rfl) Try.func4
    (witness_row_at (enc := enc) (C := Try.checked) false (World.holding Try.prog os ⟨#[], #[], []⟩) #[.agg #[.slice none 0 0, .int .u64 0, .int .i64 0, .int .i64 0, .int .u64 0, .string ByteArray.empty]] rfl (by kernel_rfl) (by kernel_rfl) (by kernel_rfl)
      (OpenSpec.preRow_of_cond 8 hx (by kernel_rfl) (fun k hk => by cases hk) (by kernel_rfl) (laidMet_nil _ _))) ?_
  intro W base args ds gs before hval hW _ _ _ _ _ _
  exact contract H enc W base args ds gs before hval hW

theorem said : Rows.PageUsesSaid :=
  OpenClaim.holds_of_cond 4 Try.f4 rfl rfl rfl rfl rfl rfl rfl ⟨rfl, rfl, rfl, rfl, rfl⟩ rfl rfl rfl rfl rfl (by kernel_rfl) Try.func4 (by kernel_rfl)
    (of_decide_eq_true (by kernel_rfl)) (by unfold Func.isWrapper; first | (rw [if_pos (by decide +kernel)]; kernel_rfl) | (rw [if_neg (by decide +kernel)]; exact ⟨rfl, rfl⟩))
    (fun os started H enc _ F => by rw [OpenClaim.pre_eq_preRow]; exact lifted os started H enc F)
end Go.Proofs.Ytopamkbgolhbcaa.pageUses
namespace Go.Proofs.Ytopamkbgolhbcaa
theorem pageUses_said : Rows.PageUsesSaid := pageUses.said
end Go.Proofs.Ytopamkbgolhbcaa
