/- RvDoes: what an instruction reckons, and whether a branch goes, is as the document's own answer says. For every argument that can be read, with the two tables of package enc as the program's own text lays them. -/
import Derived.Test.YthaieajakdcodaaDoorZEJ
import Derived.Test.YthaieajakdcodaaDoorZDo
namespace Go.Proofs.YthaieajakdcodaaDoor.rvDoes
open Go.ChangeShapes Go.WideShapes Go.ChangeAt Go.RowKit Go.Deep
open Go.Proofs.YthaieajakdcodaaDoor.E (tabs_of law_post own laidWorld)

theorem types_ok : ∀ t ∈ Tryd.f3.params.toList, Tryd.prog.readableRec t = true ∧ t < Tryd.prog.types.size := by
  rw [Tryd.params3]
  intro t ht
  simp at ht
  subst ht
  exact ⟨by kernel_rfl, of_decide_eq_true (by kernel_rfl)⟩

theorem cellsIn : Tryd.prog.cellsOf 26 = 8 := by kernel_rfl
theorem cellsOp : Tryd.prog.cellsOf 23 = 5 := by kernel_rfl
theorem cells64 : Tryd.prog.cellsOf 24 = 1 := by kernel_rfl
section
variable {H : Type} {enc : TypeId × Value → H}
set_option maxRecDepth 100000 in
theorem open_in {W : World} {r : Reach} {b0 base : Nat} {spare : Nat → Bool} {held : Bool} {v : Value} {d : DataW H} {p : List MemPlace} (hv : Value.okWide Tryd.prog W r b0 26 v)
    (h : DataW.Trod enc Tryd.prog W base spare held 26 v d p) :
    ∃ (k rd ra rb i a b pc : Int), v = .agg #[.int .i64 k, .int .i64 rd, .int .i64 ra, .int .i64 rb, .int .i64 i, .int .u64 a, .int .u64 b, .int .u64 pc] ∧
      (0 ≤ a ∧ a ≤ 18446744073709551615) ∧ (0 ≤ b ∧ b ≤ 18446744073709551615) := by
  obtain ⟨cs, rfl, hsz⟩ := okWide_struct Tryd.underlying26 hv
  obtain ⟨l⟩ := cs
  match l, hsz.trans cellsIn with
  | [c0, c1, c2, c3, c4, c5, c6, c7], _ =>
    obtain ⟨fuel, hf⟩ := h
    obtain ⟨ys, n, _, _, _, hyl, hg⟩ := DataW.trod_struct Tryd.underlying26 hf
    match ys, hyl with
    | [y0, y1, y2, y3], _ =>
      have g0 : DataW.trod enc Tryd.prog W base spare held n 23 [c0, c1, c2, c3, c4] = some y0 := by simpa [Value.cells, cellsOp] using hg 0 _ rfl
      have g1 : DataW.trod enc Tryd.prog W base spare held n 24 [c5] = some y1 := by simpa [Value.cells, cells64] using hg 1 _ rfl
      have g2 : DataW.trod enc Tryd.prog W base spare held n 24 [c6] = some y2 := by simpa [Value.cells, cells64] using hg 2 _ rfl
      have g3 : DataW.trod enc Tryd.prog W base spare held n 24 [c7] = some y3 := by simpa [Value.cells, cells64] using hg 3 _ rfl
      obtain ⟨zs, q, _, _, _, hz⟩ := E.row_of Tryd.underlying23 (by kernel_rfl) cellsOp g0
      obtain ⟨k0, z0, i0, _, r0⟩ := hz 0 _ rfl
      obtain ⟨k1, z1, i1, _, r1⟩ := hz 1 _ rfl
      obtain ⟨k2, z2, i2, _, r2⟩ := hz 2 _ rfl
      obtain ⟨k3, z3, i3, _, r3⟩ := hz 3 _ rfl
      obtain ⟨k4, z4, i4, _, r4⟩ := hz 4 _ rfl
      obtain rfl : c0 = k0 := Option.some.inj i0
      obtain rfl : c1 = k1 := Option.some.inj i1
      obtain rfl : c2 = k2 := Option.some.inj i2
      obtain rfl : c3 = k3 := Option.some.inj i3
      obtain rfl : c4 = k4 := Option.some.inj i4
      obtain ⟨m0, e0, _, _⟩ := DataW.trod_int Tryd.underlying3 r0
      obtain ⟨m1, e1, _, _⟩ := DataW.trod_int Tryd.underlying3 r1
      obtain ⟨m2, e2, _, _⟩ := DataW.trod_int Tryd.underlying3 r2
      obtain ⟨m3, e3, _, _⟩ := DataW.trod_int Tryd.underlying3 r3
      obtain ⟨m4, e4, _, _⟩ := DataW.trod_int Tryd.underlying2 r4
      obtain ⟨a, e5, _, wa⟩ := DataW.trod_int Tryd.underlying24 g1
      obtain ⟨b, e6, _, wb⟩ := DataW.trod_int Tryd.underlying24 g2
      obtain ⟨pc, e7, _, _⟩ := DataW.trod_int Tryd.underlying24 g3
      simp only [List.cons.injEq, and_true] at e0 e1 e2 e3 e4 e5 e6 e7
      subst e0 e1 e2 e3 e4 e5 e6 e7
      exact ⟨m0, m1, m2, m3, m4, a, b, pc, rfl, bounds_u64 wa, bounds_u64 wb⟩
end

set_option maxRecDepth 100000 in
theorem contract (H : Type) (enc : TypeId × Value → H) (W : World) (base : Nat) (args : Array Value) (ds gs : List (DataW H)) (before : List MemPlace)
    (hval : ∀ (j : Nat) t v, Tryd.f3.params[j]? = some t → args[j]? = some v → Value.okWide Tryd.prog W .any base t v)
    (hW : DataW.Whole enc Tryd.prog Tryd.f3.params.toList Rows.rvDoesSpec.vars false W args.toList ds gs before) (hL : laidMetH Tryd.prog Rows.rvDoesRow.laid W) :
    Calls Tryd.prog 3 args W fun e W' => ∃ v, e = .returned v ∧ Rows.rvDoesSpec.post enc Tryd.prog Tryd.f3 false true false false W args v W' := by
  have T : E.Tabs W := tabs_of hL
  have hW' := hW
  obtain ⟨p, q, hA0, hV, rfl, hfz, hnd⟩ := hW
  have hA : DataW.TrodAll enc Tryd.prog W 0 (fun _ => true) true Tryd.f3.params.toList args.toList ds p := hA0
  rw [Tryd.params3] at hA hval
  obtain ⟨v0, vs0, d0, ds0, p0, q0, hargs, rfl, rfl, h0, r0⟩ := trodAll_cons hA
  obtain ⟨rfl, rfl, rfl⟩ := trodAll_nil r0
  obtain rfl : args = #[v0] := by cases args; simp_all
  obtain ⟨rfl, rfl⟩ := trodVars_none hV
  obtain ⟨k, rd, ra, rb, i, a, b, pc, rfl, ⟨a0, a1⟩, ⟨b0, b1⟩⟩ := open_in (hval 0 26 v0 rfl rfl) h0
  refine (does_walk k rd ra rb i a b pc W T a0 a1 b0 b1).mono fun e W' ⟨he, bel⟩ => ?_
  subst he
  exact ⟨_, rfl, law_post rfl rfl types_ok hW' bel rfl rfl rfl⟩

theorem laid_met (os : Os) : laidMet Tryd.prog Rows.rvDoesRow.laid ((laidWorld os).forCall (fun _ _ => 0) ⟨#[], #[.agg #[.int .i64 0, .int .i64 0, .int .i64 0, .int .i64 0, .int .i64 0, .int .u64 0, .int .u64 0, .int .u64 0]], []⟩).memory :=
  laidMet_of_run' 8 (by kernel_rfl) (by kernel_rfl)
theorem reads (os : Os) {H : Type} (enc : TypeId × Value → H) : ∃ places, DataW.whole enc Tryd.prog ((laidWorld os).forCall (fun _ _ => 0) ⟨#[], #[.agg #[.int .i64 0, .int .i64 0, .int .i64 0, .int .i64 0, .int .i64 0, .int .u64 0, .int .u64 0, .int .u64 0]], []⟩).memory Tryd.f3.params.toList Rows.rvDoesSpec.vars false (#[.agg #[.int .i64 0, .int .i64 0, .int .i64 0, .int .i64 0, .int .i64 0, .int .u64 0, .int .u64 0, .int .u64 0]] : Array Value).toList 8 = some ([.agg [.agg [.lit (.int .i64 0), .lit (.int .i64 0), .lit (.int .i64 0), .lit (.int .i64 0), .lit (.int .i64 0)], .lit (.int .u64 0), .lit (.int .u64 0), .lit (.int .u64 0)]], [], places) :=
  ⟨[], by kernel_rfl⟩

set_option maxRecDepth 100000 in
theorem lifted (os : Os) (started : os.Started) (H : Type) (enc : TypeId × Value → H) (F : Stop.Interp) :
    ReturnsInHanded {} Tryd.checked os 3 .any ((OpenSpec.ofChange Rows.rvDoesSpec).preRow enc Tryd.prog Tryd.f3 Rows.rvDoesRow.domain false Rows.rvDoesRow.laid) (((OpenSpec.ofChange Rows.rvDoesSpec).at F).post enc Tryd.prog Tryd.f3 false true false false) := by
  obtain ⟨places, hx⟩ := reads os enc
  refine returnsInHanded_of_row (C := Tryd.checked) (s := OpenSpec.ofChange Rows.rvDoesSpec) own started (by kernel_rfl) Tryd.func3
    (witness_row_at (enc := enc) (C := Tryd.checked) false (laidWorld os) #[.agg #[.int .i64 0, .int .i64 0, .int .i64 0, .int .i64 0, .int .i64 0, .int .u64 0, .int .u64 0, .int .u64 0]] rfl (by kernel_rfl) (by kernel_rfl) (by kernel_rfl)
      (OpenSpec.preRow_of_cond 8 hx (by kernel_rfl) (fun k hk => by cases hk) (by kernel_rfl) (laid_met os))) ?_
  intro W base args ds gs before hval hW _ _ _ hL _ _
  exact contract H enc W base args ds gs before hval hW hL

theorem said : Rows.RvDoesSaid :=
  OpenClaim.holds_of_cond 3 Tryd.f3 rfl rfl rfl rfl rfl rfl rfl ⟨rfl, rfl, rfl, rfl, rfl⟩ rfl rfl rfl rfl rfl (by kernel_rfl) Tryd.func3 (by kernel_rfl)
    (of_decide_eq_true (by kernel_rfl)) (by unfold Func.isWrapper; first | (rw [if_pos (by decide +kernel)]; kernel_rfl) | (rw [if_neg (by decide +kernel)]; exact ⟨rfl, rfl⟩))
    (fun os started H enc _ F => by rw [OpenClaim.pre_eq_preRow]; exact lifted os started H enc F)

theorem plain (f : FuncId) (fn : Func) (hf : Tryd.pinned.checked.prog.funcNamed "marline/marlinelaw03.RvDoes" = some f) (hfn : Tryd.pinned.checked.prog.funcs[f]? = some fn) :
    false = Tryd.pinned.checked.prog.looks [] ∧ ∀ (j : Nat) t, fn.params[j]? = some t → Tryd.pinned.checked.prog.wantsStandIn t = false := by
  obtain rfl : f = 3 := Option.some.inj ((show Tryd.prog.funcNamed "marline/marlinelaw03.RvDoes" = some 3 by kernel_rfl).symm.trans hf) |>.symm
  obtain rfl : fn = Tryd.f3 := (Option.some.inj (Tryd.func3.symm.trans hfn)).symm
  refine ⟨by kernel_rfl, fun j t ht => ?_⟩
  have hm := Array.mem_of_getElem? ht
  rw [Tryd.params3] at hm
  simp at hm
  subst hm
  exact (show Tryd.prog.wantsStandIn 26 = false by kernel_rfl)

/-- THE CARD -/
theorem card : Rows.RvDoesCardSaid :=
  Claim7.holds_tied_plain_at .later [] _ _ _ _ said (fun _ h => by cases h) (by kernel_rfl) (fun _ h => by cases h) rvDoes_row_tie rfl ⟨rfl, rfl⟩ (by kernel_rfl) rfl plain (by kernel_rfl)
end Go.Proofs.YthaieajakdcodaaDoor.rvDoes
namespace Go.Proofs.YthaieajakdcodaaDoor
theorem rvDoes_card : Rows.RvDoesCardSaid := rvDoes.card
end Go.Proofs.YthaieajakdcodaaDoor
