/- EvalAhead: bytes of the input that were not read do not matter, if some are left. For every argument that can be read. -/
import Derived.Test.YtkalgiaapkjplaaVQ
import Derived.ChangeMaps5
namespace Go.Proofs.Ytkalgiaapkjplaa.evalAhead
open Go.ChangeShapes Go.WideShapes Go.ChangeAt Go.RowKit Go.Deep Go.ChangeMaps

theorem types_ok : ∀ t ∈ Try.f7.params.toList, Try.prog.readableRec t = true ∧ t < Try.prog.types.size := by
  rw [Try.params7]
  intro t ht
  simp at ht
  subst ht
  exact ⟨by kernel_rfl, of_decide_eq_true (by kernel_rfl)⟩
theorem ahead_room {H : Type} {enc : TypeId × Value → H} {W : World} {base : Nat} {spare : Nat → Bool} {held : Bool} {c0 c1 c4 c5 : Value} {a b : ByteArray} {d : DataW H} {p : List MemPlace}
    (h : DataW.Trod enc Try.prog W base spare held 51 (.agg #[c0, c1, .string a, .string b, c4, c5]) d p) (hz : ∀ k ∈ d.weights Try.prog 51, k ≤ reachBytes) : a.size ≤ 140737488351232 ∧ b.size ≤ 140737488351232 := by
  obtain ⟨fuel, hf⟩ := h
  obtain ⟨ys, q, _, hd, _, hyl, hg⟩ := DataW.trod_struct Try.underlying51 hf
  have hyl' : ys.length = 5 := hyl
  have f1 : DataW.trod enc Try.prog W base spare held q 9 (List.take (Try.prog.cellsOf 9) (List.drop 2 [c0, c1, .string a, .string b, c4, c5])) = ys[1]? := hg 1 _ rfl
  have f2 : DataW.trod enc Try.prog W base spare held q 9 (List.take (Try.prog.cellsOf 9) (List.drop 3 [c0, c1, .string a, .string b, c4, c5])) = ys[2]? := hg 2 _ rfl
  rw [cellsString] at f1 f2
  simp only [List.drop_zero, List.drop_succ_cons, List.take_succ_cons, List.take_zero] at f1 f2
  rw [List.getElem?_eq_getElem (by omega)] at f1 f2
  obtain ⟨z1, e1, x1, -⟩ := DataW.trod_string Try.underlying9 f1
  obtain ⟨z2, e2, x2, -⟩ := DataW.trod_string Try.underlying9 f2
  simp only [List.cons.injEq, and_true, Value.string.injEq] at e1 e2
  subst e1 e2
  have hd1 := congrArg Prod.fst hd
  simp only at hd1
  have h3 : reachBytes = 140737488351232 := rfl
  have hq1 : (ys.map (·.1))[1]? = some (.lit (.string a.data.toList)) := by rw [List.getElem?_map, List.getElem?_eq_getElem (by omega), x1]; rfl
  have hq2 : (ys.map (·.1))[2]? = some (.lit (.string b.data.toList)) := by rw [List.getElem?_map, List.getElem?_eq_getElem (by omega), x2]; rfl
  rw [hd1] at hz
  simp only [DataW.weights, Try.underlying51] at hz
  have m1 := hz _ (DataW.weights_mem_each (j := 1) rfl hq1 a.data.toList.length (by simp [DataW.weights]))
  have m2 := hz _ (DataW.weights_mem_each (j := 2) rfl hq2 b.data.toList.length (by simp [DataW.weights]))
  rw [h3, Array.length_toList] at m1 m2
  exact ⟨m1, m2⟩
set_option maxRecDepth 100000 in
theorem contract (H : Type) (enc : TypeId × Value → H) (W : World) (base : Nat) (args : Array Value) (ds gs : List (DataW H)) (before : List MemPlace)
    (hval : ∀ (j : Nat) t v, Try.f7.params[j]? = some t → args[j]? = some v → Value.okWide Try.prog W .any base t v)
    (hW : DataW.Whole enc Try.prog Try.f7.params.toList Rows.evalAheadSpec.vars false W args.toList ds gs before) (hZ : (DataW.weightsEach Try.prog (Try.f7.params.toList ++ (OpenSpec.ofChange Rows.evalAheadSpec).bare.plain.varTypes Try.prog) (ds ++ gs)).all (· ≤ reachBytes) = true) :
    Calls Try.prog 7 args W fun e W' => ∃ v, e = .returned v ∧ Rows.evalAheadSpec.post enc Try.prog Try.f7 false true false false W args v W' := by
  have hW' := hW
  obtain ⟨p, q, hA0, hV, rfl, hfz, hnd⟩ := hW
  have hA : DataW.TrodAll enc Try.prog W 0 (fun _ => true) true Try.f7.params.toList args.toList ds p := hA0
  rw [Try.params7] at hA hval hZ
  obtain ⟨v0, vs0, d0, ds0, p0, q0, hargs, rfl, rfl, h0, r0⟩ := trodAll_cons hA
  obtain ⟨rfl, rfl, rfl⟩ := trodAll_nil r0
  obtain rfl : args = #[v0] := by cases args; simp_all
  obtain ⟨rfl, rfl⟩ := trodVars_none hV
  obtain ⟨m0, F0, G0, cf0, cg0, x0, y0, z0, u0, rfl, ⟨hok0, hr0⟩, -, hS0⟩ := argr_evalAheadIn (hval 0 51 v0 rfl rfl) h0
  have hroom := ahead_room h0 (fun k hk => of_decide_eq_true (List.all_eq_true.1 hZ _ (DataW.weights_mem_each (j := 0) rfl rfl _ hk)))
  refine (ahead_all m0 x0 y0 z0 u0 F0 G0 _ cf0 _ cg0 W hok0 hr0 hroom.1 hroom.2 rfl rfl hS0).mono fun e W' ⟨he, bel⟩ => ?_
  subst he
  exact ⟨_, rfl, law_post rfl rfl types_ok hW' bel rfl rfl rfl⟩

theorem reads (os : Os) {H : Type} (enc : TypeId × Value → H) : ∃ places, DataW.whole enc Try.prog ((World.holding Try.prog os ⟨#[], #[], []⟩).forCall (fun _ _ => 0) ⟨#[], #[.agg #[.slice none 0 0, .slice none 0 0, .string ⟨#[]⟩, .string ⟨#[]⟩, .int .i64 0, .int .i64 0]], []⟩).memory Try.f7.params.toList Rows.evalAheadSpec.vars false (#[.agg #[.slice none 0 0, .slice none 0 0, .string ⟨#[]⟩, .string ⟨#[]⟩, .int .i64 0, .int .i64 0]] : Array Value).toList 8 = some ([.agg [.agg [.nil, .nil], .lit (.string []), .lit (.string []), .lit (.int .i64 0), .lit (.int .i64 0)]], [], places) :=
  ⟨[], by kernel_rfl⟩

set_option maxRecDepth 100000 in
theorem lifted (os : Os) (started : os.Started) (H : Type) (enc : TypeId × Value → H) (F : Stop.Interp) :
    ReturnsInHanded {} Try.checked os 7 .any ((OpenSpec.ofChange Rows.evalAheadSpec).preRow enc Try.prog Try.f7 Rows.evalAheadRow.domain false Rows.evalAheadRow.laid) (((OpenSpec.ofChange Rows.evalAheadSpec).at F).post enc Try.prog Try.f7 false true false false) := by
  obtain ⟨places, hx⟩ := reads os enc
  refine returnsInHanded_of_row (C := Try.checked) (s := OpenSpec.ofChange Rows.evalAheadSpec) own started (by kernel_rfl) Try.func7
    (witness_row_at (enc := enc) (C := Try.checked) false (World.holding Try.prog os ⟨#[], #[], []⟩) #[.agg #[.slice none 0 0, .slice none 0 0, .string ⟨#[]⟩, .string ⟨#[]⟩, .int .i64 0, .int .i64 0]] rfl (by kernel_rfl) (by kernel_rfl) (by kernel_rfl)
      (OpenSpec.preRow_of_cond 8 hx (by kernel_rfl) (fun k hk => by cases hk) (by kernel_rfl) (laidMet_nil _ _))) ?_
  intro W base args ds gs before hval hW _ _ hZ _ _ _
  exact contract H enc W base args ds gs before hval hW hZ

theorem closed : joinedFacts Try.pinned.checked.prog 7 Try.f7 (OpenSpec.ofChange Rows.evalAheadSpec).bare Rows.evalAheadRow = true := by
  kernel_rfl
theorem said : Rows.EvalAheadSaid :=
  OpenClaim.holds_of_cond 7 Try.f7 rfl rfl rfl rfl rfl rfl rfl ⟨rfl, rfl, rfl, rfl, rfl⟩ rfl rfl rfl rfl rfl (by kernel_rfl) Try.func7 closed
    (of_decide_eq_true (by kernel_rfl)) (by unfold Func.isWrapper; first | (rw [if_pos (by decide +kernel)]; kernel_rfl) | (rw [if_neg (by decide +kernel)]; exact ⟨rfl, rfl⟩))
    (fun os started H enc _ F => by rw [OpenClaim.pre_eq_preRow]; exact lifted os started H enc F)
end Go.Proofs.Ytkalgiaapkjplaa.evalAhead
namespace Go.Proofs.Ytkalgiaapkjplaa
theorem evalAhead_said : Rows.EvalAheadSaid := evalAhead.said
end Go.Proofs.Ytkalgiaapkjplaa
