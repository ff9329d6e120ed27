/- ReachGrows: from more names no less is reached; each name in a module is reached from itself. For every argument that can be read, of bulk at most 1048576. -/
import Derived.Test.YtoglmdadpchhoaaRm
import Derived.ChangeMaps5
namespace Go.Proofs.Ytoglmdadpchhoaa.reachGrows
open Go.ChangeShapes Go.WideShapes Go.ChangeAt Go.RowKit Go.Deep Go.ChangeMaps

theorem types_ok : ∀ t ∈ Try.f9.params.toList, Try.prog.readableRec t = true ∧ t < Try.prog.types.size := by
  rw [Try.params9]
  intro t ht
  simp at ht
  rcases ht with rfl | rfl | rfl
  all_goals exact ⟨by kernel_rfl, of_decide_eq_true (by kernel_rfl)⟩
theorem string_size {H : Type} {ts : List TypeId} {ds : List (DataW H)} {j : Nat} {s : ByteArray} (h : (DataW.weightsEach Try.prog ts ds).all (· ≤ reachBytes) = true)
    (ht : ts[j]? = some 9) (hd : ds[j]? = some (.lit (.string s.data.toList))) : s.size ≤ 140737488351232 := by
  have hw : s.data.toList.length ∈ (DataW.lit (Lit.string s.data.toList) : DataW H).weights Try.prog 9 := by simp [DataW.weights]
  have := List.all_eq_true.1 h _ (DataW.weights_mem_each ht hd _ hw)
  have h2 := of_decide_eq_true this
  have h3 : reachBytes = 140737488351232 := rfl
  rw [h3, Array.length_toList] at h2
  exact h2
set_option maxRecDepth 100000 in
theorem contract (H : Type) (enc : TypeId × Value → H) (W : World) (base : Nat) (args : Array Value) (ds gs : List (DataW H)) (before : List MemPlace)
    (hval : ∀ (j : Nat) t v, Try.f9.params[j]? = some t → args[j]? = some v → Value.okWide Try.prog W .any base t v)
    (hW : DataW.Whole enc Try.prog Try.f9.params.toList Rows.reachGrowsSpec.vars false W args.toList ds gs before) (hZ : (DataW.weightsEach Try.prog (Try.f9.params.toList ++ (Rows.OpenSpec.upto Rows.reachGrowsSpec).bare.plain.varTypes Try.prog) (ds ++ gs)).all (· ≤ reachBytes) = true) (hK : Rows.uptoSmall H (ds ++ gs) = true) :
    Calls Try.prog 9 args W fun e W' => ∃ v, e = .returned v ∧ Rows.reachGrowsSpec.post enc Try.prog Try.f9 false true false false W args v W' := by
  have hW' := hW
  obtain ⟨p, q, hA0, hV, rfl, hfz, hnd⟩ := hW
  have hA : DataW.TrodAll enc Try.prog W 0 (fun _ => true) true Try.f9.params.toList args.toList ds p := hA0
  rw [Try.params9] at hA hval hZ
  obtain ⟨v0, vs0, d0, ds0, p0, q0, hargs, rfl, rfl, h0, r0⟩ := trodAll_cons hA
  obtain ⟨v1, vs1, d1, ds1, p1, q1, rfl, rfl, rfl, h1, r1⟩ := trodAll_cons r0
  obtain ⟨v2, vs2, d2, ds2, p2, q2, rfl, rfl, rfl, h2, r2⟩ := trodAll_cons r1
  obtain ⟨rfl, rfl, rfl⟩ := trodAll_nil r2
  obtain rfl : args = #[v0, v1, v2] := by cases args; simp_all
  obtain ⟨rfl, rfl⟩ := trodVars_none hV
  obtain ⟨m0, F0, G0, cf0, cg0, rfl, ⟨hok0, -⟩, hS0, hbk0⟩ := argk_module (hval 0 25 v0 rfl rfl) h0 (fun k hk => of_decide_eq_true (List.all_eq_true.1 hZ _ (DataW.weights_mem_each (j := 0) rfl rfl _ hk)))
  obtain ⟨l1, A1, c1, rfl, hok1, hS1, hbk1⟩ := argk_strs (hval 1 45 v1 rfl rfl) h1 (fun k hk => of_decide_eq_true (List.all_eq_true.1 hZ _ (DataW.weights_mem_each (j := 1) rfl rfl _ hk)))
  obtain ⟨x2, rfl, rfl, rfl, -⟩ := open_string Try.underlying9 (hval 2 9 v2 rfl rfl) h2
  have hz2 := string_size (j := 2) hZ rfl rfl
  have hk1 := of_decide_eq_true hK
  simp only [List.append_nil, Rows.uptoBulkAll] at hk1
  have hp1 := bulk_pos d0
  refine (grows_all m0 l1 F0 G0 A1 cf0 cg0 c1 x2 W hok0 (hbk0.mono (by omega)) (by omega) hok1 (by omega) hS0 hS1).mono fun e W' ⟨he, bel⟩ => ?_
  subst he
  exact ⟨_, rfl, law_post rfl rfl types_ok hW' bel rfl rfl rfl⟩

theorem reads (os : Os) {H : Type} (enc : TypeId × Value → H) : ∃ places, DataW.whole enc Try.prog ((World.holding Try.prog os ⟨#[], #[], []⟩).forCall (fun _ _ => 0) ⟨#[], #[.agg #[.slice none 0 0, .slice none 0 0], .slice none 0 0, .string ⟨#[]⟩], []⟩).memory Try.f9.params.toList Rows.reachGrowsSpec.vars false (#[.agg #[.slice none 0 0, .slice none 0 0], .slice none 0 0, .string ⟨#[]⟩] : Array Value).toList 8 = some ([.agg [.nil, .nil], .nil, .lit (.string [])], [], places) :=
  ⟨[], by kernel_rfl⟩

set_option maxRecDepth 100000 in
theorem lifted (os : Os) (started : os.Started) (H : Type) (enc : TypeId × Value → H) (F : Stop.Interp) :
    ReturnsInHanded {} Try.checked os 9 .any ((Rows.OpenSpec.upto Rows.reachGrowsSpec).preRow enc Try.prog Try.f9 Rows.reachGrowsUptoRow.domain false Rows.reachGrowsUptoRow.laid) (((Rows.OpenSpec.upto Rows.reachGrowsSpec).at F).post enc Try.prog Try.f9 false true false false) := by
  obtain ⟨places, hx⟩ := reads os enc
  refine returnsInHanded_of_row (C := Try.checked) (s := Rows.OpenSpec.upto Rows.reachGrowsSpec) own started (by kernel_rfl) Try.func9
    (witness_row_at (enc := enc) (C := Try.checked) false (World.holding Try.prog os ⟨#[], #[], []⟩) #[.agg #[.slice none 0 0, .slice none 0 0], .slice none 0 0, .string ⟨#[]⟩] rfl (by kernel_rfl) (by kernel_rfl) (by kernel_rfl)
      (OpenSpec.preRow_of_cond 8 hx (by kernel_rfl) (fun k hk => by cases hk; kernel_rfl) (by kernel_rfl) (laidMet_nil _ _))) ?_
  intro W base args ds gs before hval hW _ hcond hZ _ _ _
  exact contract H enc W base args ds gs before hval hW hZ (hcond _ rfl)

theorem closed : joinedFacts Try.pinned.checked.prog 9 Try.f9 (Rows.OpenSpec.upto Rows.reachGrowsSpec).bare Rows.reachGrowsUptoRow = true := by
  kernel_rfl
theorem said : Rows.ReachGrowsUptoSaid :=
  OpenClaim.holds_of_cond 9 Try.f9 rfl rfl rfl rfl rfl rfl rfl ⟨rfl, rfl, rfl, rfl, rfl⟩ rfl rfl rfl rfl rfl (by kernel_rfl) Try.func9 closed
    (of_decide_eq_true (by kernel_rfl)) (by unfold Func.isWrapper; first | (rw [if_pos (by decide +kernel)]; kernel_rfl) | (rw [if_neg (by decide +kernel)]; exact ⟨rfl, rfl⟩))
    (fun os started H enc _ F => by rw [OpenClaim.pre_eq_preRow]; exact lifted os started H enc F)
end Go.Proofs.Ytoglmdadpchhoaa.reachGrows
namespace Go.Proofs.Ytoglmdadpchhoaa
theorem reachGrowsUpto_said : Rows.ReachGrowsUptoSaid := reachGrows.said
end Go.Proofs.Ytoglmdadpchhoaa
