/- Maps from a page's place to a page, as the call itself makes them: their keys, their elements. -/
import Derived.Test.YtopamkbgolhbcaaP12
import Derived.Maps.Own
import Derived.Maps.Views
import Derived.DeepKeys4
namespace Go.Proofs.Ytopamkbgolhbcaa
open Go.RowKit

theorem laidOut : laidOutB Try.prog = true := by kernel_rfl
theorem keyed : Maps.Keyed Try.prog 124 := Maps.Keyed.of_law (deep_law_laid laidOut (m := 2) (by omega) (of_decide_eq_true (by kernel_rfl)) (by kernel_rfl) (by kernel_rfl))
theorem key_type : Try.prog.keyType 124 = true := by kernel_rfl
theorem key_cells : Try.prog.cellsOf 124 = 1 := by kernel_rfl
theorem u64_cells : Try.prog.cellsOf 23 = 1 := by kernel_rfl
theorem types_some : ∃ n, Try.prog.types.size = n + 1 := by
  have h : 0 < Try.prog.types.size := of_decide_eq_true (by kernel_rfl)
  exact ⟨Try.prog.types.size - 1, by omega⟩
theorem lits_one {P : Program} {k e : TypeId} {f : Field} {x : Int} (hk : P.underlying k = some (.struct #[f])) (hf : f.type = e) (ho : f.offset = 0) (hn : (f.name != "_") = true) (he : P.underlying e = some (.int .u64))
    (hw : (Lit.int .u64 x).wf = true) (hc : P.cellsOf k = 1) (hce : P.cellsOf e = 1) (n : Nat) : P.keyLits (n + 1 + 1) k [.int .u64 x] = some [.int .u64 x] := by
  simp [Program.keyLits, hk, hf, ho, hn, he, hw, hc, hce]
theorem key_some (x : Int) (h0 : 0 ≤ x) (h1 : x ≤ 18446744073709551615) : ∃ l, keyOf Try.prog 124 (.agg #[.int .u64 x]) = some l := by
  have hw : (Lit.int .u64 x).wf = true := WalkArith.wf_u64 ⟨h0, h1⟩
  obtain ⟨n, hn⟩ := types_some
  have hf : Value.formed Try.prog 124 (.agg #[.int .u64 x]) = true := by
    simp [Value.formed, Try.underlying124, key_cells]
  have hl := lits_one (P := Try.prog) Try.underlying124 rfl rfl rfl Try.underlying23 hw key_cells u64_cells n
  refine ⟨.string (keyBytes [.int .u64 x]), ?_⟩
  unfold keyOf
  rw [Try.underlying124, key_type, hf, hn]
  have e : (Value.agg #[Value.int .u64 x]).cells.toList = [.int .u64 x] := rfl
  rw [e, hl]
  rfl
end Go.Proofs.Ytopamkbgolhbcaa
