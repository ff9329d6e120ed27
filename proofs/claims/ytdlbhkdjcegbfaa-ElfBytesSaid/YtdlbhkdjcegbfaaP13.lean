/- Maps from a page's place to a page, as the call itself makes them: their keys, their elements. -/
import Derived.Test.YtdlbhkdjcegbfaaP12
import Derived.Maps.Own
import Derived.Maps.Views
import Derived.DeepKeys4
namespace Go.Proofs.Ytdlbhkdjcegbfaa
open Go.RowKit

theorem laidOut : laidOutB Try.prog = true := by kernel_rfl
theorem keyed : Maps.Keyed Try.prog 171 := Maps.Keyed.of_law (deep_law_laid laidOut (m := 2) (by omega) (of_decide_eq_true (by kernel_rfl)) (by kernel_rfl) (by kernel_rfl))
theorem key_type : Try.prog.keyType 171 = true := by kernel_rfl
theorem key_cells : Try.prog.cellsOf 171 = 1 := by kernel_rfl
theorem u64_cells : Try.prog.cellsOf 22 = 1 := by kernel_rfl
theorem types_some : ∃ n, Try.prog.types.size = n + 1 := by
  have h : 0 < Try.prog.types.size := of_decide_eq_true (by kernel_rfl)
  exact ⟨Try.prog.types.size - 1, by omega⟩
theorem lits_one {P : Program} {k e : TypeId} {f : Field} {x : Int} (hk : P.underlying k = some (.struct #[f])) (hf : f.type = e) (ho : f.offset = 0) (hn : (f.name != "_") = true) (he : P.underlying e = some (.int .u64))
    (hw : (Lit.int .u64 x).wf = true) (hc : P.cellsOf k = 1) (hce : P.cellsOf e = 1) (n : Nat) : P.keyLits (n + 1 + 1) k [.int .u64 x] = some [.int .u64 x] := by
  simp [Program.keyLits, hk, hf, ho, hn, he, hw, hc, hce]
theorem key_some (x : Int) (h0 : 0 ≤ x) (h1 : x ≤ 18446744073709551615) : ∃ l, keyOf Try.prog 171 (.agg #[.int .u64 x]) = some l := by
  have hw : (Lit.int .u64 x).wf = true := WalkArith.wf_u64 ⟨h0, h1⟩
  obtain ⟨n, hn⟩ := types_some
  have hf : Value.formed Try.prog 171 (.agg #[.int .u64 x]) = true := by
    simp [Value.formed, Try.underlying171, key_cells]
  have hl := lits_one (P := Try.prog) Try.underlying171 rfl rfl rfl Try.underlying22 hw key_cells u64_cells n
  refine ⟨.string (keyBytes [.int .u64 x]), ?_⟩
  unfold keyOf
  rw [Try.underlying171, key_type, hf, hn]
  have e : (Value.agg #[Value.int .u64 x]).cells.toList = [.int .u64 x] := rfl
  rw [e, hl]
  rfl
end Go.Proofs.Ytdlbhkdjcegbfaa
