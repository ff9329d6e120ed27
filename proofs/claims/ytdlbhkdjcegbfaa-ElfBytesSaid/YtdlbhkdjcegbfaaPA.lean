/- Pure words of memory in pages: what Map comes to, and small facts. -/
import Derived.Test.YtdlbhkdjcegbfaaP18
namespace Go.Proofs.Ytdlbhkdjcegbfaa
open Go.RowKit

def anyB (m : List M.Pg) (a n : Int) : Bool := (M.strs a (n * 256)).any (fun s => M.there m s.pg)
def mapArg (m : List M.Pg) (a n perm : Int) : Bool := rightB m && (decide (a % 256 = 0) && (decide (1 ≤ n) && (decide (n ≤ 64) && (M.okPerm perm && !beyondB a (n * 256)))))
def mapErr (m : List M.Pg) (a n perm : Int) : Int :=
  if mapArg m a n perm = false then 1 else if anyB m a n = true then 9 else if 64 < m.length + n then 4 else 0

/-- a page of noughts at a row's page -/
def mkPg (perm : Int) (Z : ByteArray) (s : M.Str) : M.Pg := ⟨s.pg, perm, Z⟩
def noughts : ByteArray := ⟨(List.replicate 256 (0 : UInt8)).toArray⟩
/-- memory with more pages -/
def mapM (m : List M.Pg) (a n perm : Int) : List M.Pg :=
  if mapErr m a n perm = 0 then m.take (M.low m a) ++ ((M.strs a (n * 256)).map (mkPg perm noughts) ++ m.drop (M.low m a)) else m
theorem mapErr_zero {m : List M.Pg} {a n perm : Int} (h : mapErr m a n perm = 0) : rightB m = true ∧ a % 256 = 0 ∧ 1 ≤ n ∧ n ≤ 64 ∧ M.okPerm perm = true ∧ a + n * 256 ≤ 18446744073709551616 ∧ anyB m a n = false ∧ m.length + n ≤ 64 := by
  unfold mapErr at h
  split at h
  · cases h
  · rename_i h1
    split at h
    · cases h
    · rename_i h2
      split at h
      · cases h
      · simp only [mapArg, Bool.not_eq_false, Bool.and_eq_true, decide_eq_true_eq, Bool.not_eq_true'] at h1
        obtain ⟨hr, h3, h4, h5, hp, hb⟩ := h1
        refine ⟨hr, h3, h4, h5, hp, ?_, by simpa using h2, by omega⟩
        simp [beyondB] at hb
        omega

theorem Pages.len {W : World} {A : Option Addr} {n cap : Nat} {m : List M.Pg} (h : Pages W (.slice A n cap) m) : n = m.length := by
  obtain ⟨A', cap', e⟩ := h.slice
  cases e; rfl
theorem right_nil : rightB [] = true := by simp [rightB]
theorem noughts_size : noughts.size = 256 := by decide +kernel
end Go.Proofs.Ytdlbhkdjcegbfaa
