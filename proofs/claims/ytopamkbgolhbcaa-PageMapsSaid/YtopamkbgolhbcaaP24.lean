/- The document's example, at the head of every law of package page. -/
import Derived.Test.YtopamkbgolhbcaaP23
namespace Go.Proofs.Ytopamkbgolhbcaa
open Go.RowKit

def exPg : M.Pg := ⟨256, 6, noughts⟩
theorem right_ex : rightB [exPg] = true := by
  unfold rightB
  rw [decide_eq_true_eq]
  refine ⟨by simp, fun i h => ?_⟩
  obtain rfl : i = 0 := by simpa using h
  simp [okAt, M.okPg, exPg, M.okPerm, noughts_size]
theorem strs_ex1 : M.strs 256 256 = [⟨256, 0, 256⟩] := by
  rw [M.strs_cons (by omega), M.strs_nil (by omega)]; rfl
theorem strs_ex2 : M.strs 510 2 = [⟨256, 254, 2⟩] := by
  rw [M.strs_cons (by omega), M.strs_nil (by omega)]; rfl
theorem strs_ex4 : M.strs 510 4 = [⟨256, 254, 2⟩, ⟨512, 0, 2⟩] := by
  rw [M.strs_cons (by omega), M.strs_cons (by omega), M.strs_nil (by omega)]; rfl
theorem mapErr_ex : mapErr [] 256 1 6 = 0 := by
  have h1 : mapArg [] 256 1 6 = true := by simp [mapArg, right_nil, M.okPerm, beyondB]
  have h2 : anyB [] 256 1 = false := by simp [anyB, M.there]
  simp [mapErr, h1, h2]
theorem mapM_ex : mapM [] 256 1 6 = [exPg] := by
  unfold mapM
  rw [if_pos mapErr_ex, show (1 : Int) * 256 = 256 from rfl, strs_ex1]
  simp [mkPg, exPg]
theorem grant_ex : grantB [exPg] 256 2 = true := by
  have h1 : M.there [exPg] 256 = true := by simp [M.there, exPg]
  have h2 : M.low [exPg] 256 = 0 := by simp [M.low, exPg]
  have h3 : okBits 6 2 = true := by decide +kernel
  unfold grantB
  rw [h1, h2]
  exact h3
theorem grant_ex2 : grantB [exPg] 512 2 = false := by
  have h1 : M.there [exPg] 512 = false := by simp [M.there, exPg]
  simp [grantB, h1]
theorem num_ex2 : numErr [exPg] 510 2 2 = 0 := by
  have h : allGrantB [exPg] 510 2 2 = true := by simp [allGrantB, strs_ex2, grant_ex, beyondB]
  simp [numErr, right_ex, h]
theorem num_ex4 : numErr [exPg] 510 4 2 = 6 := by
  have h : allGrantB [exPg] 510 4 2 = false := by simp [allGrantB, strs_ex4, grant_ex2, beyondB]
  simp [numErr, right_ex, h]
theorem wf_ex : Wf [exPg] := ⟨by simp, fun x h => by simp at h; subst h; simp [exPg], fun x h => by simp at h; subst h; simp [exPg]⟩
theorem wf_nil : Wf [] := ⟨by simp, fun x h => by simp at h, fun x h => by simp at h⟩

set_option maxRecDepth 100000 in
set_option maxHeartbeats 1000000 in
theorem shown_any (w : World) : Calls Try.prog 11 #[] w fun e w' => e = .returned (.bool true) ∧ Below w.heap.size w w' := by
  have HM := Lib.hid (map_any (m := []) (v := .slice none 0 0) (w := w) 256 1 6 (.inl ⟨rfl, .inl rfl⟩) wf_nil (by simp) ⟨none, 0, 0, rfl, Nat.le_refl _, by unfold maxLen; omega⟩ (by omega) (by omega))
  rw [mapErr_ex, mapM_ex] at HM
  have H2 := Lib.hid (fun (v : Value) (W : World) (hP : Pages W v [exPg]) => store_any (m := [exPg]) 510 2 7 hP wf_ex (by simp) (by omega) (by omega) (by omega))
  rw [num_ex2] at H2
  have H4 := Lib.hid (fun (v : Value) (W : World) (hP : Pages W v [exPg]) => store_any (m := [exPg]) 510 4 7 hP wf_ex (by simp) (by omega) (by omega) (by omega))
  rw [num_ex4] at H4
  go_enter Try.func11, Try.ntmps11
  go_wp2_with fail
  refine HM.out.mono ?_
  rintro e w1 ⟨v1, rfl, ho1, hb1⟩
  have HB1 := Lib.hid hb1
  have HP1 := Lib.hid ho1.pages
  obtain ⟨A1, c1, hv1⟩ := ho1.pages.slice
  rw [List.length_singleton] at hv1
  subst hv1
  clear ho1 hb1
  go_wp2_with fail
  refine (H2.out _ _ HP1.out).mono ?_
  rintro e w2 ⟨v2, rfl, ho2, hb2⟩
  have HB2 := Lib.hid (bthen HB1.out hb2)
  have HP2 := Lib.hid (HP1.out.next hb2)
  clear ho2 hb2
  go_wp2_with fail
  refine (H4.out _ _ HP2.out).mono ?_
  rintro e w3 ⟨v3, rfl, ho3, hb3⟩
  have HB3 := Lib.hid (bthen HB2.out hb3)
  clear ho3 hb3
  go_wp2_with fail
  go_ret
  exact ⟨rfl, HB3.out⟩
end Go.Proofs.Ytopamkbgolhbcaa
