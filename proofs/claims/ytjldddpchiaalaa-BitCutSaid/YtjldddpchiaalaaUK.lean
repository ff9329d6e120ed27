/- Package bit: Take, of every bytes. -/
import Derived.Test.YtjldddpchiaalaaUJ
namespace Go.Proofs.Ytjldddpchiaalaa
open Go.RowKit
namespace Q

def mirB : ByteArray := ⟨#[77, 73, 82, 49]⟩
theorem take4 (l : List UInt8) : (strB l).extract 0 4 = mirB ↔ l.take 4 = [77, 73, 82, 49] := by
  rw [strB_take]
  constructor
  · intro h
    have := congrArg (fun b : ByteArray => b.data.toList) h
    simpa [strB_data, mirB] using this
  · intro h
    rw [h]
    rfl
set_option maxRecDepth 100000 in
theorem hasPrefix_any (l : List UInt8) (W : World) (hl : l.length ≤ 281474976710656) : Calls Try.prog 57 #[.string (strB l), .string ⟨#[77, 73, 82, 49]⟩] W fun e w' => e = .returned (.bool (decide (l.take 4 = [77, 73, 82, 49]))) ∧ W = w' := by
  obtain ⟨z, hz⟩ : ∃ z, l.length = z := ⟨_, rfl⟩
  have hsz : (strB l).size = z := by rw [strB_size, hz]
  have z1 : (z : Int) ≤ 281474976710656 := by omega
  by_cases h4 : l.length < 4
  · have HE := Lib.hid (show decide (l.take 4 = [77, 73, 82, 49]) = false from decide_eq_false fun h => by
      have := congrArg List.length h
      rw [List.length_take] at this
      simp at this
      omega)
    have d1 : decide ((4 : Int) ≤ (z : Int)) = false := by simp; omega
    clear hl hz h4
    go_enter Try.func57, Try.ntmps57
    go_wp2_with fail
    go_ret
    exact ⟨by rw [HE.out]; rfl, rfl⟩
  · have HT := Lib.hid (take4 l)
    obtain ⟨X, hX⟩ : ∃ X, (strB l).extract 0 4 = X := ⟨_, rfl⟩
    have HX := Lib.hid hX
    rw [hX] at HT
    have d1 : decide ((4 : Int) ≤ (z : Int)) = true := by simp; omega
    have d2 : (4 : Int) ≤ (z : Int) := by omega
    obtain ⟨c, hc⟩ : ∃ c, decide (l.take 4 = [77, 73, 82, 49]) = c := ⟨_, rfl⟩
    have hcc : (X == mirB) = c ∧ (X.toList == mirB.toList) = c := by
      cases c with
      | true => exact str_same (HT.out.2 (of_decide_eq_true hc))
      | false => exact str_other (fun h => of_decide_eq_false hc (HT.out.1 h))
    obtain ⟨e1, e2⟩ := hcc
    have e3 : (X == ⟨#[77, 73, 82, 49]⟩) = c := e1
    have e4 : (X.toList == (⟨#[77, 73, 82, 49]⟩ : ByteArray).toList) = c := e2
    have e5 : (X.toList == [77, 73, 82, 49]) = c := by
      have ml : mirB.toList = [77, 73, 82, 49] := by rw [ByteArray.toList_eq]; rfl
      rw [← ml]; exact e2
    rw [hc]
    clear hl hz h4 hc e1 e2
    go_enter Try.func57, Try.ntmps57
    go_wp2_with fail
    go_ret
    exact ⟨rfl, rfl⟩
set_option maxRecDepth 100000 in
theorem cutPrefix_any (l : List UInt8) (W : World) (hl : l.length ≤ 281474976710656) : Calls Try.prog 39 #[.string (strB l), .string ⟨#[77, 73, 82, 49]⟩] W fun e w' => e = .returned (.tuple #[.string (if l.take 4 = [77, 73, 82, 49] then strB (l.drop 4) else strB l), .bool (decide (l.take 4 = [77, 73, 82, 49]))]) ∧ W = w' := by
  have HH := Lib.hid (hasPrefix_any l W hl)
  obtain ⟨z, hz⟩ : ∃ z, l.length = z := ⟨_, rfl⟩
  have hsz : (strB l).size = z := by rw [strB_size, hz]
  have z1 : (z : Int) ≤ 281474976710656 := by omega
  by_cases h4 : l.take 4 = [77, 73, 82, 49]
  · have HD := Lib.hid (show (strB l).extract 4 z = strB (l.drop 4) by rw [← hz]; exact strB_drop l 4)
    have d2 : (4 : Int) ≤ (z : Int) := by
      have := congrArg List.length h4
      rw [List.length_take] at this
      simp at this
      omega
    rw [decide_eq_true h4] at HH ⊢
    rw [if_pos h4]
    clear hl hz h4
    go_enter Try.func39, Try.ntmps39
    go_wp2_with fail
    refine HH.out.mono ?_
    rintro e w1 ⟨rfl, rfl⟩
    go_wp2_with fail
    go_ret2
    rw [HD.out]
    exact ⟨rfl, rfl⟩
  · rw [decide_eq_false h4] at HH ⊢
    rw [if_neg h4]
    clear hl hz h4
    go_enter Try.func39, Try.ntmps39
    go_wp2_with fail
    refine HH.out.mono ?_
    rintro e w1 ⟨rfl, rfl⟩
    go_wp2_with fail
    go_ret2
    exact ⟨rfl, rfl⟩
set_option maxRecDepth 100000 in
theorem scutPrefix_any (l : List UInt8) (W : World) (hl : l.length ≤ 281474976710656) : Calls Try.prog 18 #[.string (strB l), .string ⟨#[77, 73, 82, 49]⟩] W fun e w' => e = .returned (.tuple #[.string (if l.take 4 = [77, 73, 82, 49] then strB (l.drop 4) else strB l), .bool (decide (l.take 4 = [77, 73, 82, 49]))]) ∧ W = w' := by
  have HH := Lib.hid (cutPrefix_any l W hl)
  obtain ⟨X, hX⟩ : ∃ X, (if l.take 4 = [77, 73, 82, 49] then strB (l.drop 4) else strB l) = X := ⟨_, rfl⟩
  obtain ⟨c, hc⟩ : ∃ c, decide (l.take 4 = [77, 73, 82, 49]) = c := ⟨_, rfl⟩
  rw [hX, hc] at HH ⊢
  clear hl hX hc
  go_enter Try.func18, Try.ntmps18
  go_wp2_with fail
  refine HH.out.mono ?_
  rintro e w1 ⟨rfl, rfl⟩
  go_wp2_with fail
  go_ret2
  exact ⟨rfl, rfl⟩
end Q
end Go.Proofs.Ytjldddpchiaalaa
