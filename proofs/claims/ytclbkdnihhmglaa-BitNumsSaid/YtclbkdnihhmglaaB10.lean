/- Package bit: the document's example at the head of its statements; BitShort, BitBacks, BitNums walked. -/
import Derived.Test.YtclbkdnihhmglaaB9
import Derived.Test.YtclbkdnihhmglaaB8
namespace Go.Proofs.Ytclbkdnihhmglaa
open Go.RowKit
namespace Q

theorem tk_ex : tkV ⟨#[128, 0]⟩ = 0 ∧ tkR ⟨#[128, 0]⟩ = ⟨#[]⟩ ∧ tkE ⟨#[128, 0]⟩ = 3 := ⟨by decide +kernel, rfl, by decide +kernel⟩
theorem num_ex : numS 300 = ⟨#[172, 2]⟩ := by
  unfold numS
  rw [numL_ge (by decide), numL_lt (by decide)]
  rfl
theorem ba_beq (x y : ByteArray) : (x == y) = true ↔ x = y := by
  rw [beq_toListBytes, beq_iff_eq, ByteArray.toList_eq, ByteArray.toList_eq]
  exact ⟨fun h => ByteArray.ext (Array.toList_inj.1 h), fun h => by rw [h]⟩
theorem str_same {a b : ByteArray} (h : a = b) : (a == b) = true ∧ (a.toList == b.toList) = true := by
  subst h
  exact ⟨(ba_beq _ _).2 rfl, by simp⟩
theorem str_other {a b : ByteArray} (h : a ≠ b) : (a == b) = false ∧ (a.toList == b.toList) = false := by
  refine ⟨?_, ?_⟩
  · cases h1 : (a == b) with
    | false => rfl
    | true => exact absurd ((ba_beq _ _).1 h1) h
  · cases h1 : (a.toList == b.toList) with
    | false => rfl
    | true => rw [← beq_toListBytes] at h1; exact absurd ((ba_beq _ _).1 h1) h
set_option maxRecDepth 100000 in
theorem bshown_any (w : World) : Calls Try.prog 53 #[] w fun e w' => e = .returned (.bool true) ∧ Below w.heap.size w w' := by
  have HT := Lib.hid (takeNum_any ⟨#[128, 0]⟩ w (by decide))
  rw [tk_ex.1, tk_ex.2.1, tk_ex.2.2] at HT
  have HN := Lib.hid (fun W => num_any 300 (by decide) W)
  rw [num_ex] at HN
  go_enter Try.func53, Try.ntmps53
  go_wp2_with fail
  refine HT.out.mono ?_
  rintro e w1 ⟨rfl, hb⟩
  have HB := Lib.hid hb
  clear hb
  go_wp2_with fail
  refine (HN.out _).mono ?_
  rintro e w2 ⟨rfl, hb⟩
  have HB := Lib.hid (bthen HB.out hb)
  clear hb
  go_wp2_with fail
  go_ret
  exact ⟨rfl, HB.out⟩
set_option maxRecDepth 100000 in
set_option maxHeartbeats 2000000 in
theorem short_all (a b : Nat) (ha : a < 18446744073709551616) (hb : b < 18446744073709551616) (w : World) : Calls Try.prog 21 #[.int .u64 a, .int .u64 b] w fun e w' => e = .returned (.bool true) ∧ Below w.heap.size w w' := by
  have HA := Lib.hid (fun W => num_any a ha W)
  have HB := Lib.hid (fun W => num_any b hb W)
  have p1 := numL_pos a
  have p2 := numL_ten ha
  have hm : a ≤ b → (numS a).size ≤ (numS b).size := fun h => by rw [numS_size, numS_size]; exact numL_mono b a h
  have he : numS a = numS b → a = b := fun h => by
    unfold numS at h
    have h1 : (numL a).toArray = (numL b).toArray := congrArg ByteArray.data h
    exact numL_inj ha hb (List.toArray_inj h1)
  have hq : ((a : Int) == (b : Int)) = decide (a = b) := by
    by_cases h : a = b
    · subst h; simp
    · rw [decide_eq_false h]; simp; omega
  rw [← numS_size] at p1 p2
  obtain ⟨X, hX⟩ : ∃ X, numS a = X := ⟨_, rfl⟩
  obtain ⟨Y, hY⟩ : ∃ X, numS b = X := ⟨_, rfl⟩
  have hs : a = b → X = Y := fun h => by rw [← hX, ← hY, h]
  rw [hX] at HA p1 p2 hm he
  rw [hY] at HB hm he
  obtain ⟨x, hx⟩ : ∃ x, X.size = x := ⟨_, rfl⟩
  obtain ⟨y, hy⟩ : ∃ x, Y.size = x := ⟨_, rfl⟩
  rw [hx] at p1 p2 hm
  rw [hy] at hm
  have l1 : decide ((1 : Int) ≤ (x : Int)) = true := decide_eq_true (by omega)
  have l2 : decide ((x : Int) ≤ 10) = true := decide_eq_true (by omega)
  have hqq : ∃ c, ((a : Int) == (b : Int)) = c ∧ (X == Y) = c ∧ (X.toList == Y.toList) = c := by
    by_cases h : a = b
    · obtain ⟨q1, q3⟩ := str_same (hs h)
      exact ⟨true, by rw [hq]; exact decide_eq_true h, q1, q3⟩
    · obtain ⟨q1, q3⟩ := str_other (fun c => h (he c))
      exact ⟨false, by rw [hq]; exact decide_eq_false h, q1, q3⟩
  obtain ⟨c, c1, c2, c3⟩ := hqq
  have hcc : (c == c) = true := by simp
  have m1 : (1 : Int) ≤ (x : Int) := by omega
  have m2 : (x : Int) ≤ 10 := by omega
  have n1 : 1 ≤ x := by omega
  have n2 : x ≤ 10 := by omega
  by_cases hab : b < a
  · have g1 : decide ((b : Int) < (a : Int)) = true := decide_eq_true (by omega)
    clear ha hb hq hs hX hY hm he p1 p2
    go_enter Try.func21, Try.ntmps21
    go_wp2_with fail
    refine (bshown_any _).mono ?_
    rintro e w1 ⟨rfl, hb⟩
    have HW := Lib.hid hb
    clear hb
    go_wp2_with fail
    refine (HA.out _).mono ?_
    rintro e w2 ⟨rfl, hb⟩
    have HW := Lib.hid (bthen HW.out hb)
    clear hb
    go_wp2_with fail
    refine (HB.out _).mono ?_
    rintro e w3 ⟨rfl, hb⟩
    have HW := Lib.hid (bthen HW.out hb)
    clear hb
    go_wp2_with fail
    go_ret
    exact ⟨rfl, HW.out⟩
  · have g1 : decide ((b : Int) < (a : Int)) = false := decide_eq_false (by omega)
    have g2 := hm (by omega)
    have g3 : decide ((x : Int) ≤ (y : Int)) = true := decide_eq_true (by omega)
    clear ha hb hq hs hX hY hm he p1 p2
    go_enter Try.func21, Try.ntmps21
    go_wp2_with fail
    refine (bshown_any _).mono ?_
    rintro e w1 ⟨rfl, hb⟩
    have HW := Lib.hid hb
    clear hb
    go_wp2_with fail
    refine (HA.out _).mono ?_
    rintro e w2 ⟨rfl, hb⟩
    have HW := Lib.hid (bthen HW.out hb)
    clear hb
    go_wp2_with fail
    refine (HB.out _).mono ?_
    rintro e w3 ⟨rfl, hb⟩
    have HW := Lib.hid (bthen HW.out hb)
    clear hb
    go_wp2_with fail
    go_ret
    exact ⟨rfl, HW.out⟩
theorem tk_num (v : Nat) (hv : v < 18446744073709551616) (more : ByteArray) : tkV (numS v ++ more) = v ∧ tkR (numS v ++ more) = more ∧ tkE (numS v ++ more) = 0 := by
  have h : (numS v ++ more).data.toList = numL v ++ more.data.toList := by
    rw [ByteArray.data_append, Array.toList_append]
    rfl
  unfold tkV tkR tkE
  rw [h, take_num v _ hv]
  exact ⟨rfl, rfl, rfl⟩
theorem num_tk (s : ByteArray) (h : tkE s = 0) : tkV s < 18446744073709551616 ∧ numS (tkV s) ++ tkR s = s := by
  unfold tkE at h
  have h1 : tn 10 s.data.toList 0 = (tkV s, (tn 10 s.data.toList 0).2.1, 0) := by
    rw [← h]; rfl
  obtain ⟨h2, h3⟩ := take_back h1
  refine ⟨h2, ?_⟩
  apply ByteArray.ext
  apply Array.toList_inj.1
  rw [ByteArray.data_append, Array.toList_append, h3]
  rfl
set_option maxRecDepth 100000 in
set_option maxHeartbeats 2000000 in
theorem backs_all (v : Nat) (hv : v < 18446744073709551616) (more s : ByteArray) (hm : more.size ≤ 140737488351232) (hs : s.size ≤ 140737488351232) (w : World) :
    Calls Try.prog 19 #[.int .u64 v, .string more, .string s] w fun e w' => e = .returned (.bool true) ∧ Below w.heap.size w w' := by
  have HN := Lib.hid (fun W => num_any v hv W)
  have htn := numL_ten hv
  rw [← numS_size] at htn
  have hsum : (numS v).size + more.size ≤ 9223372036854775807 := by omega
  have HS := Lib.hid (fun W => run_string_add_sum (P := Try.prog) W (numS v) more hsum)
  have HT := Lib.hid (fun W => takeNum_any (numS v ++ more) W (by rw [ByteArray.size_append]; omega))
  rw [(tk_num v hv more).1, (tk_num v hv more).2.1, (tk_num v hv more).2.2] at HT
  have HU := Lib.hid (fun W => takeNum_any s W (by omega))
  have hi : ¬ ((9223372036854775807 : Int) < ((numS v).size : Int) + (more.size : Int)) := by omega
  obtain ⟨X, hX⟩ : ∃ X, numS v = X := ⟨_, rfl⟩
  rw [hX] at HN hi HS HT
  have HN2 := Lib.hid (fun (h : tkE s = 0) => (num_tk s h).2)
  have HN3 := Lib.hid (fun (h : tkE s = 0) (W : World) => num_any (tkV s) (num_tk s h).1 W)
  obtain ⟨r, hr⟩ : ∃ r, tkV s = r := ⟨_, rfl⟩
  obtain ⟨R, hR⟩ : ∃ R, tkR s = R := ⟨_, rfl⟩
  obtain ⟨E, hE⟩ : ∃ E, tkE s = E := ⟨_, rfl⟩
  rw [hr] at HN2 HN3 HU
  rw [hR] at HN2 HU
  rw [hE] at HN2 HN3 HU
  clear hr hR hE htn hv hX hsum
  obtain ⟨q1, q3⟩ := str_same (a := more) rfl
  have q2 : (more != more) = false := by unfold bne; rw [q1]; rfl
  by_cases h0 : E = 0
  · subst h0
    have HN4 := Lib.hid (HN3.out rfl)
    clear HN3
    have hsz : (numS r).size + R.size ≤ 9223372036854775807 := by
      have h := congrArg ByteArray.size (HN2.out rfl)
      rw [ByteArray.size_append] at h
      omega
    have hi2 : ¬ ((9223372036854775807 : Int) < ((numS r).size : Int) + (R.size : Int)) := by omega
    have HSR := Lib.hid (fun W => run_string_add_sum (P := Try.prog) W (numS r) R hsz)
    have hY := HN2.out rfl
    obtain ⟨Y, hYY⟩ : ∃ Y, numS r = Y := ⟨_, rfl⟩
    rw [hYY] at hY hi2 HN4 HSR
    obtain ⟨u1, u3⟩ := str_same hY
    clear hY hYY hm hs hsz HN2
    go_enter Try.func19, Try.ntmps19
    go_wp2_with fail
    refine (bshown_any _).mono ?_
    rintro e w1 ⟨rfl, hb⟩
    have HW := Lib.hid hb
    clear hb
    go_wp2_with fail
    refine (HN.out _).mono ?_
    rintro e w2 ⟨rfl, hb⟩
    have HW := Lib.hid (bthen HW.out hb)
    have ha := HS.out w2
    clear hb
    go_wp2_with fail
    refine (HT.out _).mono ?_
    rintro e w3 ⟨rfl, hb⟩
    have HW := Lib.hid (bthen HW.out hb)
    clear hb ha
    go_wp2_with fail
    refine (HU.out _).mono ?_
    rintro e w4 ⟨rfl, hb⟩
    have HW := Lib.hid (bthen HW.out hb)
    clear hb
    go_wp2_with fail
    refine (HN4.out _).mono ?_
    rintro e w5 ⟨rfl, hb⟩
    have HW := Lib.hid (bthen HW.out hb)
    have ha := HSR.out w5
    clear hb
    go_wp2_with fail
    go_ret
    exact ⟨rfl, HW.out⟩
  · have e0 : (E == 0) = false := by simpa using h0
    have e1 : (E != 0) = true := by simpa using h0
    clear h0 hm hs HN2 HN3
    go_enter Try.func19, Try.ntmps19
    go_wp2_with fail
    refine (bshown_any _).mono ?_
    rintro e w1 ⟨rfl, hb⟩
    have HW := Lib.hid hb
    clear hb
    go_wp2_with fail
    refine (HN.out _).mono ?_
    rintro e w2 ⟨rfl, hb⟩
    have HW := Lib.hid (bthen HW.out hb)
    have ha := HS.out w2
    clear hb
    go_wp2_with fail
    refine (HT.out _).mono ?_
    rintro e w3 ⟨rfl, hb⟩
    have HW := Lib.hid (bthen HW.out hb)
    clear hb ha
    go_wp2_with fail
    refine (HU.out _).mono ?_
    rintro e w4 ⟨rfl, hb⟩
    have HW := Lib.hid (bthen HW.out hb)
    clear hb
    go_wp2_with fail
    go_ret
    exact ⟨rfl, HW.out⟩
set_option maxRecDepth 100000 in
set_option maxHeartbeats 2000000 in
theorem nums_all (v : Nat) (hv : v < 18446744073709551616) (s : ByteArray) (hs : s.size ≤ 140737488351232) (w : World) :
    Calls Try.prog 16 #[.int .u64 v, .string s] w fun e w' => e = .returned (.bool true) ∧ Below w.heap.size w w' := by
  have HN := Lib.hid (fun W => num_any v hv W)
  have HM := Lib.hid (fun W => refNum_any v hv W)
  have HT := Lib.hid (fun W => takeNum_any s W (by omega))
  have HU := Lib.hid (fun W => refTakeNum_any s W (by omega))
  obtain ⟨X, hX⟩ : ∃ X, numS v = X := ⟨_, rfl⟩
  rw [hX] at HN HM
  obtain ⟨r, hr⟩ : ∃ r, tkV s = r := ⟨_, rfl⟩
  obtain ⟨R, hR⟩ : ∃ R, tkR s = R := ⟨_, rfl⟩
  obtain ⟨E, hE⟩ : ∃ E, tkE s = E := ⟨_, rfl⟩
  rw [hr] at HT HU
  rw [hR] at HT HU
  rw [hE] at HT HU
  clear hr hR hE hv hX hs
  obtain ⟨q1, q3⟩ := str_same (a := X) rfl
  obtain ⟨u1, u3⟩ := str_same (a := R) rfl
  go_enter Try.func16, Try.ntmps16
  go_wp2_with fail
  refine (bshown_any _).mono ?_
  rintro e w1 ⟨rfl, hb⟩
  have HW := Lib.hid hb
  clear hb
  go_wp2_with fail
  refine (HT.out _).mono ?_
  rintro e w2 ⟨rfl, hb⟩
  have HW := Lib.hid (bthen HW.out hb)
  clear hb
  go_wp2_with fail
  refine (HU.out _).mono ?_
  rintro e w3 ⟨rfl, hb⟩
  have HW := Lib.hid (bthen HW.out hb)
  clear hb
  go_wp2_with fail
  refine (HN.out _).mono ?_
  rintro e w4 ⟨rfl, hb⟩
  have HW := Lib.hid (bthen HW.out hb)
  clear hb
  go_wp2_with fail
  refine (HM.out _).mono ?_
  rintro e w5 ⟨rfl, hb⟩
  have HW := Lib.hid (bthen HW.out hb)
  clear hb
  go_wp2_with fail
  go_ret
  exact ⟨rfl, HW.out⟩
end Q
end Go.Proofs.Ytclbkdnihhmglaa
