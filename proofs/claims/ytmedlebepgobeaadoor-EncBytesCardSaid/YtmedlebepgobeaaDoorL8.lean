/- Bytes and Back of package enc, one behind the other; a walk of the law EncRows: it returns true for every two programs. -/
import Derived.Test.YtmedlebepgobeaaDoorW7
namespace Go.Proofs.YtmedlebepgobeaaDoor
open Go.RowKit

theorem bytes_t {v : Value} {n : Nat} {f : Nat → Nat → Int} {w : World} (hO : Ops w v n f) (n1 : n ≤ 500) (T : Tabs w) (hok : ∀ j, j < n → okO f j = true) :
    Calls Tryd.prog 19 #[v] w fun e w' => e = .returned (.tuple #[.string (strOfNums (numsTo f n)), .int .i64 0]) ∧ Below w.heap.size w w' := by
  refine (bytes_any hO n1 T).mono ?_
  rintro e w' ⟨⟨_, rfl⟩ | ⟨⟨j, hj, h⟩, _⟩, hb⟩
  · exact ⟨rfl, hb⟩
  · rw [hok j hj] at h; cases h
theorem bytes_f {v : Value} {n : Nat} {f : Nat → Nat → Int} {w : World} (hO : Ops w v n f) (n1 : n ≤ 500) (T : Tabs w) (hno : ∃ j, j < n ∧ okO f j = false) :
    Calls Tryd.prog 19 #[v] w fun e w' => e = .returned (.tuple #[.string ⟨#[]⟩, .int .i64 1]) ∧ Below w.heap.size w w' := by
  refine (bytes_any hO n1 T).mono ?_
  rintro e w' ⟨⟨h, _⟩ | ⟨_, rfl⟩, hb⟩
  · obtain ⟨j, hj, h'⟩ := hno
    rw [h j hj] at h'; cases h'
  · exact ⟨rfl, hb⟩
theorem all_or (f : Nat → Nat → Int) (n : Nat) : (∀ j, j < n → okO f j = true) ∨ ∃ j, j < n ∧ okO f j = false := by
  by_cases h : ∃ j, j < n ∧ okO f j = false
  · exact .inr h
  · refine .inl fun j hj => ?_
    cases e : okO f j
    · exact absurd ⟨j, hj, e⟩ h
    · rfl
/-- what Bytes comes to, whatever the program is -/
theorem bytes_all (n : Nat) (f : Nat → Nat → Int) : ∃ (s : ByteArray) (y : Int), ((y = 0 ∧ (∀ j, j < n → okO f j = true) ∧ s = strOfNums (numsTo f n)) ∨ y = 1 ∧ s = ⟨#[]⟩ ∧ ∃ j, j < n ∧ okO f j = false) ∧
    ∀ (W : World) (v : Value), Ops W v n f → n ≤ 500 → Tabs W → Calls Tryd.prog 19 #[v] W fun e w' => e = .returned (.tuple #[.string s, .int .i64 y]) ∧ Below W.heap.size W w' := by
  rcases all_or f n with h | h
  · exact ⟨_, 0, .inl ⟨rfl, h, rfl⟩, fun W v hO n1 T => bytes_t hO n1 T h⟩
  · exact ⟨⟨#[]⟩, 1, .inr ⟨rfl, rfl, h⟩, fun W v hO n1 T => bytes_f hO n1 T h⟩

def fB (l : List UInt8) (i j : Nat) : Int :=
  if j = 0 then (kindAt (wat l (4 * i)) : Int) else if j = 1 then M.tRd (kindAt (wat l (4 * i))) (wat l (4 * i)) else if j = 2 then M.tA (kindAt (wat l (4 * i))) (wat l (4 * i))
  else if j = 3 then M.tB (kindAt (wat l (4 * i))) (wat l (4 * i)) else M.tI (kindAt (wat l (4 * i))) (wat l (4 * i))
theorem fB_0 (l : List UInt8) (i : Nat) : fB l i 0 = (kindAt (wat l (4 * i)) : Int) := by unfold fB; rw [if_pos rfl]
theorem fB_1 (l : List UInt8) (i : Nat) : fB l i 1 = M.tRd (kindAt (wat l (4 * i))) (wat l (4 * i)) := by unfold fB; rw [if_neg (by decide), if_pos rfl]
theorem fB_2 (l : List UInt8) (i : Nat) : fB l i 2 = M.tA (kindAt (wat l (4 * i))) (wat l (4 * i)) := by unfold fB; rw [if_neg (by decide), if_neg (by decide), if_pos rfl]
theorem fB_3 (l : List UInt8) (i : Nat) : fB l i 3 = M.tB (kindAt (wat l (4 * i))) (wat l (4 * i)) := by unfold fB; rw [if_neg (by decide), if_neg (by decide), if_neg (by decide), if_pos rfl]
theorem fB_4 (l : List UInt8) (i : Nat) : fB l i 4 = M.tI (kindAt (wat l (4 * i))) (wat l (4 * i)) := by unfold fB; rw [if_neg (by decide), if_neg (by decide), if_neg (by decide), if_neg (by decide)]
theorem cells_op (l : List UInt8) (i : Nat) : opCells (wat l (4 * i)) = five (fB l) i := by
  unfold opCells five
  rw [fB_0, fB_1, fB_2, fB_3, fB_4]
theorem cellsTo_of (l : List UInt8) (n : Nat) : cellsTo l n = cellsOf (fB l) n := by
  unfold cellsTo cellsOf
  rw [show (fun j => opCells (wat l (4 * j))) = five (fB l) from funext fun i => cells_op l i]
theorem numsTo_at (f : Nat → Nat → Int) (n i j : Nat) (hi : i < n) (hj : j < 4) : (numsTo f n)[4 * i + j]? = (four (wdO f i))[j]? := by
  induction n with
  | zero => omega
  | succ n ih =>
    rw [numsTo_succ]
    by_cases h : i < n
    · rw [List.getElem?_append_left (by rw [numsTo_length]; omega)]; exact ih h
    · obtain rfl : i = n := by omega
      rw [List.getElem?_append_right (by rw [numsTo_length]; omega), numsTo_length, show 4 * i + j - 4 * i = j by omega]
theorem byteAt_num {f : Nat → Nat → Int} {n i j : Nat} {x : Int} (hi : i < n) (hj : j < 4) (hx : (four (wdO f i))[j]? = some x) (x0 : 0 ≤ x) (x1 : x < 256) : byteAt (strOfNums (numsTo f n)).data.toList (4 * i + j) = x := by
  unfold byteAt
  rw [strOfNums_data, List.getD_eq_getElem?_getD, List.getElem?_map, numsTo_at f n i j hi hj, hx]
  show ((UInt8.ofNat x.toNat).toNat : Int) = x
  have : (UInt8.ofNat x.toNat).toNat = x.toNat % 256 := by simp
  rw [this]
  omega
theorem okO_word {f : Nat → Nat → Int} {i : Nat} (h : okO f i = true) : 0 ≤ wdO f i ∧ wdO f i < 4294967296 := wordI_in h
theorem wat_num {f : Nat → Nat → Int} {n i : Nat} (hi : i < n) (h : okO f i = true) : wat (strOfNums (numsTo f n)).data.toList (4 * i) = wdO f i := by
  obtain ⟨h0, h1⟩ := okO_word h
  have b0 := byteAt_num (j := 0) hi (by omega) (x := wdO f i % 256) rfl (by omega) (by omega)
  have b1 := byteAt_num (j := 1) hi (by omega) (x := wdO f i / 256 % 256) rfl (by omega) (by omega)
  have b2 := byteAt_num (j := 2) hi (by omega) (x := wdO f i / 65536 % 256) rfl (by omega) (by omega)
  have b3 := byteAt_num (j := 3) hi (by omega) (x := wdO f i / 16777216) rfl (by omega) (by omega)
  unfold wat
  rw [Nat.add_zero] at b0
  rw [b0, b1, b2, b3]
  omega
theorem kind_wd {f : Nat → Nat → Int} {i : Nat} (h : okO f i = true) : kindAt (wdO f i) = (f i 0).toNat := by
  obtain ⟨h1, h2, h3⟩ := okI_parts h
  exact kindAt_of (by omega) (by omega) (wordI_ok h)
theorem good_wd {f : Nat → Nat → Int} {i : Nat} (h : okO f i = true) : good (wdO f i) = true := by
  obtain ⟨h1, h2, h3⟩ := okI_parts h
  simp [good, kind_wd h]; omega
theorem fB_num {f : Nat → Nat → Int} {n i : Nat} (hi : i < n) (h : okO f i = true) (j : Nat) (hj : j < 5) : fB (strOfNums (numsTo f n)).data.toList i j = f i j := by
  obtain ⟨h1, h2, h3⟩ := okI_parts h
  obtain ⟨_, e1, e2, e3, e4, _, _⟩ := M.of_may (k := (f i 0).toNat) (by omega) h3
  have hw : M.word (f i 0).toNat (f i 1) (f i 2) (f i 3) (f i 4) = wdO f i := rfl
  rw [hw] at e1 e2 e3 e4
  rcases (by omega : j = 0 ∨ j = 1 ∨ j = 2 ∨ j = 3 ∨ j = 4) with rfl | rfl | rfl | rfl | rfl
  · rw [fB_0, wat_num hi h, kind_wd h]; omega
  · rw [fB_1, wat_num hi h, kind_wd h]; exact e1
  · rw [fB_2, wat_num hi h, kind_wd h]; exact e2
  · rw [fB_3, wat_num hi h, kind_wd h]; exact e3
  · rw [fB_4, wat_num hi h, kind_wd h]; exact e4
theorem str_len (f : Nat → Nat → Int) (n : Nat) : (strOfNums (numsTo f n)).size = 4 * n := by rw [strOfNums_size, numsTo_length]
def BackOps (n : Nat) (f : Nat → Nat → Int) (w : World) (e : Ending) (w' : World) : Prop := ∃ v, e = .returned (.tuple #[v, .int .i64 0]) ∧ Ops w' v n f ∧ Below w.heap.size w w'
theorem back_t {n : Nat} {f : Nat → Nat → Int} (hok : ∀ j, j < n → okO f j = true) (n1 : n ≤ 500) (w : World) (T : Tabs w) (s : ByteArray) (hs : s = strOfNums (numsTo f n)) :
    Calls Tryd.prog 21 #[.string s] w (BackOps n (fB s.data.toList) w) := by
  have hl := str_len f n
  rw [← hs] at hl
  have hd : s.data.toList.length / 4 = n := by
    have : s.data.toList.length = s.size := by simp
    omega
  refine (back_any s w (by omega) (by omega) T).mono ?_
  rintro e w' ⟨⟨v, _, rfl, hown⟩ | ⟨⟨j, hj, hg⟩, _⟩, hb⟩
  · rw [hd, cellsTo_of] at hown
    exact ⟨v, rfl, Ops.of_own hown, hb⟩
  · rw [hd] at hj
    rw [hs, wat_num hj (hok j hj), good_wd (hok j hj)] at hg
    cases hg

def joinO (f : Nat → Nat → Int) (n : Nat) (g : Nat → Nat → Int) (i j : Nat) : Int := if i < n then f i j else g (i - n) j
theorem join_lo {f g : Nat → Nat → Int} {n i : Nat} (h : i < n) : joinO f n g i = f i := by funext j; simp [joinO, h]
theorem join_hi (f g : Nat → Nat → Int) (n i : Nat) : joinO f n g (n + i) = g i := by funext j; unfold joinO; rw [if_neg (by omega), show n + i - n = i by omega]
theorem ok_lo {f g : Nat → Nat → Int} {n i : Nat} (h : i < n) : okO (joinO f n g) i = okO f i := by unfold okO; rw [join_lo h]
theorem ok_hi (f g : Nat → Nat → Int) (n i : Nat) : okO (joinO f n g) (n + i) = okO g i := by unfold okO; rw [join_hi]
theorem cells_lo (f g : Nat → Nat → Int) (n m : Nat) (h : m ≤ n) : cellsOf (joinO f n g) m = cellsOf f m := by
  induction m with
  | zero => rfl
  | succ m ih => rw [cellsOf_succ, cellsOf_succ, ih (by omega)]; unfold five; rw [join_lo (by omega)]
theorem cells_join (f g : Nat → Nat → Int) (n m : Nat) : cellsOf (joinO f n g) (n + m) = cellsOf f n ++ cellsOf g m := by
  induction m with
  | zero => rw [Nat.add_zero, cells_lo f g n n (Nat.le_refl _)]; simp [cellsOf]
  | succ m ih => rw [← Nat.add_assoc, cellsOf_succ, cellsOf_succ, ih, List.append_assoc]; unfold five; rw [join_hi]
theorem nums_lo (f g : Nat → Nat → Int) (n m : Nat) (h : m ≤ n) : numsTo (joinO f n g) m = numsTo f m := by
  induction m with
  | zero => rfl
  | succ m ih => rw [numsTo_succ, numsTo_succ, ih (by omega)]; unfold wdO; rw [join_lo (by omega)]
theorem nums_join (f g : Nat → Nat → Int) (n m : Nat) : numsTo (joinO f n g) (n + m) = numsTo f n ++ numsTo g m := by
  induction m with
  | zero => rw [Nat.add_zero, nums_lo f g n n (Nat.le_refl _)]; simp [numsTo]
  | succ m ih => rw [← Nat.add_assoc, numsTo_succ, numsTo_succ, ih, List.append_assoc]; unfold wdO; rw [join_hi]
theorem str_join (xs ys : List Int) : strOfNums (xs ++ ys) = strOfNums xs ++ strOfNums ys := by
  apply ByteArray.ext
  apply Array.toList_inj.1
  simp [strOfNums]
theorem ok_join {f g : Nat → Nat → Int} {n m : Nat} (hf : ∀ j, j < n → okO f j = true) (hg : ∀ j, j < m → okO g j = true) : ∀ j, j < n + m → okO (joinO f n g) j = true := fun j hj => by
  by_cases h : j < n
  · rw [ok_lo h]; exact hf j h
  · obtain ⟨i, rfl⟩ : ∃ i, j = n + i := ⟨j - n, by omega⟩
    rw [ok_hi]; exact hg i (by omega)

set_option maxRecDepth 100000 in
set_option maxHeartbeats 4000000 in
theorem rows_walk {va vb : Value} {n m : Nat} {f g : Nat → Nat → Int} {w : World} (hA : Ops w va n f) (hB : Ops w vb m g) (hn : n ≤ maxLen) (hm : m ≤ maxLen) (T : Tabs w) :
    Calls Tryd.prog 7 #[va, vb] w fun e w' => e = .returned (.bool true) ∧ Below w.heap.size w w' := by
  unfold maxLen at hn hm
  obtain ⟨A, cA, rfl⟩ := hA.slice
  obtain ⟨B, cB, rfl⟩ := hB.slice
  have HA := Lib.hid hA
  have HB := Lib.hid hB
  have H0 := Lib.hid T
  clear hA hB T
  by_cases n2 : n ≤ 200
  case neg =>
    go_enter Tryd.func7, Tryd.ntmps7
    go_wp2_with fail
    refine (shown_any _ H0.out).mono ?_
    rintro e w1 ⟨rfl, hb1⟩
    go_wp2_with fail
    go_ret
    exact ⟨rfl, hb1⟩
  by_cases m2 : m ≤ 200
  case neg =>
    go_enter Tryd.func7, Tryd.ntmps7
    go_wp2_with fail
    refine (shown_any _ H0.out).mono ?_
    rintro e w1 ⟨rfl, hb1⟩
    go_wp2_with fail
    go_ret
    exact ⟨rfl, hb1⟩
  obtain ⟨s, y, hs, CA⟩ := bytes_all n f
  obtain ⟨t, z, ht, CB⟩ := bytes_all m g
  have KA := Lib.hid CA
  have KB := Lib.hid CB
  clear CA CB
  by_cases hy : y = 0 ∧ z = 0
  case neg =>
    have hyz : (y != 0) = true ∨ ((y != 0) = false ∧ (z != 0) = true) := by
      by_cases q : y = 0
      · exact .inr ⟨by simp [q], by simp; exact fun h => hy ⟨q, h⟩⟩
      · exact .inl (by simp [q])
    clear hs ht hy
    rcases hyz with t1 | ⟨t1, t2⟩
    all_goals
      go_enter Tryd.func7, Tryd.ntmps7
      go_wp2_with fail
      refine (shown_any _ H0.out).mono ?_
      rintro e w1 ⟨rfl, hb1⟩
      have T1 := Lib.hid (H0.out.next hb1)
      have A1 := Lib.hid (HA.out.next hb1)
      have B1 := Lib.hid (HB.out.next hb1)
      have E1 := Lib.hid hb1
      clear hb1
      go_wp2_with fail
      refine (KA.out _ _ A1.out (by omega) T1.out).mono ?_
      rintro e w2 ⟨rfl, hb2⟩
      have T2 := Lib.hid (T1.out.next hb2)
      have B2 := Lib.hid (B1.out.next hb2)
      have E2 := Lib.hid (bthen E1.out hb2)
      clear hb2
      go_wp2_with fail
      refine (KB.out _ _ B2.out (by omega) T2.out).mono ?_
      rintro e w3 ⟨rfl, hb3⟩
      have E3 := Lib.hid (bthen E2.out hb3)
      clear hb3
      go_wp2_with fail
      go_ret
      exact ⟨rfl, E3.out⟩
  obtain ⟨rfl, rfl⟩ := hy
  rcases hs with ⟨_, okf, hs⟩ | ⟨h, _⟩
  case inr => cases h
  rcases ht with ⟨_, okg, ht⟩ | ⟨h, _⟩
  case inr => cases h
  have KJ : ∀ (W : World) (base : Nat) (v : Value), W.ownsRow base 23 5 v (n + m) (cellsOf f n ++ cellsOf g m) → Tabs W → Calls Tryd.prog 19 #[v] W fun e w' => e = .returned (.tuple #[.string (s ++ t), .int .i64 0]) ∧ Below W.heap.size W w' := fun W _ v ho hT => by
    rw [← cells_join] at ho
    have h := bytes_t (Ops.of_own ho) (by omega) hT (ok_join okf okg)
    rw [nums_join, str_join, ← hs, ← ht] at h
    exact h
  have HJ := Lib.hid KJ
  have KK := Lib.hid (fun (W : World) (hT : Tabs W) => back_t okf (by omega) W hT s hs)
  have fb := Lib.hid (fun i hi j hj => (congrArg (fun s : ByteArray => fB s.data.toList i j) hs).trans (fB_num (f := f) (n := n) hi (okf i hi) j hj))
  have sl : ((s.size : Int) == 4 * (n : Int)) = true := by rw [hs, str_len]; simp
  have st : s.size + t.size ≤ 2000 := by rw [hs, ht, str_len, str_len]; omega
  have st1 : s.size + t.size ≤ maxLen := by unfold maxLen; omega
  have st2 : ¬ maxLen < s.size + t.size := by omega
  have st3 : decide (s.size + t.size ≤ maxLen) = true := by simpa using st1
  clear KJ hs ht okf okg
  go_enter Tryd.func7, Tryd.ntmps7
  go_wp2_with fail
  refine (shown_any _ H0.out).mono ?_
  rintro e w1 ⟨rfl, hb1⟩
  have T1 := Lib.hid (H0.out.next hb1)
  have A1 := Lib.hid (HA.out.next hb1)
  have B1 := Lib.hid (HB.out.next hb1)
  have E1 := Lib.hid hb1
  clear hb1
  go_wp2_with fail
  refine (KA.out _ _ A1.out (by omega) T1.out).mono ?_
  rintro e w2 ⟨rfl, hb2⟩
  have T2 := Lib.hid (T1.out.next hb2)
  have A2 := Lib.hid (A1.out.next hb2)
  have B2 := Lib.hid (B1.out.next hb2)
  have E2 := Lib.hid (bthen E1.out hb2)
  clear hb2
  go_wp2_with fail
  refine (KB.out _ _ B2.out (by omega) T2.out).mono ?_
  rintro e w3 ⟨rfl, hb3⟩
  have T3 := Lib.hid (T2.out.next hb3)
  have A3 := Lib.hid (A2.out.next hb3)
  have B3 := Lib.hid (B2.out.next hb3)
  have E3 := Lib.hid (bthen E2.out hb3)
  have z3 : w.heap.size ≤ w3.heap.size := E3.out.size
  clear hb3
  go_wp2_with (first | (at_builtin; refine wpList_append_ops rfl (.tmp 43) (.tmp 44) rfl w3.heap.size _ 0 [] rfl (World.ownsRow_lit (base := w3.heap.size) (e := 23) (size := 5) w3 #[] 0 (Nat.le_refl _) (by unfold maxLen; omega) rfl) _ n f rfl (A3.out.next ((Below.refl _ _).alloc (Nat.le_refl _) _)) (by omega) (by omega) (by simp) ?_; intro v4 w4 hown4 hgrow4; have O4 := Lib.hid hown4; have F4 := Lib.hid (below_grown (World.ownsRow_lit (base := w3.heap.size) (e := 23) (size := 5) w3 #[] 0 (Nat.le_refl _) (by unfold maxLen; omega) rfl) (balloc (Below.refl _ _) _) hgrow4); have B4 := Lib.hid (B3.out.next F4.out); clear hown4 hgrow4) | (at_builtin; refine wpList_append_ops rfl (.tmp 45) (.tmp 46) rfl w3.heap.size _ (0 + n) _ rfl O4.out _ m g rfl B4.out (by omega) (by omega) F4.out.size ?_; intro v5 w5 hown5 hgrow5; have O5 := Lib.hid hown5; have F5 := Lib.hid (below_grown O4.out F4.out hgrow5); clear hown5 hgrow5))
  have O6 : Hid (w5.ownsRow w3.heap.size 23 5 v5 (n + m) (cellsOf f n ++ cellsOf g m)) := Lib.hid (by have h := O5.out; rw [Nat.zero_add, List.nil_append] at h; exact h)
  have T5 := Lib.hid (T3.out.next F5.out)
  have A5 := Lib.hid (A3.out.next F5.out)
  have E5 := Lib.hid (bthen E3.out F5.out)
  clear O5 O4 F4 B4 F5
  refine (HJ.out _ _ _ O6.out T5.out).mono ?_
  rintro e w6 ⟨rfl, hb6⟩
  have T6 := Lib.hid (T5.out.next hb6)
  have A6 := Lib.hid (A5.out.next hb6)
  have E6 := Lib.hid (bthen E5.out hb6)
  clear hb6 O6 T5 A5 E5
  go_wp2_with fail
  refine (KK.out _ T6.out).mono ?_
  rintro e w7 ⟨v7, rfl, hO7, hb7⟩
  have O7 := Lib.hid hO7
  have A7 := Lib.hid (A6.out.next hb7)
  have E7 := Lib.hid (bthen E6.out hb7)
  clear hO7 hb7 T6 A6 E6
  go_wp2_with fail
  refine (same_t O7.out A7.out fb.out (by omega)).mono ?_
  rintro e w8 ⟨rfl, hb8⟩
  have E8 := Lib.hid (bthen E7.out hb8)
  clear hb8 O7 A7 E7
  go_wp2_with fail
  go_ret
  exact ⟨rfl, E8.out⟩
end Go.Proofs.YtmedlebepgobeaaDoor
