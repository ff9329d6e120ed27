/- What the texts of package resolve stand on, of the packages ir and pick (part 2). -/
import Derived.Test.YtjldddpchiaalaaHU0
namespace Go.Proofs.Ytjldddpchiaalaa
open Go.RowKit
namespace Q
theorem one_at (c k : Nat) (x : Int) (hx : x = c) {W : World} (h : W.cell? ⟨k, 0, none⟩ = some (.int .u8 x)) : (convert 43 9 (.slice (some ⟨k, 0, none⟩) 1 1)).run Try.prog W = .ok (.string ⟨#[UInt8.ofNat c]⟩) W := by
  have h := run_convert_bytes_arg W 43 5 Try.underlying43 Try.underlying5 k 0 1 1 [(c : Int)] rfl (fun i hi => by
    obtain rfl : i = 0 := by omega
    simp only [Nat.add_zero, h, hx]
    rfl) 9 Try.underlying9
  rw [h]
  simp [strOfNums]
theorem one_in (d : Nat) {w W w' : World} (hb : Below W.heap.size W w') : W = (w.alloc (.cells #[.int .u8 (d + 128)] 5)).drew → (convert 43 9 (.slice (some ⟨w.heap.size, 0, none⟩) 1 1)).run Try.prog w' = .ok (.string ⟨#[UInt8.ofNat (d + 128)]⟩) w' := by
  rintro rfl
  refine one_at (d + 128) w.heap.size (d + 128) (by omega) ?_
  rw [(bcell hb).1 _ _ (by simp [World.drew])]
  show (w.alloc (.cells #[.int .u8 (d + 128)] 5)).cell? ⟨w.heap.size, 0, none⟩ = _
  simp [go_sem]
end Q
end Go.Proofs.Ytjldddpchiaalaa
namespace Go.Proofs.Ytjldddpchiaalaa
open Go.RowKit
namespace Q
theorem tk_of {s : ByteArray} {k : Nat} {v : Nat} {l : List UInt8} {e : Int} (h : (v, l, e) = tn 10 s.data.toList 0) (hl : l = s.data.toList.drop k) : tkV s = v ∧ tkR s = s.extract k s.size ∧ tkE s = e := by
  unfold tkV tkR tkE
  rw [← h]
  exact ⟨rfl, by simp only; rw [hl, drop_ext], rfl⟩
theorem tk_no {s : ByteArray} {e : Int} (h : ((0 : Nat), ([] : List UInt8), e) = tn 10 s.data.toList 0) : tkV s = 0 ∧ tkR s = ⟨#[]⟩ ∧ tkE s = e := by
  unfold tkV tkR tkE
  rw [← h]
  exact ⟨rfl, rfl, rfl⟩
end Q
end Go.Proofs.Ytjldddpchiaalaa
namespace Go.Proofs.Ytjldddpchiaalaa
open Go.RowKit
namespace Q
theorem tk_ex : tkV ⟨#[128, 0]⟩ = 0 ∧ tkR ⟨#[128, 0]⟩ = ⟨#[]⟩ ∧ tkE ⟨#[128, 0]⟩ = 3 := ⟨by decide +kernel, rfl, by decide +kernel⟩
theorem num_ex : numS 300 = ⟨#[172, 2]⟩ := by
  unfold numS
  rw [numL_ge (by decide), numL_lt (by decide)]
  rfl
theorem ba_beq (x y : ByteArray) : (x == y) = true ↔ x = y := by
  rw [beq_toListBytes, beq_iff_eq, ByteArray.toList_eq, ByteArray.toList_eq]
  exact ⟨fun h => ByteArray.ext (Array.toList_inj.1 h), fun h => by rw [h]⟩
theorem str_same {a b : ByteArray} (h : a = b) : (a == b) = true ∧ (a.toList == b.toList) = true := by
  subst h
  exact ⟨(ba_beq _ _).2 rfl, by simp⟩
theorem str_other {a b : ByteArray} (h : a ≠ b) : (a == b) = false ∧ (a.toList == b.toList) = false := by
  refine ⟨?_, ?_⟩
  · cases h1 : (a == b) with
    | false => rfl
    | true => exact absurd ((ba_beq _ _).1 h1) h
  · cases h1 : (a.toList == b.toList) with
    | false => rfl
    | true => rw [← beq_toListBytes] at h1; exact absurd ((ba_beq _ _).1 h1) h
set_option maxRecDepth 100000 in
theorem bshown_any (w : World) : Calls Try.prog 7 #[] w fun e w' => e = .returned (.bool true) ∧ Below w.heap.size w w' := by
  have HT := Lib.hid (takeNum_any ⟨#[128, 0]⟩ w (by decide))
  rw [tk_ex.1, tk_ex.2.1, tk_ex.2.2] at HT
  have HN := Lib.hid (fun W => num_any 300 (by decide) W)
  rw [num_ex] at HN
  go_enter Try.func7, Try.ntmps7
  go_wp2_with fail
  refine HT.out.mono ?_
  rintro e w1 ⟨rfl, hb⟩
  have HB := Lib.hid hb
  clear hb
  go_wp2_with fail
  refine (HN.out _).mono ?_
  rintro e w2 ⟨rfl, hb⟩
  have HB := Lib.hid (bthen HB.out hb)
  clear hb
  go_wp2_with fail
  go_ret
  exact ⟨rfl, HB.out⟩
end Q
end Go.Proofs.Ytjldddpchiaalaa
namespace Go.Proofs.Ytjldddpchiaalaa
open Go.RowKit
/-- a row of ints -/
def Ints (W : World) (v : Value) (l : List Int) : Prop :=
  (l = [] ∧ (v = .slice none 0 0 ∨ ∃ a cap, v = .slice (some a) 0 cap)) ∨ (0 < l.length ∧ ∃ b off cap, v = .slice (some ⟨b, off, none⟩) l.length cap ∧ b < W.heap.size ∧ ∀ (i : Nat) (h : i < l.length), W.cell? ⟨b, off + i, none⟩ = some (.int .i64 l[i]))
theorem Ints.next {W W' : World} {v : Value} {l : List Int} (h : Ints W v l) (hb : Below W.heap.size W W') : Ints W' v l := by
  rcases h with h | ⟨h0, b, off, cap, rfl, h1, h2⟩
  · exact .inl h
  · exact .inr ⟨h0, b, off, cap, rfl, Nat.lt_of_lt_of_le h1 hb.size, fun i hi => (World.cell?_of_block (hb.block b h1)).trans (h2 i hi)⟩
theorem Ints.slice {W : World} {v : Value} {l : List Int} (h : Ints W v l) : ∃ A cap, v = .slice A l.length cap := by
  rcases h with ⟨rfl, rfl | ⟨a, cap, rfl⟩⟩ | ⟨_, b, off, cap, rfl, _⟩
  · exact ⟨_, _, rfl⟩
  · exact ⟨_, _, rfl⟩
  · exact ⟨_, _, rfl⟩
theorem Ints.len {W : World} {A : Option Addr} {n cap : Nat} {l : List Int} (h : Ints W (.slice A n cap) l) : l.length = n := by
  obtain ⟨A', c', e⟩ := h.slice
  exact (Value.slice.inj e).2.1.symm
theorem Ints.at_ {W : World} {A : Option Addr} {n cap : Nat} {l : List Int} (h : Ints W (.slice A n cap) l) {i : Nat} (hi : i < l.length) : ∃ b off, A = some ⟨b, off, none⟩ ∧ W.cell? ⟨b, off + i, none⟩ = some (.int .i64 l[i]) := by
  rcases h with ⟨rfl, -⟩ | ⟨_, b, off, c, e, _, h2⟩
  · simp at hi
  · exact ⟨b, off, (Value.slice.inj e).1, h2 i hi⟩
theorem hasName_any (op : Int) (w : World) : Calls Try.prog 50 #[.int .i64 op] w fun e w' => e = .returned (.bool (op == 12 || op == 13 || op == 14)) ∧ w = w' := by
  by_cases h1 : op = 12
  · subst h1
    go_enter Try.func50, Try.ntmps50
    go_wp2_with fail
    go_ret
    exact ⟨rfl, rfl⟩
  · have t1 : (op == 12) = false := by simpa using h1
    by_cases h2 : op = 13
    · subst h2
      go_enter Try.func50, Try.ntmps50
      go_wp2_with fail
      go_ret
      exact ⟨rfl, rfl⟩
    · have t2 : (op == 13) = false := by simpa using h2
      rw [t1, t2]
      clear h1 h2
      go_enter Try.func50, Try.ntmps50
      go_wp2_with fail
      go_ret
      exact ⟨by simp, rfl⟩
/-- all of them 0 to n less 1 -/
def amongB (n : Int) (l : List Int) : Bool := l.all (fun v => decide (0 ≤ v) && decide (v < n))
set_option maxRecDepth 100000 in
set_option maxHeartbeats 1000000 in
theorem among_any (k : Int) (l : List Int) (A : Option Addr) (n cap : Nat) (w : World) (hS : Ints w (.slice A n cap) l) (hn : n ≤ 9223372036854775807) :
    Calls Try.prog 89 #[.int .i64 k, .slice A n cap] w fun e w' => e = .returned (.bool (amongB k l)) ∧ Below w.heap.size w w' := by
  have HN := Lib.hid hS.len
  have HS := Lib.hid hS
  have n1 : (n : Int) ≤ 9223372036854775807 := by omega
  clear hS hn
  go_enter Try.func89, Try.ntmps89
  go_wp2_with fail
  go_loopw [9] (fun iv wr => ∃ i : Nat, i ≤ n ∧ iv = .int .i64 i ∧ amongB k (l.take i) = true ∧ w = wr) (fun iv _ => n - (intOf iv).toNat)
  case atStart => exact ⟨0, Nat.zero_le _, rfl, rfl, rfl⟩
  case round =>
    obtain ⟨i, hi, rfl, hs, rfl⟩ := hrel
    have HT := Lib.hid hs
    clear hs
    by_cases hlt : i < n
    · have hm : i < l.length := by rw [HN.out]; exact hlt
      obtain ⟨b, off, hA, e0⟩ := HS.out.at_ hm
      subst hA
      have HNX := Lib.hid (show amongB k (l.take (i + 1)) = (decide (0 ≤ l[i]) && decide (l[i] < k)) by
        have h := HT.out
        unfold amongB at h ⊢
        rw [List.take_succ_eq_append_getElem hm, List.all_append, h]
        simp)
      have HNO := Lib.hid (show (decide (0 ≤ l[i]) && decide (l[i] < k)) = false → amongB k l = false from fun h => by
        unfold amongB
        rw [List.all_eq_false]
        exact ⟨l[i], List.getElem_mem hm, by simpa using h⟩)
      obtain ⟨x, hx⟩ : ∃ x, l[i] = x := ⟨_, rfl⟩
      rw [hx] at e0 HNX HNO
      have hk0 : (0 : Int) ≤ (i : Int) := Int.natCast_nonneg _
      have hk1 : (i : Int) < (n : Int) := by omega
      have HLT := Lib.hid hlt
      clear hx hm hlt
      by_cases h0 : x < 0
      · have t0 : decide (x < 0) = true := decide_eq_true h0
        have HF := Lib.hid (HNO.out (by simp; omega))
        go_wp2_with fail
        go_ret
        exact ⟨by rw [HF.out]; rfl, Below.refl _ _⟩
      · have t0 : decide (x < 0) = false := decide_eq_false h0
        by_cases h1 : k ≤ x
        · have t1 : decide (k ≤ x) = true := decide_eq_true h1
          have HF := Lib.hid (HNO.out (by simp; omega))
          go_wp2_with fail
          go_ret
          exact ⟨by rw [HF.out]; rfl, Below.refl _ _⟩
        · have t1 : decide (k ≤ x) = false := decide_eq_false h1
          have HF := Lib.hid (show amongB k (l.take (i + 1)) = true by rw [HNX.out]; simp; omega)
          go_wp2_with fail
          go_roundw
          case rel => exact ⟨i + 1, by have := HLT.out; omega, by go_num, HF.out, trivial⟩
          case measure => have := HLT.out; simp [intOf]; omega
    · have hd : decide ((i : Int) < (n : Int)) = false := by simp; omega
      have HF := Lib.hid (show amongB k l = true by
        have h := HT.out
        rwa [List.take_of_length_le (by have := HN.out; omega)] at h)
      go_wp2_with fail
      go_ret
      exact ⟨by rw [HF.out]; rfl, Below.refl _ _⟩
end Go.Proofs.Ytjldddpchiaalaa
namespace Go.Proofs.Ytjldddpchiaalaa
open Go.RowKit
theorem mayBind_any (b : Int) (w : World) : Calls Try.prog 70 #[.int .i64 b] w fun e w' => e = .returned (.bool (decide (1 ≤ b) && decide (b ≤ 3))) ∧ w = w' := by
  by_cases h0 : 1 ≤ b
  · have t0 : decide (1 ≤ b) = true := decide_eq_true h0
    by_cases h1 : b ≤ 3
    · have t1 : decide (b ≤ 3) = true := decide_eq_true h1
      rw [t0, t1]
      clear h0 h1
      go_enter Try.func70, Try.ntmps70
      go_wp2_with fail
      go_ret
      exact ⟨rfl, rfl⟩
    · have t1 : decide (b ≤ 3) = false := decide_eq_false h1
      rw [t0, t1]
      clear h0 h1
      go_enter Try.func70, Try.ntmps70
      go_wp2_with fail
      go_ret
      exact ⟨rfl, rfl⟩
  · have t0 : decide (1 ≤ b) = false := decide_eq_false h0
    rw [t0]
    clear h0
    go_enter Try.func70, Try.ntmps70
    go_wp2_with fail
    go_ret
    exact ⟨rfl, rfl⟩
theorem mayParams_any (b : Int) (w : World) : Calls Try.prog 71 #[.int .i64 b] w fun e w' => e = .returned (.bool (decide (0 ≤ b) && decide (b ≤ 6))) ∧ w = w' := by
  by_cases h0 : 0 ≤ b
  · have t0 : decide (0 ≤ b) = true := decide_eq_true h0
    by_cases h1 : b ≤ 6
    · have t1 : decide (b ≤ 6) = true := decide_eq_true h1
      rw [t0, t1]
      clear h0 h1
      go_enter Try.func71, Try.ntmps71
      go_wp2_with fail
      go_ret
      exact ⟨rfl, rfl⟩
    · have t1 : decide (b ≤ 6) = false := decide_eq_false h1
      rw [t0, t1]
      clear h0 h1
      go_enter Try.func71, Try.ntmps71
      go_wp2_with fail
      go_ret
      exact ⟨rfl, rfl⟩
  · have t0 : decide (0 ≤ b) = false := decide_eq_false h0
    rw [t0]
    clear h0
    go_enter Try.func71, Try.ntmps71
    go_wp2_with fail
    go_ret
    exact ⟨rfl, rfl⟩
theorem mayName_any (s : ByteArray) (w : World) (_hs : s.size < 9223372036854775808) : Calls Try.prog 69 #[.string s] w fun e w' => e = .returned (.bool (decide (1 ≤ (s.size : Int)) && decide ((s.size : Int) ≤ 16))) ∧ w = w' := by
  by_cases h0 : 1 ≤ (s.size : Int)
  · have t0 : decide (1 ≤ (s.size : Int)) = true := decide_eq_true h0
    by_cases h1 : (s.size : Int) ≤ 16
    · have t1 : decide ((s.size : Int) ≤ 16) = true := decide_eq_true h1
      rw [t0, t1]
      clear h0 h1
      go_enter Try.func69, Try.ntmps69
      go_wp2_with fail
      go_ret
      exact ⟨rfl, rfl⟩
    · have t1 : decide ((s.size : Int) ≤ 16) = false := decide_eq_false h1
      rw [t0, t1]
      clear h0 h1
      go_enter Try.func69, Try.ntmps69
      go_wp2_with fail
      go_ret
      exact ⟨rfl, rfl⟩
  · have t0 : decide (1 ≤ (s.size : Int)) = false := decide_eq_false h0
    rw [t0]
    clear h0
    go_enter Try.func69, Try.ntmps69
    go_wp2_with fail
    go_ret
    exact ⟨rfl, rfl⟩
end Go.Proofs.Ytjldddpchiaalaa
namespace Go.Proofs.Ytjldddpchiaalaa
open Go.RowKit
def intRow (l : List Int) : List Value := l.map (fun v => Value.int .i64 v)
theorem intRow_length (l : List Int) : (intRow l).length = l.length := by simp [intRow]
theorem intRow_one : ∀ (l : List Int), ∀ u ∈ intRow l, u.oneCell' = true := by
  intro l u hu
  obtain ⟨v, -, rfl⟩ := List.mem_map.1 hu
  rfl
/-- a row of the call's own that holds ints -/
def OwnsI (W : World) (base : Nat) (v : Value) (l : List Int) : Prop := W.ownsRow base 3 1 v l.length (intRow l)
theorem OwnsI.ints {W : World} {base : Nat} {v : Value} {l : List Int} (h : OwnsI W base v l) : Ints W v l := by
  have h' : W.ownsRow base 3 1 v l.length (intRow l) := h
  by_cases hn : 0 < l.length
  · obtain ⟨g, cap, rfl, _, hg⟩ := h'.form hn
    refine .inr ⟨hn, g, 0, cap, rfl, hg, fun i hi => ?_⟩
    rw [Nat.zero_add, h'.cellAt i (by omega)]
    simp [intRow, hi]
  · obtain rfl : l = [] := List.eq_nil_of_length_eq_zero (by omega)
    refine .inl ⟨rfl, ?_⟩
    obtain ⟨_, ⟨rfl, _⟩ | ⟨g, cap, cur, rfl, _⟩⟩ := h'
    · exact .inl rfl
    · exact .inr ⟨_, _, rfl⟩
theorem int_add (b off j : Nat) : (⟨b, off, none⟩ : Addr).add j = ⟨b, off + j, none⟩ := by unfold Addr.add; split <;> simp_all
theorem int_info : (Try.prog.info? 3).map (fun i => (i.zero, i.size, i.bytes)) = some (some (.int .i64 0), 1, 8) := by kernel_rfl
/-- append of a row of ints to one of the call's own -/
theorem wpList_append_ints {w : World} {ops : Array Oper} {rest : List Oper} {o : Oper} {a : Act} {Q : Exit → Act → World → Prop} (hgd : o.guard = none) (s x : Operand)
    (ho : o.op = .call { callee := .builtin .append, args := #[s, x], argTypes := #[70, 70] }) (base : Nat) (v : Value) (m k : List Int) (hs : a.eval s = v) (hown : OwnsI w base v m)
    (u : Value) (hx : a.eval x = u) (hO : Ints w u k) (hn : (m.length + k.length) * 8 ≤ 140737488355328) (hbase : base ≤ w.heap.size)
    (h : ∀ v' w', OwnsI w' base v' (m ++ k) → w.grownBy w' v.ownBlock → wpList Try.prog ops Q rest (a.put o.dst v') w') : wpList Try.prog ops Q (o :: rest) a w := by
  obtain ⟨i0, hi, hz0, hz1, hz2⟩ := info_parts int_info
  have fin : ∀ v' w', w'.ownsRow base 3 1 v' (m.length + k.length) (intRow m ++ intRow k) → w.grownBy w' v.ownBlock → wpList Try.prog ops Q rest (a.put o.dst v') w' := fun v' w' h1 h2 => by
    refine h v' w' ?_ h2
    unfold OwnsI
    rw [List.length_append, show intRow (m ++ k) = intRow m ++ intRow k by simp [intRow]]
    exact h1
  rcases hO with ⟨rfl, rfl | ⟨A, cap, rfl⟩⟩ | ⟨hm0, b, off, cap, rfl, hb, hp⟩
  · exact wpList_append_own_none hgd s x 70 ho base 3 i0 1 Try.underlying70 hi v m.length (intRow m) hs hown hx (h v w (by simpa using hown) ⟨rfl, rfl, rfl, Nat.le_refl _, fun _ _ _ => rfl⟩)
  · exact wpList_append_own w hgd s x 70 ho base 3 i0 (.int .i64 0) 1 8 Try.underlying70 hi hz0 hz1 hz2 rfl (by decide) v m.length (intRow m) hs hown A 0 cap [] hx rfl (fun j u hj => by simp at hj) (fun u hu => by cases hu) (by unfold maxLen; omega) (by simp at hn; omega) hbase (fun v' w' h1 h2 _ => fin v' w' (by simpa [intRow] using h1) h2)
  · exact wpList_append_own w hgd s x 70 ho base 3 i0 (.int .i64 0) 1 8 Try.underlying70 hi hz0 hz1 hz2 rfl (by decide) v m.length (intRow m) hs hown ⟨b, off, none⟩ k.length cap (intRow k) hx (by rw [intRow_length]; omega) (fun j u hj => by
      rw [int_add]
      have hj2 : j < k.length := by have := (List.getElem?_eq_some_iff.1 hj).1; rwa [intRow_length] at this
      rw [hp j hj2, ← hj]
      simp [intRow, hj2]) (intRow_one k) (by unfold maxLen; omega) (by omega) hbase (fun v' w' h1 h2 _ => fin v' w' h1 h2)
/-- a new row of the call's own with these ints -/
def NewInts (l : List Int) (w : World) (e : Ending) (w' : World) : Prop := ∃ v', e = .returned v' ∧ OwnsI w' w.heap.size v' l ∧ Below w.heap.size w w'
set_option maxRecDepth 100000 in
set_option maxHeartbeats 1000000 in
/-- slices.Clone of ints: a new row with the same, or nil -/
theorem iclone_any {l : List Int} {v : Value} {w : World} (hP : Ints w v l) (hn : l.length * 8 ≤ 140737488355328) :
    Calls Try.prog 94 #[v] w (NewInts l w) := by
  have HN := Lib.hid hn
  clear hn
  have q22 : ∀ (W : World) (a : Option Addr) (n c n' c' : Nat), (binOp .eql 70 (.slice a n c) (.slice none n' c')).run Try.prog W = .ok (.bool a.isNone) W := fun W a n c n' c' => Lib.run_eql_slice_nil W _ _ a n c n' c' Try.underlying70
  have O0 := fun W : World => Lib.hid (show OwnsI (W.alloc (.cells #[] 3)) W.heap.size (.slice (some ⟨W.heap.size, 0, none⟩) 0 0) [] from ⟨rfl, .inr ⟨W.heap.size, 0, #[], rfl, Nat.le_refl _, heap_alloc_new _ _, Nat.le_refl _, by unfold maxLen; omega, rfl, rfl⟩⟩)
  rcases hP with ⟨rfl, rfl | ⟨a, cap, rfl⟩⟩ | ⟨h0, b, off, cap, rfl, hb, hp⟩
  · go_enter Try.func94, Try.ntmps94
    go_wp2_with fail
    go_ret
    exact ⟨_, rfl, ⟨rfl, .inl ⟨rfl, rfl⟩⟩, Below.refl _ _⟩
  · go_enter Try.func94, Try.ntmps94
    go_wp2_with fail
    go_ret
    exact ⟨_, rfl, (O0 w).out, balloc (Below.refl _ _) _⟩
  · have HP := Lib.hid (show Ints (w.alloc (.cells #[] 3)) (.slice (some ⟨b, off, none⟩) l.length cap) l from (show Ints w (.slice (some ⟨b, off, none⟩) l.length cap) l from .inr ⟨h0, b, off, cap, rfl, hb, hp⟩).next (balloc (Below.refl _ _) _))
    obtain ⟨n, hn⟩ : ∃ n, l.length = n := ⟨_, rfl⟩
    rw [hn] at HP ⊢
    have HNN := Lib.hid hn
    clear hn hp h0 hb
    have H0 := O0 w
    clear O0
    go_enter Try.func94, Try.ntmps94
    go_wp2_with (at_builtin; refine wpList_append_ints rfl _ _ rfl w.heap.size _ [] l rfl H0.out _ rfl HP.out (by have := HN.out; simpa using this) (by simp) ?_; intro v' w1 hown hgrow)
    have HO := Lib.hid hown
    have HB := Lib.hid ((balloc (Below.refl _ w) _).grown hgrow (by simp) (fun k hk => by cases hk; exact Nat.le_refl _))
    clear hown hgrow
    go_wp2_with fail
    go_ret
    exact ⟨_, rfl, HO.out, HB.out⟩
end Go.Proofs.Ytjldddpchiaalaa
namespace Go.Proofs.Ytjldddpchiaalaa
open Go.RowKit
/-- an instruction -/
structure In where
  o : Int
  a : Int
  b : Int
  k : Int
  s : ByteArray
  l : List Int
/-- a block's end -/
structure Tm where
  k : Int
  a : Int
  t : Int
  l : List Int
  e : Int
  m : List Int
/-- a block -/
structure Bk where
  p : Int
  i : List In
  e : Tm
/-- a function -/
structure Fn where
  s : ByteArray
  b : Int
  p : Int
  l : List Bk
/-- a global -/
structure Gl where
  s : ByteArray
  b : Int
  h : Bool
  i : Int
/-- a row of things that lie one behind another, each in so many cells -/
def RowOf {α : Type} (sz : Nat) (P : World → Nat → Nat → α → Prop) (W : World) (v : Value) (l : List α) : Prop :=
  (l = [] ∧ (v = .slice none 0 0 ∨ ∃ a cap, v = .slice (some a) 0 cap)) ∨ (0 < l.length ∧ ∃ b off cap, v = .slice (some ⟨b, off, none⟩) l.length cap ∧ b < W.heap.size ∧ ∀ (i : Nat) (h : i < l.length), P W b (off + i * sz) l[i])
theorem RowOf.next {α : Type} {sz : Nat} {P : World → Nat → Nat → α → Prop} (hP : ∀ (W W' : World) (b off : Nat) (x : α), b < W.heap.size → Below W.heap.size W W' → P W b off x → P W' b off x)
    {W W' : World} {v : Value} {l : List α} (h : RowOf sz P W v l) (hb : Below W.heap.size W W') : RowOf sz P W' v l := by
  rcases h with h | ⟨h0, b, off, cap, rfl, h1, h2⟩
  · exact .inl h
  · exact .inr ⟨h0, b, off, cap, rfl, Nat.lt_of_lt_of_le h1 hb.size, fun i hi => hP _ _ _ _ _ h1 hb (h2 i hi)⟩
theorem RowOf.slice {α : Type} {sz : Nat} {P : World → Nat → Nat → α → Prop} {W : World} {v : Value} {l : List α} (h : RowOf sz P W v l) : ∃ A cap, v = .slice A l.length cap := by
  rcases h with ⟨rfl, rfl | ⟨a, cap, rfl⟩⟩ | ⟨_, b, off, cap, rfl, _⟩
  · exact ⟨_, _, rfl⟩
  · exact ⟨_, _, rfl⟩
  · exact ⟨_, _, rfl⟩
theorem RowOf.len {α : Type} {sz : Nat} {P : World → Nat → Nat → α → Prop} {W : World} {A : Option Addr} {n cap : Nat} {l : List α} (h : RowOf sz P W (.slice A n cap) l) : l.length = n := by
  obtain ⟨A', c', e⟩ := h.slice
  exact (Value.slice.inj e).2.1.symm
theorem RowOf.at_ {α : Type} {sz : Nat} {P : World → Nat → Nat → α → Prop} {W : World} {A : Option Addr} {n cap : Nat} {l : List α} (h : RowOf sz P W (.slice A n cap) l) {i : Nat} (hi : i < l.length) :
    ∃ b off, A = some ⟨b, off, none⟩ ∧ b < W.heap.size ∧ P W b (off + i * sz) l[i] := by
  rcases h with ⟨rfl, -⟩ | ⟨_, b, off, c, e, h1, h2⟩
  · simp at hi
  · exact ⟨b, off, (Value.slice.inj e).1, h1, h2 i hi⟩
theorem cellNext {W W' : World} {b : Nat} (hb : b < W.heap.size) (h : Below W.heap.size W W') (o : Nat) : W'.cell? ⟨b, o, none⟩ = W.cell? ⟨b, o, none⟩ := World.cell?_of_block (h.block b hb)
/-- an instruction that lies in six cells -/
def InAt (W : World) (b off : Nat) (i : In) : Prop :=
  W.cell? ⟨b, off, none⟩ = some (.int .i64 i.o) ∧ W.cell? ⟨b, off + 1, none⟩ = some (.int .i64 i.a) ∧ W.cell? ⟨b, off + 2, none⟩ = some (.int .i64 i.b) ∧ W.cell? ⟨b, off + 3, none⟩ = some (.int .u64 i.k) ∧ W.cell? ⟨b, off + 4, none⟩ = some (.string i.s) ∧
    ∃ A cap, W.cell? ⟨b, off + 5, none⟩ = some (.slice A i.l.length cap) ∧ Ints W (.slice A i.l.length cap) i.l
theorem InAt.next (W W' : World) (b off : Nat) (x : In) (hb : b < W.heap.size) (h : Below W.heap.size W W') (hx : InAt W b off x) : InAt W' b off x := by
  obtain ⟨h0, h1, h2, h3, h4, A, cap, h5, h6⟩ := hx
  exact ⟨(cellNext hb h _).trans h0, (cellNext hb h _).trans h1, (cellNext hb h _).trans h2, (cellNext hb h _).trans h3, (cellNext hb h _).trans h4, A, cap, (cellNext hb h _).trans h5, h6.next h⟩
/-- a row of instructions -/
def Insts : World → Value → List In → Prop := RowOf 6 InAt
theorem Insts.next {W W' : World} {v : Value} {l : List In} (h : Insts W v l) (hb : Below W.heap.size W W') : Insts W' v l := RowOf.next InAt.next h hb
/-- a block that lies in eight cells -/
def BkAt (W : World) (b off : Nat) (x : Bk) : Prop :=
  W.cell? ⟨b, off, none⟩ = some (.int .i64 x.p) ∧ (∃ A cap, W.cell? ⟨b, off + 1, none⟩ = some (.slice A x.i.length cap) ∧ Insts W (.slice A x.i.length cap) x.i) ∧
    W.cell? ⟨b, off + 2, none⟩ = some (.int .i64 x.e.k) ∧ W.cell? ⟨b, off + 3, none⟩ = some (.int .i64 x.e.a) ∧ W.cell? ⟨b, off + 4, none⟩ = some (.int .i64 x.e.t) ∧
    (∃ A cap, W.cell? ⟨b, off + 5, none⟩ = some (.slice A x.e.l.length cap) ∧ Ints W (.slice A x.e.l.length cap) x.e.l) ∧ W.cell? ⟨b, off + 6, none⟩ = some (.int .i64 x.e.e) ∧
    (∃ A cap, W.cell? ⟨b, off + 7, none⟩ = some (.slice A x.e.m.length cap) ∧ Ints W (.slice A x.e.m.length cap) x.e.m)
theorem BkAt.next (W W' : World) (b off : Nat) (x : Bk) (hb : b < W.heap.size) (h : Below W.heap.size W W') (hx : BkAt W b off x) : BkAt W' b off x := by
  obtain ⟨h0, ⟨A, c, h1, g1⟩, h2, h3, h4, ⟨A5, c5, h5, g5⟩, h6, A7, c7, h7, g7⟩ := hx
  exact ⟨(cellNext hb h _).trans h0, ⟨A, c, (cellNext hb h _).trans h1, g1.next h⟩, (cellNext hb h _).trans h2, (cellNext hb h _).trans h3, (cellNext hb h _).trans h4, ⟨A5, c5, (cellNext hb h _).trans h5, g5.next h⟩, (cellNext hb h _).trans h6, A7, c7, (cellNext hb h _).trans h7, g7.next h⟩
/-- a row of blocks -/
def Blocks : World → Value → List Bk → Prop := RowOf 8 BkAt
theorem Blocks.next {W W' : World} {v : Value} {l : List Bk} (h : Blocks W v l) (hb : Below W.heap.size W W') : Blocks W' v l := RowOf.next BkAt.next h hb
/-- a function that lies in four cells -/
def FnAt (W : World) (b off : Nat) (x : Fn) : Prop :=
  W.cell? ⟨b, off, none⟩ = some (.string x.s) ∧ W.cell? ⟨b, off + 1, none⟩ = some (.int .i64 x.b) ∧ W.cell? ⟨b, off + 2, none⟩ = some (.int .i64 x.p) ∧
    ∃ A cap, W.cell? ⟨b, off + 3, none⟩ = some (.slice A x.l.length cap) ∧ Blocks W (.slice A x.l.length cap) x.l
theorem FnAt.next (W W' : World) (b off : Nat) (x : Fn) (hb : b < W.heap.size) (h : Below W.heap.size W W') (hx : FnAt W b off x) : FnAt W' b off x := by
  obtain ⟨h0, h1, h2, A, c, h3, g3⟩ := hx
  exact ⟨(cellNext hb h _).trans h0, (cellNext hb h _).trans h1, (cellNext hb h _).trans h2, A, c, (cellNext hb h _).trans h3, g3.next h⟩
/-- a row of functions -/
def Funcs : World → Value → List Fn → Prop := RowOf 4 FnAt
theorem Funcs.next {W W' : World} {v : Value} {l : List Fn} (h : Funcs W v l) (hb : Below W.heap.size W W') : Funcs W' v l := RowOf.next FnAt.next h hb
/-- a global that lies in four cells -/
def GlAt (W : World) (b off : Nat) (x : Gl) : Prop :=
  W.cell? ⟨b, off, none⟩ = some (.string x.s) ∧ W.cell? ⟨b, off + 1, none⟩ = some (.int .i64 x.b) ∧ W.cell? ⟨b, off + 2, none⟩ = some (.bool x.h) ∧ W.cell? ⟨b, off + 3, none⟩ = some (.int .u64 x.i)
theorem GlAt.next (W W' : World) (b off : Nat) (x : Gl) (hb : b < W.heap.size) (h : Below W.heap.size W W') (hx : GlAt W b off x) : GlAt W' b off x := by
  obtain ⟨h0, h1, h2, h3⟩ := hx
  exact ⟨(cellNext hb h _).trans h0, (cellNext hb h _).trans h1, (cellNext hb h _).trans h2, (cellNext hb h _).trans h3⟩
/-- a row of globals -/
def Globs : World → Value → List Gl → Prop := RowOf 4 GlAt
theorem Globs.next {W W' : World} {v : Value} {l : List Gl} (h : Globs W v l) (hb : Below W.heap.size W W') : Globs W' v l := RowOf.next GlAt.next h hb
/-- may a function or a global have that name? -/
def nameB (s : ByteArray) : Bool := decide (1 ≤ (s.size : Int)) && decide ((s.size : Int) ≤ 16)
/-- has an instruction of that operation a name? -/
def hasB (o : Int) : Bool := o == 12 || o == 13 || o == 14
/-- what an instruction uses -/
def usesL (op a b : Int) (args : List Int) : List Int :=
  if 2 ≤ op ∧ op ≤ 11 then [a, b] else if op = 13 ∨ op = 16 then [a] else if op = 14 then args else []
def usesI (i : In) : List Int := usesL i.o i.a i.b i.l
/-- does it use A, and B? -/
def aB (o : Int) : Bool := (decide (2 ≤ o) && decide (o ≤ 11)) || o == 13 || o == 16
def bB (o : Int) : Bool := decide (2 ≤ o) && decide (o ≤ 11)
/-- is an instruction right among n values? -/
def instB (n : Int) (i : In) : Bool :=
  decide (1 ≤ i.o) && decide (i.o ≤ 16) && decide (i.l.length ≤ 6) && amongB n (usesI i) && (aB i.o || i.a == 0) && (bB i.o || i.b == 0) && (i.o == 1 || i.k == 0) && (i.o == 14 || decide (i.l = [])) &&
    (if hasB i.o then nameB i.s else i.s == ByteArray.empty)
/-- its instructions, the first one among n values -/
def instsB : Int → List In → Bool
  | _, [] => true
  | n, i :: l => instB n i && instsB (n + 1) l
/-- may a block go to one of these, with so many values, with these? -/
def goesB (all : List Bk) (n : Int) (tt : Int) (l : List Int) : Bool :=
  decide (0 ≤ tt) && decide (tt < all.length) && (match all[tt.toNat]? with | some b => (l.length : Int) == b.p | none => false) && amongB n l
/-- is a block's end right? -/
def endB (all : List Bk) (n : Int) (t : Tm) : Bool :=
  if t.k = 1 then goesB all n t.t t.l && t.a == 0 && t.e == 0 && decide (t.m = [])
  else if t.k = 2 then amongB n [t.a] && goesB all n t.t t.l && goesB all n t.e t.m
  else if t.k = 3 then amongB n [t.a] && t.t == 0 && decide (t.l = []) && t.e == 0 && decide (t.m = [])
  else false
def blockB (all : List Bk) (b : Bk) : Bool :=
  decide (0 ≤ b.p) && decide (b.p ≤ 6) && decide (b.i.length ≤ 32) && endB all (b.p + b.i.length) b.e && instsB b.p b.i
/-- is a function right? -/
def funcB (f : Fn) : Bool :=
  nameB f.s && (decide (1 ≤ f.b) && decide (f.b ≤ 3)) && (decide (0 ≤ f.p) && decide (f.p ≤ 6)) && decide (f.l.length ≤ 16) &&
    (match f.l with | [] => !(f.b == 1) | b :: _ => b.p == f.p && f.l.all (blockB f.l))
/-- what stands in an instruction that its operation asks for -/
def askedI (i : In) : In :=
  ⟨i.o, if aB i.o then i.a else 0, if bB i.o then i.b else 0, if i.o = 1 then i.k else 0, if hasB i.o then i.s else .empty, if i.o = 14 then i.l else []⟩
def sameI (x y : In) : Bool := x.o == y.o && x.a == y.a && x.b == y.b && x.k == y.k && x.s == y.s && decide (x.l = y.l)
end Go.Proofs.Ytjldddpchiaalaa
namespace Go.Proofs.Ytjldddpchiaalaa
open Go.RowKit
theorem alloc3 (w : World) (X B A : Obj) : (((w.alloc X).alloc B).alloc A).heap[w.heap.size + 2]? = some A ∧ (((w.alloc X).alloc B).alloc A).heap[w.heap.size + 1]? = some B := by
  have e := heap_alloc_new ((w.alloc X).alloc B) A
  have f := heap_alloc_new (w.alloc X) B
  rw [World.size_alloc, World.size_alloc] at e
  rw [World.size_alloc] at f
  exact ⟨e, by rw [Lib.alloc_old _ _ _ (by simp)]; exact f⟩
theorem own3 (w : World) (X B : Obj) (a : Int) : OwnsI (((w.alloc X).alloc B).alloc (.cells #[.int .i64 a] 3)) w.heap.size (.slice (some ⟨w.heap.size + 2, 0, none⟩) 1 1) [a] :=
  ⟨rfl, .inr ⟨w.heap.size + 2, 1, _, rfl, by omega, (alloc3 _ _ _ _).1, Nat.le_refl _, by unfold maxLen; omega, rfl, rfl⟩⟩
theorem own2 (w : World) (X : Obj) (a : Int) : OwnsI ((w.alloc X).alloc (.cells #[.int .i64 a] 3)) w.heap.size (.slice (some ⟨w.heap.size + 1, 0, none⟩) 1 1) [a] :=
  ⟨rfl, .inr ⟨w.heap.size + 1, 1, _, rfl, by omega, by have f := heap_alloc_new (w.alloc X) (.cells #[.int .i64 a] 3); rw [World.size_alloc] at f; exact f, Nat.le_refl _, by unfold maxLen; omega, rfl, rfl⟩⟩
theorem ints3 (w : World) (X A : Obj) (b : Int) : Ints (((w.alloc X).alloc (.cells #[.int .i64 b] 3)).alloc A) (.slice (some ⟨w.heap.size + 1, 0, none⟩) 1 1) [b] :=
  .inr ⟨by simp, w.heap.size + 1, 0, 1, rfl, by simp, fun i hi => by
    have h : i = 0 := by simpa using hi
    subst h
    rw [Lib.cell_of_heap (alloc3 _ _ _ _).2]
    rfl⟩
theorem owns_down {W : World} {b b2 : Nat} {v : Value} {l : List Int} (h : OwnsI W b v l) (hb : b2 ≤ b) : OwnsI W b2 v l := by
  obtain ⟨h1, h2 | ⟨g, cap, cur, hv, hge, r⟩⟩ := h
  · exact ⟨h1, .inl h2⟩
  · exact ⟨h1, .inr ⟨g, cap, cur, hv, by omega, r⟩⟩
set_option maxRecDepth 100000 in
set_option maxHeartbeats 1000000 in
theorem uses_2 (a b k : Int) (s : ByteArray) (v : Value) (w : World) :
    Calls Try.prog 90 #[.agg #[.int .i64 2, .int .i64 a, .int .i64 b, .int .u64 k, .string s, v]] w (NewInts [a, b] w) := by
  go_enter Try.func90, Try.ntmps90
  go_wp2_with ((
    at_builtin
    refine wpList_append_ints rfl _ _ rfl w.heap.size _ [a] [b] rfl ?own _ rfl ?ints ?len ?base ?_
    case own => exact own3 _ _ _ _
    case ints => exact ints3 _ _ _ _
    case len => show (1 + 1) * 8 ≤ 140737488355328; omega
    case base => simp only [World.size_alloc]; omega
    intro v' w1 hown hgrow))
  have HO := Lib.hid hown
  have HB := Lib.hid ((balloc (balloc (balloc (Below.refl _ w) _) _) _).grown hgrow (by simp only [World.size_alloc]; omega) (fun k hk => by cases hk; show w.heap.size ≤ w.heap.size + 1 + 1; omega))
  clear hown hgrow
  go_wp2_with fail
  go_ret
  exact ⟨_, rfl, HO.out, HB.out⟩
set_option maxRecDepth 100000 in
set_option maxHeartbeats 1000000 in
theorem uses_3 (a b k : Int) (s : ByteArray) (v : Value) (w : World) :
    Calls Try.prog 90 #[.agg #[.int .i64 3, .int .i64 a, .int .i64 b, .int .u64 k, .string s, v]] w (NewInts [a, b] w) := by
  go_enter Try.func90, Try.ntmps90
  go_wp2_with ((
    at_builtin
    refine wpList_append_ints rfl _ _ rfl w.heap.size _ [a] [b] rfl ?own _ rfl ?ints ?len ?base ?_
    case own => exact own3 _ _ _ _
    case ints => exact ints3 _ _ _ _
    case len => show (1 + 1) * 8 ≤ 140737488355328; omega
    case base => simp only [World.size_alloc]; omega
    intro v' w1 hown hgrow))
  have HO := Lib.hid hown
  have HB := Lib.hid ((balloc (balloc (balloc (Below.refl _ w) _) _) _).grown hgrow (by simp only [World.size_alloc]; omega) (fun k hk => by cases hk; show w.heap.size ≤ w.heap.size + 1 + 1; omega))
  clear hown hgrow
  go_wp2_with fail
  go_ret
  exact ⟨_, rfl, HO.out, HB.out⟩
set_option maxRecDepth 100000 in
set_option maxHeartbeats 1000000 in
theorem uses_4 (a b k : Int) (s : ByteArray) (v : Value) (w : World) :
    Calls Try.prog 90 #[.agg #[.int .i64 4, .int .i64 a, .int .i64 b, .int .u64 k, .string s, v]] w (NewInts [a, b] w) := by
  go_enter Try.func90, Try.ntmps90
  go_wp2_with ((
    at_builtin
    refine wpList_append_ints rfl _ _ rfl w.heap.size _ [a] [b] rfl ?own _ rfl ?ints ?len ?base ?_
    case own => exact own3 _ _ _ _
    case ints => exact ints3 _ _ _ _
    case len => show (1 + 1) * 8 ≤ 140737488355328; omega
    case base => simp only [World.size_alloc]; omega
    intro v' w1 hown hgrow))
  have HO := Lib.hid hown
  have HB := Lib.hid ((balloc (balloc (balloc (Below.refl _ w) _) _) _).grown hgrow (by simp only [World.size_alloc]; omega) (fun k hk => by cases hk; show w.heap.size ≤ w.heap.size + 1 + 1; omega))
  clear hown hgrow
  go_wp2_with fail
  go_ret
  exact ⟨_, rfl, HO.out, HB.out⟩
set_option maxRecDepth 100000 in
set_option maxHeartbeats 1000000 in
theorem uses_5 (a b k : Int) (s : ByteArray) (v : Value) (w : World) :
    Calls Try.prog 90 #[.agg #[.int .i64 5, .int .i64 a, .int .i64 b, .int .u64 k, .string s, v]] w (NewInts [a, b] w) := by
  go_enter Try.func90, Try.ntmps90
  go_wp2_with ((
    at_builtin
    refine wpList_append_ints rfl _ _ rfl w.heap.size _ [a] [b] rfl ?own _ rfl ?ints ?len ?base ?_
    case own => exact own3 _ _ _ _
    case ints => exact ints3 _ _ _ _
    case len => show (1 + 1) * 8 ≤ 140737488355328; omega
    case base => simp only [World.size_alloc]; omega
    intro v' w1 hown hgrow))
  have HO := Lib.hid hown
  have HB := Lib.hid ((balloc (balloc (balloc (Below.refl _ w) _) _) _).grown hgrow (by simp only [World.size_alloc]; omega) (fun k hk => by cases hk; show w.heap.size ≤ w.heap.size + 1 + 1; omega))
  clear hown hgrow
  go_wp2_with fail
  go_ret
  exact ⟨_, rfl, HO.out, HB.out⟩
set_option maxRecDepth 100000 in
set_option maxHeartbeats 1000000 in
theorem uses_6 (a b k : Int) (s : ByteArray) (v : Value) (w : World) :
    Calls Try.prog 90 #[.agg #[.int .i64 6, .int .i64 a, .int .i64 b, .int .u64 k, .string s, v]] w (NewInts [a, b] w) := by
  go_enter Try.func90, Try.ntmps90
  go_wp2_with ((
    at_builtin
    refine wpList_append_ints rfl _ _ rfl w.heap.size _ [a] [b] rfl ?own _ rfl ?ints ?len ?base ?_
    case own => exact own3 _ _ _ _
    case ints => exact ints3 _ _ _ _
    case len => show (1 + 1) * 8 ≤ 140737488355328; omega
    case base => simp only [World.size_alloc]; omega
    intro v' w1 hown hgrow))
  have HO := Lib.hid hown
  have HB := Lib.hid ((balloc (balloc (balloc (Below.refl _ w) _) _) _).grown hgrow (by simp only [World.size_alloc]; omega) (fun k hk => by cases hk; show w.heap.size ≤ w.heap.size + 1 + 1; omega))
  clear hown hgrow
  go_wp2_with fail
  go_ret
  exact ⟨_, rfl, HO.out, HB.out⟩
set_option maxRecDepth 100000 in
set_option maxHeartbeats 1000000 in
theorem uses_7 (a b k : Int) (s : ByteArray) (v : Value) (w : World) :
    Calls Try.prog 90 #[.agg #[.int .i64 7, .int .i64 a, .int .i64 b, .int .u64 k, .string s, v]] w (NewInts [a, b] w) := by
  go_enter Try.func90, Try.ntmps90
  go_wp2_with ((
    at_builtin
    refine wpList_append_ints rfl _ _ rfl w.heap.size _ [a] [b] rfl ?own _ rfl ?ints ?len ?base ?_
    case own => exact own3 _ _ _ _
    case ints => exact ints3 _ _ _ _
    case len => show (1 + 1) * 8 ≤ 140737488355328; omega
    case base => simp only [World.size_alloc]; omega
    intro v' w1 hown hgrow))
  have HO := Lib.hid hown
  have HB := Lib.hid ((balloc (balloc (balloc (Below.refl _ w) _) _) _).grown hgrow (by simp only [World.size_alloc]; omega) (fun k hk => by cases hk; show w.heap.size ≤ w.heap.size + 1 + 1; omega))
  clear hown hgrow
  go_wp2_with fail
  go_ret
  exact ⟨_, rfl, HO.out, HB.out⟩
set_option maxRecDepth 100000 in
set_option maxHeartbeats 1000000 in
theorem uses_8 (a b k : Int) (s : ByteArray) (v : Value) (w : World) :
    Calls Try.prog 90 #[.agg #[.int .i64 8, .int .i64 a, .int .i64 b, .int .u64 k, .string s, v]] w (NewInts [a, b] w) := by
  go_enter Try.func90, Try.ntmps90
  go_wp2_with ((
    at_builtin
    refine wpList_append_ints rfl _ _ rfl w.heap.size _ [a] [b] rfl ?own _ rfl ?ints ?len ?base ?_
    case own => exact own3 _ _ _ _
    case ints => exact ints3 _ _ _ _
    case len => show (1 + 1) * 8 ≤ 140737488355328; omega
    case base => simp only [World.size_alloc]; omega
    intro v' w1 hown hgrow))
  have HO := Lib.hid hown
  have HB := Lib.hid ((balloc (balloc (balloc (Below.refl _ w) _) _) _).grown hgrow (by simp only [World.size_alloc]; omega) (fun k hk => by cases hk; show w.heap.size ≤ w.heap.size + 1 + 1; omega))
  clear hown hgrow
  go_wp2_with fail
  go_ret
  exact ⟨_, rfl, HO.out, HB.out⟩
set_option maxRecDepth 100000 in
set_option maxHeartbeats 1000000 in
theorem uses_9 (a b k : Int) (s : ByteArray) (v : Value) (w : World) :
    Calls Try.prog 90 #[.agg #[.int .i64 9, .int .i64 a, .int .i64 b, .int .u64 k, .string s, v]] w (NewInts [a, b] w) := by
  go_enter Try.func90, Try.ntmps90
  go_wp2_with ((
    at_builtin
    refine wpList_append_ints rfl _ _ rfl w.heap.size _ [a] [b] rfl ?own _ rfl ?ints ?len ?base ?_
    case own => exact own3 _ _ _ _
    case ints => exact ints3 _ _ _ _
    case len => show (1 + 1) * 8 ≤ 140737488355328; omega
    case base => simp only [World.size_alloc]; omega
    intro v' w1 hown hgrow))
  have HO := Lib.hid hown
  have HB := Lib.hid ((balloc (balloc (balloc (Below.refl _ w) _) _) _).grown hgrow (by simp only [World.size_alloc]; omega) (fun k hk => by cases hk; show w.heap.size ≤ w.heap.size + 1 + 1; omega))
  clear hown hgrow
  go_wp2_with fail
  go_ret
  exact ⟨_, rfl, HO.out, HB.out⟩
set_option maxRecDepth 100000 in
set_option maxHeartbeats 1000000 in
theorem uses_10 (a b k : Int) (s : ByteArray) (v : Value) (w : World) :
    Calls Try.prog 90 #[.agg #[.int .i64 10, .int .i64 a, .int .i64 b, .int .u64 k, .string s, v]] w (NewInts [a, b] w) := by
  go_enter Try.func90, Try.ntmps90
  go_wp2_with ((
    at_builtin
    refine wpList_append_ints rfl _ _ rfl w.heap.size _ [a] [b] rfl ?own _ rfl ?ints ?len ?base ?_
    case own => exact own3 _ _ _ _
    case ints => exact ints3 _ _ _ _
    case len => show (1 + 1) * 8 ≤ 140737488355328; omega
    case base => simp only [World.size_alloc]; omega
    intro v' w1 hown hgrow))
  have HO := Lib.hid hown
  have HB := Lib.hid ((balloc (balloc (balloc (Below.refl _ w) _) _) _).grown hgrow (by simp only [World.size_alloc]; omega) (fun k hk => by cases hk; show w.heap.size ≤ w.heap.size + 1 + 1; omega))
  clear hown hgrow
  go_wp2_with fail
  go_ret
  exact ⟨_, rfl, HO.out, HB.out⟩
set_option maxRecDepth 100000 in
set_option maxHeartbeats 1000000 in
theorem uses_11 (a b k : Int) (s : ByteArray) (v : Value) (w : World) :
    Calls Try.prog 90 #[.agg #[.int .i64 11, .int .i64 a, .int .i64 b, .int .u64 k, .string s, v]] w (NewInts [a, b] w) := by
  go_enter Try.func90, Try.ntmps90
  go_wp2_with ((
    at_builtin
    refine wpList_append_ints rfl _ _ rfl w.heap.size _ [a] [b] rfl ?own _ rfl ?ints ?len ?base ?_
    case own => exact own3 _ _ _ _
    case ints => exact ints3 _ _ _ _
    case len => show (1 + 1) * 8 ≤ 140737488355328; omega
    case base => simp only [World.size_alloc]; omega
    intro v' w1 hown hgrow))
  have HO := Lib.hid hown
  have HB := Lib.hid ((balloc (balloc (balloc (Below.refl _ w) _) _) _).grown hgrow (by simp only [World.size_alloc]; omega) (fun k hk => by cases hk; show w.heap.size ≤ w.heap.size + 1 + 1; omega))
  clear hown hgrow
  go_wp2_with fail
  go_ret
  exact ⟨_, rfl, HO.out, HB.out⟩
set_option maxRecDepth 100000 in
set_option maxHeartbeats 1000000 in
theorem uses_13 (a b k : Int) (s : ByteArray) (v : Value) (w : World) :
    Calls Try.prog 90 #[.agg #[.int .i64 13, .int .i64 a, .int .i64 b, .int .u64 k, .string s, v]] w (NewInts [a] w) := by
  go_enter Try.func90, Try.ntmps90
  go_wp2_with fail
  go_ret
  exact ⟨_, rfl, own2 _ _ _, balloc (balloc (Below.refl _ w) _) _⟩
set_option maxRecDepth 100000 in
set_option maxHeartbeats 1000000 in
theorem uses_16 (a b k : Int) (s : ByteArray) (v : Value) (w : World) :
    Calls Try.prog 90 #[.agg #[.int .i64 16, .int .i64 a, .int .i64 b, .int .u64 k, .string s, v]] w (NewInts [a] w) := by
  go_enter Try.func90, Try.ntmps90
  go_wp2_with fail
  go_ret
  exact ⟨_, rfl, own2 _ _ _, balloc (balloc (Below.refl _ w) _) _⟩
set_option maxRecDepth 100000 in
set_option maxHeartbeats 1000000 in
theorem uses_14 (a b k : Int) (s : ByteArray) (v : Value) (l : List Int) (w : World) (hP : Ints w v l) (hn : l.length * 8 ≤ 140737488355328) :
    Calls Try.prog 90 #[.agg #[.int .i64 14, .int .i64 a, .int .i64 b, .int .u64 k, .string s, v]] w (NewInts l w) := by
  have HP := Lib.hid (fun (W : World) (hb : Below w.heap.size w W) => iclone_any (hP.next hb) hn)
  clear hP hn
  go_enter Try.func90, Try.ntmps90
  go_wp2_with fail
  refine (HP.out _ (balloc (Below.refl _ w) _)).mono ?_
  rintro e w2 ⟨v', rfl, ho, hb⟩
  have HO := Lib.hid (show OwnsI w2 w.heap.size v' l from owns_down ho (by simp))
  have HB := Lib.hid (bthen (balloc (Below.refl _ w) _) hb)
  clear ho hb
  go_wp2_with fail
  go_ret
  exact ⟨_, rfl, HO.out, HB.out⟩
end Go.Proofs.Ytjldddpchiaalaa
namespace Go.Proofs.Ytjldddpchiaalaa
open Go.RowKit
theorem drewN_below' (w : World) (n : Nat) : Below w.heap.size w (w.drewN n) := ⟨rfl, rfl, rfl, Nat.le_refl _, fun _ _ => rfl⟩
theorem jba_beq (x y : ByteArray) : (x == y) = true ↔ x = y := by
  rw [beq_toListBytes, beq_iff_eq, ByteArray.toList_eq, ByteArray.toList_eq]
  constructor
  · intro h
    obtain ⟨x⟩ := x
    obtain ⟨y⟩ := y
    congr 1
    exact Array.toList_inj.1 h
  · rintro rfl; rfl
theorem jba_refl (x : ByteArray) : (x == x) = true := (jba_beq x x).2 rfl
theorem usesL_nil {o a b : Int} {l : List Int} (h : ¬ (2 ≤ o ∧ o ≤ 11)) (h1 : o ≠ 13) (h2 : o ≠ 16) (h3 : o ≠ 14) : usesL o a b l = [] := by
  unfold usesL
  rw [if_neg h, if_neg (by omega), if_neg h3]
theorem uses_len (i : In) (h : i.l.length ≤ 6) : (usesI i).length ≤ 6 := by
  unfold usesI usesL
  split
  · simp
  · split
    · simp
    · split
      · exact h
      · simp
/-- right in all that its operation doesn't ask for -/
theorem same_asked (i : In) : sameI i (askedI i) = ((aB i.o || i.a == 0) && (bB i.o || i.b == 0) && (i.o == 1 || i.k == 0) && (i.o == 14 || decide (i.l = [])) && (hasB i.o || i.s == ByteArray.empty)) := by
  obtain ⟨o, a, b, k, s, l⟩ := i
  unfold sameI askedI
  simp only
  rw [show (o == o) = true from by simp]
  have ka : (a == if aB o = true then a else 0) = (aB o || a == 0) := by cases aB o <;> simp
  have kb : (b == if bB o = true then b else 0) = (bB o || b == 0) := by cases bB o <;> simp
  have kk : (k == if o = 1 then k else 0) = (o == 1 || k == 0) := by by_cases h : o = 1 <;> simp [h]
  have ks : (s == if hasB o = true then s else ByteArray.empty) = (hasB o || s == ByteArray.empty) := by cases hasB o <;> simp [jba_refl]
  have kl : decide (l = if o = 14 then l else []) = (o == 14 || decide (l = [])) := by by_cases h : o = 14 <;> simp [h]
  rw [ka, kb, kk, ks, kl]
  cases aB o || a == 0 <;> cases bB o || b == 0 <;> cases o == 1 || k == 0 <;> cases hasB o || s == ByteArray.empty <;> cases o == 14 || decide (l = []) <;> rfl
theorem inst_chain (n : Int) (i : In) : instB n i = (decide (1 ≤ i.o) && decide (i.o ≤ 16) && decide (i.l.length ≤ 6) && amongB n (usesI i) && (nameB i.s || !hasB i.o) && sameI i (askedI i)) := by
  rw [same_asked]
  unfold instB
  cases decide (1 ≤ i.o) && decide (i.o ≤ 16) && decide (i.l.length ≤ 6) && amongB n (usesI i) <;> cases hasB i.o <;> cases nameB i.s <;> cases aB i.o || i.a == 0 <;> cases bB i.o || i.b == 0 <;> cases i.o == 1 || i.k == 0 <;> cases i.o == 14 || decide (i.l = []) <;> cases i.s == ByteArray.empty <;> rfl
/-- an instruction as a value -/
def inV (i : In) (v : Value) : Value := .agg #[.int .i64 i.o, .int .i64 i.a, .int .i64 i.b, .int .u64 i.k, .string i.s, v]
set_option maxRecDepth 100000 in
set_option maxHeartbeats 1000000 in
theorem uses_nil (o a b k : Int) (s : ByteArray) (v : Value) (w : World) (h : ¬ (2 ≤ o ∧ o ≤ 11)) (h1 : o ≠ 13) (h2 : o ≠ 16) (h3 : o ≠ 14) :
    Calls Try.prog 90 #[.agg #[.int .i64 o, .int .i64 a, .int .i64 b, .int .u64 k, .string s, v]] w (NewInts [] w) := by
  have t2 : (o == 2) = false := by simp; omega
  have t3 : (o == 3) = false := by simp; omega
  have t4 : (o == 4) = false := by simp; omega
  have t5 : (o == 5) = false := by simp; omega
  have t6 : (o == 6) = false := by simp; omega
  have t7 : (o == 7) = false := by simp; omega
  have t8 : (o == 8) = false := by simp; omega
  have t9 : (o == 9) = false := by simp; omega
  have t10 : (o == 10) = false := by simp; omega
  have t11 : (o == 11) = false := by simp; omega
  have t13 : (o == 13) = false := by simpa using h1
  have t16 : (o == 16) = false := by simpa using h2
  have t14 : (o == 14) = false := by simpa using h3
  clear h h1 h2 h3
  go_enter Try.func90, Try.ntmps90
  go_wp2_with fail
  go_ret
  exact ⟨_, rfl, ⟨rfl, .inl ⟨rfl, rfl⟩⟩, balloc (Below.refl _ w) _⟩
/-- ir.Uses, of every instruction -/
theorem uses_any (i : In) (v : Value) (w : World) (hP : Ints w v i.l) (hn : i.l.length * 8 ≤ 140737488355328) :
    Calls Try.prog 90 #[inV i v] w (NewInts (usesI i) w) := by
  obtain ⟨o, a, b, k, s, l⟩ := i
  unfold inV usesI
  simp only at hP hn ⊢
  by_cases h : 2 ≤ o ∧ o ≤ 11
  · have e : usesL o a b l = [a, b] := by unfold usesL; rw [if_pos h]
    rw [e]
    obtain ⟨h1, h2⟩ := h
    have hc : o = 2 ∨ o = 3 ∨ o = 4 ∨ o = 5 ∨ o = 6 ∨ o = 7 ∨ o = 8 ∨ o = 9 ∨ o = 10 ∨ o = 11 := by omega
    rcases hc with rfl | rfl | rfl | rfl | rfl | rfl | rfl | rfl | rfl | rfl
    · exact uses_2 a b k s v w
    · exact uses_3 a b k s v w
    · exact uses_4 a b k s v w
    · exact uses_5 a b k s v w
    · exact uses_6 a b k s v w
    · exact uses_7 a b k s v w
    · exact uses_8 a b k s v w
    · exact uses_9 a b k s v w
    · exact uses_10 a b k s v w
    · exact uses_11 a b k s v w
  · by_cases h13 : o = 13
    · subst h13
      exact uses_13 a b k s v w
    · by_cases h16 : o = 16
      · subst h16
        exact uses_16 a b k s v w
      · by_cases h14 : o = 14
        · subst h14
          exact uses_14 a b k s v l w hP hn
        · rw [usesL_nil h h13 h16 h14]
          exact uses_nil o a b k s v w h h13 h16 h14
end Go.Proofs.Ytjldddpchiaalaa
