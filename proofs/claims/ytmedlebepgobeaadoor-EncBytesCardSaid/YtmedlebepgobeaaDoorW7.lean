/- Slices of instructions: what they hold, Bytes of package enc at each of them, Same of the document's answer. -/
import Derived.Test.YtmedlebepgobeaaDoorW6
import Derived.Laws.AppendOwnNone
import Derived.Laws.StructEq
namespace Go.Proofs.YtmedlebepgobeaaDoor
open Go.RowKit

/-- a slice of n instructions -/
def Ops (W : World) (v : Value) (n : Nat) (f : Nat → Nat → Int) : Prop :=
  (n = 0 ∧ (v = .slice none 0 0 ∨ ∃ a cap, v = .slice (some a) 0 cap)) ∨ (0 < n ∧ ∃ b off cap, v = .slice (some ⟨b, off, none⟩) n cap ∧ OpsIn W b off n f)
theorem Ops.next {W W' : World} {v : Value} {n : Nat} {f : Nat → Nat → Int} (h : Ops W v n f) (hb : Below W.heap.size W W') : Ops W' v n f := by
  rcases h with h | ⟨h1, b, off, cap, rfl, h2⟩
  · exact .inl h
  · exact .inr ⟨h1, b, off, cap, rfl, h2.next hb⟩
theorem Ops.slice {W : World} {v : Value} {n : Nat} {f : Nat → Nat → Int} (h : Ops W v n f) : ∃ A cap, v = .slice A n cap := by
  rcases h with ⟨rfl, rfl | ⟨a, cap, rfl⟩⟩ | ⟨_, b, off, cap, rfl, _⟩
  · exact ⟨_, _, rfl⟩
  · exact ⟨_, _, rfl⟩
  · exact ⟨_, _, rfl⟩
def five (f : Nat → Nat → Int) (i : Nat) : List Value := [.int .i64 (f i 0), .int .i64 (f i 1), .int .i64 (f i 2), .int .i64 (f i 3), .int .i64 (f i 4)]
def cellsOf (f : Nat → Nat → Int) (n : Nat) : List Value := (List.range n).flatMap (five f)
theorem cellsOf_succ (f : Nat → Nat → Int) (n : Nat) : cellsOf f (n + 1) = cellsOf f n ++ five f n := by simp [cellsOf, List.range_succ]
theorem cellsOf_length (f : Nat → Nat → Int) (n : Nat) : (cellsOf f n).length = n * 5 := by
  induction n with
  | zero => rfl
  | succ n ih => rw [cellsOf_succ, List.length_append, ih]; simp [five]; omega
theorem five_at (f : Nat → Nat → Int) (i j : Nat) (hj : j < 5) : (five f i)[j]? = some (.int .i64 (f i j)) := by
  rcases (by omega : j = 0 ∨ j = 1 ∨ j = 2 ∨ j = 3 ∨ j = 4) with rfl | rfl | rfl | rfl | rfl <;> rfl
theorem cellsOf_at (f : Nat → Nat → Int) (n i j : Nat) (hi : i < n) (hj : j < 5) : (cellsOf f n)[i * 5 + j]? = some (.int .i64 (f i j)) := by
  induction n with
  | zero => omega
  | succ n ih =>
    rw [cellsOf_succ]
    by_cases h : i < n
    · rw [List.getElem?_append_left (by rw [cellsOf_length]; omega)]; exact ih h
    · obtain rfl : i = n := by omega
      rw [List.getElem?_append_right (by rw [cellsOf_length]; omega), cellsOf_length, show i * 5 + j - i * 5 = j by omega]
      exact five_at f i j hj
theorem cellsOf_ints (f : Nat → Nat → Int) (n : Nat) : ∀ u ∈ cellsOf f n, u.oneCell' = true := by
  intro u hu
  simp only [cellsOf, List.mem_flatMap] at hu
  obtain ⟨i, _, hi⟩ := hu
  simp only [five, List.mem_cons, List.not_mem_nil, or_false] at hi
  rcases hi with rfl | rfl | rfl | rfl | rfl <;> rfl
theorem cellsOf_which (f : Nat → Nat → Int) (n k : Nat) (u : Value) (h : (cellsOf f n)[k]? = some u) : k / 5 < n ∧ u = .int .i64 (f (k / 5) (k % 5)) := by
  have hk : k < n * 5 := by
    have := (List.getElem?_eq_some_iff.1 h).1
    rwa [cellsOf_length] at this
  have h1 := cellsOf_at f n (k / 5) (k % 5) (by omega) (by omega)
  rw [show k / 5 * 5 + k % 5 = k by omega, h] at h1
  exact ⟨by omega, Option.some.inj h1⟩
theorem Ops.of_own {W : World} {base : Nat} {v : Value} {n : Nat} {f : Nat → Nat → Int} (h : W.ownsRow base 23 5 v n (cellsOf f n)) : Ops W v n f := by
  by_cases hn : 0 < n
  · obtain ⟨g, cap, rfl, _, hg⟩ := h.form hn
    refine .inr ⟨hn, g, 0, cap, rfl, hg, fun i hi j hj => ?_⟩
    rw [Nat.zero_add, h.cellAt (i * 5 + j) (by omega)]
    exact cellsOf_at f n i j hi hj
  · obtain rfl : n = 0 := by omega
    refine .inl ⟨rfl, ?_⟩
    obtain ⟨_, ⟨rfl, _⟩ | ⟨g, cap, cur, rfl, _⟩⟩ := h
    · exact .inl rfl
    · exact .inr ⟨_, _, rfl⟩

theorem add_plain (b off j : Nat) : (⟨b, off, none⟩ : Addr).add j = ⟨b, off + j, none⟩ := by unfold Addr.add; split <;> simp_all
/-- append of a slice of instructions to one of the call's own -/
theorem wpList_append_ops {w : World} {ops : Array Oper} {rest : List Oper} {o : Oper} {a : Act} {Q : Exit → Act → World → Prop} (hgd : o.guard = none) (s x : Operand)
    (ho : o.op = .call { callee := .builtin .append, args := #[s, x], argTypes := #[37, 37] }) (base : Nat) (v : Value) (n : Nat) (xs : List Value) (hs : a.eval s = v) (hown : w.ownsRow base 23 5 v n xs)
    (u : Value) (m : Nat) (f : Nat → Nat → Int) (hx : a.eval x = u) (hO : Ops w u m f) (hn : n ≤ 1000) (hm : m ≤ 1000) (hbase : base ≤ w.heap.size)
    (h : ∀ v' w', w'.ownsRow base 23 5 v' (n + m) (xs ++ cellsOf f m) → w.grownBy w' v.ownBlock → wpList Tryd.prog ops Q rest (a.put o.dst v') w') : wpList Tryd.prog ops Q (o :: rest) a w := by
  obtain ⟨i0, hi, hz0, hz1, hz2⟩ := info_parts Tryd.info23
  rcases hO with ⟨rfl, rfl | ⟨A, cap, rfl⟩⟩ | ⟨hm0, b, off, cap, rfl, _, hc⟩
  · exact wpList_append_own_none hgd s x 37 ho base 23 i0 5 Tryd.underlying37 hi v n xs hs hown hx (h v w (by simpa [cellsOf] using hown) ⟨rfl, rfl, rfl, Nat.le_refl _, fun _ _ _ => rfl⟩)
  · refine wpList_append_own w hgd s x 37 ho base 23 i0 (.agg #[.int .i64 0, .int .i64 0, .int .i64 0, .int .i64 0, .int .i64 0]) 5 40 Tryd.underlying37 hi hz0 hz1 hz2 rfl (by decide) v n xs hs hown A 0 cap [] hx rfl (fun j u hj => by simp at hj) (fun u hu => by cases hu) (by unfold maxLen; omega) (by omega) hbase (fun v' w' h1 h2 _ => h v' w' h1 h2)
  · refine wpList_append_own w hgd s x 37 ho base 23 i0 (.agg #[.int .i64 0, .int .i64 0, .int .i64 0, .int .i64 0, .int .i64 0]) 5 40 Tryd.underlying37 hi hz0 hz1 hz2 rfl (by decide) v n xs hs hown ⟨b, off, none⟩ m cap (cellsOf f m) hx (by rw [cellsOf_length]) (fun j u hj => ?_) (cellsOf_ints f m) (by unfold maxLen; omega) (by omega) hbase (fun v' w' h1 h2 _ => h v' w' h1 h2)
    obtain ⟨h1, rfl⟩ := cellsOf_which f m j u hj
    rw [add_plain, show off + j = off + j / 5 * 5 + j % 5 by omega]
    exact hc _ h1 _ (by omega)

set_option maxRecDepth 100000 in
set_option maxHeartbeats 4000000 in
theorem bytes_none (A : Option Addr) (cap : Nat) (f : Nat → Nat → Int) (w : World) : Calls Tryd.prog 19 #[.slice A 0 cap] w (BytesPost f 0 w) := by
  obtain ⟨i0, hi, hz0, hz1, hz2⟩ := info_parts Tryd.info5
  go_enter Tryd.func19, Tryd.ntmps19
  go_wp2_with (at_make; refine wpList_make_own _ rfl _ _ 70 rfl w.heap.size 5 i0 (.int .u8 0) 1 Tryd.underlying70 hi hz0 hz1 .i64 .i64 _ 0 rfl rfl (by first | rfl | omega) (by rw [hz2]; omega) (by unfold maxLen; omega) (Nat.le_refl _) ?_; intro w0 hown0 hgrow0)
  go_loopw [4, 15] (fun out i wr => BytesRel f 0 w out i wr) (fun _ i _ => 0 - (intOf i).toNat)
  case atStart => exact ⟨0, 0, rfl, Nat.zero_le _, rfl, fun j h => by omega, hown0, (Below.refl _ _).grown hgrow0 (Nat.le_refl _) (fun k hk => by cases hk)⟩
  case round =>
    obtain ⟨k, m, hmk, hk, rfl, hg, hown, hb⟩ := hrel
    obtain rfl : k = 0 := by omega
    have HMK := Lib.hid hmk
    have HW := Lib.hid hown
    have HB := Lib.hid hb
    clear hmk hg hown hb hown0 hgrow0
    have hcv := conv_own (W := wr) HW.out (by rw [numsTo_length]; exact HMK.out.symm)
    go_wp2_with fail
    go_ret2
    exact ⟨.inl ⟨fun j hj => by omega, rfl⟩, HB.out⟩
theorem bytes_any {v : Value} {n : Nat} {f : Nat → Nat → Int} {w : World} (hO : Ops w v n f) (n1 : n ≤ 500) (T : Tabs w) : Calls Tryd.prog 19 #[v] w (BytesPost f n w) := by
  rcases hO with ⟨rfl, rfl | ⟨a, cap, rfl⟩⟩ | ⟨_, b, off, cap, rfl, h⟩
  · exact bytes_none _ _ f w
  · exact bytes_none _ _ f w
  · exact bytes_some b off n cap f w n1 T h

set_option maxRecDepth 100000 in
set_option maxHeartbeats 4000000 in
theorem same_none (A A' : Option Addr) (cap cap' : Nat) (w : World) : Calls Tryd.prog 23 #[.slice A 0 cap, .slice A' 0 cap'] w fun e w' => e = .returned (.bool true) ∧ Below w.heap.size w w' := by
  go_enter Tryd.func23, Tryd.ntmps23
  go_wp2_with fail
  go_loopw [5] (fun i wr => i = .int .i64 0 ∧ Below w.heap.size w wr) (fun _ _ => 0)
  case atStart => exact ⟨rfl, Below.refl _ _⟩
  case round =>
    obtain ⟨rfl, hb⟩ := hrel
    have HB := Lib.hid hb
    clear hb
    go_wp2_with fail
    go_ret
    exact ⟨rfl, HB.out⟩
set_option maxRecDepth 100000 in
set_option maxHeartbeats 4000000 in
theorem same_some (b off b' off' n cap cap' : Nat) (f : Nat → Nat → Int) (w : World) (n1 : n ≤ 500) (hO : OpsIn w b off n f) (hO' : OpsIn w b' off' n f) :
    Calls Tryd.prog 23 #[.slice (some ⟨b, off, none⟩) n cap, .slice (some ⟨b', off', none⟩) n cap'] w fun e w' => e = .returned (.bool true) ∧ Below w.heap.size w w' := by
  have HO := Lib.hid hO
  have HO' := Lib.hid hO'
  clear hO hO'
  go_enter Tryd.func23, Tryd.ntmps23
  go_wp2_with fail
  go_loopw [5] (fun i wr => ∃ k : Nat, k ≤ n ∧ i = .int .i64 k ∧ Below w.heap.size w wr) (fun i _ => n - (intOf i).toNat)
  case atStart => exact ⟨0, Nat.zero_le _, rfl, Below.refl _ _⟩
  case round =>
    obtain ⟨k, hk, rfl, hb⟩ := hrel
    have HB := Lib.hid hb
    have OR := Lib.hid (HO.out.next hb)
    have OR' := Lib.hid (HO'.out.next hb)
    clear hb
    by_cases hlt : k < n
    · obtain ⟨c0, c1, c2, c3, c4, hf⟩ : ∃ c0 c1 c2 c3 c4 : Int, f k 0 = c0 ∧ f k 1 = c1 ∧ f k 2 = c2 ∧ f k 3 = c3 ∧ f k 4 = c4 := ⟨_, _, _, _, _, rfl, rfl, rfl, rfl, rfl⟩
      have e0 : wr.cell? ⟨b, off + k * 5, none⟩ = some (.int .i64 (f k 0)) := OR.out.2 k hlt 0 (by omega)
      have e1 := OR.out.2 k hlt 1 (by omega)
      have e2 := OR.out.2 k hlt 2 (by omega)
      have e3 := OR.out.2 k hlt 3 (by omega)
      have e4 := OR.out.2 k hlt 4 (by omega)
      have g0 : wr.cell? ⟨b', off' + k * 5, none⟩ = some (.int .i64 (f k 0)) := OR'.out.2 k hlt 0 (by omega)
      have g1 := OR'.out.2 k hlt 1 (by omega)
      have g2 := OR'.out.2 k hlt 2 (by omega)
      have g3 := OR'.out.2 k hlt 3 (by omega)
      have g4 := OR'.out.2 k hlt 4 (by omega)
      rw [hf.1] at e0 g0
      rw [hf.2.1] at e1 g1
      rw [hf.2.2.1] at e2 g2
      rw [hf.2.2.2.1] at e3 g3
      rw [hf.2.2.2.2] at e4 g4
      clear hf
      have hk0 : (0 : Int) ≤ (k : Int) := Int.natCast_nonneg _
      have hk1 : (k : Int) < (n : Int) := by omega
      go_wp2_with fail
      go_quiet (fail)
      go_wp2_with fail
      go_roundw
      case rel => exact ⟨k + 1, by omega, by go_num, bthen HB.out ⟨rfl, rfl, rfl, Nat.le_refl _, fun _ _ => rfl⟩⟩
      case measure => simp [intOf]; omega
    · have hnlt : decide ((k : Int) < (n : Int)) = false := by simp; omega
      go_wp2_with fail
      go_ret
      exact ⟨rfl, HB.out⟩
theorem same_t {v v' : Value} {n : Nat} {f g : Nat → Nat → Int} {w : World} (hO : Ops w v n f) (hO' : Ops w v' n g) (hfg : ∀ i, i < n → ∀ j, j < 5 → f i j = g i j) (n1 : n ≤ 500) :
    Calls Tryd.prog 23 #[v, v'] w fun e w' => e = .returned (.bool true) ∧ Below w.heap.size w w' := by
  rcases hO with ⟨rfl, h⟩ | ⟨h0, b, off, cap, rfl, h⟩
  · rcases hO' with ⟨_, h'⟩ | ⟨h0, _⟩
    · obtain ⟨A, cap, rfl⟩ : ∃ A cap, v = .slice A 0 cap := by rcases h with rfl | ⟨a, cap, rfl⟩ <;> exact ⟨_, _, rfl⟩
      obtain ⟨A', cap', rfl⟩ : ∃ A cap, v' = .slice A 0 cap := by rcases h' with rfl | ⟨a, cap, rfl⟩ <;> exact ⟨_, _, rfl⟩
      exact same_none A A' cap cap' w
    · omega
  · rcases hO' with ⟨h1, _⟩ | ⟨_, b', off', cap', rfl, h'⟩
    · omega
    · exact same_some b off b' off' n cap cap' f w n1 h ⟨h'.1, fun i hi j hj => by rw [hfg i hi j hj]; exact h'.2 i hi j hj⟩
end Go.Proofs.YtmedlebepgobeaaDoor
