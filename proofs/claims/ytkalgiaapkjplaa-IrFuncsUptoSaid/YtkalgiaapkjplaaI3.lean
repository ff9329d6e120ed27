/- Package ir: rows of ints that a call owns; slices.Clone of ints. -/
import Derived.Test.YtkalgiaapkjplaaI2
import Derived.Laws.AppendOwnNone
import Derived.Deep.AppendLies
import Derived.WalkSpells
namespace Go.Proofs.Ytkalgiaapkjplaa
open Go.RowKit

def intRow (l : List Int) : List Value := l.map (fun v => Value.int .i64 v)
theorem intRow_length (l : List Int) : (intRow l).length = l.length := by simp [intRow]
theorem intRow_one : ∀ (l : List Int), ∀ u ∈ intRow l, u.oneCell' = true := by
  intro l u hu
  obtain ⟨v, -, rfl⟩ := List.mem_map.1 hu
  rfl
/-- a row of the call's own that holds ints -/
def OwnsI (W : World) (base : Nat) (v : Value) (l : List Int) : Prop := W.ownsRow base 3 1 v l.length (intRow l)
theorem OwnsI.ints {W : World} {base : Nat} {v : Value} {l : List Int} (h : OwnsI W base v l) : Ints W v l := by
  have h' : W.ownsRow base 3 1 v l.length (intRow l) := h
  by_cases hn : 0 < l.length
  · obtain ⟨g, cap, rfl, _, hg⟩ := h'.form hn
    refine .inr ⟨hn, g, 0, cap, rfl, hg, fun i hi => ?_⟩
    rw [Nat.zero_add, h'.cellAt i (by omega)]
    simp [intRow, hi]
  · obtain rfl : l = [] := List.eq_nil_of_length_eq_zero (by omega)
    refine .inl ⟨rfl, ?_⟩
    obtain ⟨_, ⟨rfl, _⟩ | ⟨g, cap, cur, rfl, _⟩⟩ := h'
    · exact .inl rfl
    · exact .inr ⟨_, _, rfl⟩
theorem int_add (b off j : Nat) : (⟨b, off, none⟩ : Addr).add j = ⟨b, off + j, none⟩ := by unfold Addr.add; split <;> simp_all
theorem int_info : (Try.prog.info? 3).map (fun i => (i.zero, i.size, i.bytes)) = some (some (.int .i64 0), 1, 8) := by kernel_rfl
/-- append of a row of ints to one of the call's own -/
theorem wpList_append_ints {w : World} {ops : Array Oper} {rest : List Oper} {o : Oper} {a : Act} {Q : Exit → Act → World → Prop} (hgd : o.guard = none) (s x : Operand)
    (ho : o.op = .call { callee := .builtin .append, args := #[s, x], argTypes := #[53, 53] }) (base : Nat) (v : Value) (m k : List Int) (hs : a.eval s = v) (hown : OwnsI w base v m)
    (u : Value) (hx : a.eval x = u) (hO : Ints w u k) (hn : (m.length + k.length) * 8 ≤ 140737488355328) (hbase : base ≤ w.heap.size)
    (h : ∀ v' w', OwnsI w' base v' (m ++ k) → w.grownBy w' v.ownBlock → wpList Try.prog ops Q rest (a.put o.dst v') w') : wpList Try.prog ops Q (o :: rest) a w := by
  obtain ⟨i0, hi, hz0, hz1, hz2⟩ := info_parts int_info
  have fin : ∀ v' w', w'.ownsRow base 3 1 v' (m.length + k.length) (intRow m ++ intRow k) → w.grownBy w' v.ownBlock → wpList Try.prog ops Q rest (a.put o.dst v') w' := fun v' w' h1 h2 => by
    refine h v' w' ?_ h2
    unfold OwnsI
    rw [List.length_append, show intRow (m ++ k) = intRow m ++ intRow k by simp [intRow]]
    exact h1
  rcases hO with ⟨rfl, rfl | ⟨A, cap, rfl⟩⟩ | ⟨hm0, b, off, cap, rfl, hb, hp⟩
  · exact wpList_append_own_none hgd s x 53 ho base 3 i0 1 Try.underlying53 hi v m.length (intRow m) hs hown hx (h v w (by simpa using hown) ⟨rfl, rfl, rfl, Nat.le_refl _, fun _ _ _ => rfl⟩)
  · exact wpList_append_own w hgd s x 53 ho base 3 i0 (.int .i64 0) 1 8 Try.underlying53 hi hz0 hz1 hz2 rfl (by decide) v m.length (intRow m) hs hown A 0 cap [] hx rfl (fun j u hj => by simp at hj) (fun u hu => by cases hu) (by unfold maxLen; omega) (by simp at hn; omega) hbase (fun v' w' h1 h2 _ => fin v' w' (by simpa [intRow] using h1) h2)
  · exact wpList_append_own w hgd s x 53 ho base 3 i0 (.int .i64 0) 1 8 Try.underlying53 hi hz0 hz1 hz2 rfl (by decide) v m.length (intRow m) hs hown ⟨b, off, none⟩ k.length cap (intRow k) hx (by rw [intRow_length]; omega) (fun j u hj => by
      rw [int_add]
      have hj2 : j < k.length := by have := (List.getElem?_eq_some_iff.1 hj).1; rwa [intRow_length] at this
      rw [hp j hj2, ← hj]
      simp [intRow, hj2]) (intRow_one k) (by unfold maxLen; omega) (by omega) hbase (fun v' w' h1 h2 _ => fin v' w' h1 h2)
/-- a new row of the call's own with these ints -/
def NewInts (l : List Int) (w : World) (e : Ending) (w' : World) : Prop := ∃ v', e = .returned v' ∧ OwnsI w' w.heap.size v' l ∧ Below w.heap.size w w'
set_option maxRecDepth 100000 in
set_option maxHeartbeats 1000000 in
/-- slices.Clone of ints: a new row with the same, or nil -/
theorem iclone_any {l : List Int} {v : Value} {w : World} (hP : Ints w v l) (hn : l.length * 8 ≤ 140737488355328) :
    Calls Try.prog 124 #[v] w (NewInts l w) := by
  have HN := Lib.hid hn
  clear hn
  have q22 : ∀ (W : World) (a : Option Addr) (n c n' c' : Nat), (binOp .eql 53 (.slice a n c) (.slice none n' c')).run Try.prog W = .ok (.bool a.isNone) W := fun W a n c n' c' => Lib.run_eql_slice_nil W _ _ a n c n' c' Try.underlying53
  have O0 := fun W : World => Lib.hid (show OwnsI (W.alloc (.cells #[] 3)) W.heap.size (.slice (some ⟨W.heap.size, 0, none⟩) 0 0) [] from ⟨rfl, .inr ⟨W.heap.size, 0, #[], rfl, Nat.le_refl _, heap_alloc_new _ _, Nat.le_refl _, by unfold maxLen; omega, rfl, rfl⟩⟩)
  rcases hP with ⟨rfl, rfl | ⟨a, cap, rfl⟩⟩ | ⟨h0, b, off, cap, rfl, hb, hp⟩
  · go_enter Try.func124, Try.ntmps124
    go_wp2_with fail
    go_ret
    exact ⟨_, rfl, ⟨rfl, .inl ⟨rfl, rfl⟩⟩, Below.refl _ _⟩
  · go_enter Try.func124, Try.ntmps124
    go_wp2_with fail
    go_ret
    exact ⟨_, rfl, (O0 w).out, balloc (Below.refl _ _) _⟩
  · have HP := Lib.hid (show Ints (w.alloc (.cells #[] 3)) (.slice (some ⟨b, off, none⟩) l.length cap) l from (show Ints w (.slice (some ⟨b, off, none⟩) l.length cap) l from .inr ⟨h0, b, off, cap, rfl, hb, hp⟩).next (balloc (Below.refl _ _) _))
    obtain ⟨n, hn⟩ : ∃ n, l.length = n := ⟨_, rfl⟩
    rw [hn] at HP ⊢
    have HNN := Lib.hid hn
    clear hn hp h0 hb
    have H0 := O0 w
    clear O0
    go_enter Try.func124, Try.ntmps124
    go_wp2_with (at_builtin; refine wpList_append_ints rfl _ _ rfl w.heap.size _ [] l rfl H0.out _ rfl HP.out (by have := HN.out; simpa using this) (by simp) ?_; intro v' w1 hown hgrow)
    have HO := Lib.hid hown
    have HB := Lib.hid ((balloc (Below.refl _ w) _).grown hgrow (by simp) (fun k hk => by cases hk; exact Nat.le_refl _))
    clear hown hgrow
    go_wp2_with fail
    go_ret
    exact ⟨_, rfl, HO.out, HB.out⟩
end Go.Proofs.Ytkalgiaapkjplaa
