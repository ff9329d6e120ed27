/- Pages that a call owns: their cells, append of pages, slices.Clone. -/
import Derived.Test.YtdlbhkdjcegbfaaP2
import Derived.Test.YtdlbhkdjcegbfaaP11
import Derived.Laws.AppendOwnNone
import Derived.Deep.AppendLies
import Derived.WalkSpells
namespace Go.Proofs.Ytdlbhkdjcegbfaa
open Go.RowKit

/-- a page's cells -/
def pgCells (x : M.Pg) : List Value := [.int .u64 x.a, .int .i64 x.p, .string x.d]
def cellsOf (m : List M.Pg) : List Value := m.flatMap pgCells
theorem cellsOf_length (m : List M.Pg) : (cellsOf m).length = m.length * 3 := by
  induction m with
  | nil => rfl
  | cons x m ih => simp only [cellsOf, List.flatMap_cons, List.length_append, List.length_cons] at ih ⊢; rw [ih]; simp [pgCells]; omega
theorem cellsOf_append (m k : List M.Pg) : cellsOf (m ++ k) = cellsOf m ++ cellsOf k := by simp [cellsOf]
theorem cellsOf_one : ∀ (m : List M.Pg), ∀ u ∈ cellsOf m, u.oneCell' = true := by
  intro m u hu
  simp only [cellsOf, List.mem_flatMap, pgCells, List.mem_cons, List.not_mem_nil, or_false] at hu
  obtain ⟨x, _, rfl | rfl | rfl⟩ := hu <;> rfl
theorem cellsOf_at (m : List M.Pg) (i : Nat) (h : i < m.length) : (cellsOf m)[i * 3]? = some (.int .u64 m[i].a) ∧ (cellsOf m)[i * 3 + 1]? = some (.int .i64 m[i].p) ∧ (cellsOf m)[i * 3 + 2]? = some (.string m[i].d) := by
  induction m generalizing i with
  | nil => simp at h
  | cons x m ih =>
    cases i with
    | zero => exact ⟨rfl, rfl, rfl⟩
    | succ i =>
      obtain ⟨h0, h1, h2⟩ := ih i (by simpa using h)
      have e : cellsOf (x :: m) = pgCells x ++ cellsOf m := rfl
      rw [e]
      refine ⟨?_, ?_, ?_⟩
      · rw [List.getElem?_append_right (by simp [pgCells]; omega), show (i + 1) * 3 - (pgCells x).length = i * 3 by simp [pgCells]; omega]; exact h0
      · rw [List.getElem?_append_right (by simp [pgCells]; omega), show (i + 1) * 3 + 1 - (pgCells x).length = i * 3 + 1 by simp [pgCells]; omega]; exact h1
      · rw [List.getElem?_append_right (by simp [pgCells]; omega), show (i + 1) * 3 + 2 - (pgCells x).length = i * 3 + 2 by simp [pgCells]; omega]; exact h2
theorem PagesIn.cells {W : World} {b off : Nat} {m : List M.Pg} (h : PagesIn W b off m) : ∀ (j : Nat) (u : Value), (cellsOf m)[j]? = some u → W.cell? ⟨b, off + j, none⟩ = some u := by
  intro j u hu
  have hj : j < m.length * 3 := by have := (List.getElem?_eq_some_iff.1 hu).1; rwa [cellsOf_length] at this
  obtain ⟨i, r, hr, hi, rfl⟩ : ∃ i r, r < 3 ∧ i < m.length ∧ j = i * 3 + r := ⟨j / 3, j % 3, by omega, by omega, by omega⟩
  obtain ⟨h0, h1, h2⟩ := h.2 i hi
  obtain ⟨k0, k1, k2⟩ := cellsOf_at m i hi
  rcases (by omega : r = 0 ∨ r = 1 ∨ r = 2) with rfl | rfl | rfl
  · rw [Nat.add_zero] at hu ⊢; rw [k0] at hu; cases hu; exact h0
  · rw [k1] at hu; cases hu; exact h1
  · rw [k2] at hu; cases hu; exact h2
/-- a row of the call's own that holds pages -/
def OwnsP (W : World) (base : Nat) (v : Value) (m : List M.Pg) : Prop := W.ownsRow base 39 3 v m.length (cellsOf m)
theorem OwnsP.pages {W : World} {base : Nat} {v : Value} {m : List M.Pg} (h : OwnsP W base v m) : Pages W v m := by
  have h' : W.ownsRow base 39 3 v m.length (cellsOf m) := h
  by_cases hn : 0 < m.length
  · obtain ⟨g, cap, rfl, _, hg⟩ := h'.form hn
    refine .inr ⟨hn, g, 0, cap, rfl, hg, fun i hi => ?_⟩
    obtain ⟨k0, k1, k2⟩ := cellsOf_at m i hi
    refine ⟨?_, ?_, ?_⟩
    · rw [Nat.zero_add, h'.cellAt (i * 3) (by omega)]; exact k0
    · rw [Nat.zero_add, h'.cellAt (i * 3 + 1) (by omega)]; exact k1
    · rw [Nat.zero_add, h'.cellAt (i * 3 + 2) (by omega)]; exact k2
  · obtain rfl : m = [] := List.eq_nil_of_length_eq_zero (by omega)
    refine .inl ⟨rfl, ?_⟩
    obtain ⟨_, ⟨rfl, _⟩ | ⟨g, cap, cur, rfl, _⟩⟩ := h'
    · exact .inl rfl
    · exact .inr ⟨_, _, rfl⟩
theorem pg_add (b off j : Nat) : (⟨b, off, none⟩ : Addr).add j = ⟨b, off + j, none⟩ := by unfold Addr.add; split <;> simp_all
theorem pg_info : (Try.prog.info? 39).map (fun i => (i.zero, i.size, i.bytes)) = some (some (.agg #[.int .u64 0, .int .i64 0, .string ⟨#[]⟩]), 3, 32) := by kernel_rfl

/-- append of a slice of pages to one of the call's own -/
theorem wpList_append_pages {w : World} {ops : Array Oper} {rest : List Oper} {o : Oper} {a : Act} {Q : Exit → Act → World → Prop} (hgd : o.guard = none) (s x : Operand)
    (ho : o.op = .call { callee := .builtin .append, args := #[s, x], argTypes := #[28, 28] }) (base : Nat) (v : Value) (m k : List M.Pg) (hs : a.eval s = v) (hown : OwnsP w base v m)
    (u : Value) (hx : a.eval x = u) (hO : Pages w u k) (hn : (m.length + k.length) * 32 ≤ 140737488355328) (hbase : base ≤ w.heap.size)
    (h : ∀ v' w', OwnsP w' base v' (m ++ k) → w.grownBy w' v.ownBlock → wpList Try.prog ops Q rest (a.put o.dst v') w') : wpList Try.prog ops Q (o :: rest) a w := by
  obtain ⟨i0, hi, hz0, hz1, hz2⟩ := info_parts pg_info
  have fin : ∀ v' w', w'.ownsRow base 39 3 v' (m.length + k.length) (cellsOf m ++ cellsOf k) → w.grownBy w' v.ownBlock → wpList Try.prog ops Q rest (a.put o.dst v') w' := fun v' w' h1 h2 => by
    refine h v' w' ?_ h2
    unfold OwnsP
    rw [List.length_append, cellsOf_append]
    exact h1
  rcases hO with ⟨rfl, rfl | ⟨A, cap, rfl⟩⟩ | ⟨hm0, b, off, cap, rfl, hp⟩
  · exact wpList_append_own_none hgd s x 28 ho base 39 i0 3 Try.underlying28 hi v m.length (cellsOf m) hs hown hx (h v w (by simpa using hown) ⟨rfl, rfl, rfl, Nat.le_refl _, fun _ _ _ => rfl⟩)
  · exact wpList_append_own w hgd s x 28 ho base 39 i0 (.agg #[.int .u64 0, .int .i64 0, .string ⟨#[]⟩]) 3 32 Try.underlying28 hi hz0 hz1 hz2 rfl (by decide) v m.length (cellsOf m) hs hown A 0 cap [] hx rfl (fun j u hj => by simp at hj) (fun u hu => by cases hu) (by unfold maxLen; omega) (by simp at hn; omega) hbase (fun v' w' h1 h2 _ => fin v' w' (by simpa [cellsOf] using h1) h2)
  · exact wpList_append_own w hgd s x 28 ho base 39 i0 (.agg #[.int .u64 0, .int .i64 0, .string ⟨#[]⟩]) 3 32 Try.underlying28 hi hz0 hz1 hz2 rfl (by decide) v m.length (cellsOf m) hs hown ⟨b, off, none⟩ k.length cap (cellsOf k) hx (by rw [cellsOf_length]) (fun j u hj => by rw [pg_add]; exact hp.cells j u hj) (cellsOf_one k) (by unfold maxLen; omega) (by omega) hbase (fun v' w' h1 h2 _ => fin v' w' h1 h2)

/-- a new row of the call's own with these pages -/
def NewPages (m : List M.Pg) (w : World) (e : Ending) (w' : World) : Prop := ∃ v', e = .returned v' ∧ OwnsP w' w.heap.size v' m ∧ Below w.heap.size w w'

set_option maxRecDepth 100000 in
set_option maxHeartbeats 1000000 in
/-- slices.Clone: a new row with the same pages, or nil -/
theorem clone_any {m : List M.Pg} {v : Value} {w : World} (hP : Pages w v m) (hn : m.length * 32 ≤ 140737488355328) :
    Calls Try.prog 66 #[v] w (NewPages m w) := by
  have HN := Lib.hid hn
  clear hn
  have q22 : ∀ (W : World) (a : Option Addr) (n c n' c' : Nat), (binOp .eql 28 (.slice a n c) (.slice none n' c')).run Try.prog W = .ok (.bool a.isNone) W := fun W a n c n' c' => Lib.run_eql_slice_nil W _ _ a n c n' c' Try.underlying28
  have O0 := fun W : World => Lib.hid (show OwnsP (W.alloc (.cells #[] 39)) W.heap.size (.slice (some ⟨W.heap.size, 0, none⟩) 0 0) [] from ⟨rfl, .inr ⟨W.heap.size, 0, #[], rfl, Nat.le_refl _, heap_alloc_new _ _, Nat.le_refl _, by unfold maxLen; omega, rfl, rfl⟩⟩)
  rcases hP with ⟨rfl, rfl | ⟨a, cap, rfl⟩⟩ | ⟨h0, b, off, cap, rfl, hp⟩
  · go_enter Try.func66, Try.ntmps66
    go_wp2_with fail
    go_ret
    exact ⟨_, rfl, ⟨rfl, .inl ⟨rfl, rfl⟩⟩, Below.refl _ _⟩
  · go_enter Try.func66, Try.ntmps66
    go_wp2_with fail
    go_ret
    exact ⟨_, rfl, (O0 w).out, balloc (Below.refl _ _) _⟩
  · have HP := Lib.hid (show Pages (w.alloc (.cells #[] 39)) (.slice (some ⟨b, off, none⟩) m.length cap) m from .inr ⟨h0, b, off, cap, rfl, hp.next (balloc (Below.refl _ _) _)⟩)
    obtain ⟨n, hn⟩ : ∃ n, m.length = n := ⟨_, rfl⟩
    rw [hn] at HP ⊢
    have HNN := Lib.hid hn
    clear hn hp h0
    have H0 := O0 w
    clear O0
    go_enter Try.func66, Try.ntmps66
    go_wp2_with (at_builtin; refine wpList_append_pages rfl _ _ rfl w.heap.size _ [] m rfl H0.out _ rfl HP.out (by have := HN.out; simpa using this) (by simp) ?_; intro v' w1 hown hgrow)
    have HO := Lib.hid hown
    have HB := Lib.hid ((balloc (Below.refl _ w) _).grown hgrow (by simp) (fun k hk => by cases hk; exact Nat.le_refl _))
    clear hown hgrow
    go_wp2_with fail
    go_ret
    exact ⟨_, rfl, HO.out, HB.out⟩
end Go.Proofs.Ytdlbhkdjcegbfaa
