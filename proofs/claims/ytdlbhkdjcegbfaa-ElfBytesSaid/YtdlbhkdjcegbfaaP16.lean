/- lay: memory with bytes laid into it. -/
import Derived.Test.YtdlbhkdjcegbfaaP15
namespace Go.Proofs.Ytdlbhkdjcegbfaa
open Go.RowKit Go.Shelf

attribute [local go_sem] Oper.semAt_some

theorem cellsOf_set (m : List M.Pg) (i : Nat) (x : M.Pg) (h : i < m.length) : cellsOf (m.set i x) = (((cellsOf m).set (i * 3) (.int .u64 x.a)).set (i * 3 + 1) (.int .i64 x.p)).set (i * 3 + 2) (.string x.d) := by
  induction m generalizing i with
  | nil => simp at h
  | cons y m ih =>
    have e : ∀ (z : M.Pg) (k : List M.Pg), cellsOf (z :: k) = .int .u64 z.a :: .int .i64 z.p :: .string z.d :: cellsOf k := fun z k => rfl
    cases i with
    | zero => rw [List.set_cons_zero, e, e]; rfl
    | succ i =>
      rw [List.set_cons_succ, e, e, ih i (by simpa using h)]
      rw [show (i + 1) * 3 = i * 3 + 1 + 1 + 1 by omega]
      simp only [List.set_cons_succ]
/-- a row's page written over -/
def putPg (W : World) (g i : Nat) (x : M.Pg) : World := ((W.setCell ⟨g, i * 3, none⟩ (.int .u64 x.a)).setCell ⟨g, i * 3 + 1, none⟩ (.int .i64 x.p)).setCell ⟨g, i * 3 + 2, none⟩ (.string x.d)
theorem putPg_grown (W : World) (g i : Nat) (x : M.Pg) : W.grownBy (putPg W g i x) (some g) :=
  ((grownBy_put W g (i * 3) _).trans (grownBy_put _ g (i * 3 + 1) _)).trans (grownBy_put _ g (i * 3 + 2) _)
theorem OwnsP.put {W : World} {base g cap : Nat} {m : List M.Pg} (h : OwnsP W base (.slice (some ⟨g, 0, none⟩) m.length cap) m) (i : Nat) (x : M.Pg) (hi : i < m.length) :
    OwnsP (putPg W g i x) base (.slice (some ⟨g, 0, none⟩) m.length cap) (m.set i x) := by
  have h' : W.ownsRow base 39 3 (.slice (some ⟨g, 0, none⟩) m.length cap) m.length (cellsOf m) := h
  rcases h'.2 with ⟨e, _⟩ | ⟨g', cap', cur, e, hb, hg, h1, h2, h3, h4⟩
  · cases e
  · cases e
    have e1 := Whole.put (show Whole W g 39 cur from hg) (i * 3) (.int .u64 x.a)
    have e2 := e1.put (i * 3 + 1) (.int .i64 x.p)
    have e3 := e2.put (i * 3 + 2) (.string x.d)
    refine ⟨?_, .inr ⟨g, cap, _, ?_, hb, e3, ?_, h2, ?_, ?_⟩⟩
    · rw [cellsOf_length]
    · rw [List.length_set]
    · rw [List.length_set]; exact h1
    · simp [h3]
    · rw [List.length_set, cellsOf_set m i x hi, ← h4]
      simp only [Array.toList_setIfInBounds, List.take_set]
theorem ownsP_own {β : Type} {B₀ base : Nat} {v : Value} (f : β → List M.Pg) : OwnFrom B₀ (fun s W => OwnsP W base v (f s)) := by
  intro s W W' row h hg hr
  have h' : W.ownsRow base 39 3 v (f s).length (cellsOf (f s)) := h
  refine h'.kept hg ?_
  rcases h'.2 with ⟨rfl, _⟩ | ⟨g, cap, cur, rfl, _, hgb, _⟩
  · exact .inl rfl
  · refine .inr fun e' => ?_
    obtain ⟨_, o, ho, hc⟩ := hr g (by simpa [Value.ownBlock] using e'.symm)
    rw [hgb] at ho; cases ho; cases hc
theorem ownsP_kept {W W' : World} {base : Nat} {v : Value} {m : List M.Pg} {row : Option Nat} (h : OwnsP W base v m) (hg : W.grownBy W' row) (hne : v.ownBlock = none ∨ v.ownBlock ≠ row) : OwnsP W' base v m :=
  World.ownsRow.kept (show W.ownsRow base 39 3 v m.length (cellsOf m) from h) hg hne

theorem OwnsP.at_ {W : World} {base g n cap : Nat} {m : List M.Pg} (h : OwnsP W base (.slice (some ⟨g, 0, none⟩) n cap) m) (i : Nat) (hi : i < m.length) :
    ∃ cur, Whole W g 39 cur ∧ W.cell? ⟨g, i * 3, none⟩ = some (.int .u64 m[i].a) ∧ W.cell? ⟨g, i * 3 + 1, none⟩ = some (.int .i64 m[i].p) ∧ W.cell? ⟨g, i * 3 + 2, none⟩ = some (.string m[i].d) := by
  have hp := h.pages
  rcases hp with ⟨rfl, _⟩ | ⟨_, b, off, c, e, hP⟩
  · simp at hi
  · rcases (show W.ownsRow base 39 3 _ _ _ from h).2 with ⟨e', _⟩ | ⟨g', cap', cur, e', _, hg, _⟩
    · cases e'
    · cases e'
      obtain ⟨k0, k1, k2⟩ := cellsOf_at m i hi
      have h' : W.ownsRow base 39 3 (.slice (some ⟨g, 0, none⟩) m.length cap) m.length (cellsOf m) := h
      refine ⟨cur, hg, ?_, ?_, ?_⟩
      · rw [h'.cellAt (i * 3) (by omega)]; exact k0
      · rw [h'.cellAt (i * 3 + 1) (by omega)]; exact k1
      · rw [h'.cellAt (i * 3 + 2) (by omega)]; exact k2

/-- out, behind some rows of places -/
def outF (m : List M.Pg) (a : Int) (l : ByteArray) (pre : List M.Str) : List M.Pg := pre.foldl (fun o s => o.set (M.low m s.pg) (over (pgOf m s.pg) a l.data.toList)) m
theorem outF_snoc (m : List M.Pg) (a : Int) (l : ByteArray) (pre : List M.Str) (s : M.Str) : outF m a l (pre ++ [s]) = (outF m a l pre).set (M.low m s.pg) (over (pgOf m s.pg) a l.data.toList) := by simp [outF]
theorem outF_length (m : List M.Pg) (a : Int) (l : ByteArray) : ∀ pre, (outF m a l pre).length = m.length := by
  intro pre
  have : ∀ (pre : List M.Str) (o : List M.Pg), (pre.foldl (fun o s => o.set (M.low m s.pg) (over (pgOf m s.pg) a l.data.toList)) o).length = o.length := by
    intro pre
    induction pre with
    | nil => intro o; rfl
    | cons s pre ih => intro o; rw [List.foldl_cons, ih, List.length_set]
  exact this pre m
theorem foldl_set_get (m : List M.Pg) (a : Int) (l : ByteArray) (hm : ∀ s : M.Str, ∀ (h : M.low m s.pg < m.length), pgOf m s.pg = m[M.low m s.pg]) : ∀ (pre : List M.Str) (o : List M.Pg), o.length = m.length →
    ∀ i (h : i < m.length), (pre.foldl (fun o s => o.set (M.low m s.pg) (over (pgOf m s.pg) a l.data.toList)) o)[i]? = if ∃ s ∈ pre, M.low m s.pg = i then some (over m[i] a l.data.toList) else o[i]? := by
  intro pre
  induction pre with
  | nil => intro o _ i _; simp
  | cons s pre ih =>
    intro o ho i hi
    rw [List.foldl_cons, ih _ (by rw [List.length_set]; exact ho) i hi]
    by_cases h1 : ∃ s ∈ pre, M.low m s.pg = i
    · rw [if_pos h1, if_pos (by obtain ⟨s', hs, e⟩ := h1; exact ⟨s', List.mem_cons_of_mem _ hs, e⟩)]
    · rw [if_neg h1]
      by_cases h2 : M.low m s.pg = i
      · rw [if_pos ⟨s, List.mem_cons_self, h2⟩, h2, List.getElem?_set_self (by omega)]
        subst h2
        rw [hm s hi]
      · rw [if_neg (by rintro ⟨s', hs, e⟩; rcases List.mem_cons.1 hs with rfl | hs; exact h2 e; exact h1 ⟨s', hs, e⟩), List.getElem?_set_ne h2]
theorem outF_all {m : List M.Pg} (hr : M.Right m) {a : Int} {l : ByteArray} (a0 : 0 ≤ a) (hQ : ∀ s ∈ M.strs a l.size, InPg m s) : outF m a l (M.strs a l.size) = laid m a l.data.toList := by
  apply List.ext_getElem?
  intro i
  by_cases hi : i < m.length
  · unfold outF laid
    rw [foldl_set_get m a l (fun s h => by unfold pgOf; rw [List.getElem?_eq_getElem h]; rfl) _ m rfl i hi, List.getElem?_map, List.getElem?_eq_getElem hi]
    by_cases h : ∃ s ∈ M.strs a l.size, M.low m s.pg = i
    · rw [if_pos h]; rfl
    · rw [if_neg h]
      show some m[i] = some (over m[i] a l.data.toList)
      rw [over_out (hr.size hi)]
      intro j hj hin
      have hl : l.data.toList.length = l.size := by rw [← Lib.size_eq]
      rw [hl] at hin
      have hmd := hr.at_mod hi
      obtain ⟨s, hs, e1, e2, e3⟩ := M.strs_has (n := (l.size : Int)) a0 (m[i].a + j) hin.1 hin.2
      refine h ⟨s, hs, ?_⟩
      obtain ⟨ho, i', hi', hlo, hth, hds⟩ := hQ s hs
      obtain ⟨h1, h2⟩ := (M.there_iff hr.up s.pg).1 hth
      have e4 : s.pg = m[i].a := by omega
      rcases Nat.lt_trichotomy (M.low m s.pg) i with hlt | he | hgt
      · have := hr.at_lt hlt hi; omega
      · exact he
      · have := hr.at_lt hgt h1; omega
  · rw [List.getElem?_eq_none (by rw [outF_length]; omega), List.getElem?_eq_none (by simp [laid]; omega)]
end Go.Proofs.Ytdlbhkdjcegbfaa
