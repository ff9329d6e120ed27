/- Memory with bytes laid into it: what changedPages' map holds, page by page. lay: memory with bytes laid into it. -/
import Derived.Test.YtclbkdnihhmglaaDoorZP14
namespace Go.Proofs.YtclbkdnihhmglaaDoor
open Go.RowKit

/-- a page with the bytes l from the place a on laid over it -/
def over (x : M.Pg) (a : Int) (l : List UInt8) : M.Pg :=
  { x with d := ⟨((List.range 256).map (fun (j : Nat) => if a ≤ x.a + j ∧ x.a + j < a + l.length then l.getD (x.a + j - a).toNat 0 else x.d.data.toList.getD j 0)).toArray⟩ }
def laid (m : List M.Pg) (a : Int) (l : List UInt8) : List M.Pg := m.map (fun x => over x a l)

theorem over_eq {x : M.Pg} {a a' : Int} {l l' : List UInt8} (h : ∀ j : Nat, j < 256 → (if a ≤ x.a + j ∧ x.a + j < a + l.length then l.getD (x.a + j - a).toNat 0 else x.d.data.toList.getD j 0) = (if a' ≤ x.a + j ∧ x.a + j < a' + l'.length then l'.getD (x.a + j - a').toNat 0 else x.d.data.toList.getD j 0)) : over x a l = over x a' l' := by
  unfold over
  congr 3
  apply List.map_congr_left
  intro j hj
  exact h j (List.mem_range.1 hj)
theorem over_out {x : M.Pg} {a : Int} {l : List UInt8} (hs : x.d.size = 256) (h : ∀ j : Nat, j < 256 → ¬ (a ≤ x.a + j ∧ x.a + j < a + l.length)) : over x a l = x := by
  obtain ⟨xa, xp, ⟨xd⟩⟩ := x
  unfold over
  congr 2
  apply Array.ext'
  apply List.ext_getElem
  · have : xd.size = 256 := hs
    simp [this]
  · intro i h1 h2
    have hi : i < 256 := by simpa using h1
    rw [List.getElem_map, List.getElem_range, if_neg (h i hi), List.getD_eq_getElem?_getD, List.getElem?_eq_getElem h2]
    rfl
theorem patch_over {x : M.Pg} {a : Int} {r : ByteArray} (hs : x.d.size = 256) (hx : x.a = a - a % 256) (hr : 0 < r.size) : patch x (a % 256) r = over x a r.data.toList := by
  obtain ⟨xa, xp, ⟨xd⟩⟩ := x
  have hxd : xd.size = 256 := hs
  have hrs : r.data.toList.length = r.size := by rw [← Lib.size_eq]
  simp only at hx
  unfold patch over
  congr 2
  apply Array.ext'
  apply List.ext_getElem?
  intro i
  by_cases hi : i < 256
  · rw [show (((List.range 256).map (fun (j : Nat) => if a ≤ xa + j ∧ xa + j < a + r.data.toList.length then r.data.toList.getD (xa + j - a).toNat 0 else xd.toList.getD j 0)).toArray.toList)[i]? = some (if a ≤ xa + i ∧ xa + i < a + r.data.toList.length then r.data.toList.getD (xa + i - a).toNat 0 else xd.toList.getD i 0) by simp [hi]]
    rw [List.toList_toArray, hrs]
    by_cases h1 : i < (a % 256).toNat
    · rw [if_neg (by omega), List.append_assoc, List.getElem?_append_left (by simp; omega), List.getElem?_take_of_lt h1, List.getD_eq_getElem?_getD, List.getElem?_eq_getElem (by simp; omega)]
      rfl
    · by_cases h2 : i < (a % 256).toNat + min (256 - (a % 256).toNat) r.size
      · rw [if_pos (by omega), List.append_assoc, List.getElem?_append_right (by simp; omega)]
        have hl : (xd.toList.take (a % 256).toNat).length = (a % 256).toNat := by rw [List.length_take, Array.length_toList]; omega
        rw [hl, List.getElem?_append_left (by rw [List.length_take]; omega), List.getElem?_take_of_lt (by omega), List.getD_eq_getElem?_getD]
        rw [show (xa + (i : Int) - a).toNat = i - (a % 256).toNat by omega, List.getElem?_eq_getElem (by omega)]
        rfl
      · rw [if_neg (by omega), List.getElem?_append_right (by simp; omega)]
        have hl : (xd.toList.take (a % 256).toNat ++ r.data.toList.take (min (256 - (a % 256).toNat) r.size)).length = (a % 256).toNat + min (256 - (a % 256).toNat) r.size := by
          rw [List.length_append, List.length_take, List.length_take, Array.length_toList]; omega
        rw [hl, List.getElem?_drop, List.getD_eq_getElem?_getD]
        rw [show (a % 256).toNat + min (256 - (a % 256).toNat) r.size + (i - ((a % 256).toNat + min (256 - (a % 256).toNat) r.size)) = i by omega, List.getElem?_eq_getElem (by simp; omega)]
        rfl
  · rw [List.getElem?_eq_none (by simp; omega), List.getElem?_eq_none (by simp; omega)]

theorem pgOf_in {m : List M.Pg} {s : M.Str} (hu : m.Pairwise (fun x y => x.a < y.a)) (h : InPg m s) : (pgOf m s.pg).a = s.pg ∧ (pgOf m s.pg).d.size = 256 := by
  obtain ⟨ho, i, hi, hlo, hth, hds⟩ := h
  obtain ⟨h1, h2⟩ := (M.there_iff hu s.pg).1 hth
  unfold pgOf
  rw [List.getElem?_eq_getElem h1]
  subst hlo
  exact ⟨h2, hds⟩
theorem strs_pg {a n : Int} (a0 : 0 ≤ a) (h : a + n ≤ 18446744073709551616) (s : M.Str) (hs : s ∈ M.strs (a + min n (256 - a % 256)) (n - min n (256 - a % 256))) : a - a % 256 + 256 ≤ s.pg ∧ a + min n (256 - a % 256) ≤ s.pg := by
  by_cases hn : n - min n (256 - a % 256) ≤ 0
  · rw [M.strs_nil hn] at hs; cases hs
  · obtain ⟨ho, h1, h2⟩ := M.strs_ok (by omega) (by omega) s hs
    have := ho.md; have := ho.f0; have := ho.fn; have := ho.n1
    omega

theorem klit_key {x : Int} (h0 : 0 ≤ x) (h1 : x ≤ 18446744073709551615) : WideAt.IsKeyLit (klit x) := by
  have h := klit_of h0 h1
  generalize klit x = l at h ⊢
  exact keyed.key h

set_option maxRecDepth 100000 in
theorem ch_all {m : List M.Pg} (hu : m.Pairwise (fun x y => x.a < y.a)) (z : DataW Unit) (a n : Int) (r : ByteArray) (D : DataW Unit) (hD : Maps.IsMap D) (hr : (r.size : Int) = n) (a0 : 0 ≤ a) (h : a + n ≤ 18446744073709551616) (hQ : ∀ s ∈ M.strs a n, InPg m s) :
    (∀ s ∈ M.strs a n, ((M.strs a n).foldl (chS m) (r, D)).2.atKey (klit s.pg) z = pgD (over (pgOf m s.pg) a r.data.toList)) ∧
    (∀ x : Int, 0 ≤ x → x ≤ 18446744073709551615 → (∀ s ∈ M.strs a n, s.pg ≠ x) → ((M.strs a n).foldl (chS m) (r, D)).2.atKey (klit x) z = D.atKey (klit x) z) := by
  by_cases hn : n ≤ 0
  · rw [M.strs_nil hn]
    exact ⟨fun s hs => by (cases hs), fun x _ _ _ => rfl⟩
  · have hc := M.strs_cons (a := a) (n := n) (by omega)
    have ho := (M.strs_ok a0 h)
    rw [hc] at hQ ho ⊢
    have hk : (min (256 - (a % 256).toNat) r.size : Nat) = (min n (256 - a % 256)).toNat := by omega
    have hq0 := hQ _ List.mem_cons_self
    obtain ⟨hpa, hps⟩ := pgOf_in hu hq0
    have ho0 := (ho _ List.mem_cons_self).1
    have g0 := ho0.pg0
    have g1 := ho0.pg1
    simp only at hpa hps g0 g1
    have hrs : (r.extract (min n (256 - a % 256)).toNat r.size).size = r.size - (min n (256 - a % 256)).toNat := by simp
    have IH := ch_all hu z (a + min n (256 - a % 256)) (n - min n (256 - a % 256)) (r.extract (min n (256 - a % 256)).toNat r.size) (D.put (klit (a - a % 256)) (pgD (patch (pgOf m (a - a % 256)) (a % 256) r)))
      (Maps.IsMap.put hD _ _) (by rw [hrs]; omega) (by omega) (by omega) (fun s hs => hQ s (List.mem_cons_of_mem _ hs))
    have hfold : ((⟨a - a % 256, a % 256, min n (256 - a % 256)⟩ : M.Str) :: M.strs (a + min n (256 - a % 256)) (n - min n (256 - a % 256))).foldl (chS m) (r, D) =
        (M.strs (a + min n (256 - a % 256)) (n - min n (256 - a % 256))).foldl (chS m) (r.extract (min n (256 - a % 256)).toNat r.size, D.put (klit (a - a % 256)) (pgD (patch (pgOf m (a - a % 256)) (a % 256) r))) := by
      rw [List.foldl_cons]
      simp only [chS, hk]
    rw [hfold]
    have hne : ∀ s ∈ M.strs (a + min n (256 - a % 256)) (n - min n (256 - a % 256)), s.pg ≠ a - a % 256 := fun s hs => by
      have := strs_pg a0 h s hs; omega
    have hkk := klit_key (x := a - a % 256) (by omega) (by omega)
    refine ⟨fun s hs => ?_, fun x x0 x1 hx => ?_⟩
    · rcases List.mem_cons.1 hs with rfl | hs
      · simp only
        rw [IH.2 _ (by omega) (by omega) hne, Maps.atKey_put_same hD hkk]
        rw [patch_over hps hpa (by omega)]
      · rw [IH.1 s hs]
        congr 1
        obtain ⟨hpa', hps'⟩ := pgOf_in hu (hQ s (List.mem_cons_of_mem _ hs))
        have hp := strs_pg a0 h s hs
        apply over_eq
        intro j hj
        have hl : (r.extract (min n (256 - a % 256)).toNat r.size).data.toList.length = r.size - (min n (256 - a % 256)).toNat := by rw [← Lib.size_eq, hrs]
        have hl2 : r.data.toList.length = r.size := by rw [← Lib.size_eq]
        rw [hpa', hl, hl2]
        by_cases hin : s.pg + (j : Int) < a + r.size
        · rw [if_pos (by omega), if_pos (by omega), Lib.extract_data, List.getD_eq_getElem?_getD, List.getD_eq_getElem?_getD, List.getElem?_take_of_lt (by omega), List.getElem?_drop]
          congr 2; omega
        · rw [if_neg (by omega), if_neg (by omega)]
    · rw [IH.2 x x0 x1 (fun s hs => hx s (List.mem_cons_of_mem _ hs)), Maps.atKey_put_other]
      have := hx _ List.mem_cons_self
      exact klit_ne x0 x1 (by omega) (by omega) (fun e => this (by simp only; omega))
termination_by n.toNat
decreasing_by omega
end Go.Proofs.YtclbkdnihhmglaaDoor

namespace Go.Proofs.YtclbkdnihhmglaaDoor
open Go.RowKit Go.Shelf

attribute [local go_sem] Oper.semAt_some

theorem cellsOf_set (m : List M.Pg) (i : Nat) (x : M.Pg) (h : i < m.length) : cellsOf (m.set i x) = (((cellsOf m).set (i * 3) (.int .u64 x.a)).set (i * 3 + 1) (.int .i64 x.p)).set (i * 3 + 2) (.string x.d) := by
  induction m generalizing i with
  | nil => simp at h
  | cons y m ih =>
    have e : ∀ (z : M.Pg) (k : List M.Pg), cellsOf (z :: k) = .int .u64 z.a :: .int .i64 z.p :: .string z.d :: cellsOf k := fun z k => rfl
    cases i with
    | zero => rw [List.set_cons_zero, e, e]; rfl
    | succ i =>
      rw [List.set_cons_succ, e, e, ih i (by simpa using h)]
      rw [show (i + 1) * 3 = i * 3 + 1 + 1 + 1 by omega]
      simp only [List.set_cons_succ]
/-- a row's page written over -/
def putPg (W : World) (g i : Nat) (x : M.Pg) : World := ((W.setCell ⟨g, i * 3, none⟩ (.int .u64 x.a)).setCell ⟨g, i * 3 + 1, none⟩ (.int .i64 x.p)).setCell ⟨g, i * 3 + 2, none⟩ (.string x.d)
theorem putPg_grown (W : World) (g i : Nat) (x : M.Pg) : W.grownBy (putPg W g i x) (some g) :=
  ((grownBy_put W g (i * 3) _).trans (grownBy_put _ g (i * 3 + 1) _)).trans (grownBy_put _ g (i * 3 + 2) _)
theorem OwnsP.put {W : World} {base g cap : Nat} {m : List M.Pg} (h : OwnsP W base (.slice (some ⟨g, 0, none⟩) m.length cap) m) (i : Nat) (x : M.Pg) (hi : i < m.length) :
    OwnsP (putPg W g i x) base (.slice (some ⟨g, 0, none⟩) m.length cap) (m.set i x) := by
  have h' : W.ownsRow base 43 3 (.slice (some ⟨g, 0, none⟩) m.length cap) m.length (cellsOf m) := h
  rcases h'.2 with ⟨e, _⟩ | ⟨g', cap', cur, e, hb, hg, h1, h2, h3, h4⟩
  · cases e
  · cases e
    have e1 := Whole.put (show Whole W g 43 cur from hg) (i * 3) (.int .u64 x.a)
    have e2 := e1.put (i * 3 + 1) (.int .i64 x.p)
    have e3 := e2.put (i * 3 + 2) (.string x.d)
    refine ⟨?_, .inr ⟨g, cap, _, ?_, hb, e3, ?_, h2, ?_, ?_⟩⟩
    · rw [cellsOf_length]
    · rw [List.length_set]
    · rw [List.length_set]; exact h1
    · simp [h3]
    · rw [List.length_set, cellsOf_set m i x hi, ← h4]
      simp only [Array.toList_setIfInBounds, List.take_set]
theorem ownsP_own {β : Type} {B₀ base : Nat} {v : Value} (f : β → List M.Pg) : OwnFrom B₀ (fun s W => OwnsP W base v (f s)) := by
  intro s W W' row h hg hr
  have h' : W.ownsRow base 43 3 v (f s).length (cellsOf (f s)) := h
  refine h'.kept hg ?_
  rcases h'.2 with ⟨rfl, _⟩ | ⟨g, cap, cur, rfl, _, hgb, _⟩
  · exact .inl rfl
  · refine .inr fun e' => ?_
    obtain ⟨_, o, ho, hc⟩ := hr g (by simpa [Value.ownBlock] using e'.symm)
    rw [hgb] at ho; cases ho; cases hc
theorem ownsP_kept {W W' : World} {base : Nat} {v : Value} {m : List M.Pg} {row : Option Nat} (h : OwnsP W base v m) (hg : W.grownBy W' row) (hne : v.ownBlock = none ∨ v.ownBlock ≠ row) : OwnsP W' base v m :=
  World.ownsRow.kept (show W.ownsRow base 43 3 v m.length (cellsOf m) from h) hg hne

theorem OwnsP.at_ {W : World} {base g n cap : Nat} {m : List M.Pg} (h : OwnsP W base (.slice (some ⟨g, 0, none⟩) n cap) m) (i : Nat) (hi : i < m.length) :
    ∃ cur, Whole W g 43 cur ∧ W.cell? ⟨g, i * 3, none⟩ = some (.int .u64 m[i].a) ∧ W.cell? ⟨g, i * 3 + 1, none⟩ = some (.int .i64 m[i].p) ∧ W.cell? ⟨g, i * 3 + 2, none⟩ = some (.string m[i].d) := by
  have hp := h.pages
  rcases hp with ⟨rfl, _⟩ | ⟨_, b, off, c, e, hP⟩
  · simp at hi
  · rcases (show W.ownsRow base 43 3 _ _ _ from h).2 with ⟨e', _⟩ | ⟨g', cap', cur, e', _, hg, _⟩
    · cases e'
    · cases e'
      obtain ⟨k0, k1, k2⟩ := cellsOf_at m i hi
      have h' : W.ownsRow base 43 3 (.slice (some ⟨g, 0, none⟩) m.length cap) m.length (cellsOf m) := h
      refine ⟨cur, hg, ?_, ?_, ?_⟩
      · rw [h'.cellAt (i * 3) (by omega)]; exact k0
      · rw [h'.cellAt (i * 3 + 1) (by omega)]; exact k1
      · rw [h'.cellAt (i * 3 + 2) (by omega)]; exact k2

/-- out, behind some rows of places -/
def outF (m : List M.Pg) (a : Int) (l : ByteArray) (pre : List M.Str) : List M.Pg := pre.foldl (fun o s => o.set (M.low m s.pg) (over (pgOf m s.pg) a l.data.toList)) m
theorem outF_snoc (m : List M.Pg) (a : Int) (l : ByteArray) (pre : List M.Str) (s : M.Str) : outF m a l (pre ++ [s]) = (outF m a l pre).set (M.low m s.pg) (over (pgOf m s.pg) a l.data.toList) := by simp [outF]
theorem outF_length (m : List M.Pg) (a : Int) (l : ByteArray) : ∀ pre, (outF m a l pre).length = m.length := by
  intro pre
  have : ∀ (pre : List M.Str) (o : List M.Pg), (pre.foldl (fun o s => o.set (M.low m s.pg) (over (pgOf m s.pg) a l.data.toList)) o).length = o.length := by
    intro pre
    induction pre with
    | nil => intro o; rfl
    | cons s pre ih => intro o; rw [List.foldl_cons, ih, List.length_set]
  exact this pre m
theorem foldl_set_get (m : List M.Pg) (a : Int) (l : ByteArray) (hm : ∀ s : M.Str, ∀ (h : M.low m s.pg < m.length), pgOf m s.pg = m[M.low m s.pg]) : ∀ (pre : List M.Str) (o : List M.Pg), o.length = m.length →
    ∀ i (h : i < m.length), (pre.foldl (fun o s => o.set (M.low m s.pg) (over (pgOf m s.pg) a l.data.toList)) o)[i]? = if ∃ s ∈ pre, M.low m s.pg = i then some (over m[i] a l.data.toList) else o[i]? := by
  intro pre
  induction pre with
  | nil => intro o _ i _; simp
  | cons s pre ih =>
    intro o ho i hi
    rw [List.foldl_cons, ih _ (by rw [List.length_set]; exact ho) i hi]
    by_cases h1 : ∃ s ∈ pre, M.low m s.pg = i
    · rw [if_pos h1, if_pos (by obtain ⟨s', hs, e⟩ := h1; exact ⟨s', List.mem_cons_of_mem _ hs, e⟩)]
    · rw [if_neg h1]
      by_cases h2 : M.low m s.pg = i
      · rw [if_pos ⟨s, List.mem_cons_self, h2⟩, h2, List.getElem?_set_self (by omega)]
        subst h2
        rw [hm s hi]
      · rw [if_neg (by rintro ⟨s', hs, e⟩; rcases List.mem_cons.1 hs with rfl | hs; exact h2 e; exact h1 ⟨s', hs, e⟩), List.getElem?_set_ne h2]
theorem outF_all {m : List M.Pg} (hr : M.Right m) {a : Int} {l : ByteArray} (a0 : 0 ≤ a) (hQ : ∀ s ∈ M.strs a l.size, InPg m s) : outF m a l (M.strs a l.size) = laid m a l.data.toList := by
  apply List.ext_getElem?
  intro i
  by_cases hi : i < m.length
  · unfold outF laid
    rw [foldl_set_get m a l (fun s h => by unfold pgOf; rw [List.getElem?_eq_getElem h]; rfl) _ m rfl i hi, List.getElem?_map, List.getElem?_eq_getElem hi]
    by_cases h : ∃ s ∈ M.strs a l.size, M.low m s.pg = i
    · rw [if_pos h]; rfl
    · rw [if_neg h]
      show some m[i] = some (over m[i] a l.data.toList)
      rw [over_out (hr.size hi)]
      intro j hj hin
      have hl : l.data.toList.length = l.size := by rw [← Lib.size_eq]
      rw [hl] at hin
      have hmd := hr.at_mod hi
      obtain ⟨s, hs, e1, e2, e3⟩ := M.strs_has (n := (l.size : Int)) a0 (m[i].a + j) hin.1 hin.2
      refine h ⟨s, hs, ?_⟩
      obtain ⟨ho, i', hi', hlo, hth, hds⟩ := hQ s hs
      obtain ⟨h1, h2⟩ := (M.there_iff hr.up s.pg).1 hth
      have e4 : s.pg = m[i].a := by omega
      rcases Nat.lt_trichotomy (M.low m s.pg) i with hlt | he | hgt
      · have := hr.at_lt hlt hi; omega
      · exact he
      · have := hr.at_lt hgt h1; omega
  · rw [List.getElem?_eq_none (by rw [outF_length]; omega), List.getElem?_eq_none (by simp [laid]; omega)]
end Go.Proofs.YtclbkdnihhmglaaDoor
