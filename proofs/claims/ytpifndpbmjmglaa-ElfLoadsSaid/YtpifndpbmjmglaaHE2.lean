/- What the texts of package resolve stand on, of the packages ir and pick (part 3). -/
import Derived.Test.YtpifndpbmjmglaaHE1
namespace Go.Proofs.Ytpifndpbmjmglaa
open Go.RowKit
/-- a page with the bytes l from the place a on laid over it -/
def over (x : M.Pg) (a : Int) (l : List UInt8) : M.Pg :=
  { x with d := ⟨((List.range 256).map (fun (j : Nat) => if a ≤ x.a + j ∧ x.a + j < a + l.length then l.getD (x.a + j - a).toNat 0 else x.d.data.toList.getD j 0)).toArray⟩ }
def laid (m : List M.Pg) (a : Int) (l : List UInt8) : List M.Pg := m.map (fun x => over x a l)
theorem over_eq {x : M.Pg} {a a' : Int} {l l' : List UInt8} (h : ∀ j : Nat, j < 256 → (if a ≤ x.a + j ∧ x.a + j < a + l.length then l.getD (x.a + j - a).toNat 0 else x.d.data.toList.getD j 0) = (if a' ≤ x.a + j ∧ x.a + j < a' + l'.length then l'.getD (x.a + j - a').toNat 0 else x.d.data.toList.getD j 0)) : over x a l = over x a' l' := by
  unfold over
  congr 3
  apply List.map_congr_left
  intro j hj
  exact h j (List.mem_range.1 hj)
theorem over_out {x : M.Pg} {a : Int} {l : List UInt8} (hs : x.d.size = 256) (h : ∀ j : Nat, j < 256 → ¬ (a ≤ x.a + j ∧ x.a + j < a + l.length)) : over x a l = x := by
  obtain ⟨xa, xp, ⟨xd⟩⟩ := x
  unfold over
  congr 2
  apply Array.ext'
  apply List.ext_getElem
  · have : xd.size = 256 := hs
    simp [this]
  · intro i h1 h2
    have hi : i < 256 := by simpa using h1
    rw [List.getElem_map, List.getElem_range, if_neg (h i hi), List.getD_eq_getElem?_getD, List.getElem?_eq_getElem h2]
    rfl
theorem patch_over {x : M.Pg} {a : Int} {r : ByteArray} (hs : x.d.size = 256) (hx : x.a = a - a % 256) (hr : 0 < r.size) : patch x (a % 256) r = over x a r.data.toList := by
  obtain ⟨xa, xp, ⟨xd⟩⟩ := x
  have hxd : xd.size = 256 := hs
  have hrs : r.data.toList.length = r.size := by rw [← Lib.size_eq]
  simp only at hx
  unfold patch over
  congr 2
  apply Array.ext'
  apply List.ext_getElem?
  intro i
  by_cases hi : i < 256
  · rw [show (((List.range 256).map (fun (j : Nat) => if a ≤ xa + j ∧ xa + j < a + r.data.toList.length then r.data.toList.getD (xa + j - a).toNat 0 else xd.toList.getD j 0)).toArray.toList)[i]? = some (if a ≤ xa + i ∧ xa + i < a + r.data.toList.length then r.data.toList.getD (xa + i - a).toNat 0 else xd.toList.getD i 0) by simp [hi]]
    rw [List.toList_toArray, hrs]
    by_cases h1 : i < (a % 256).toNat
    · rw [if_neg (by omega), List.append_assoc, List.getElem?_append_left (by simp; omega), List.getElem?_take_of_lt h1, List.getD_eq_getElem?_getD, List.getElem?_eq_getElem (by simp; omega)]
      rfl
    · by_cases h2 : i < (a % 256).toNat + min (256 - (a % 256).toNat) r.size
      · rw [if_pos (by omega), List.append_assoc, List.getElem?_append_right (by simp; omega)]
        have hl : (xd.toList.take (a % 256).toNat).length = (a % 256).toNat := by rw [List.length_take, Array.length_toList]; omega
        rw [hl, List.getElem?_append_left (by rw [List.length_take]; omega), List.getElem?_take_of_lt (by omega), List.getD_eq_getElem?_getD]
        rw [show (xa + (i : Int) - a).toNat = i - (a % 256).toNat by omega, List.getElem?_eq_getElem (by omega)]
        rfl
      · rw [if_neg (by omega), List.getElem?_append_right (by simp; omega)]
        have hl : (xd.toList.take (a % 256).toNat ++ r.data.toList.take (min (256 - (a % 256).toNat) r.size)).length = (a % 256).toNat + min (256 - (a % 256).toNat) r.size := by
          rw [List.length_append, List.length_take, List.length_take, Array.length_toList]; omega
        rw [hl, List.getElem?_drop, List.getD_eq_getElem?_getD]
        rw [show (a % 256).toNat + min (256 - (a % 256).toNat) r.size + (i - ((a % 256).toNat + min (256 - (a % 256).toNat) r.size)) = i by omega, List.getElem?_eq_getElem (by simp; omega)]
        rfl
  · rw [List.getElem?_eq_none (by simp; omega), List.getElem?_eq_none (by simp; omega)]
theorem pgOf_in {m : List M.Pg} {s : M.Str} (hu : m.Pairwise (fun x y => x.a < y.a)) (h : InPg m s) : (pgOf m s.pg).a = s.pg ∧ (pgOf m s.pg).d.size = 256 := by
  obtain ⟨ho, i, hi, hlo, hth, hds⟩ := h
  obtain ⟨h1, h2⟩ := (M.there_iff hu s.pg).1 hth
  unfold pgOf
  rw [List.getElem?_eq_getElem h1]
  subst hlo
  exact ⟨h2, hds⟩
theorem strs_pg {a n : Int} (a0 : 0 ≤ a) (h : a + n ≤ 18446744073709551616) (s : M.Str) (hs : s ∈ M.strs (a + min n (256 - a % 256)) (n - min n (256 - a % 256))) : a - a % 256 + 256 ≤ s.pg ∧ a + min n (256 - a % 256) ≤ s.pg := by
  by_cases hn : n - min n (256 - a % 256) ≤ 0
  · rw [M.strs_nil hn] at hs; cases hs
  · obtain ⟨ho, h1, h2⟩ := M.strs_ok (by omega) (by omega) s hs
    have := ho.md; have := ho.f0; have := ho.fn; have := ho.n1
    omega
theorem klit_key {x : Int} (h0 : 0 ≤ x) (h1 : x ≤ 18446744073709551615) : WideAt.IsKeyLit (klit x) := by
  have h := klit_of h0 h1
  generalize klit x = l at h ⊢
  exact keyed.key h
set_option maxRecDepth 100000 in
theorem ch_all {m : List M.Pg} (hu : m.Pairwise (fun x y => x.a < y.a)) (z : DataW Unit) (a n : Int) (r : ByteArray) (D : DataW Unit) (hD : Maps.IsMap D) (hr : (r.size : Int) = n) (a0 : 0 ≤ a) (h : a + n ≤ 18446744073709551616) (hQ : ∀ s ∈ M.strs a n, InPg m s) :
    (∀ s ∈ M.strs a n, ((M.strs a n).foldl (chS m) (r, D)).2.atKey (klit s.pg) z = pgD (over (pgOf m s.pg) a r.data.toList)) ∧
    (∀ x : Int, 0 ≤ x → x ≤ 18446744073709551615 → (∀ s ∈ M.strs a n, s.pg ≠ x) → ((M.strs a n).foldl (chS m) (r, D)).2.atKey (klit x) z = D.atKey (klit x) z) := by
  by_cases hn : n ≤ 0
  · rw [M.strs_nil hn]
    exact ⟨fun s hs => by (cases hs), fun x _ _ _ => rfl⟩
  · have hc := M.strs_cons (a := a) (n := n) (by omega)
    have ho := (M.strs_ok a0 h)
    rw [hc] at hQ ho ⊢
    have hk : (min (256 - (a % 256).toNat) r.size : Nat) = (min n (256 - a % 256)).toNat := by omega
    have hq0 := hQ _ List.mem_cons_self
    obtain ⟨hpa, hps⟩ := pgOf_in hu hq0
    have ho0 := (ho _ List.mem_cons_self).1
    have g0 := ho0.pg0
    have g1 := ho0.pg1
    simp only at hpa hps g0 g1
    have hrs : (r.extract (min n (256 - a % 256)).toNat r.size).size = r.size - (min n (256 - a % 256)).toNat := by simp
    have IH := ch_all hu z (a + min n (256 - a % 256)) (n - min n (256 - a % 256)) (r.extract (min n (256 - a % 256)).toNat r.size) (D.put (klit (a - a % 256)) (pgD (patch (pgOf m (a - a % 256)) (a % 256) r)))
      (Maps.IsMap.put hD _ _) (by rw [hrs]; omega) (by omega) (by omega) (fun s hs => hQ s (List.mem_cons_of_mem _ hs))
    have hfold : ((⟨a - a % 256, a % 256, min n (256 - a % 256)⟩ : M.Str) :: M.strs (a + min n (256 - a % 256)) (n - min n (256 - a % 256))).foldl (chS m) (r, D) =
        (M.strs (a + min n (256 - a % 256)) (n - min n (256 - a % 256))).foldl (chS m) (r.extract (min n (256 - a % 256)).toNat r.size, D.put (klit (a - a % 256)) (pgD (patch (pgOf m (a - a % 256)) (a % 256) r))) := by
      rw [List.foldl_cons]
      simp only [chS, hk]
    rw [hfold]
    have hne : ∀ s ∈ M.strs (a + min n (256 - a % 256)) (n - min n (256 - a % 256)), s.pg ≠ a - a % 256 := fun s hs => by
      have := strs_pg a0 h s hs; omega
    have hkk := klit_key (x := a - a % 256) (by omega) (by omega)
    refine ⟨fun s hs => ?_, fun x x0 x1 hx => ?_⟩
    · rcases List.mem_cons.1 hs with rfl | hs
      · simp only
        rw [IH.2 _ (by omega) (by omega) hne, Maps.atKey_put_same hD hkk]
        rw [patch_over hps hpa (by omega)]
      · rw [IH.1 s hs]
        congr 1
        obtain ⟨hpa', hps'⟩ := pgOf_in hu (hQ s (List.mem_cons_of_mem _ hs))
        have hp := strs_pg a0 h s hs
        apply over_eq
        intro j hj
        have hl : (r.extract (min n (256 - a % 256)).toNat r.size).data.toList.length = r.size - (min n (256 - a % 256)).toNat := by rw [← Lib.size_eq, hrs]
        have hl2 : r.data.toList.length = r.size := by rw [← Lib.size_eq]
        rw [hpa', hl, hl2]
        by_cases hin : s.pg + (j : Int) < a + r.size
        · rw [if_pos (by omega), if_pos (by omega), Lib.extract_data, List.getD_eq_getElem?_getD, List.getD_eq_getElem?_getD, List.getElem?_take_of_lt (by omega), List.getElem?_drop]
          congr 2; omega
        · rw [if_neg (by omega), if_neg (by omega)]
    · rw [IH.2 x x0 x1 (fun s hs => hx s (List.mem_cons_of_mem _ hs)), Maps.atKey_put_other]
      have := hx _ List.mem_cons_self
      exact klit_ne x0 x1 (by omega) (by omega) (fun e => this (by simp only; omega))
termination_by n.toNat
decreasing_by omega
end Go.Proofs.Ytpifndpbmjmglaa
namespace Go.Proofs.Ytpifndpbmjmglaa
open Go.RowKit Go.Shelf
attribute [local go_sem] Oper.semAt_some
theorem cellsOf_set (m : List M.Pg) (i : Nat) (x : M.Pg) (h : i < m.length) : cellsOf (m.set i x) = (((cellsOf m).set (i * 3) (.int .u64 x.a)).set (i * 3 + 1) (.int .i64 x.p)).set (i * 3 + 2) (.string x.d) := by
  induction m generalizing i with
  | nil => simp at h
  | cons y m ih =>
    have e : ∀ (z : M.Pg) (k : List M.Pg), cellsOf (z :: k) = .int .u64 z.a :: .int .i64 z.p :: .string z.d :: cellsOf k := fun z k => rfl
    cases i with
    | zero => rw [List.set_cons_zero, e, e]; rfl
    | succ i =>
      rw [List.set_cons_succ, e, e, ih i (by simpa using h)]
      rw [show (i + 1) * 3 = i * 3 + 1 + 1 + 1 by omega]
      simp only [List.set_cons_succ]
/-- a row's page written over -/
def putPg (W : World) (g i : Nat) (x : M.Pg) : World := ((W.setCell ⟨g, i * 3, none⟩ (.int .u64 x.a)).setCell ⟨g, i * 3 + 1, none⟩ (.int .i64 x.p)).setCell ⟨g, i * 3 + 2, none⟩ (.string x.d)
theorem putPg_grown (W : World) (g i : Nat) (x : M.Pg) : W.grownBy (putPg W g i x) (some g) :=
  ((grownBy_put W g (i * 3) _).trans (grownBy_put _ g (i * 3 + 1) _)).trans (grownBy_put _ g (i * 3 + 2) _)
theorem OwnsP.put {W : World} {base g cap : Nat} {m : List M.Pg} (h : OwnsP W base (.slice (some ⟨g, 0, none⟩) m.length cap) m) (i : Nat) (x : M.Pg) (hi : i < m.length) :
    OwnsP (putPg W g i x) base (.slice (some ⟨g, 0, none⟩) m.length cap) (m.set i x) := by
  have h' : W.ownsRow base 70 3 (.slice (some ⟨g, 0, none⟩) m.length cap) m.length (cellsOf m) := h
  rcases h'.2 with ⟨e, _⟩ | ⟨g', cap', cur, e, hb, hg, h1, h2, h3, h4⟩
  · cases e
  · cases e
    have e1 := Whole.put (show Whole W g 70 cur from hg) (i * 3) (.int .u64 x.a)
    have e2 := e1.put (i * 3 + 1) (.int .i64 x.p)
    have e3 := e2.put (i * 3 + 2) (.string x.d)
    refine ⟨?_, .inr ⟨g, cap, _, ?_, hb, e3, ?_, h2, ?_, ?_⟩⟩
    · rw [cellsOf_length]
    · rw [List.length_set]
    · rw [List.length_set]; exact h1
    · simp [h3]
    · rw [List.length_set, cellsOf_set m i x hi, ← h4]
      simp only [Array.toList_setIfInBounds, List.take_set]
theorem ownsP_own {β : Type} {B₀ base : Nat} {v : Value} (f : β → List M.Pg) : OwnFrom B₀ (fun s W => OwnsP W base v (f s)) := by
  intro s W W' row h hg hr
  have h' : W.ownsRow base 70 3 v (f s).length (cellsOf (f s)) := h
  refine h'.kept hg ?_
  rcases h'.2 with ⟨rfl, _⟩ | ⟨g, cap, cur, rfl, _, hgb, _⟩
  · exact .inl rfl
  · refine .inr fun e' => ?_
    obtain ⟨_, o, ho, hc⟩ := hr g (by simpa [Value.ownBlock] using e'.symm)
    rw [hgb] at ho; cases ho; cases hc
theorem ownsP_kept {W W' : World} {base : Nat} {v : Value} {m : List M.Pg} {row : Option Nat} (h : OwnsP W base v m) (hg : W.grownBy W' row) (hne : v.ownBlock = none ∨ v.ownBlock ≠ row) : OwnsP W' base v m :=
  World.ownsRow.kept (show W.ownsRow base 70 3 v m.length (cellsOf m) from h) hg hne
theorem OwnsP.at_ {W : World} {base g n cap : Nat} {m : List M.Pg} (h : OwnsP W base (.slice (some ⟨g, 0, none⟩) n cap) m) (i : Nat) (hi : i < m.length) :
    ∃ cur, Whole W g 70 cur ∧ W.cell? ⟨g, i * 3, none⟩ = some (.int .u64 m[i].a) ∧ W.cell? ⟨g, i * 3 + 1, none⟩ = some (.int .i64 m[i].p) ∧ W.cell? ⟨g, i * 3 + 2, none⟩ = some (.string m[i].d) := by
  have hp := h.pages
  rcases hp with ⟨rfl, _⟩ | ⟨_, b, off, c, e, hP⟩
  · simp at hi
  · rcases (show W.ownsRow base 70 3 _ _ _ from h).2 with ⟨e', _⟩ | ⟨g', cap', cur, e', _, hg, _⟩
    · cases e'
    · cases e'
      obtain ⟨k0, k1, k2⟩ := cellsOf_at m i hi
      have h' : W.ownsRow base 70 3 (.slice (some ⟨g, 0, none⟩) m.length cap) m.length (cellsOf m) := h
      refine ⟨cur, hg, ?_, ?_, ?_⟩
      · rw [h'.cellAt (i * 3) (by omega)]; exact k0
      · rw [h'.cellAt (i * 3 + 1) (by omega)]; exact k1
      · rw [h'.cellAt (i * 3 + 2) (by omega)]; exact k2
/-- out, behind some rows of places -/
def outF (m : List M.Pg) (a : Int) (l : ByteArray) (pre : List M.Str) : List M.Pg := pre.foldl (fun o s => o.set (M.low m s.pg) (over (pgOf m s.pg) a l.data.toList)) m
theorem outF_snoc (m : List M.Pg) (a : Int) (l : ByteArray) (pre : List M.Str) (s : M.Str) : outF m a l (pre ++ [s]) = (outF m a l pre).set (M.low m s.pg) (over (pgOf m s.pg) a l.data.toList) := by simp [outF]
theorem outF_length (m : List M.Pg) (a : Int) (l : ByteArray) : ∀ pre, (outF m a l pre).length = m.length := by
  intro pre
  have : ∀ (pre : List M.Str) (o : List M.Pg), (pre.foldl (fun o s => o.set (M.low m s.pg) (over (pgOf m s.pg) a l.data.toList)) o).length = o.length := by
    intro pre
    induction pre with
    | nil => intro o; rfl
    | cons s pre ih => intro o; rw [List.foldl_cons, ih, List.length_set]
  exact this pre m
theorem foldl_set_get (m : List M.Pg) (a : Int) (l : ByteArray) (hm : ∀ s : M.Str, ∀ (h : M.low m s.pg < m.length), pgOf m s.pg = m[M.low m s.pg]) : ∀ (pre : List M.Str) (o : List M.Pg), o.length = m.length →
    ∀ i (h : i < m.length), (pre.foldl (fun o s => o.set (M.low m s.pg) (over (pgOf m s.pg) a l.data.toList)) o)[i]? = if ∃ s ∈ pre, M.low m s.pg = i then some (over m[i] a l.data.toList) else o[i]? := by
  intro pre
  induction pre with
  | nil => intro o _ i _; simp
  | cons s pre ih =>
    intro o ho i hi
    rw [List.foldl_cons, ih _ (by rw [List.length_set]; exact ho) i hi]
    by_cases h1 : ∃ s ∈ pre, M.low m s.pg = i
    · rw [if_pos h1, if_pos (by obtain ⟨s', hs, e⟩ := h1; exact ⟨s', List.mem_cons_of_mem _ hs, e⟩)]
    · rw [if_neg h1]
      by_cases h2 : M.low m s.pg = i
      · rw [if_pos ⟨s, List.mem_cons_self, h2⟩, h2, List.getElem?_set_self (by omega)]
        subst h2
        rw [hm s hi]
      · rw [if_neg (by rintro ⟨s', hs, e⟩; rcases List.mem_cons.1 hs with rfl | hs; exact h2 e; exact h1 ⟨s', hs, e⟩), List.getElem?_set_ne h2]
theorem outF_all {m : List M.Pg} (hr : M.Right m) {a : Int} {l : ByteArray} (a0 : 0 ≤ a) (hQ : ∀ s ∈ M.strs a l.size, InPg m s) : outF m a l (M.strs a l.size) = laid m a l.data.toList := by
  apply List.ext_getElem?
  intro i
  by_cases hi : i < m.length
  · unfold outF laid
    rw [foldl_set_get m a l (fun s h => by unfold pgOf; rw [List.getElem?_eq_getElem h]; rfl) _ m rfl i hi, List.getElem?_map, List.getElem?_eq_getElem hi]
    by_cases h : ∃ s ∈ M.strs a l.size, M.low m s.pg = i
    · rw [if_pos h]; rfl
    · rw [if_neg h]
      show some m[i] = some (over m[i] a l.data.toList)
      rw [over_out (hr.size hi)]
      intro j hj hin
      have hl : l.data.toList.length = l.size := by rw [← Lib.size_eq]
      rw [hl] at hin
      have hmd := hr.at_mod hi
      obtain ⟨s, hs, e1, e2, e3⟩ := M.strs_has (n := (l.size : Int)) a0 (m[i].a + j) hin.1 hin.2
      refine h ⟨s, hs, ?_⟩
      obtain ⟨ho, i', hi', hlo, hth, hds⟩ := hQ s hs
      obtain ⟨h1, h2⟩ := (M.there_iff hr.up s.pg).1 hth
      have e4 : s.pg = m[i].a := by omega
      rcases Nat.lt_trichotomy (M.low m s.pg) i with hlt | he | hgt
      · have := hr.at_lt hlt hi; omega
      · exact he
      · have := hr.at_lt hgt h1; omega
  · rw [List.getElem?_eq_none (by rw [outF_length]; omega), List.getElem?_eq_none (by simp [laid]; omega)]
end Go.Proofs.Ytpifndpbmjmglaa
namespace Go.Proofs.Ytpifndpbmjmglaa
open Go.RowKit Go.Shelf
attribute [local go_sem] Oper.semAt_some
set_option maxRecDepth 100000 in
set_option maxHeartbeats 4000000 in
theorem lay_any {m : List M.Pg} {v : Value} (a : Int) (l : ByteArray) {w : World} (hP : Pages w v m) (hr : M.Right m)
    (a0 : 0 ≤ a) (a1 : a ≤ 18446744073709551615) (k1 : l.size ≤ 100000) (hk : a + l.size ≤ 18446744073709551616) (hQ : ∀ s ∈ M.strs a l.size, InPg m s) :
    Calls Try.prog 42 #[v, .int .u64 a, .string l] w (NewPages (laid m a l.data.toList) w) := by
  have hml : m.length ≤ 1000000 := Nat.le_trans hr.len (by omega)
  have HF := Lib.hid (fun (W : World) (h : Below w.heap.size w W) (x : Int) => find_any x (hP.next h) hml hr.up)
  have HC := Lib.hid (fun (W : World) (h : Below w.heap.size w W) => changed_in a l (hP.next h) hml hr.up a0 a1 k1 hk hQ)
  have HCL := Lib.hid (fun (W : World) (h : Below w.heap.size w W) => clone_any (hP.next h) (by have := hr.len; omega))
  have HA := Lib.hid (fun (s : M.Str) (hs : s ∈ M.strs a l.size) => (ch_all hr.up (pgD ⟨0, 0, ⟨#[]⟩⟩) a l.size l (.map []) Maps.isMap_empty rfl a0 hk hQ).1 s hs)
  have HO := Lib.hid (outF_all hr a0 hQ)
  have HQ := Lib.hid hQ
  have HR := Lib.hid hr
  obtain ⟨A, cap, hv⟩ := hP.slice
  obtain ⟨nv, hnv⟩ : ∃ nv, m.length = nv := ⟨_, rfl⟩
  have HN := Lib.hid hnv
  rw [hnv] at hv
  subst hv
  clear hP hnv hQ hml hr
  refine (callsIn_wide (n := 3)).1 ?_
  refine callsIn_of_wp_marks Try.func42 rfl trivial ?_ rfl
  simp only [Try.ntmps42, List.size_toArray, List.length_cons, List.length_nil, Nat.reduceAdd, Nat.reduceSub, Array.replicate_succ, Array.replicate_zero, List.push_toArray, List.append_toArray, List.nil_append, List.cons_append]
  gi_wp2_with (fail)
  refine ⟨trivial, ?_⟩
  refine (callsIn_wide.2 (HC.out _ (balloc (Below.refl _ _) _))).mono ?_
  rintro e w1 ⟨mb, mn, rfl, hmb, hom, hb1⟩
  have bV := boxed_below (Boxed.new w 28 (.slice A nv cap)) hb1
  have B1 := Lib.hid (bthen (balloc (Below.refl _ w) (.cells #[.slice A nv cap] 28)) hb1)
  have HM := Lib.hid hom
  have hmb' : w.heap.size < mb := by simp at hmb; omega
  clear hom hb1 hmb
  have c1 := (bV.alloc (.cells #[.map (some mb)] 106)).cell
  have HV := Lib.hid bV
  clear bV
  gi_wp2_with (fail)
  refine ⟨trivial, ?_⟩
  refine (callsIn_wide.2 (HCL.out _ (balloc B1.out _))).mono ?_
  rintro e w2 ⟨ov, rfl, hown, hb2⟩
  obtain ⟨A2, cap2, hv2⟩ := hown.pages.slice
  rw [HN.out] at hv2
  subst hv2
  have hb2' := bthen (balloc B1.out (.cells #[.map (some mb)] 106)) hb2
  have bM1 := Boxed.new w1 106 (.map (some mb))
  have hm1 := HM.out.lt
  have hB2s : w1.heap.size + 1 ≤ w2.heap.size := by have := hb2.size; simp at this; omega
  have hz1 : w.heap.size < w1.heap.size := HV.out.lt
  obtain ⟨B2, hB2⟩ : ∃ B2, (w1.alloc (.cells #[.map (some mb)] 106)).heap.size = B2 := ⟨_, rfl⟩
  have hB2v : B2 = w1.heap.size + 1 := by rw [← hB2]; simp
  have bV := (((boxed_below (HV.out.alloc (.cells #[.map (some mb)] 106)) hb2).alloc (.cells #[.slice A2 nv cap2] 28)).alloc (.cells #[.int .u64 a] 22)).alloc (.cells #[.int .i64 (l.size : Int)] 3)
  have bM := (((boxed_below bM1 hb2).alloc (.cells #[.slice A2 nv cap2] 28)).alloc (.cells #[.int .u64 a] 22)).alloc (.cells #[.int .i64 (l.size : Int)] 3)
  have bO := ((Boxed.new w2 28 (.slice A2 nv cap2)).alloc (.cells #[.int .u64 a] 22)).alloc (.cells #[.int .i64 (l.size : Int)] 3)
  have bA := (Boxed.new (w2.alloc (.cells #[.slice A2 nv cap2] 28)) 22 (.int .u64 a)).alloc (.cells #[.int .i64 (l.size : Int)] 3)
  have bK := Boxed.new ((w2.alloc (.cells #[.slice A2 nv cap2] 28)).alloc (.cells #[.int .u64 a] 22)) 3 (.int .i64 (l.size : Int))
  have oM := ((((HM.out.alloc (.cells #[.map (some mb)] 106)).kept (w' := w2) (row := none) ⟨hb2.os, hb2.tape, hb2.output, hb2.size, fun k hk _ => hb2.block k hk⟩ (by simp)).alloc (.cells #[.slice A2 nv cap2] 28)).alloc (.cells #[.int .u64 a] 22)).alloc (.cells #[.int .i64 (l.size : Int)] 3)
  rw [hB2] at hown
  have own : OwnsP (((w2.alloc (.cells #[.slice A2 nv cap2] 28)).alloc (.cells #[.int .u64 a] 22)).alloc (.cells #[.int .i64 (l.size : Int)] 3)) B2 (.slice A2 nv cap2) m := ownsP_kept (ownsP_kept (ownsP_kept hown (World.grownBy_alloc _ _ none) (by cases A2 <;> simp [Value.ownBlock])) (World.grownBy_alloc _ _ none) (by cases A2 <;> simp [Value.ownBlock])) (World.grownBy_alloc _ _ none) (by cases A2 <;> simp [Value.ownBlock])
  have hB0 := balloc (balloc (balloc hb2' (.cells #[.slice A2 nv cap2] 28)) (.cells #[.int .u64 a] 22)) (.cells #[.int .i64 (l.size : Int)] 3)
  have hsz : (((w2.alloc (.cells #[.slice A2 nv cap2] 28)).alloc (.cells #[.int .u64 a] 22)).alloc (.cells #[.int .i64 (l.size : Int)] 3)).heap.size = w2.heap.size + 3 := by simp
  clear hb2 hb2' hown c1 bM1
  gi_wp2_with (fail)
  refine ⟨trivial, ?_⟩
  refine (stretches_in 2 _ _ _).mono ?_
  rintro e w3 ⟨rfl, rfl⟩
  gi_wp2_with (fail)
  simp only [World.size_alloc] at bA bK
  generalize (((w2.alloc (.cells #[.slice A2 nv cap2] 28)).alloc (.cells #[.int .u64 a] 22)).alloc (.cells #[.int .i64 (l.size : Int)] 3)) = W0 at *
  refine wpIn_rangeFunc_ownH (α := {s : M.Str // InPg m s ∧ s ∈ M.strs a l.size}) rfl (by omega) (gf := 63) (lb := #[.pointer (some ⟨w2.heap.size + 1, 0, none⟩), .pointer (some ⟨w2.heap.size + 1 + 1, 0, none⟩)]) rfl trivial (enters_of Try.func63 (by kernel_rfl) rfl)
    (strs_stops 2 (by omega) (w2.heap.size + 1) (w2.heap.size + 1 + 1) a l.size (fun s => InPg m s ∧ s ∈ M.strs a l.size) (fun s hs => ⟨HQ.out s hs, hs⟩) a0 a1 (by omega) hk W0 (by omega) (by omega) bA.cell bK.cell) KeepS.trans keepS_b (Below.refl _ _) (fun _ => rfl)
    (fun pre W => (Boxed W w.heap.size 28 (.slice A nv cap) ∧ Boxed W w1.heap.size 106 (.map (some mb)) ∧ Boxed W w2.heap.size 28 (.slice A2 nv cap2)) ∧ World.ownsMap W Try.prog 109 pageR mb mn (chF m l (M.strs a l.size)).2 ∧ OwnsP W B2 (.slice A2 nv cap2) (outF m a l (pre.map Subtype.val)) ∧ Below w.heap.size w W)
    (fun _ _ _ => False)
    (OwnFrom.and (OwnFrom.and (Own.from (boxed_own _ _ _) _) (OwnFrom.and (Own.from (boxed_own _ _ _) _) (Own.from (boxed_own _ _ _) _))) (OwnFrom.and (fun _ _ _ _ h hg hr => h.kept hg (fun e => by have := (hr _ e.symm).1; omega)) (OwnFrom.and (ownsP_own (fun pre : List {s : M.Str // InPg m s ∧ s ∈ M.strs a l.size} => outF m a l (pre.map Subtype.val))) (ownFrom_below (Nat.le_refl _) (by omega)))))
    (fun _ _ _ _ _ hs _ _ => hs)
    ⟨⟨bV, bM, bO⟩, oM, own, hB0⟩
    (fun x a' W => ∃ Bx, BoxedS W Bx x.1 ∧ a' = { tmps := #[.slice A nv cap, .int .u64 a, .string l, .pointer (some ⟨w.heap.size, 0, none⟩), undef, undef, .slice none 0 0, .pointer (some ⟨w1.heap.size, 0, none⟩), .pointer (some ⟨w2.heap.size, 0, none⟩), .pointer (some ⟨Bx, 0, none⟩), undef, undef, .slice A nv cap, .int .u64 a, .string l, .map (some mb), .slice A nv cap, .slice A2 nv cap2, .int .u64 a, .string l, .int .i64 (l.size : Int), .func (.func 63) #[] #[.pointer (some ⟨w2.heap.size + 1, 0, none⟩), .pointer (some ⟨w2.heap.size + 1 + 1, 0, none⟩)], encS x.1, undef, undef, undef, undef, undef, undef, undef, undef, undef, undef, undef, undef, undef, undef, undef, undef], defers := [] })
    (fun x a' s X Y row hs hg hr => by obtain ⟨Bx, h1, h2⟩ := hs; exact ⟨Bx, boxedS_own Bx x.1 () X Y row h1 hg hr, h2⟩)
    ?assign ?body ?done ?stop
  case assign =>
    rintro l pre x W K ⟨⟨b1, b2, b3⟩, om, ow, hb⟩ hK
    have HK := Lib.hid hK
    clear hK
    obtain ⟨⟨pg, f, n⟩, hx⟩ := x
    simp only [encS]
    gi_wp2
    exact HK.out _ _ ((KeepsOthers.alloc _ _).from _) (KeepS.below (balloc (Below.refl _ _) _)) ⟨⟨b1.alloc _, b2.alloc _, b3.alloc _⟩, om.alloc _, ownsP_kept ow (World.grownBy_alloc _ _ none) (by cases A2 <;> simp [Value.ownBlock]), balloc hb _⟩ ⟨W.heap.size, BoxedS.new W ⟨pg, f, n⟩, rfl⟩
  case body =>
    rintro lo pre x a' W hl0 hr' ⟨⟨b1, b2, b3⟩, om, ow, hb⟩ ⟨Bx, bx, rfl⟩ hlen
    obtain ⟨hin, hxs⟩ := x.2
    obtain ⟨ho, i, hi, hlo, hth, hds⟩ := hin
    have hi' : i < nv := by rw [← HN.out]; exact hi
    have hol : (outF m a l (pre.map Subtype.val)).length = nv := by rw [outF_length]; exact HN.out
    have ow' : W.ownsRow B2 70 3 (.slice A2 nv cap2) (outF m a l (pre.map Subtype.val)).length (cellsOf (outF m a l (pre.map Subtype.val))) := ow
    obtain ⟨g, cp, hgv, hB2g, hgl⟩ := ow'.form (by omega)
    injection hgv with hA2 hl2 hcp
    subst hA2
    subst hcp
    have HOL := Lib.hid hol
    have HGW := Lib.hid (show g < W0.heap.size by
      obtain ⟨_, h, _⟩ := OwnsP.at_ own i hi
      exact h.lt)
    clear ow' hl2 hol
    have HG := Lib.hid (HF.out W hb x.1.pg)
    rw [hlo, hth] at HG
    obtain ⟨nw, hnw⟩ : ∃ nw, over (pgOf m x.1.pg) a l.data.toList = nw := ⟨_, rfl⟩
    have hat := HA.out x.1 hxs
    rw [hnw] at hat
    have HKL := Lib.hid (klit_of (x := x.1.pg) (by have := ho.pg0; omega) (by have := ho.pg1; omega))
    have look : ∀ X : World, X.ownsMap Try.prog 109 pageR mb mn (chF m l (M.strs a l.size)).2 → (Instr.lookup 106 (.map (some mb)) (.agg #[.int .u64 x.1.pg]) false).run Try.prog X = .ok (pgV nw) X := fun X hX => by
      obtain ⟨v, ps, hrun, hv⟩ := hX.lookup keyed Try.underlying106 (Try.zeroValue70 X) (pageR_of ⟨0, 0, ⟨#[]⟩⟩) HKL.out
      unfold chF at hv
      rw [hat] at hv
      rw [hrun, pageR_inv hv]
    have HL := Lib.hid look
    have HNW := Lib.hid hnw
    have HI := Lib.hid (show (Boxed W w.heap.size 28 (.slice A nv cap) ∧ Boxed W w1.heap.size 106 (.map (some mb)) ∧ Boxed W w2.heap.size 28 (.slice (some ⟨g, 0, none⟩) nv cap2)) ∧ World.ownsMap W Try.prog 109 pageR mb mn (chF m l (M.strs a l.size)).2 ∧ OwnsP W B2 (.slice (some ⟨g, 0, none⟩) nv cap2) (outF m a l (pre.map Subtype.val)) ∧ Below w.heap.size w W from ⟨⟨b1, b2, b3⟩, om, ow, hb⟩)
    have HX := Lib.hid bx
    have HLO := Lib.hid hlo
    have c1 := b1.cell
    obtain ⟨c3, -, -⟩ := bx.cells
    have HEN := Lib.hid (show encS x.1 = .agg #[.int .u64 x.1.pg, .int .i64 x.1.f, .int .i64 x.1.n] from rfl)
    rw [HEN.out]
    obtain ⟨pg, hpg⟩ : ∃ pg, x.1.pg = pg := ⟨_, rfl⟩
    rw [hpg] at HG c3 HL ⊢
    have HXP := Lib.hid hpg
    clear hb b1 b2 b3 bx hr' hlen hpg hlo hth ho om ow hnw hat look hxs hds
    gi_wp2_with (fail)
    refine ⟨trivial, ?_⟩
    refine (CallsIn.inRound lo (callsIn_wide.2 HG.out)).mono ?_
    rintro e w1' ⟨rfl, hb1⟩
    have HB1 := Lib.hid hb1
    clear hb1 c1 c3
    gi_wp2_with (fail)
    obtain ⟨na, np, nd⟩ := nw
    have q1 : Boxed w1'.drew w2.heap.size 28 (.slice (some ⟨g, 0, none⟩) nv cap2) := show Boxed w1' _ _ _ from boxed_below HI.out.1.2.2 HB1.out
    have q2 : Boxed w1'.drew w1.heap.size 106 (.map (some mb)) := show Boxed w1' _ _ _ from boxed_below HI.out.1.2.1 HB1.out
    have q0 : Boxed w1'.drew w.heap.size 28 (.slice A nv cap) := show Boxed w1' _ _ _ from boxed_below HI.out.1.1 HB1.out
    have hgW : W.grownBy w1'.drew none := by
      have h := HB1.out.trans ((Below.refl _ _).drew)
      exact ⟨h.os, h.tape, h.output, h.size, fun k hk _ => h.block k hk⟩
    have q3 : BoxedS w1'.drew Bx x.1 := (hgW.block Bx HX.out.lt (by simp)).trans HX.out
    have q4 := HI.out.2.1.kept hgW (by simp)
    have q5 := ownsP_kept HI.out.2.2.1 hgW (by simp [Value.ownBlock])
    have q6 : Below W.heap.size W w1'.drew := HB1.out.trans ((Below.refl _ _).drew)
    have q7 : Below w.heap.size w w1'.drew := bthen HI.out.2.2.2 q6
    have x3 := q3.cells.1
    rw [HXP.out] at x3
    have hlk := HL.out _ q4
    have i0 : (0 : Int) ≤ (i : Int) := Int.natCast_nonneg _
    have i1 : (i : Int) < (nv : Int) := by omega
    refine round_held (S := fun W' => W'.cell? ⟨w2.heap.size, 0, none⟩ = some (.slice (some ⟨g, 0, none⟩) nv cap2) ∧ W'.cell? ⟨w1.heap.size, 0, none⟩ = some (.map (some mb)) ∧ W'.cell? ⟨Bx, 0, none⟩ = some (.int .u64 pg) ∧ (Instr.lookup 106 (.map (some mb)) (.agg #[.int .u64 pg]) false).run Try.prog W' = .ok (.agg #[.int .u64 na, .int .i64 np, .string nd]) W') (by kernel_rfl) (by simp) ⟨q1.cell, q2.cell, x3, hlk⟩ (fun hHeld => ?_)
    generalize w1'.drew = V at *
    refine wpAnyH_take (i := 0) (v := ?_) rfl (by kernel_rfl) (by kernel_rfl) (by kernel_rfl) (fun _ _ _ h => nomatch h.1) (Or.inl ⟨by rfl, ?_⟩) (by assumption) ?_
    rotate_left
    · intro w hSw; (try dsimp only at hSw); obtain ⟨s1, s2, s3, s4⟩ := hSw; go_simp; try (with_reducible rfl)
    (try simp only [Act.put])
    refine wpAnyH_take (i := 1) (v := ?_) rfl (by kernel_rfl) (by kernel_rfl) (by kernel_rfl) (fun _ _ _ h => nomatch h.1) (Or.inl ⟨by rfl, ?_⟩) (by assumption) ?_
    rotate_left
    · intro w hSw; (try dsimp only at hSw); obtain ⟨s1, s2, s3, s4⟩ := hSw; go_simp; try (with_reducible rfl)
    (try simp only [Act.put])
    refine wpAnyH_take (i := 2) (v := ?_) rfl (by kernel_rfl) (by kernel_rfl) (by kernel_rfl) (fun _ _ _ h => nomatch h.1) (Or.inl ⟨by rfl, ?_⟩) (by assumption) ?_
    rotate_left
    · intro w hSw; (try dsimp only at hSw); obtain ⟨s1, s2, s3, s4⟩ := hSw; go_simp; try (with_reducible rfl)
    (try simp only [Act.put])
    refine wpAnyH_take (i := 3) (v := ?_) rfl (by kernel_rfl) (by kernel_rfl) (by kernel_rfl) (fun _ _ _ h => nomatch h.1) (Or.inl ⟨by rfl, ?_⟩) (by assumption) ?_
    rotate_left
    · intro w hSw; (try dsimp only at hSw); obtain ⟨s1, s2, s3, s4⟩ := hSw; go_simp; try (with_reducible rfl)
    (try simp only [Act.put])
    refine wpAnyH_take (i := 4) (v := ?_) rfl (by kernel_rfl) (by kernel_rfl) (by kernel_rfl) (fun _ _ _ h => nomatch h.1) (Or.inl ⟨by rfl, ?_⟩) (by assumption) ?_
    rotate_left
    · intro w hSw; (try dsimp only at hSw); obtain ⟨s1, s2, s3, s4⟩ := hSw; go_simp; try (with_reducible rfl)
    (try simp only [Act.put])
    refine wpAnyH_take (i := 5) (v := ?_) rfl (by kernel_rfl) (by kernel_rfl) (by kernel_rfl) (fun _ _ _ h => nomatch h.1) (Or.inl ⟨by rfl, ?_⟩) (by assumption) ?_
    rotate_left
    · intro w hSw; (try dsimp only at hSw); obtain ⟨s1, s2, s3, s4⟩ := hSw; go_simp; try (with_reducible rfl)
    (try simp only [Act.put])
    refine wpAnyH_take (i := 6) (v := ?_) rfl (by kernel_rfl) (by kernel_rfl) (by kernel_rfl) (fun _ _ _ h => nomatch h.1) (Or.inl ⟨by rfl, ?_⟩) (by assumption) ?_
    rotate_left
    · intro w hSw; (try dsimp only at hSw); obtain ⟨s1, s2, s3, s4⟩ := hSw; go_simp; try (with_reducible rfl)
    (try simp only [Act.put])
    refine wpAnyH_take (i := 7) (v := ?_) rfl (by kernel_rfl) (by kernel_rfl) (by kernel_rfl) (fun _ _ _ h => nomatch h.1) (Or.inl ⟨by rfl, ?_⟩) (by assumption) ?_
    rotate_left
    · intro w hSw; (try dsimp only at hSw); obtain ⟨s1, s2, s3, s4⟩ := hSw; go_simp; try (with_reducible rfl)
    (try simp only [Act.put])
    have hio : i < (outF m a l (pre.map Subtype.val)).length := by rw [HOL.out]; exact hi'
    have q5' : OwnsP V B2 (.slice (some ⟨g, 0, none⟩) (outF m a l (pre.map Subtype.val)).length cap2) (outF m a l (pre.map Subtype.val)) := by rw [HOL.out]; exact q5
    obtain ⟨cur, y0, y1, y2, hcur, t0, t1, t2⟩ : ∃ (cur : Array Value) (y0 y1 y2 : Value), Whole V g 70 cur ∧ V.cell? ⟨g, i * 3, none⟩ = some y0 ∧ V.cell? ⟨g, i * 3 + 1, none⟩ = some y1 ∧ V.cell? ⟨g, i * 3 + 2, none⟩ = some y2 := by
      obtain ⟨cur, h⟩ := OwnsP.at_ q5' i hio
      exact ⟨cur, _, _, _, h⟩
    refine wpAnyH_ready (rs := [8]) (by kernel_rfl) (by simp) ?_
    refine AllReadyH.cons rfl (fun K hK => ?_) AllReadyH.nil
    have r0 := hcur.free (i * 3)
    have r1 := hcur.free (i * 3 + 1)
    have r2 := hcur.free (i * 3 + 2)
    go_simp
    have hpg := putPg_grown V g i ⟨na, np, nd⟩
    have hput := q5'.put i ⟨na, np, nd⟩ hio
    have n1 : some w2.heap.size ≠ some g := fun e => by
      have h := Option.some.inj e
      unfold Boxed at q1
      rw [h, show V.heap[g]? = _ from hcur] at q1
      cases q1
    have n2 : some w1.heap.size ≠ some g := fun e => by
      have h := Option.some.inj e
      unfold Boxed at q2
      rw [h, show V.heap[g]? = _ from hcur] at q2
      cases q2
    have n3 : some Bx ≠ some g := fun e => by
      have h := Option.some.inj e
      unfold BoxedS at q3
      rw [h, show V.heap[g]? = _ from hcur] at q3
      cases q3
    have n4 : some mb ≠ some g := fun e => by
      have h := Option.some.inj e
      obtain ⟨es, clock, hb, _⟩ := q4
      rw [h, show V.heap[g]? = _ from hcur] at hb
      cases hb
    have n0 : some w.heap.size ≠ some g := fun e => by
      have h := Option.some.inj e
      unfold Boxed at q0
      rw [h, show V.heap[g]? = _ from hcur] at q0
      cases q0
    have u0 := q0.kept hpg n0
    have u1 := q1.kept hpg n1
    have u2 := q2.kept hpg n2
    have u3 : BoxedS (putPg V g i ⟨na, np, nd⟩) Bx x.1 := (hpg.block Bx q3.lt n3).trans q3
    have u4 := q4.kept hpg n4
    refine hK.out _ _ ?_ (fun _ => ?_)
    · have h3 := u3.cells.1
      rw [HXP.out] at h3
      exact ⟨u1.cell, u2.cell, h3, HL.out _ u4⟩
    clear hK K
    refine wpAnyH_done (by kernel_rfl) ?_ _
    refine ⟨rfl, ?_⟩
    refine ⟨(keeps_below _ q6).trans (KeepsFrom.of_grownBy hpg (fun j e => by have h := Option.some.inj e; have := HGW.out; omega)), (KeepS.below q6).trans (KeepS.grown hpg (fun k e cs f hh => ?_)), ⟨u0, u2, u1⟩, u4, ?_, ?_⟩
    · cases e
      rw [show V.heap[g]? = _ from hcur] at hh
      cases hh
    · have h := hput
      rw [HOL.out] at h
      rw [List.map_append, List.map_cons, List.map_nil, outF_snoc, HLO.out, HXP.out]
      have hn := HNW.out
      rw [HXP.out] at hn
      rw [hn]
      exact h
    · exact q7.grown hpg q7.size (fun k e => by have h := Option.some.inj e; omega)
  case done =>
    rintro D ys W hD hys ⟨⟨b1, b2, b3⟩, om, ow, hb⟩ hK
    have c3 := b3.cell
    have HK := Lib.hid hK
    have HB := Lib.hid hb
    rw [hys, HO.out] at ow
    have HM := Lib.hid ow
    have HDO := Lib.hid (show (Value.slice A2 nv cap2).ownBlock = none ∨ (Value.slice A2 nv cap2).ownBlock ≠ some D from by
      rcases (show W.ownsRow B2 70 3 _ _ _ from ow).2 with ⟨e, _⟩ | ⟨g', cap', cur, e, _, hg, _⟩
      · rw [e]; exact .inl rfl
      · rw [e]
        refine .inr (fun e' => ?_)
        have e2 : g' = D := by simpa [Value.ownBlock] using e'
        rw [e2, hK] at hg
        cases hg)
    clear b1 b2 b3 hb hK om hys ow
    gi_wp2_with (fail)
    refine ⟨by simp, .inl ⟨_, _, rfl, run_takeDeferred HK.out, ?_⟩⟩
    refine ⟨_, results_tmp rfl _ _ _, ⟨_, rfl, ?_, HB.out.trans (belowK_b (w := w) (Nat.le_refl _) W D _ _ (by omega) HK.out rfl rfl)⟩⟩
    have h := ownsP_kept HM.out (grownBy_putObj' W D (.deferred none)) HDO.out
    exact ⟨h.1, by
      rcases h.2 with ⟨e, e2⟩ | ⟨g', cap', cur, e, e2, e3⟩
      · exact .inl ⟨e, e2⟩
      · exact .inr ⟨g', cap', cur, e, by omega, e3⟩⟩
  case stop =>
    rintro D c pre W _ _ h _
    exact h.elim
end Go.Proofs.Ytpifndpbmjmglaa
namespace Go.Proofs.Ytpifndpbmjmglaa
open Go.RowKit
/-- a new row of the call's own with these pages, and an error's number -/
def NewPagesE (m : List M.Pg) (err : Int) (w : World) (e : Ending) (w' : World) : Prop := ∃ v', e = .returned (.tuple #[v', .int .i64 err]) ∧ OwnsP w' w.heap.size v' m ∧ Below w.heap.size w w'
def fillM (m : List M.Pg) (a : Int) (l : ByteArray) : List M.Pg := if fillErr m a l.size = 0 then laid m a l.data.toList else m
theorem ownsP_base {W : World} {base base' : Nat} {v : Value} {m : List M.Pg} (h : OwnsP W base v m) (hb : base' ≤ base) : OwnsP W base' v m := by
  have h' : W.ownsRow base 70 3 v m.length (cellsOf m) := h
  exact ⟨h'.1, by
    rcases h'.2 with ⟨e, e2⟩ | ⟨g', cap', cur, e, e2, e3⟩
    · exact .inl ⟨e, e2⟩
    · exact .inr ⟨g', cap', cur, e, by omega, e3⟩⟩
set_option maxHeartbeats 1000000 in
theorem fill_any {m : List M.Pg} {v : Value} (a : Int) (l : ByteArray) {w : World} (hP : Pages w v m) (hw : Wf m) (hn : m.length * 32 ≤ 140737488355328) (a0 : 0 ≤ a) (a1 : a ≤ 18446744073709551615) (hl : l.size ≤ 100000) :
    Calls Try.prog 25 #[v, .int .u64 a, .string l] w (NewPagesE (fillM m a l) (fillErr m a l.size) w) := by
  have HE := Lib.hid (fillErr_any a l hP hw a0 a1 (by omega))
  have HP := Lib.hid hP
  obtain ⟨A, cap, hv⟩ := hP.slice
  obtain ⟨nv, hnv⟩ : ∃ nv, m.length = nv := ⟨_, rfl⟩
  have HNV := Lib.hid hnv
  rw [hnv] at hv
  by_cases h0 : fillErr m a l.size = 0
  · have HV := Lib.hid (show fillM m a l = laid m a l.data.toList by unfold fillM; rw [if_pos h0])
    obtain ⟨hr, hg⟩ : rightB m = true ∧ allGrantB m a l.size 0 = true := by
      unfold fillErr at h0
      split at h0
      · omega
      · rename_i h1
        split at h0
        · omega
        · rename_i h2
          exact ⟨by simpa using h1, by simpa using h2⟩
    have hR := Right.of hr hw.a0 hw.a1
    obtain ⟨hk, hin⟩ := granted_in hR a0 a1 hg
    have HL := Lib.hid (fun (W : World) (hb : Below w.heap.size w W) => lay_any a l (hP.next hb) hR a0 a1 hl hk hin)
    rw [HV.out]
    rw [h0] at HE ⊢
    subst hv
    clear hP hw hn hnv h0 hr hg hin hk HV
    go_enter Try.func25, Try.ntmps25
    go_wp2_with fail
    refine HE.out.mono ?_
    rintro e w1 ⟨rfl, hb1⟩
    have HB1 := Lib.hid hb1
    clear hb1
    go_wp2_with fail
    refine (HL.out _ HB1.out).mono ?_
    rintro e w3 ⟨ov, rfl, hown, hb3⟩
    have HB3 := Lib.hid (bthen HB1.out hb3)
    have HO := Lib.hid (ownsP_base hown HB1.out.size)
    obtain ⟨A2, cap2, hv2⟩ := hown.pages.slice
    obtain ⟨n2, hn2⟩ : ∃ n2, (laid m a l.data.toList).length = n2 := ⟨_, rfl⟩
    rw [hn2] at hv2
    subst hv2
    clear hb3 hown hn2
    go_wp2_with fail
    go_ret2
    exact ⟨_, rfl, HO.out, HB3.out⟩
  · have HV := Lib.hid (show fillM m a l = m by unfold fillM; rw [if_neg h0])
    have HC := Lib.hid (fun (W : World) (hb : Below w.heap.size w W) => clone_any (hP.next hb) hn)
    rw [HV.out]
    obtain ⟨r, hr⟩ : ∃ r, fillErr m a l.size = r := ⟨_, rfl⟩
    rw [hr] at h0 HE ⊢
    have t0 : (r != 0) = true := by simpa using h0
    subst hv
    clear hP hw hn hnv hr h0 HV
    go_enter Try.func25, Try.ntmps25
    go_wp2_with fail
    refine HE.out.mono ?_
    rintro e w1 ⟨rfl, hb1⟩
    have HB1 := Lib.hid hb1
    clear hb1
    go_wp2_with fail
    refine (HC.out _ HB1.out).mono ?_
    rintro e w3 ⟨ov, rfl, hown, hb3⟩
    have HB3 := Lib.hid (bthen HB1.out hb3)
    have HO := Lib.hid (ownsP_base hown HB1.out.size)
    obtain ⟨A2, cap2, hv2⟩ := hown.pages.slice
    rw [HNV.out] at hv2
    subst hv2
    clear hb3 hown
    go_wp2_with fail
    go_ret2
    exact ⟨_, rfl, HO.out, HB3.out⟩
end Go.Proofs.Ytpifndpbmjmglaa
namespace Go.Proofs.Ytpifndpbmjmglaa
open Go.RowKit
def anyB (m : List M.Pg) (a n : Int) : Bool := (M.strs a (n * 256)).any (fun s => M.there m s.pg)
def mapArg (m : List M.Pg) (a n perm : Int) : Bool := rightB m && (decide (a % 256 = 0) && (decide (1 ≤ n) && (decide (n ≤ 64) && (M.okPerm perm && !beyondB a (n * 256)))))
def mapErr (m : List M.Pg) (a n perm : Int) : Int :=
  if mapArg m a n perm = false then 1 else if anyB m a n = true then 9 else if 64 < m.length + n then 4 else 0
/-- a page of noughts at a row's page -/
def mkPg (perm : Int) (Z : ByteArray) (s : M.Str) : M.Pg := ⟨s.pg, perm, Z⟩
def noughts : ByteArray := ⟨(List.replicate 256 (0 : UInt8)).toArray⟩
/-- memory with more pages -/
def mapM (m : List M.Pg) (a n perm : Int) : List M.Pg :=
  if mapErr m a n perm = 0 then m.take (M.low m a) ++ ((M.strs a (n * 256)).map (mkPg perm noughts) ++ m.drop (M.low m a)) else m
theorem mapErr_zero {m : List M.Pg} {a n perm : Int} (h : mapErr m a n perm = 0) : rightB m = true ∧ a % 256 = 0 ∧ 1 ≤ n ∧ n ≤ 64 ∧ M.okPerm perm = true ∧ a + n * 256 ≤ 18446744073709551616 ∧ anyB m a n = false ∧ m.length + n ≤ 64 := by
  unfold mapErr at h
  split at h
  · cases h
  · rename_i h1
    split at h
    · cases h
    · rename_i h2
      split at h
      · cases h
      · simp only [mapArg, Bool.not_eq_false, Bool.and_eq_true, decide_eq_true_eq, Bool.not_eq_true'] at h1
        obtain ⟨hr, h3, h4, h5, hp, hb⟩ := h1
        refine ⟨hr, h3, h4, h5, hp, ?_, by simpa using h2, by omega⟩
        simp [beyondB] at hb
        omega
theorem Pages.len {W : World} {A : Option Addr} {n cap : Nat} {m : List M.Pg} (h : Pages W (.slice A n cap) m) : n = m.length := by
  obtain ⟨A', cap', e⟩ := h.slice
  cases e; rfl
theorem right_nil : rightB [] = true := by simp [rightB]
theorem noughts_size : noughts.size = 256 := by decide +kernel
end Go.Proofs.Ytpifndpbmjmglaa
namespace Go.Proofs.Ytpifndpbmjmglaa
open Go.RowKit
theorem laid_length (m : List M.Pg) (a : Int) (l : List UInt8) : (laid m a l).length = m.length := by simp [laid]
theorem laid_low (m : List M.Pg) (a : Int) (l : List UInt8) (x : Int) : M.low (laid m a l) x = M.low m x := by
  unfold M.low laid
  rw [List.countP_map]
  rfl
theorem laid_there (m : List M.Pg) (a : Int) (l : List UInt8) (x : Int) : M.there (laid m a l) x = M.there m x := by
  unfold M.there laid
  rw [List.any_map]
  rfl
theorem laid_get (m : List M.Pg) (a : Int) (l : List UInt8) (i : Nat) : (laid m a l)[i]? = (m[i]?).map (fun x => over x a l) := by simp [laid]
theorem over_size (x : M.Pg) (a : Int) (l : List UInt8) : (over x a l).d.size = 256 := by
  show (over x a l).d.data.size = 256
  simp [over]
theorem laid_right {m : List M.Pg} (h : M.Right m) (a : Int) (l : List UInt8) : M.Right (laid m a l) := by
  have hm : ∀ x ∈ laid m a l, ∃ q ∈ m, x = over q a l := fun x hx => by
    obtain ⟨q, hq, rfl⟩ := List.mem_map.1 hx
    exact ⟨q, hq, rfl⟩
  refine ⟨by rw [laid_length]; exact h.len, fun x hx => ?_, ?_, fun x hx => ?_, fun x hx => ?_⟩
  · obtain ⟨q, hq, rfl⟩ := hm x hx
    have := h.ok q hq
    simp only [M.okPg, Bool.and_eq_true, decide_eq_true_eq] at this ⊢
    exact ⟨this.1, this.2.1, over_size _ _ _⟩
  · unfold laid
    rw [List.pairwise_map]
    exact h.up
  · obtain ⟨q, hq, rfl⟩ := hm x hx
    exact h.ge q hq
  · obtain ⟨q, hq, rfl⟩ := hm x hx
    exact h.le q hq
theorem laid_grant (m : List M.Pg) (a : Int) (l : List UInt8) (x perm : Int) : grantB (laid m a l) x perm = grantB m x perm := by
  unfold grantB
  rw [laid_there, laid_low, laid_get]
  cases m[M.low m x]? <;> rfl
theorem laid_all (m : List M.Pg) (a : Int) (l : List UInt8) (b n perm : Int) : allGrantB (laid m a l) b n perm = allGrantB m b n perm := by
  unfold allGrantB
  simp only [laid_grant]
theorem laid_num {m : List M.Pg} (h : M.Right m) (a : Int) (l : List UInt8) (b n perm : Int) : numErr (laid m a l) b n perm = numErr m b n perm := by
  unfold numErr
  rw [laid_all, Right.rb h, Right.rb (laid_right h a l)]
/-- the byte at a place, behind the laying -/
theorem laid_byte {m : List M.Pg} (h : M.Right m) (a : Int) (l : List UInt8) (t : Int) (ht : M.there m (t - t % 256) = true) :
    M.byteAt (laid m a l) t = if a ≤ t ∧ t < a + l.length then l.getD (t - a).toNat 0 else M.byteAt m t := by
  obtain ⟨hi, he⟩ := (M.there_iff h.up _).1 ht
  obtain ⟨i, hil⟩ : ∃ i, M.low m (t - t % 256) = i := ⟨_, rfl⟩
  have hq := List.getElem?_eq_getElem hi
  obtain ⟨q, hqe⟩ : ∃ q, m[M.low m (t - t % 256)] = q := ⟨_, rfl⟩
  rw [hqe] at he hq
  have hj : (t % 256).toNat < 256 := by omega
  unfold M.byteAt M.dataAt
  rw [laid_low, laid_get, hq]
  show (over q a l).d.data.toList.getD (t % 256).toNat 0 = if a ≤ t ∧ t < a + l.length then l.getD (t - a).toNat 0 else q.d.data.toList.getD (t % 256).toNat 0
  have hqt : q.a + ((t % 256).toNat : Int) = t := by omega
  have : (over q a l).d.data.toList = (List.range 256).map (fun (j : Nat) => if a ≤ q.a + j ∧ q.a + j < a + l.length then l.getD (q.a + j - a).toNat 0 else q.d.data.toList.getD j 0) := by simp [over]
  rw [this, List.getD_eq_getElem?_getD, List.getElem?_map, List.getElem?_range hj]
  show (if a ≤ q.a + ((t % 256).toNat : Int) ∧ q.a + ((t % 256).toNat : Int) < a + l.length then l.getD (q.a + ((t % 256).toNat : Int) - a).toNat 0 else q.d.data.toList.getD (t % 256).toNat 0) = _
  rw [hqt]
theorem okBits_zero (p : Int) : okBits p 0 = true := by
  unfold okBits
  simp [bits]
  decide +kernel
end Go.Proofs.Ytpifndpbmjmglaa
namespace Go.Proofs.Ytpifndpbmjmglaa
open Go.RowKit
theorem low_at {m : List M.Pg} (h : M.Right m) {i : Nat} (hi : i < m.length) : M.there m m[i].a = true ∧ M.low m m[i].a = i := by
  have ht : M.there m m[i].a = true := by
    unfold M.there
    rw [List.any_eq_true]
    exact ⟨m[i], List.getElem_mem hi, by simp⟩
  refine ⟨ht, ?_⟩
  obtain ⟨h1, h2⟩ := (M.there_iff h.up _).1 ht
  rcases Nat.lt_trichotomy (M.low m m[i].a) i with h3 | h3 | h3
  · have := h.at_lt h3 hi
    omega
  · exact h3
  · have := h.at_lt h3 h1
    omega
theorem data_in {m : List M.Pg} (h : M.Right m) {x : M.Pg} (hx : x ∈ m) : M.there m x.a = true ∧ M.dataAt m x.a = x.d := by
  obtain ⟨i, hi, rfl⟩ := List.mem_iff_getElem.1 hx
  obtain ⟨h1, h2⟩ := low_at h hi
  refine ⟨h1, ?_⟩
  unfold M.dataAt
  rw [h2, List.getElem?_eq_getElem hi]
  rfl
theorem one_num {m : List M.Pg} (h : M.Right m) {t : Int} (_ : 0 ≤ t) (t1 : t ≤ 18446744073709551615) :
    numErr m t 1 0 = (if M.there m (t - t % 256) = true then 0 else 6) ∧ loadV m t 1 0 = (if M.there m (t - t % 256) = true then ((M.byteAt m t).toNat : Int) else 0) := by
  have hgr : grantB m (t - t % 256) 0 = M.there m (t - t % 256) := by
    unfold grantB
    cases ht : M.there m (t - t % 256)
    · rfl
    · obtain ⟨h1, _⟩ := (M.there_iff h.up _).1 ht
      rw [List.getElem?_eq_getElem h1]
      exact okBits_zero _
  have hmin : min (1 : Int) (256 - t % 256) = 1 := by omega
  have hst : M.strs t 1 = [⟨t - t % 256, t % 256, 1⟩] := by
    rw [M.strs_cons (by omega), hmin, M.strs_nil (by omega)]
  have hall : allGrantB m t 1 0 = M.there m (t - t % 256) := by
    unfold allGrantB
    rw [hst, show beyondB t 1 = false by simp [beyondB]; omega]
    simp [hgr]
  have e1 : numErr m t 1 0 = (if M.there m (t - t % 256) = true then 0 else 6) := by
    unfold numErr
    rw [hall, Right.rb h]
    cases M.there m (t - t % 256) <;> simp
  refine ⟨e1, ?_⟩
  unfold loadV
  rw [e1]
  cases M.there m (t - t % 256)
  · simp
  · show M.num [M.byteAt m t] = _
    simp [M.num]
theorem noughts_get (j : Nat) : noughts.data.toList.getD j 0 = 0 := by
  have : noughts.data.toList = List.replicate 256 0 := rfl
  rw [this, List.getD_eq_getElem?_getD, List.getElem?_replicate]
  split <;> rfl
/-- what PageNew asks -/
theorem strs_full : ∀ (N : Nat) (a : Int), a % 256 = 0 → M.strs a ((N : Int) * 256) = (List.range N).map (fun j : Nat => (⟨a + 256 * j, 0, 256⟩ : M.Str))
  | 0, a, _ => by rw [M.strs_nil (by omega)]; rfl
  | N + 1, a, h => by
    have hmin : min (((N + 1 : Nat) : Int) * 256) (256 - a % 256) = 256 := by omega
    rw [M.strs_cons (by omega), hmin, show ((N + 1 : Nat) : Int) * 256 - 256 = (N : Int) * 256 by omega, strs_full N (a + 256) (by omega), List.range_succ_eq_map, List.map_cons, List.map_map]
    congr 1
    · congr 1
      all_goals omega
    · apply List.map_congr_left
      intro j _
      show (⟨a + 256 + 256 * j, 0, 256⟩ : M.Str) = ⟨a + 256 * ((j + 1 : Nat) : Int), 0, 256⟩
      congr 1
      omega
theorem new_full (a perm : Int) (N : Nat) (h : a % 256 = 0) : (M.strs a ((N : Int) * 256)).map (mkPg perm noughts) = (List.range N).map (fun j : Nat => (⟨a + 256 * j, perm, noughts⟩ : M.Pg)) := by
  rw [strs_full N a h, List.map_map]
  rfl
theorem not_there {m : List M.Pg} {a : Int} {N : Nat} (ha : a % 256 = 0) (h : anyB m a N = false) : ∀ x ∈ m, ∀ j : Nat, j < N → x.a ≠ a + 256 * j := by
  intro x hx j hj e
  unfold anyB at h
  rw [strs_full N a ha, List.any_eq_false] at h
  have h1 := h (⟨a + 256 * j, 0, 256⟩ : M.Str) (List.mem_map.2 ⟨j, List.mem_range.2 hj, rfl⟩)
  apply h1
  unfold M.there
  rw [List.any_eq_true]
  exact ⟨x, hx, by simp [e]⟩
theorem map_right {m : List M.Pg} (hR : M.Right m) {a perm : Int} {N : Nat} (a0 : 0 ≤ a) (he : mapErr m a N perm = 0) :
    M.Right (m.take (M.low m a) ++ ((M.strs a ((N : Int) * 256)).map (mkPg perm noughts) ++ m.drop (M.low m a))) := by
  obtain ⟨_, hm, n1, n64, hpm, hby, hany, hlen⟩ := mapErr_zero he
  have hnt := not_there hm hany
  rw [new_full a perm N hm]
  have hnew : ∀ x ∈ (List.range N).map (fun j : Nat => (⟨a + 256 * j, perm, noughts⟩ : M.Pg)), ∃ j : Nat, j < N ∧ x = ⟨a + 256 * j, perm, noughts⟩ := fun x hx => by
    obtain ⟨j, hj, rfl⟩ := List.mem_map.1 hx
    exact ⟨j, List.mem_range.1 hj, rfl⟩
  have hmem : ∀ x ∈ m.take (M.low m a) ++ ((List.range N).map (fun j : Nat => (⟨a + 256 * j, perm, noughts⟩ : M.Pg)) ++ m.drop (M.low m a)), x ∈ m ∨ ∃ j : Nat, j < N ∧ x = ⟨a + 256 * j, perm, noughts⟩ := fun x hx => by
    rcases List.mem_append.1 hx with h | h
    · exact .inl (List.mem_of_mem_take h)
    · rcases List.mem_append.1 h with h | h
      · exact .inr (hnew x h)
      · exact .inl (List.mem_of_mem_drop h)
  have htake : ∀ x ∈ m.take (M.low m a), x.a < a := fun x hx => by
    obtain ⟨i, hi, rfl⟩ := List.mem_iff_getElem.1 hx
    rw [List.getElem_take]
    have h1 : i < M.low m a := by rw [List.length_take] at hi; omega
    exact (M.lt_low hR.up a _).2 h1
  have hdrop : ∀ x ∈ m.drop (M.low m a), a + 256 * (N : Int) ≤ x.a := fun x hx => by
    have hxm := List.mem_of_mem_drop hx
    obtain ⟨i, hi, he⟩ := List.mem_iff_getElem.1 hx
    rw [List.getElem_drop] at he
    have hil : M.low m a + i < m.length := by rw [List.length_drop] at hi; omega
    have h1 : ¬ (m[M.low m a + i].a < a) := fun h => by
      have := (M.lt_low hR.up a hil).1 h
      omega
    rw [he] at h1
    have h2 : x.a % 256 = 0 := by rw [← he]; exact hR.at_mod hil
    by_cases hlt : a + 256 * (N : Int) ≤ x.a
    · exact hlt
    · exfalso
      refine hnt x hxm ((x.a - a) / 256).toNat (by omega) (by omega)
  refine ⟨?_, fun x hx => ?_, ?_, fun x hx => ?_, fun x hx => ?_⟩
  · have := M.low_le m a
    simp only [List.length_append, List.length_take, List.length_drop, List.length_map, List.length_range]
    omega
  · rcases hmem x hx with h | ⟨j, hj, rfl⟩
    · exact hR.ok x h
    · simp only [M.okPg, Bool.and_eq_true, decide_eq_true_eq]
      exact ⟨by show (a + 256 * (j : Int)) % 256 = 0; omega, hpm, noughts_size⟩
  · rw [List.pairwise_append]
    have hsplit := hR.up
    rw [← List.take_append_drop (M.low m a) m, List.pairwise_append] at hsplit
    refine ⟨hsplit.1, ?_, fun x hx y hy => ?_⟩
    · rw [List.pairwise_append]
      refine ⟨?_, hsplit.2.1, fun x hx y hy => ?_⟩
      · rw [List.pairwise_map]
        refine List.pairwise_lt_range.imp fun h => ?_
        show a + 256 * (_ : Int) < a + 256 * (_ : Int)
        omega
      · obtain ⟨j, hj, rfl⟩ := hnew x hx
        have := hdrop y hy
        show a + 256 * (j : Int) < y.a
        omega
    · have h1 := htake x hx
      rcases List.mem_append.1 hy with h | h
      · obtain ⟨j, hj, rfl⟩ := hnew y h
        show x.a < a + 256 * (j : Int)
        omega
      · exact hsplit.2.2 x hx y h
  · rcases hmem x hx with h | ⟨j, hj, rfl⟩
    · exact hR.ge x h
    · show 0 ≤ a + 256 * (j : Int); omega
  · rcases hmem x hx with h | ⟨j, hj, rfl⟩
    · exact hR.le x h
    · show a + 256 * (j : Int) ≤ 18446744073709551615; omega
theorem mapM_right {m : List M.Pg} (hR : M.Right m) {a n perm : Int} (a0 : 0 ≤ a) : M.Right (mapM m a n perm) := by
  unfold mapM
  split
  · rename_i he
    obtain ⟨_, _, n1, _⟩ := mapErr_zero he
    obtain ⟨N, rfl⟩ := Int.eq_ofNat_of_zero_le (show 0 ≤ n by omega)
    exact map_right hR a0 he
  · exact hR
theorem fillM_right {m : List M.Pg} (hR : M.Right m) (a : Int) (l : ByteArray) : M.Right (fillM m a l) ∧ (fillM m a l).length = m.length := by
  unfold fillM
  split
  · exact ⟨laid_right hR _ _, laid_length _ _ _⟩
  · exact ⟨hR, rfl⟩
end Go.Proofs.Ytpifndpbmjmglaa
namespace Go.Proofs.Ytpifndpbmjmglaa
open Go.RowKit
attribute [local go_sem] Oper.semAt_some
theorem new_of {m : List M.Pg} (hR : M.Right m) {a perm : Int} {N : Nat} (a0 : 0 ≤ a) (he : mapErr m a N perm = 0) {t : Int} (t0 : 0 ≤ t) (t1 : t ≤ 18446744073709551615) :
    (mapM m a N perm).length = m.length + N ∧ Wf (mapM m a N perm) ∧
    ((a ≤ t ∧ (t - a) / 256 < N) → numErr (mapM m a N perm) t 1 0 = 0 ∧ loadV (mapM m a N perm) t 1 0 = 0 ∧ numErr m t 1 0 = 6) ∧
    (¬ (a ≤ t ∧ (t - a) / 256 < N) → numErr (mapM m a N perm) t 1 0 = numErr m t 1 0 ∧ loadV (mapM m a N perm) t 1 0 = loadV m t 1 0) := by
  obtain ⟨_, hm, n1, n64, hpm, hby, hany, hlen⟩ := mapErr_zero he
  have hnt := not_there hm hany
  have hK : M.Right (mapM m a N perm) := mapM_right hR a0
  have hk : mapM m a N perm = m.take (M.low m a) ++ ((List.range N).map (fun j : Nat => (⟨a + 256 * j, perm, noughts⟩ : M.Pg)) ++ m.drop (M.low m a)) := by
    unfold mapM
    rw [if_pos he, new_full a perm N hm]
  have hmem : ∀ x, x ∈ mapM m a N perm ↔ x ∈ m ∨ ∃ j : Nat, j < N ∧ x = ⟨a + 256 * j, perm, noughts⟩ := fun x => by
    rw [hk]
    constructor
    · intro hx
      rcases List.mem_append.1 hx with h | h
      · exact .inl (List.mem_of_mem_take h)
      · rcases List.mem_append.1 h with h | h
        · obtain ⟨j, hj, rfl⟩ := List.mem_map.1 h
          exact .inr ⟨j, List.mem_range.1 hj, rfl⟩
        · exact .inl (List.mem_of_mem_drop h)
    · rintro (h | ⟨j, hj, rfl⟩)
      · rw [← List.take_append_drop (M.low m a) m] at h
        rcases List.mem_append.1 h with h | h
        · exact List.mem_append.2 (.inl h)
        · exact List.mem_append.2 (.inr (List.mem_append.2 (.inr h)))
      · exact List.mem_append.2 (.inr (List.mem_append.2 (.inl (List.mem_map.2 ⟨j, List.mem_range.2 hj, rfl⟩))))
  have hlo := M.low_le m a
  obtain ⟨k, hke⟩ : ∃ k, mapM m a N perm = k := ⟨_, rfl⟩
  have hkl : k.length = m.length + N := by
    rw [← hke, hk]
    simp only [List.length_append, List.length_take, List.length_drop, List.length_map, List.length_range]
    omega
  rw [hke] at hK hmem ⊢
  obtain ⟨f1, f2⟩ := one_num hK t0 t1
  obtain ⟨g1, g2⟩ := one_num hR t0 t1
  have there_mem : ∀ (l : List M.Pg), M.there l (t - t % 256) = true → ∃ x ∈ l, x.a = t - t % 256 := fun l h => by
    unfold M.there at h
    rw [List.any_eq_true] at h
    obtain ⟨x, hx, e⟩ := h
    exact ⟨x, hx, by simpa using e⟩
  refine ⟨hkl, ⟨by have := hK.len; omega, hK.ge, hK.le⟩, fun hin => ?_, fun hout => ?_⟩
  · obtain ⟨j, hj⟩ := Int.eq_ofNat_of_zero_le (show 0 ≤ (t - a) / 256 by omega)
    have hjN : j < N := by omega
    have hpg : t - t % 256 = a + 256 * j := by omega
    have hx : (⟨a + 256 * j, perm, noughts⟩ : M.Pg) ∈ k := (hmem _).2 (.inr ⟨j, hjN, rfl⟩)
    obtain ⟨h1, h2⟩ := data_in hK hx
    have h1' : M.there k (t - t % 256) = true := by rw [hpg]; exact h1
    have h3 : M.there m (t - t % 256) = false := by
      cases hc : M.there m (t - t % 256)
      · rfl
      · obtain ⟨x, hxm, e⟩ := there_mem m hc
        exact absurd (e.trans hpg) (hnt x hxm j hjN)
    rw [f1, f2, g1, h1', h3]
    refine ⟨rfl, ?_, rfl⟩
    show ((M.byteAt k t).toNat : Int) = 0
    unfold M.byteAt
    rw [hpg, show M.dataAt k (a + 256 * (j : Int)) = noughts from h2, noughts_get]
    rfl
  · cases hc : M.there m (t - t % 256)
    · have h1 : M.there k (t - t % 256) = false := by
        cases hd : M.there k (t - t % 256)
        · rfl
        · obtain ⟨x, hx, e⟩ := there_mem k hd
          rcases (hmem x).1 hx with h | ⟨j, hj, rfl⟩
          · have := (data_in hR h).1
            rw [e, hc] at this
            cases this
          · exfalso
            apply hout
            have e' : a + 256 * (j : Int) = t - t % 256 := e
            omega
      rw [f1, f2, g1, g2, h1, hc]
      exact ⟨rfl, rfl⟩
    · obtain ⟨x, hx, e⟩ := there_mem m hc
      obtain ⟨h1, h2⟩ := data_in hK ((hmem x).2 (.inl hx))
      obtain ⟨_, h4⟩ := data_in hR hx
      rw [e] at h1 h2 h4
      rw [f1, f2, g1, g2, h1, hc]
      refine ⟨rfl, ?_⟩
      show ((M.byteAt k t).toNat : Int) = ((M.byteAt m t).toNat : Int)
      unfold M.byteAt
      rw [h2, h4]
end Go.Proofs.Ytpifndpbmjmglaa
namespace Go.Proofs.Ytpifndpbmjmglaa
open Go.RowKit
/-- a segment: where it lies, what may be done, its bytes, its size -/
structure Sg where
  a : Int
  p : Int
  d : ByteArray
  z : Int
def sgV (s : Sg) : Value := .agg #[.int .u64 s.a, .int .i64 s.p, .string s.d, .int .u64 s.z]
/-- segments that lie from a place on -/
def SegsIn (W : World) (b off : Nat) (l : List Sg) : Prop :=
  b < W.heap.size ∧ ∀ (i : Nat) (h : i < l.length), W.cell? ⟨b, off + i * 4, none⟩ = some (.int .u64 l[i].a) ∧ W.cell? ⟨b, off + i * 4 + 1, none⟩ = some (.int .i64 l[i].p) ∧ W.cell? ⟨b, off + i * 4 + 2, none⟩ = some (.string l[i].d) ∧ W.cell? ⟨b, off + i * 4 + 3, none⟩ = some (.int .u64 l[i].z)
theorem SegsIn.next {W W' : World} {b off : Nat} {l : List Sg} (h : SegsIn W b off l) (hb : Below W.heap.size W W') : SegsIn W' b off l := by
  refine ⟨Nat.lt_of_lt_of_le h.1 hb.size, fun i hi => ?_⟩
  obtain ⟨h0, h1, h2, h3⟩ := h.2 i hi
  have hc := (bcell hb).1
  exact ⟨(hc _ _ h.1).trans h0, (hc _ _ h.1).trans h1, (hc _ _ h.1).trans h2, (hc _ _ h.1).trans h3⟩
/-- a slice of segments -/
def Segs (W : World) (v : Value) (l : List Sg) : Prop :=
  (l = [] ∧ (v = .slice none 0 0 ∨ ∃ a cap, v = .slice (some a) 0 cap)) ∨ (0 < l.length ∧ ∃ b off cap, v = .slice (some ⟨b, off, none⟩) l.length cap ∧ SegsIn W b off l)
theorem Segs.next {W W' : World} {v : Value} {l : List Sg} (h : Segs W v l) (hb : Below W.heap.size W W') : Segs W' v l := by
  rcases h with h | ⟨h1, b, off, cap, rfl, h2⟩
  · exact .inl h
  · exact .inr ⟨h1, b, off, cap, rfl, h2.next hb⟩
theorem Segs.slice {W : World} {v : Value} {l : List Sg} (h : Segs W v l) : ∃ A cap, v = .slice A l.length cap := by
  rcases h with ⟨rfl, rfl | ⟨a, cap, rfl⟩⟩ | ⟨_, b, off, cap, rfl, _⟩
  · exact ⟨none, 0, rfl⟩
  · exact ⟨some a, cap, rfl⟩
  · exact ⟨_, cap, rfl⟩
theorem Segs.at_ {W : World} {A : Option Addr} {n cap : Nat} {l : List Sg} (h : Segs W (.slice A n cap) l) {i : Nat} (hi : i < l.length) :
    ∃ b off, A = some ⟨b, off, none⟩ ∧ W.cell? ⟨b, off + i * 4, none⟩ = some (.int .u64 l[i].a) ∧ W.cell? ⟨b, off + i * 4 + 1, none⟩ = some (.int .i64 l[i].p) ∧ W.cell? ⟨b, off + i * 4 + 2, none⟩ = some (.string l[i].d) ∧ W.cell? ⟨b, off + i * 4 + 3, none⟩ = some (.int .u64 l[i].z) := by
  rcases h with ⟨rfl, _⟩ | ⟨_, b, off, c, e, h2⟩
  · simp at hi
  · exact ⟨b, off, (Value.slice.inj e).1, h2.2 i hi⟩
theorem Segs.len {W : World} {A : Option Addr} {n cap : Nat} {l : List Sg} (h : Segs W (.slice A n cap) l) : l.length = n := by
  obtain ⟨A', c', e⟩ := h.slice
  exact (Value.slice.inj e).2.1.symm
/-- what is so of a segment's numbers, whatever it is -/
def SgIn (s : Sg) : Prop := (0 ≤ s.a ∧ s.a ≤ 18446744073709551615) ∧ (-9223372036854775808 ≤ s.p ∧ s.p ≤ 9223372036854775807) ∧ (0 ≤ s.z ∧ s.z ≤ 18446744073709551615) ∧ s.d.size ≤ 9223372036854775807
theorem drewN_below (w : World) (n : Nat) : Below w.heap.size w (w.drewN n) := ⟨rfl, rfl, rfl, Nat.le_refl _, fun _ _ => rfl⟩
/-- the next multiple of 256 -/
def upI (v : Int) : Int := (v + 255) % 18446744073709551616 / 256 * 256
theorem up_any (v : Int) (_h0 : 0 ≤ v) (_h1 : v ≤ 18446744073709551615) (w : World) : Calls Try.prog 17 #[.int .u64 v] w fun e w' => e = .returned (.int .u64 (upI v)) ∧ w = w' := by
  obtain ⟨x, hx⟩ : ∃ x, IntKind.u64.wrap (IntKind.u64.wrap (v + 256) - 1) = x := ⟨_, rfl⟩
  have hx2 : x = (v + 255) % 18446744073709551616 := by rw [← hx, IntKind.wrap_u64, IntKind.wrap_u64]; omega
  have x0 : 0 ≤ x ∧ x < 18446744073709551616 := by omega
  have t1 : Int.tdiv x 256 = x / 256 := Int.tdiv_eq_ediv_of_nonneg x0.1
  have t2 : IntKind.u64.wrap (x / 256) = x / 256 := by rw [IntKind.wrap_u64]; omega
  have t3 : IntKind.u64.wrap (x / 256 * 256) = x / 256 * 256 := by rw [IntKind.wrap_u64]; omega
  have HE := Lib.hid (show upI v = x / 256 * 256 by unfold upI; rw [hx2])
  clear x0 hx2
  go_enter Try.func17, Try.ntmps17
  go_wp2_with fail
  go_ret
  exact ⟨ret_int (by rw [HE.out]), rfl⟩
theorem upI_in (v : Int) (h0 : 0 ≤ v) (h1 : v ≤ 18446744073709551360) : v ≤ upI v ∧ upI v ≤ v + 255 ∧ upI v % 256 = 0 := by unfold upI; omega
/-- may that be done with a segment? -/
def permB (p : Int) : Bool := decide (1 ≤ p ∧ p ≤ 7 ∧ p % 4 ≠ 3)
theorem eperm_any (p : Int) (w : World) : Calls Try.prog 44 #[.int .i64 p] w fun e w' => e = .returned (.bool (permB p)) ∧ w = w' := by
  by_cases h1 : 1 ≤ p
  · by_cases h7 : p ≤ 7
    · have : p = 1 ∨ p = 2 ∨ p = 3 ∨ p = 4 ∨ p = 5 ∨ p = 6 ∨ p = 7 := by omega
      rcases this with rfl | rfl | rfl | rfl | rfl | rfl | rfl
      all_goals
        clear h1 h7
        go_enter Try.func44, Try.ntmps44
        go_wp2
        go_ret
        exact ⟨ret_bool (by decide +kernel), rfl⟩
    · have t1 : decide (1 ≤ p) = true := decide_eq_true h1
      have t7 : decide (p ≤ 7) = false := decide_eq_false h7
      have HE := Lib.hid (show permB p = false by unfold permB; exact decide_eq_false (by omega))
      clear h1 h7
      go_enter Try.func44, Try.ntmps44
      go_wp2
      go_ret
      exact ⟨ret_bool (by rw [HE.out]), rfl⟩
  · have t1 : decide (1 ≤ p) = false := decide_eq_false h1
    have HE := Lib.hid (show permB p = false by unfold permB; exact decide_eq_false (by omega))
    clear h1
    go_enter Try.func44, Try.ntmps44
    go_wp2
    go_ret
    exact ⟨ret_bool (by rw [HE.out]), rfl⟩
/-- may a segment be, by itself? -/
def segB (s : Sg) : Bool := decide (s.a % 256 = 0 ∧ s.a < 1099511627776) && (permB s.p && decide (1 ≤ s.z ∧ s.z ≤ 16384 ∧ (s.d.size : Int) ≤ s.z))
set_option maxHeartbeats 2000000 in
theorem eseg_any (s : Sg) (hs : SgIn s) (w : World) : Calls Try.prog 33 #[sgV s] w fun e w' => e = .returned (.bool (segB s)) ∧ Below w.heap.size w w' := by
  obtain ⟨a, p, d, z⟩ := s
  obtain ⟨⟨a0, a1⟩, ⟨p0, p1⟩, ⟨z0, z1⟩, dz⟩ := hs
  simp only at a0 a1 p0 p1 z0 z1 dz
  have hm : a.tmod 256 = a % 256 := Int.tmod_eq_emod_of_nonneg a0
  have hdw : IntKind.u64.wrap (d.size : Int) = d.size := by rw [IntKind.wrap_u64]; omega
  have HP := Lib.hid (fun W => eperm_any p W)
  have G : ∀ c : Bool, segB ⟨a, p, d, z⟩ = c → (Calls Try.prog 33 #[sgV ⟨a, p, d, z⟩] w fun e w' => e = .returned (.bool c) ∧ Below w.heap.size w w') := by
    intro c hc
    unfold segB at hc
    simp only at hc
    unfold sgV
    simp only
    by_cases h1 : a % 256 = 0
    · have t1 : (a % 256 == 0) = true := by simpa using h1
      by_cases h2 : a < 1099511627776
      · have t2 : decide (a < 1099511627776) = true := decide_eq_true h2
        cases h3 : permB p with
        | false =>
          have hcf : c = false := by rw [← hc, h3]; simp
          subst hcf
          rw [h3] at HP
          clear hc h1 h2 h3
          go_enter Try.func33, Try.ntmps33
          go_wp2_with (go_at_call 44; refine (HP.out _).mono ?_; rintro e w' ⟨rfl, rfl⟩)
          go_ret
          exact ⟨rfl, balloc (Below.refl _ _) _⟩
        | true =>
          rw [h3] at HP
          by_cases h4 : 1 ≤ z
          · have t4 : decide (1 ≤ z) = true := decide_eq_true h4
            by_cases h5 : z ≤ 16384
            · have t5 : decide (z ≤ 16384) = true := decide_eq_true h5
              obtain ⟨q, hq⟩ : ∃ q, decide ((d.size : Int) ≤ z) = q := ⟨_, rfl⟩
              have hcq : c = q := by
                rw [← hc, h3, ← hq]
                simp [h1, h2, h4, h5]
              subst hcq
              have HQ := Lib.hid hq
              clear hc h1 h2 h3 h4 h5
              go_enter Try.func33, Try.ntmps33
              go_wp2_with (go_at_call 44; refine (HP.out _).mono ?_; rintro e w' ⟨rfl, rfl⟩)
              go_ret
              exact ⟨rfl, balloc (Below.refl _ _) _⟩
            · have t5 : decide (z ≤ 16384) = false := decide_eq_false h5
              have hcf : c = false := by rw [← hc]; simp [h5]
              subst hcf
              clear hc h1 h2 h3 h4 h5
              go_enter Try.func33, Try.ntmps33
              go_wp2_with (go_at_call 44; refine (HP.out _).mono ?_; rintro e w' ⟨rfl, rfl⟩)
              go_ret
              exact ⟨rfl, balloc (Below.refl _ _) _⟩
          · have t4 : decide (1 ≤ z) = false := decide_eq_false h4
            have hcf : c = false := by rw [← hc]; simp [h4]
            subst hcf
            clear hc h1 h2 h3 h4
            go_enter Try.func33, Try.ntmps33
            go_wp2_with (go_at_call 44; refine (HP.out _).mono ?_; rintro e w' ⟨rfl, rfl⟩)
            go_ret
            exact ⟨rfl, balloc (Below.refl _ _) _⟩
      · have t2 : decide (a < 1099511627776) = false := decide_eq_false h2
        have hcf : c = false := by rw [← hc]; simp [h2]
        subst hcf
        clear hc h1 h2
        go_enter Try.func33, Try.ntmps33
        go_wp2_with fail
        go_ret
        exact ⟨rfl, balloc (Below.refl _ _) _⟩
    · have t1 : (a % 256 == 0) = false := by simpa using h1
      have hcf : c = false := by rw [← hc]; simp [h1]
      subst hcf
      clear hc h1
      go_enter Try.func33, Try.ntmps33
      go_wp2_with fail
      go_ret
      exact ⟨rfl, balloc (Below.refl _ _) _⟩
  exact G _ rfl
end Go.Proofs.Ytpifndpbmjmglaa
