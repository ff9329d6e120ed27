/- Package elf, load: memory with the pages of segments, one after the other. Nothing of the program. -/
import Derived.Test.YtdlbhkdjcegbfaaP33
import Derived.Test.YtdlbhkdjcegbfaaF1
namespace Go.Proofs.Ytdlbhkdjcegbfaa
open Go.RowKit

/-- how many pages a segment has -/
def sgN (g : Sg) : Nat := (upI g.z / 256).toNat
/-- why a segment's pages can't be laid, or nought -/
def layE (m : List M.Pg) (g : Sg) : Int := if mapErr m g.a (sgN g) g.p = 0 then fillErr (mapM m g.a (sgN g) g.p) g.a g.d.size else mapErr m g.a (sgN g) g.p
/-- memory with them -/
def layM (m : List M.Pg) (g : Sg) : List M.Pg := fillM (mapM m g.a (sgN g) g.p) g.a g.d
def loadE : List M.Pg → List Sg → Int
  | _, [] => 0
  | m, g :: l => if layE m g = 0 then loadE (layM m g) l else layE m g
def loadF : List M.Pg → List Sg → List M.Pg
  | m, [] => m
  | m, g :: l => if layE m g = 0 then loadF (layM m g) l else []
/-- a segment that may be -/
structure SgOk (g : Sg) : Prop where
  a0 : 0 ≤ g.a
  a1 : g.a < 1099511627776
  md : g.a % 256 = 0
  p1 : 1 ≤ g.p
  p7 : g.p ≤ 7
  p3 : g.p % 4 ≠ 3
  z1 : 1 ≤ g.z
  z2 : g.z ≤ 16384
  dz : (g.d.size : Int) ≤ g.z
theorem SgOk.of {g : Sg} (h : segB g = true) (hi : SgIn g) : SgOk g := by
  obtain ⟨⟨a0, _⟩, _, _, _⟩ := hi
  simp only [segB, permB, Bool.and_eq_true, decide_eq_true_eq] at h
  obtain ⟨⟨h1, h2⟩, ⟨h3, h4, h5⟩, h6, h7, h8⟩ := h
  exact ⟨a0, h2, h1, h3, h4, h5, h6, h7, h8⟩
theorem SgOk.pages {g : Sg} (h : SgOk g) : (sgN g : Int) = (g.z + 255) / 256 ∧ 1 ≤ (sgN g : Int) ∧ (sgN g : Int) ≤ 64 := by
  have h1 := h.z1
  have h2 := h.z2
  unfold sgN upI
  omega
/-- does a place stand in a segment's pages? -/
def inSg (g : Sg) (t : Int) : Prop := g.a ≤ t ∧ (t - g.a) / 256 < sgN g
/-- the byte at a place of a segment -/
def sgByte (g : Sg) (t : Int) : Int := if t < g.a + g.d.size then ((g.d.data.toList.getD (t - g.a).toNat 0).toNat : Int) else 0
theorem grant_there {m : List M.Pg} (h : M.Right m) (x : Int) : grantB m x 0 = M.there m x := by
  unfold grantB
  cases ht : M.there m x
  · rfl
  · obtain ⟨h1, _⟩ := (M.there_iff h.up _).1 ht
    rw [List.getElem?_eq_getElem h1]
    exact okBits_zero _
theorem there_num {m : List M.Pg} (h : M.Right m) {t : Int} (t0 : 0 ≤ t) (t1 : t ≤ 18446744073709551615) : numErr m t 1 0 = 0 ↔ M.there m (t - t % 256) = true := by
  rw [(one_num h t0 t1).1]
  cases M.there m (t - t % 256) <;> simp
theorem mapM_mem {m : List M.Pg} {a perm : Int} {N : Nat} (he : mapErr m a N perm = 0) (x : M.Pg) : x ∈ mapM m a N perm ↔ x ∈ m ∨ ∃ j : Nat, j < N ∧ x = ⟨a + 256 * j, perm, noughts⟩ := by
  obtain ⟨_, hm, -⟩ := mapErr_zero he
  have hk : mapM m a N perm = m.take (M.low m a) ++ ((List.range N).map (fun j : Nat => (⟨a + 256 * j, perm, noughts⟩ : M.Pg)) ++ m.drop (M.low m a)) := by
    unfold mapM
    rw [if_pos he, new_full a perm N hm]
  rw [hk]
  constructor
  · intro hx
    rcases List.mem_append.1 hx with h | h
    · exact .inl (List.mem_of_mem_take h)
    · rcases List.mem_append.1 h with h | h
      · obtain ⟨j, hj, rfl⟩ := List.mem_map.1 h
        exact .inr ⟨j, List.mem_range.1 hj, rfl⟩
      · exact .inl (List.mem_of_mem_drop h)
  · rintro (h | ⟨j, hj, rfl⟩)
    · rw [← List.take_append_drop (M.low m a) m] at h
      rcases List.mem_append.1 h with h | h
      · exact List.mem_append.2 (.inl h)
      · exact List.mem_append.2 (.inr (List.mem_append.2 (.inr h)))
    · exact List.mem_append.2 (.inr (List.mem_append.2 (.inl (List.mem_map.2 ⟨j, List.mem_range.2 hj, rfl⟩))))
/-- where the pages are, the bytes may be filled in -/
theorem lay_fill {m : List M.Pg} (hR : M.Right m) {g : Sg} (hg : SgOk g) (he : mapErr m g.a (sgN g) g.p = 0) : fillErr (mapM m g.a (sgN g) g.p) g.a g.d.size = 0 := by
  have hK : M.Right (mapM m g.a (sgN g) g.p) := mapM_right hR hg.a0
  have hp := hg.pages
  have h1 := hg.a0
  have h2 := hg.a1
  have h3 := hg.dz
  have h4 := hg.z2
  have hall : allGrantB (mapM m g.a (sgN g) g.p) g.a g.d.size 0 = true := by
    simp only [allGrantB, Bool.and_eq_true, Bool.not_eq_true', List.all_eq_true]
    refine ⟨by simp [beyondB]; omega, fun s hs => ?_⟩
    obtain ⟨hok, h5, h6⟩ := M.strs_ok h1 (by omega) s hs
    obtain ⟨o1, o2, o3, o4, o5, o6⟩ := hok
    rw [grant_there hK]
    obtain ⟨_, _, hin, _⟩ := new_of hR hg.a0 he (t := s.pg + s.f) (by omega) (by omega)
    have := (there_num hK (t := s.pg + s.f) (by omega) (by omega)).1 (hin ⟨h5, by omega⟩).1
    rwa [show s.pg + s.f - (s.pg + s.f) % 256 = s.pg by omega] at this
  unfold fillErr
  rw [Right.rb hK, hall]
  simp
theorem layE_zero {m : List M.Pg} (hR : M.Right m) {g : Sg} (hg : SgOk g) : layE m g = mapErr m g.a (sgN g) g.p := by
  unfold layE
  split
  · rename_i h
    rw [lay_fill hR hg h, h]
  · rfl
theorem layM_eq {m : List M.Pg} (hR : M.Right m) {g : Sg} (hg : SgOk g) (he : layE m g = 0) : layM m g = laid (mapM m g.a (sgN g) g.p) g.a g.d.data.toList := by
  rw [layE_zero hR hg] at he
  unfold layM fillM
  rw [if_pos (lay_fill hR hg he)]
theorem layM_right {m : List M.Pg} (hR : M.Right m) {g : Sg} (hg : SgOk g) : M.Right (layM m g) := (fillM_right (mapM_right hR hg.a0) _ _).1
/-- what is told of each place -/
theorem lay_obs {m : List M.Pg} (hR : M.Right m) {g : Sg} (hg : SgOk g) (he : layE m g = 0) {t : Int} (t0 : 0 ≤ t) (t1 : t ≤ 18446744073709551615) :
    (inSg g t → numErr m t 1 0 = 6 ∧ numErr (layM m g) t 1 0 = 0 ∧ loadV (layM m g) t 1 0 = sgByte g t) ∧
    (¬ inSg g t → numErr (layM m g) t 1 0 = numErr m t 1 0 ∧ loadV (layM m g) t 1 0 = loadV m t 1 0) := by
  rw [layM_eq hR hg he]
  rw [layE_zero hR hg] at he
  have hK : M.Right (mapM m g.a (sgN g) g.p) := mapM_right hR hg.a0
  obtain ⟨_, _, hin, hout⟩ := new_of hR hg.a0 he t0 t1
  obtain ⟨K, hKe⟩ : ∃ K, mapM m g.a (sgN g) g.p = K := ⟨_, rfl⟩
  rw [hKe] at hK hin hout ⊢
  have hL := laid_right hK g.a g.d.data.toList
  have hp := hg.pages
  have h3 := hg.dz
  have hl : (g.d.data.toList.length : Int) = g.d.size := by simp
  rw [laid_num hK, (one_num hL t0 t1).2, laid_there]
  have e1 := one_num hK t0 t1
  unfold inSg
  refine ⟨fun h => ?_, fun h => ?_⟩
  · obtain ⟨h1, h2, h4⟩ := hin h
    refine ⟨h4, h1, ?_⟩
    have ht := (there_num hK t0 t1).1 h1
    rw [if_pos ht, laid_byte hK _ _ _ ht, hl]
    rw [e1.2, if_pos ht] at h2
    unfold sgByte
    by_cases hlt : t < g.a + g.d.size
    · rw [if_pos ⟨h.1, hlt⟩, if_pos hlt]
    · rw [if_neg (fun c => hlt c.2), if_neg hlt]
      exact h2
  · obtain ⟨h1, h2⟩ := hout h
    refine ⟨h1, ?_⟩
    rw [← h2, e1.2]
    cases ht : M.there K (t - t % 256)
    · rfl
    · rw [if_pos rfl, if_pos rfl, laid_byte hK _ _ _ ht, hl, if_neg (fun c => h ⟨c.1, by omega⟩)]
/-- where its pages are, and what may be done with them -/
theorem lay_pages {m : List M.Pg} (hR : M.Right m) {g : Sg} (hg : SgOk g) (he : layE m g = 0) :
    (∀ x ∈ layM m g, (∃ y ∈ m, y.a = x.a ∧ y.p = x.p) ∨ x.p = g.p) ∧ (∀ y ∈ m, ∃ x ∈ layM m g, x.a = y.a ∧ x.p = y.p) ∧ (∀ j : Nat, j < sgN g → ∃ x ∈ layM m g, x.a = g.a + 256 * j ∧ x.p = g.p) := by
  rw [layM_eq hR hg he]
  rw [layE_zero hR hg] at he
  have hmem := mapM_mem he
  have hover : ∀ (y : M.Pg), (over y g.a g.d.data.toList).a = y.a ∧ (over y g.a g.d.data.toList).p = y.p := fun y => ⟨rfl, rfl⟩
  unfold laid
  refine ⟨fun x hx => ?_, fun y hy => ?_, fun j hj => ?_⟩
  · obtain ⟨y, hy, rfl⟩ := List.mem_map.1 hx
    rcases (hmem y).1 hy with h | ⟨j, _, rfl⟩
    · exact .inl ⟨y, h, rfl, rfl⟩
    · exact .inr rfl
  · exact ⟨_, List.mem_map.2 ⟨y, (hmem y).2 (.inl hy), rfl⟩, (hover y).1, (hover y).2⟩
  · exact ⟨_, List.mem_map.2 ⟨_, (hmem ⟨g.a + 256 * j, g.p, noughts⟩).2 (.inr ⟨j, hj, rfl⟩), rfl⟩, (hover _).1, (hover _).2⟩
/-- what is told of memory with all segments -/
theorem load_all : ∀ (l : List Sg) (m : List M.Pg), M.Right m → (∀ g ∈ l, SgOk g) → loadE m l = 0 →
    M.Right (loadF m l) ∧
    (∀ t, 0 ≤ t → t ≤ 18446744073709551615 → numErr m t 1 0 = 0 → numErr (loadF m l) t 1 0 = 0 ∧ loadV (loadF m l) t 1 0 = loadV m t 1 0) ∧
    (∀ g ∈ l, ∀ t, 0 ≤ t → t ≤ 18446744073709551615 → inSg g t → numErr (loadF m l) t 1 0 = 0 ∧ loadV (loadF m l) t 1 0 = sgByte g t) ∧
    (∀ x ∈ loadF m l, (∃ y ∈ m, y.a = x.a ∧ y.p = x.p) ∨ ∃ g ∈ l, x.p = g.p) ∧
    (∀ y ∈ m, ∃ x ∈ loadF m l, x.a = y.a ∧ x.p = y.p) ∧
    (∀ g ∈ l, ∀ j : Nat, j < sgN g → ∃ x ∈ loadF m l, x.a = g.a + 256 * j ∧ x.p = g.p)
  | [], m, hR, _, _ => ⟨hR, fun t _ _ h => ⟨h, rfl⟩, by simp, fun x hx => .inl ⟨x, hx, rfl, rfl⟩, fun y hy => ⟨y, hy, rfl, rfl⟩, by simp⟩
  | g :: l, m, hR, hok, he => by
    have hg := hok g (by simp)
    have h0 : layE m g = 0 := by
      unfold loadE at he
      split at he
      · assumption
      · rename_i h; exact absurd he h
    have hE : loadE (layM m g) l = 0 := by
      unfold loadE at he
      rwa [if_pos h0] at he
    have hF : loadF m (g :: l) = loadF (layM m g) l := by
      show (if layE m g = 0 then loadF (layM m g) l else []) = _
      rw [if_pos h0]
    rw [hF]
    obtain ⟨i1, i2, i3, i4, i5, i6⟩ := load_all l (layM m g) (layM_right hR hg) (fun x hx => hok x (by simp [hx])) hE
    obtain ⟨p1, p2, p3⟩ := lay_pages hR hg h0
    refine ⟨i1, fun t t0 t1 hn => ?_, fun x hx t t0 t1 hin => ?_, fun x hx => ?_, fun y hy => ?_, fun x hx j hj => ?_⟩
    · obtain ⟨o1, o2⟩ := lay_obs hR hg h0 t0 t1
      by_cases hin : inSg g t
      · have := (o1 hin).1
        omega
      · obtain ⟨q1, q2⟩ := o2 hin
        obtain ⟨r1, r2⟩ := i2 t t0 t1 (by rw [q1, hn])
        exact ⟨r1, by rw [r2, q2]⟩
    · rcases List.mem_cons.1 hx with rfl | hx
      · obtain ⟨o1, -⟩ := lay_obs hR hg h0 t0 t1
        obtain ⟨-, q1, q2⟩ := o1 hin
        obtain ⟨r1, r2⟩ := i2 t t0 t1 q1
        exact ⟨r1, by rw [r2, q2]⟩
      · exact i3 x hx t t0 t1 hin
    · rcases i4 x hx with ⟨y, hy, e1, e2⟩ | ⟨q, hq, e⟩
      · rcases p1 y hy with ⟨z, hz, e3, e4⟩ | e3
        · exact .inl ⟨z, hz, e3.trans e1, e4.trans e2⟩
        · exact .inr ⟨g, by simp, by rw [← e2, e3]⟩
      · exact .inr ⟨q, by simp [hq], e⟩
    · obtain ⟨z, hz, e1, e2⟩ := p2 y hy
      obtain ⟨x, hx, e3, e4⟩ := i5 z hz
      exact ⟨x, hx, e3.trans e1, e4.trans e2⟩
    · rcases List.mem_cons.1 hx with rfl | hx
      · obtain ⟨z, hz, e1, e2⟩ := p3 j hj
        obtain ⟨y, hy, e3, e4⟩ := i5 z hz
        exact ⟨y, hy, e3.trans e1, e4.trans e2⟩
      · exact i6 x hx j hj
end Go.Proofs.Ytdlbhkdjcegbfaa
