/- What the texts of package resolve stand on, of the packages ir and pick (part 4). -/
import Derived.Test.YtpifndpbmjmglaaHE2
import Derived.Test.YtpifndpbmjmglaaHR
namespace Go.Proofs.Ytpifndpbmjmglaa
open Go.RowKit
/-- how many pages a segment has -/
def sgN (g : Sg) : Nat := (upI g.z / 256).toNat
/-- why a segment's pages can't be laid, or nought -/
def layE (m : List M.Pg) (g : Sg) : Int := if mapErr m g.a (sgN g) g.p = 0 then fillErr (mapM m g.a (sgN g) g.p) g.a g.d.size else mapErr m g.a (sgN g) g.p
/-- memory with them -/
def layM (m : List M.Pg) (g : Sg) : List M.Pg := fillM (mapM m g.a (sgN g) g.p) g.a g.d
def loadE : List M.Pg → List Sg → Int
  | _, [] => 0
  | m, g :: l => if layE m g = 0 then loadE (layM m g) l else layE m g
def loadF : List M.Pg → List Sg → List M.Pg
  | m, [] => m
  | m, g :: l => if layE m g = 0 then loadF (layM m g) l else []
/-- a segment that may be -/
structure SgOk (g : Sg) : Prop where
  a0 : 0 ≤ g.a
  a1 : g.a < 1099511627776
  md : g.a % 256 = 0
  p1 : 1 ≤ g.p
  p7 : g.p ≤ 7
  p3 : g.p % 4 ≠ 3
  z1 : 1 ≤ g.z
  z2 : g.z ≤ 16384
  dz : (g.d.size : Int) ≤ g.z
theorem SgOk.of {g : Sg} (h : segB g = true) (hi : SgIn g) : SgOk g := by
  obtain ⟨⟨a0, _⟩, _, _, _⟩ := hi
  simp only [segB, permB, Bool.and_eq_true, decide_eq_true_eq] at h
  obtain ⟨⟨h1, h2⟩, ⟨h3, h4, h5⟩, h6, h7, h8⟩ := h
  exact ⟨a0, h2, h1, h3, h4, h5, h6, h7, h8⟩
theorem SgOk.pages {g : Sg} (h : SgOk g) : (sgN g : Int) = (g.z + 255) / 256 ∧ 1 ≤ (sgN g : Int) ∧ (sgN g : Int) ≤ 64 := by
  have h1 := h.z1
  have h2 := h.z2
  unfold sgN upI
  omega
/-- does a place stand in a segment's pages? -/
def inSg (g : Sg) (t : Int) : Prop := g.a ≤ t ∧ (t - g.a) / 256 < sgN g
/-- the byte at a place of a segment -/
def sgByte (g : Sg) (t : Int) : Int := if t < g.a + g.d.size then ((g.d.data.toList.getD (t - g.a).toNat 0).toNat : Int) else 0
theorem grant_there {m : List M.Pg} (h : M.Right m) (x : Int) : grantB m x 0 = M.there m x := by
  unfold grantB
  cases ht : M.there m x
  · rfl
  · obtain ⟨h1, _⟩ := (M.there_iff h.up _).1 ht
    rw [List.getElem?_eq_getElem h1]
    exact okBits_zero _
theorem there_num {m : List M.Pg} (h : M.Right m) {t : Int} (t0 : 0 ≤ t) (t1 : t ≤ 18446744073709551615) : numErr m t 1 0 = 0 ↔ M.there m (t - t % 256) = true := by
  rw [(one_num h t0 t1).1]
  cases M.there m (t - t % 256) <;> simp
theorem mapM_mem {m : List M.Pg} {a perm : Int} {N : Nat} (he : mapErr m a N perm = 0) (x : M.Pg) : x ∈ mapM m a N perm ↔ x ∈ m ∨ ∃ j : Nat, j < N ∧ x = ⟨a + 256 * j, perm, noughts⟩ := by
  obtain ⟨_, hm, -⟩ := mapErr_zero he
  have hk : mapM m a N perm = m.take (M.low m a) ++ ((List.range N).map (fun j : Nat => (⟨a + 256 * j, perm, noughts⟩ : M.Pg)) ++ m.drop (M.low m a)) := by
    unfold mapM
    rw [if_pos he, new_full a perm N hm]
  rw [hk]
  constructor
  · intro hx
    rcases List.mem_append.1 hx with h | h
    · exact .inl (List.mem_of_mem_take h)
    · rcases List.mem_append.1 h with h | h
      · obtain ⟨j, hj, rfl⟩ := List.mem_map.1 h
        exact .inr ⟨j, List.mem_range.1 hj, rfl⟩
      · exact .inl (List.mem_of_mem_drop h)
  · rintro (h | ⟨j, hj, rfl⟩)
    · rw [← List.take_append_drop (M.low m a) m] at h
      rcases List.mem_append.1 h with h | h
      · exact List.mem_append.2 (.inl h)
      · exact List.mem_append.2 (.inr (List.mem_append.2 (.inr h)))
    · exact List.mem_append.2 (.inr (List.mem_append.2 (.inl (List.mem_map.2 ⟨j, List.mem_range.2 hj, rfl⟩))))
/-- where the pages are, the bytes may be filled in -/
theorem lay_fill {m : List M.Pg} (hR : M.Right m) {g : Sg} (hg : SgOk g) (he : mapErr m g.a (sgN g) g.p = 0) : fillErr (mapM m g.a (sgN g) g.p) g.a g.d.size = 0 := by
  have hK : M.Right (mapM m g.a (sgN g) g.p) := mapM_right hR hg.a0
  have hp := hg.pages
  have h1 := hg.a0
  have h2 := hg.a1
  have h3 := hg.dz
  have h4 := hg.z2
  have hall : allGrantB (mapM m g.a (sgN g) g.p) g.a g.d.size 0 = true := by
    simp only [allGrantB, Bool.and_eq_true, Bool.not_eq_true', List.all_eq_true]
    refine ⟨by simp [beyondB]; omega, fun s hs => ?_⟩
    obtain ⟨hok, h5, h6⟩ := M.strs_ok h1 (by omega) s hs
    obtain ⟨o1, o2, o3, o4, o5, o6⟩ := hok
    rw [grant_there hK]
    obtain ⟨_, _, hin, _⟩ := new_of hR hg.a0 he (t := s.pg + s.f) (by omega) (by omega)
    have := (there_num hK (t := s.pg + s.f) (by omega) (by omega)).1 (hin ⟨h5, by omega⟩).1
    rwa [show s.pg + s.f - (s.pg + s.f) % 256 = s.pg by omega] at this
  unfold fillErr
  rw [Right.rb hK, hall]
  simp
theorem layE_zero {m : List M.Pg} (hR : M.Right m) {g : Sg} (hg : SgOk g) : layE m g = mapErr m g.a (sgN g) g.p := by
  unfold layE
  split
  · rename_i h
    rw [lay_fill hR hg h, h]
  · rfl
theorem layM_eq {m : List M.Pg} (hR : M.Right m) {g : Sg} (hg : SgOk g) (he : layE m g = 0) : layM m g = laid (mapM m g.a (sgN g) g.p) g.a g.d.data.toList := by
  rw [layE_zero hR hg] at he
  unfold layM fillM
  rw [if_pos (lay_fill hR hg he)]
theorem layM_right {m : List M.Pg} (hR : M.Right m) {g : Sg} (hg : SgOk g) : M.Right (layM m g) := (fillM_right (mapM_right hR hg.a0) _ _).1
/-- what is told of each place -/
theorem lay_obs {m : List M.Pg} (hR : M.Right m) {g : Sg} (hg : SgOk g) (he : layE m g = 0) {t : Int} (t0 : 0 ≤ t) (t1 : t ≤ 18446744073709551615) :
    (inSg g t → numErr m t 1 0 = 6 ∧ numErr (layM m g) t 1 0 = 0 ∧ loadV (layM m g) t 1 0 = sgByte g t) ∧
    (¬ inSg g t → numErr (layM m g) t 1 0 = numErr m t 1 0 ∧ loadV (layM m g) t 1 0 = loadV m t 1 0) := by
  rw [layM_eq hR hg he]
  rw [layE_zero hR hg] at he
  have hK : M.Right (mapM m g.a (sgN g) g.p) := mapM_right hR hg.a0
  obtain ⟨_, _, hin, hout⟩ := new_of hR hg.a0 he t0 t1
  obtain ⟨K, hKe⟩ : ∃ K, mapM m g.a (sgN g) g.p = K := ⟨_, rfl⟩
  rw [hKe] at hK hin hout ⊢
  have hL := laid_right hK g.a g.d.data.toList
  have hp := hg.pages
  have h3 := hg.dz
  have hl : (g.d.data.toList.length : Int) = g.d.size := by simp
  rw [laid_num hK, (one_num hL t0 t1).2, laid_there]
  have e1 := one_num hK t0 t1
  unfold inSg
  refine ⟨fun h => ?_, fun h => ?_⟩
  · obtain ⟨h1, h2, h4⟩ := hin h
    refine ⟨h4, h1, ?_⟩
    have ht := (there_num hK t0 t1).1 h1
    rw [if_pos ht, laid_byte hK _ _ _ ht, hl]
    rw [e1.2, if_pos ht] at h2
    unfold sgByte
    by_cases hlt : t < g.a + g.d.size
    · rw [if_pos ⟨h.1, hlt⟩, if_pos hlt]
    · rw [if_neg (fun c => hlt c.2), if_neg hlt]
      exact h2
  · obtain ⟨h1, h2⟩ := hout h
    refine ⟨h1, ?_⟩
    rw [← h2, e1.2]
    cases ht : M.there K (t - t % 256)
    · rfl
    · rw [if_pos rfl, if_pos rfl, laid_byte hK _ _ _ ht, hl, if_neg (fun c => h ⟨c.1, by omega⟩)]
/-- where its pages are, and what may be done with them -/
theorem lay_pages {m : List M.Pg} (hR : M.Right m) {g : Sg} (hg : SgOk g) (he : layE m g = 0) :
    (∀ x ∈ layM m g, (∃ y ∈ m, y.a = x.a ∧ y.p = x.p) ∨ x.p = g.p) ∧ (∀ y ∈ m, ∃ x ∈ layM m g, x.a = y.a ∧ x.p = y.p) ∧ (∀ j : Nat, j < sgN g → ∃ x ∈ layM m g, x.a = g.a + 256 * j ∧ x.p = g.p) := by
  rw [layM_eq hR hg he]
  rw [layE_zero hR hg] at he
  have hmem := mapM_mem he
  have hover : ∀ (y : M.Pg), (over y g.a g.d.data.toList).a = y.a ∧ (over y g.a g.d.data.toList).p = y.p := fun y => ⟨rfl, rfl⟩
  unfold laid
  refine ⟨fun x hx => ?_, fun y hy => ?_, fun j hj => ?_⟩
  · obtain ⟨y, hy, rfl⟩ := List.mem_map.1 hx
    rcases (hmem y).1 hy with h | ⟨j, _, rfl⟩
    · exact .inl ⟨y, h, rfl, rfl⟩
    · exact .inr rfl
  · exact ⟨_, List.mem_map.2 ⟨y, (hmem y).2 (.inl hy), rfl⟩, (hover y).1, (hover y).2⟩
  · exact ⟨_, List.mem_map.2 ⟨_, (hmem ⟨g.a + 256 * j, g.p, noughts⟩).2 (.inr ⟨j, hj, rfl⟩), rfl⟩, (hover _).1, (hover _).2⟩
/-- what is told of memory with all segments -/
theorem load_all : ∀ (l : List Sg) (m : List M.Pg), M.Right m → (∀ g ∈ l, SgOk g) → loadE m l = 0 →
    M.Right (loadF m l) ∧
    (∀ t, 0 ≤ t → t ≤ 18446744073709551615 → numErr m t 1 0 = 0 → numErr (loadF m l) t 1 0 = 0 ∧ loadV (loadF m l) t 1 0 = loadV m t 1 0) ∧
    (∀ g ∈ l, ∀ t, 0 ≤ t → t ≤ 18446744073709551615 → inSg g t → numErr (loadF m l) t 1 0 = 0 ∧ loadV (loadF m l) t 1 0 = sgByte g t) ∧
    (∀ x ∈ loadF m l, (∃ y ∈ m, y.a = x.a ∧ y.p = x.p) ∨ ∃ g ∈ l, x.p = g.p) ∧
    (∀ y ∈ m, ∃ x ∈ loadF m l, x.a = y.a ∧ x.p = y.p) ∧
    (∀ g ∈ l, ∀ j : Nat, j < sgN g → ∃ x ∈ loadF m l, x.a = g.a + 256 * j ∧ x.p = g.p)
  | [], m, hR, _, _ => ⟨hR, fun t _ _ h => ⟨h, rfl⟩, by simp, fun x hx => .inl ⟨x, hx, rfl, rfl⟩, fun y hy => ⟨y, hy, rfl, rfl⟩, by simp⟩
  | g :: l, m, hR, hok, he => by
    have hg := hok g (by simp)
    have h0 : layE m g = 0 := by
      unfold loadE at he
      split at he
      · assumption
      · rename_i h; exact absurd he h
    have hE : loadE (layM m g) l = 0 := by
      unfold loadE at he
      rwa [if_pos h0] at he
    have hF : loadF m (g :: l) = loadF (layM m g) l := by
      show (if layE m g = 0 then loadF (layM m g) l else []) = _
      rw [if_pos h0]
    rw [hF]
    obtain ⟨i1, i2, i3, i4, i5, i6⟩ := load_all l (layM m g) (layM_right hR hg) (fun x hx => hok x (by simp [hx])) hE
    obtain ⟨p1, p2, p3⟩ := lay_pages hR hg h0
    refine ⟨i1, fun t t0 t1 hn => ?_, fun x hx t t0 t1 hin => ?_, fun x hx => ?_, fun y hy => ?_, fun x hx j hj => ?_⟩
    · obtain ⟨o1, o2⟩ := lay_obs hR hg h0 t0 t1
      by_cases hin : inSg g t
      · have := (o1 hin).1
        omega
      · obtain ⟨q1, q2⟩ := o2 hin
        obtain ⟨r1, r2⟩ := i2 t t0 t1 (by rw [q1, hn])
        exact ⟨r1, by rw [r2, q2]⟩
    · rcases List.mem_cons.1 hx with rfl | hx
      · obtain ⟨o1, -⟩ := lay_obs hR hg h0 t0 t1
        obtain ⟨-, q1, q2⟩ := o1 hin
        obtain ⟨r1, r2⟩ := i2 t t0 t1 q1
        exact ⟨r1, by rw [r2, q2]⟩
      · exact i3 x hx t t0 t1 hin
    · rcases i4 x hx with ⟨y, hy, e1, e2⟩ | ⟨q, hq, e⟩
      · rcases p1 y hy with ⟨z, hz, e3, e4⟩ | e3
        · exact .inl ⟨z, hz, e3.trans e1, e4.trans e2⟩
        · exact .inr ⟨g, by simp, by rw [← e2, e3]⟩
      · exact .inr ⟨q, by simp [hq], e⟩
    · obtain ⟨z, hz, e1, e2⟩ := p2 y hy
      obtain ⟨x, hx, e3, e4⟩ := i5 z hz
      exact ⟨x, hx, e3.trans e1, e4.trans e2⟩
    · rcases List.mem_cons.1 hx with rfl | hx
      · obtain ⟨z, hz, e1, e2⟩ := p3 j hj
        obtain ⟨y, hy, e3, e4⟩ := i5 z hz
        exact ⟨y, hy, e3.trans e1, e4.trans e2⟩
      · exact i6 x hx j hj
end Go.Proofs.Ytpifndpbmjmglaa
namespace Go.Proofs.Ytpifndpbmjmglaa
open Go.RowKit
theorem up_same (v : Int) (h0 : 0 ≤ v) (h1 : v ≤ 18446744073709551615) (w : World) : Calls Try.prog 17 #[.int .u64 v] w fun e w' => e = .returned (.int .u64 (upI v)) ∧ w' = w := (up_any v h0 h1 w).mono fun _ _ h => ⟨h.1, h.2.symm⟩
/-- may these stand behind one another, the first one not below e? -/
def goB : Int → List Sg → Bool
  | _, [] => true
  | e, g :: t => segB g && (decide (e ≤ g.a) && goB (g.a + upI g.z) t)
def segsB (l : List Sg) : Bool := decide (1 ≤ l.length ∧ l.length ≤ 4) && goB 0 l
theorem segB_parts {s : Sg} (h : segB s = true) : s.a % 256 = 0 ∧ s.a < 1099511627776 ∧ permB s.p = true ∧ 1 ≤ s.z ∧ s.z ≤ 16384 ∧ (s.d.size : Int) ≤ s.z := by
  unfold segB at h
  simp only [Bool.and_eq_true, decide_eq_true_eq] at h
  exact ⟨h.1.1, h.1.2, h.2.1, h.2.2.1, h.2.2.2.1, h.2.2.2.2⟩
theorem permB_parts {p : Int} (h : permB p = true) : 1 ≤ p ∧ p ≤ 7 ∧ p % 4 ≠ 3 := by
  unfold permB at h
  exact of_decide_eq_true h
set_option maxRecDepth 100000 in
set_option maxHeartbeats 4000000 in
theorem esegs_any (l : List Sg) (A : Option Addr) (nv cap : Nat) (w : World) (hS : Segs w (.slice A nv cap) l) (hI : ∀ s ∈ l, SgIn s) :
    Calls Try.prog 22 #[.slice A nv cap] w fun e w' => e = .returned (.bool (segsB l)) ∧ Below w.heap.size w w' := by
  have hn := hS.len
  have HS := Lib.hid hS
  have HI := Lib.hid hI
  have HN := Lib.hid hn
  by_cases h1 : nv < 1
  · have HE := Lib.hid (show segsB l = false by unfold segsB; rw [decide_eq_false (by omega)]; rfl)
    have t1 : decide ((nv : Int) < 1) = true := decide_eq_true (by omega)
    clear h1 hS hI hn
    go_enter Try.func22, Try.ntmps22
    go_wp2_with fail
    go_ret
    exact ⟨ret_bool (by rw [HE.out]), Below.refl _ _⟩
  by_cases h4 : 4 < nv
  · have HE := Lib.hid (show segsB l = false by unfold segsB; rw [decide_eq_false (by omega)]; rfl)
    have t1 : decide ((nv : Int) < 1) = false := decide_eq_false (by omega)
    have t2 : decide (4 < (nv : Int)) = true := decide_eq_true (by omega)
    clear h1 h4 hS hI hn
    go_enter Try.func22, Try.ntmps22
    go_wp2_with fail
    go_ret
    exact ⟨ret_bool (by rw [HE.out]), Below.refl _ _⟩
  have HE := Lib.hid (show segsB l = goB 0 l by unfold segsB; rw [decide_eq_true (by omega)]; rfl)
  have t1 : decide ((nv : Int) < 1) = false := decide_eq_false (by omega)
  have t2 : decide (4 < (nv : Int)) = false := decide_eq_false (by omega)
  have n4 : (nv : Int) ≤ 4 := by omega
  clear h1 h4 hS hI hn
  go_enter Try.func22, Try.ntmps22
  go_wp2_with fail
  go_loopw [3, 16] (fun ev iv wr => ∃ (i : Nat) (e : Int), i ≤ nv ∧ iv = .int .i64 i ∧ ev = .int .u64 e ∧ 0 ≤ e ∧ e ≤ 1099511660000 ∧ goB 0 l = goB e (l.drop i) ∧ Below w.heap.size w wr) (fun _ iv _ => nv - (intOf iv).toNat)
  case atStart => exact ⟨0, 0, Nat.zero_le _, rfl, rfl, by omega, by omega, rfl, Below.refl _ _⟩
  case round =>
    obtain ⟨i, e, hi, rfl, rfl, e0, e1, hg, hb⟩ := hrel
    have HB := Lib.hid hb
    have HG := Lib.hid hg
    clear hb hg
    by_cases hlt : i < nv
    · have hil : i < l.length := by have := HN.out; omega
      obtain ⟨b, off, hA, c0, c1, c2, c3⟩ := (HS.out.next HB.out).at_ hil
      subst hA
      have hd : l.drop i = l[i] :: l.drop (i + 1) := List.drop_eq_getElem_cons hil
      have hsg := HI.out l[i] (List.getElem_mem hil)
      obtain ⟨g, hgg⟩ : ∃ g, l[i] = g := ⟨_, rfl⟩
      rw [hgg] at c0 c1 c2 c3 hd hsg
      have HD := Lib.hid (show goB 0 l = (segB g && (decide (e ≤ g.a) && goB (g.a + upI g.z) (l.drop (i + 1)))) by rw [HG.out, hd]; rfl)
      have HSG := Lib.hid hsg
      have HM := Lib.hid (fun W => eseg_any g HSG.out W)
      obtain ⟨a, p, d, z⟩ := g
      simp only at c0 c1 c2 c3
      unfold sgV at HM
      simp only at HM
      have a0 : 0 ≤ a := HSG.out.1.1
      have a1 : a ≤ 18446744073709551615 := HSG.out.1.2
      have z0 : 0 ≤ z := HSG.out.2.2.1.1
      have z1 : z ≤ 18446744073709551615 := HSG.out.2.2.1.2
      have HIL := Lib.hid hlt
      have i0 : (0 : Int) ≤ (i : Int) := by omega
      have i1 : (i : Int) < (nv : Int) := by omega
      clear hd hsg hgg hil
      cases hsb : segB ⟨a, p, d, z⟩ with
      | false =>
        rw [hsb] at HM
        have HF := Lib.hid (show goB 0 l = false by rw [HD.out, hsb]; rfl)
        clear hsb
        go_wp2_with fail
        refine (HM.out _).mono ?_
        rintro e' w2 ⟨rfl, hb2⟩
        have HB2 := Lib.hid (bthen (balloc HB.out _) hb2)
        clear hb2
        go_wp2_with fail
        go_ret
        exact ⟨ret_bool (by rw [HE.out, HF.out]), HB2.out⟩
      | true =>
        obtain ⟨-, ga, -, -, gz, -⟩ := segB_parts hsb
        simp only at ga gz
        have HT := Lib.hid hsb
        rw [hsb] at HM
        clear hsb
        by_cases hae : a < e
        · have HF := Lib.hid (show goB 0 l = false by rw [HD.out, decide_eq_false (show ¬ e ≤ a by omega)]; simp)
          go_wp2_with fail
          refine (HM.out _).mono ?_
          rintro e' w2 ⟨rfl, hb2⟩
          have HB2 := Lib.hid (bthen (balloc HB.out _) hb2)
          have k0 : w2.cell? ⟨wr.heap.size, 0, none⟩ = some (.int .u64 a) := by
            rw [(bcell hb2).1 _ _ (by simp)]; simp [go_sem]
          clear hb2
          go_wp2_with fail
          go_ret
          exact ⟨ret_bool (by rw [HE.out, HF.out]), HB2.out⟩
        · have hup := upI_in z z0 (by omega)
          have HU := Lib.hid (fun W => up_same z z0 z1 W)
          have HNX := Lib.hid (show goB 0 l = goB (a + upI z) (l.drop (i + 1)) by rw [HD.out, HT.out, decide_eq_true (show e ≤ a by omega)]; rfl)
          obtain ⟨u, hu⟩ : ∃ u, upI z = u := ⟨_, rfl⟩
          rw [hu] at HU HNX hup
          have u0 : 0 ≤ u := by omega
          have u1 : u ≤ 16639 := by omega
          clear hup hu
          go_wp2_with fail
          refine (HM.out _).mono ?_
          rintro e' w2 ⟨rfl, hb2⟩
          have HB2 := Lib.hid (bthen (balloc HB.out _) hb2)
          have k0 : w2.cell? ⟨wr.heap.size, 0, none⟩ = some (.int .u64 a) := by
            rw [(bcell hb2).1 _ _ (by simp)]; simp [go_sem]
          have k3 : w2.cell? ⟨wr.heap.size, 3, none⟩ = some (.int .u64 z) := by
            rw [(bcell hb2).1 _ _ (by simp)]; simp [go_sem]
          clear hb2 c0 c1 c2 c3
          have hsum : IntKind.u64.wrap (a + u) = a + u := by rw [IntKind.wrap_u64]; omega
          go_wp2_with fail
          go_quiet ((go_at_call 17; exact Calls.quiet_of_same (HU.out _)))
          have HB3 := Lib.hid (bthen HB2.out (drewN_below w2 nq))
          clear k0 k3
          generalize w2.drewN nq = w3 at *
          go_wp2_with fail
          go_roundw
          case rel => exact ⟨i + 1, a + u, HIL.out, by go_num, rfl, by omega, by omega, HNX.out, HB3.out⟩
          case measure => have := HIL.out; simp [intOf]; omega
    · have HF := Lib.hid (show goB 0 l = true by rw [HG.out, List.drop_of_length_le (by have := HN.out; omega)]; rfl)
      go_wp2_with fail
      go_ret
      exact ⟨ret_bool (by rw [HE.out, HF.out]), HB.out⟩
end Go.Proofs.Ytpifndpbmjmglaa
namespace Go.Proofs.Ytpifndpbmjmglaa
open Go.RowKit Go.Shelf
attribute [local go_sem] Oper.semAt_some
set_option maxRecDepth 100000 in
set_option maxHeartbeats 2000000 in
theorem anyThere_in {m : List M.Pg} {v : Value} (a k : Int) {w : World} (hP : Pages w v m) (hl : m.length ≤ 1000000) (hu : m.Pairwise (fun x y => x.a < y.a))
    (a0 : 0 ≤ a) (a1 : a ≤ 18446744073709551615) (k0 : 1 ≤ k) (k1 : k ≤ 64) (hk : a + k * 256 ≤ 18446744073709551616) :
    Calls Try.prog 49 #[v, .int .u64 a, .int .i64 k] w fun e W' => e = .returned (.bool ((M.strs a (k * 256)).any (fun s => M.there m s.pg))) ∧ Below w.heap.size w W' := by
  have HF := Lib.hid (fun (W : World) (h : Below w.heap.size w W) (x : Int) => find_any x (hP.next h) hl hu)
  obtain ⟨A, cap, hv⟩ := hP.slice
  obtain ⟨nv, hnv⟩ : ∃ nv, m.length = nv := ⟨_, rfl⟩
  rw [hnv] at hv
  subst hv
  clear hP hl hu hnv
  refine (callsIn_wide (n := 3)).1 ?_
  refine callsIn_of_wp_marks Try.func49 rfl trivial ?_ rfl
  simp only [Try.ntmps49, List.size_toArray, List.length_cons, List.length_nil, Nat.reduceAdd, Nat.reduceSub, Array.replicate_succ, Array.replicate_zero, List.push_toArray, List.append_toArray, List.nil_append, List.cons_append]
  gi_wp2_with (fail)
  refine ⟨trivial, ?_⟩
  refine (stretches_in 2 _ _ _).mono ?_
  rintro e w1 ⟨rfl, rfl⟩
  gi_wp2_with (fail)
  have bV := ((((Boxed.new w 28 (.slice A nv cap)).alloc (.cells #[.bool false] 4)).alloc (.cells #[.int .u64 a] 22)).alloc (.cells #[.int .i64 (k * 256)] 3))
  have bR := (((Boxed.new (w.alloc (.cells #[.slice A nv cap] 28)) 4 (.bool false)).alloc (.cells #[.int .u64 a] 22)).alloc (.cells #[.int .i64 (k * 256)] 3))
  have bA := ((Boxed.new ((w.alloc (.cells #[.slice A nv cap] 28)).alloc (.cells #[.bool false] 4)) 22 (.int .u64 a)).alloc (.cells #[.int .i64 (k * 256)] 3))
  have bK := (Boxed.new (((w.alloc (.cells #[.slice A nv cap] 28)).alloc (.cells #[.bool false] 4)).alloc (.cells #[.int .u64 a] 22)) 3 (.int .i64 (k * 256)))
  have hB0 := (balloc (balloc (balloc (balloc (Below.refl _ w) (.cells #[.slice A nv cap] 28)) (.cells #[.bool false] 4)) (.cells #[.int .u64 a] 22)) (.cells #[.int .i64 (k * 256)] 3))
  have hsz : ((((w.alloc (.cells #[.slice A nv cap] 28)).alloc (.cells #[.bool false] 4)).alloc (.cells #[.int .u64 a] 22)).alloc (.cells #[.int .i64 (k * 256)] 3)).heap.size = w.heap.size + 4 := by simp
  simp only [World.size_alloc] at bR bA bK
  generalize ((((w.alloc (.cells #[.slice A nv cap] 28)).alloc (.cells #[.bool false] 4)).alloc (.cells #[.int .u64 a] 22)).alloc (.cells #[.int .i64 (k * 256)] 3)) = W0 at *
  refine wpIn_rangeFunc_ownH (α := {s : M.Str // True}) rfl (by omega) (gf := 63) (lb := #[.pointer (some ⟨w.heap.size + 1 + 1, 0, none⟩), .pointer (some ⟨w.heap.size + 1 + 1 + 1, 0, none⟩)]) rfl trivial (enters_of Try.func63 (by kernel_rfl) rfl)
    (strs_stops 2 (by omega) (w.heap.size + 1 + 1) (w.heap.size + 1 + 1 + 1) a (k * 256) (fun _ => True) (fun _ _ => trivial) a0 a1 (by omega) hk W0 (by omega) (by omega) bA.cell bK.cell) KeepS.trans keepS_b (Below.refl _ _) (fun _ => rfl)
    (fun pre W => (Boxed W w.heap.size 28 (.slice A nv cap) ∧ Boxed W (w.heap.size + 1) 4 (.bool false)) ∧ (∀ x ∈ pre, M.there m x.1.pg = false) ∧ Below w.heap.size w W)
    (fun c pre W => Boxed W (w.heap.size + 1) 4 (.bool true) ∧ (c = .ret ∧ ∃ x ∈ pre, M.there m x.1.pg = true) ∧ Below w.heap.size w W)
    (OwnFrom.and (OwnFrom.and (Own.from (boxed_own _ _ _) _) (Own.from (boxed_own _ _ _) _)) (OwnFrom.and (ownFrom_pure _ _) (ownFrom_below (Nat.le_refl _) (by omega))))
    (fun c => OwnFrom.and (Own.from (boxed_own _ _ _) _) (OwnFrom.and (ownFrom_pure _ _) (ownFrom_below (Nat.le_refl _) (by omega))))
    ⟨⟨bV, bR⟩, by simp, hB0⟩
    (fun x a' W => ∃ Bx, BoxedS W Bx x.1 ∧ a' = { tmps := #[.slice A nv cap, .int .u64 a, .int .i64 k, .pointer (some ⟨w.heap.size, 0, none⟩), undef, undef, .pointer (some ⟨w.heap.size + 1, 0, none⟩), .pointer (some ⟨Bx, 0, none⟩), undef, undef, .int .u64 a, .int .i64 k, .int .i64 (k * 256), .func (.func 63) #[] #[.pointer (some ⟨w.heap.size + 1 + 1, 0, none⟩), .pointer (some ⟨w.heap.size + 1 + 1 + 1, 0, none⟩)], encS x.1, undef, undef, undef, undef, undef, undef, undef, undef], defers := [] })
    (fun x a' s X Y row hs hg hr => by obtain ⟨Bx, h1, h2⟩ := hs; exact ⟨Bx, boxedS_own Bx x.1 () X Y row h1 hg hr, h2⟩)
    ?assign ?body ?done ?stop
  case assign =>
    rintro l pre x W K ⟨⟨b1, b3⟩, hp, hb⟩ hK
    have HK := Lib.hid hK
    clear hK
    obtain ⟨⟨pg, f, n⟩, hx⟩ := x
    simp only [encS]
    gi_wp2
    exact HK.out _ _ ((KeepsOthers.alloc _ _).from _) (KeepS.below (balloc (Below.refl _ _) _)) ⟨⟨b1.alloc _, b3.alloc _⟩, hp, balloc hb _⟩ ⟨W.heap.size, BoxedS.new W ⟨pg, f, n⟩, rfl⟩
  case body =>
    rintro l pre x a' W hl hr ⟨⟨b1, b3⟩, hp, hb⟩ ⟨Bx, bx, rfl⟩ hlen
    have HG := Lib.hid (HF.out W hb x.1.pg)
    have HI := Lib.hid (show (Boxed W w.heap.size 28 (.slice A nv cap) ∧ Boxed W (w.heap.size + 1) 4 (.bool false)) ∧ (∀ x ∈ pre, M.there m x.1.pg = false) ∧ Below w.heap.size w W from ⟨⟨b1, b3⟩, hp, hb⟩)
    have c1 := b1.cell
    obtain ⟨c3, -, -⟩ := bx.cells
    have HX := Lib.hid (show encS x.1 = .agg #[.int .u64 x.1.pg, .int .i64 x.1.f, .int .i64 x.1.n] from rfl)
    have HP := Lib.hid (show x ∈ pre ++ [x] by simp)
    clear hp hb b1 b3 bx hr hl hlen
    rw [HX.out]
    obtain ⟨pg, hpg⟩ : ∃ pg, x.1.pg = pg := ⟨_, rfl⟩
    rw [hpg] at HG c3 ⊢
    have HPG := Lib.hid hpg
    clear hpg
    obtain ⟨t, ht⟩ : ∃ t, M.low m pg = t := ⟨_, rfl⟩
    rw [ht] at HG
    clear ht
    cases hq : M.there m pg
    · rw [hq] at HG
      have HQ := Lib.hid hq
      clear hq
      gi_wp2_with (fail)
      refine ⟨trivial, ?_⟩
      refine (CallsIn.inRound l (callsIn_wide.2 HG.out)).mono ?_
      rintro e w1 ⟨rfl, hb1⟩
      have HB1 := Lib.hid hb1
      clear hb1
      gi_wp2_with (fail)
      refine ⟨keeps_below _ HB1.out, KeepS.below HB1.out, ⟨boxed_below HI.out.1.1 HB1.out, boxed_below HI.out.1.2 HB1.out⟩, fun y hy => ?_, bthen HI.out.2.2 HB1.out⟩
      rcases List.mem_append.1 hy with h | h
      · exact HI.out.2.1 y h
      · obtain rfl : y = x := by simpa using h
        rw [HPG.out]; exact HQ.out
    · rw [hq] at HG
      have HQ := Lib.hid hq
      clear hq
      gi_wp2_with (fail)
      refine ⟨trivial, ?_⟩
      refine (CallsIn.inRound l (callsIn_wide.2 HG.out)).mono ?_
      rintro e w1 ⟨rfl, hb1⟩
      have HB1 := Lib.hid hb1
      have f3 := (boxed_below HI.out.1.2 hb1).frozen
      have d3 := (boxed_below HI.out.1.2 hb1).cell
      clear hb1
      gi_wp2_with (fail)
      refine ⟨(keeps_below _ HB1.out).trans ((KeepsOthers.setCell _ _ _).from _), (boxed_below HI.out.1.2 HB1.out).set _, ⟨rfl, x, HP.out, by rw [HPG.out]; exact HQ.out⟩, ?_⟩
      exact (bthen HI.out.2.2 HB1.out).setCell (p := ⟨w.heap.size + 1, 0, none⟩) (by simp) _
  case done =>
    rintro D ys W hD hys ⟨⟨_, b3⟩, hp, hb⟩ hK
    have f3 := b3.frozen
    have c3 := b3.cell
    gi_wp2_with (fail)
    have hK' := (KeepsOthers.setCell W ⟨w.heap.size + 1, 0, none⟩ (.bool false)).same D _ hK rfl
    refine ⟨by simp, .inl ⟨_, _, rfl, run_takeDeferred hK', ?_⟩⟩
    have hc := cell_kept (b3.set (.bool false)).cell (grownBy_putObj' _ D (.deferred none)) (fun r e => by cases e; exact ⟨_, hK', rfl⟩)
    refine ⟨.bool false, ?_, ret_bool ?_, (hb.setCell (p := ⟨w.heap.size + 1, 0, none⟩) (by simp) _).trans (belowK_b (w := w) (Nat.le_refl _) _ D _ _ (by omega) hK' rfl rfl)⟩
    · simp [results, Try.f49, go_sem, hc]
    · symm
      rw [← hys, List.any_eq_false]
      intro s hs
      obtain ⟨y, hy, rfl⟩ := List.mem_map.1 hs
      rw [hp y hy]; simp
  case stop =>
    rintro D c pre W hD hpre ⟨b3, ⟨rfl, y, hy, hg⟩, hb⟩ hK
    gi_wp2_with (fail)
    refine ⟨by simp, .inl ⟨_, _, rfl, run_takeDeferred hK, ?_⟩⟩
    have hc := cell_kept b3.cell (grownBy_putObj' _ D (.deferred none)) (fun r e => by cases e; exact ⟨_, hK, rfl⟩)
    refine ⟨.bool true, ?_, ret_bool ?_, hb.trans (belowK_b (w := w) (Nat.le_refl _) W D _ _ (by omega) hK rfl rfl)⟩
    · simp [results, Try.f49, go_sem, hc]
    · symm
      rw [List.any_eq_true]
      exact ⟨y.1, hpre.subset (List.mem_map_of_mem hy), hg⟩
end Go.Proofs.Ytpifndpbmjmglaa
namespace Go.Proofs.Ytpifndpbmjmglaa
open Go.RowKit
set_option maxHeartbeats 2000000 in
theorem mapErr_any {m : List M.Pg} {v : Value} (a n perm : Int) {w : World} (hP : Pages w v m) (hw : Wf m) (a0 : 0 ≤ a) (a1 : a ≤ 18446744073709551615) :
    Calls Try.prog 36 #[v, .int .u64 a, .int .i64 n, .int .i64 perm] w fun e w' => e = .returned (.int .i64 (mapErr m a n perm)) ∧ Below w.heap.size w w' := by
  have HR := Lib.hid (right_any hP hw.len hw.a0)
  have HG := Lib.hid (fun (h : mapArg m a n perm = true) (W : World) (hb : Below w.heap.size w W) => by
    simp only [mapArg, Bool.and_eq_true, decide_eq_true_eq, Bool.not_eq_true'] at h
    obtain ⟨hr, _, h1, h2, _, hby⟩ := h
    have hR := Right.of hr hw.a0 hw.a1
    exact anyThere_in a n (hP.next hb) (Nat.le_trans hR.len (by omega)) hR.up a0 a1 h1 h2 (by simp [beyondB] at hby; omega))
  have HL := Lib.hid (fun (h : rightB m = true) => (Right.of h hw.a0 hw.a1).len)
  obtain ⟨A, cap, hv⟩ := hP.slice
  obtain ⟨nv, hnv⟩ : ∃ nv, m.length = nv := ⟨_, rfl⟩
  have HN := Lib.hid hnv
  rw [hnv] at hv
  subst hv
  clear hP hnv hw
  have T1 := Lib.hid (fun h : mapArg m a n perm = false => (show mapErr m a n perm = 1 by unfold mapErr; rw [if_pos h]))
  cases hr : rightB m
  · have HE := Lib.hid (T1.out (by simp [mapArg, hr]))
    rw [hr] at HR
    clear hr
    go_enter Try.func36, Try.ntmps36
    go_wp2_with fail
    refine HR.out.mono ?_
    rintro e w1 ⟨rfl, hb1⟩
    have HB1 := Lib.hid hb1
    clear hb1
    go_wp2_with fail
    go_ret
    exact ⟨by rw [HE.out]; rfl, HB1.out⟩
  · have hlen := HL.out hr
    rw [HN.out] at hlen
    rw [hr] at HR
    by_cases h1 : a % 256 = 0
    · have t1 : (a % 256 != 0) = false := by simp [h1]
      by_cases h2 : 1 ≤ n
      · have t2 : decide (n < 1) = false := by simp; omega
        by_cases h3 : n ≤ 64
        · have t3 : decide (64 < n) = false := by simp; omega
          cases hp : M.okPerm perm
          · have HE := Lib.hid (T1.out (by simp [mapArg, hr, h1, h2, h3, hp]))
            have HPM := Lib.hid (fun W => perm_any perm W)
            rw [hp] at HPM
            clear hr h1 hp
            go_enter Try.func36, Try.ntmps36
            go_wp2_with fail
            refine HR.out.mono ?_
            rintro e w1 ⟨rfl, hb1⟩
            have HB1 := Lib.hid hb1
            clear hb1
            go_wp2_with fail
            refine (HPM.out _).mono ?_
            rintro e w2 ⟨rfl, rfl⟩
            go_wp2_with fail
            go_ret
            exact ⟨by rw [HE.out]; rfl, HB1.out⟩
          · have HPM := Lib.hid (fun W => perm_any perm W)
            rw [hp] at HPM
            have HBY := Lib.hid (fun W => beyond_any a (n * 256) a0 a1 (by omega) W)
            cases hb : beyondB a (n * 256)
            · have hma : mapArg m a n perm = true := by simp [mapArg, hr, h1, h2, h3, hp, hb]
              have HA := Lib.hid (fun (W : World) (hb : Below w.heap.size w W) => HG.out hma W hb)
              have HAE := Lib.hid (show anyB m a n = (M.strs a (n * 256)).any (fun s => M.there m s.pg) from rfl)
              rw [hb] at HBY
              have T2 := Lib.hid (show mapErr m a n perm = bif anyB m a n then 9 else if 64 < (nv : Int) + n then 4 else 0 by
                unfold mapErr
                rw [if_neg (by simp [hma]), HN.out]
                cases anyB m a n <;> simp)
              rw [← HAE.out] at HA
              cases hq : anyB m a n
              · rw [hq] at HA T2
                have hsum : IntKind.i64.wrap ((nv : Int) + n) = (nv : Int) + n := by rw [IntKind.wrap_i64]; omega
                by_cases h6 : 64 < (nv : Int) + n
                · have HE := Lib.hid (T2.out.trans (show (bif false then 9 else if 64 < (nv : Int) + n then (4 : Int) else 0) = 4 by simp [h6]))
                  clear hr h1 hp hb hma hq
                  go_enter Try.func36, Try.ntmps36
                  go_wp2_with fail
                  refine HR.out.mono ?_
                  rintro e w1 ⟨rfl, hb1⟩
                  have HB1 := Lib.hid hb1
                  clear hb1
                  go_wp2_with fail
                  refine (HPM.out _).mono ?_
                  rintro e w2 ⟨rfl, rfl⟩
                  go_wp2_with fail
                  refine (HBY.out _).mono ?_
                  rintro e w2 ⟨rfl, rfl⟩
                  go_wp2_with fail
                  refine (HA.out _ HB1.out).mono ?_
                  rintro e w2 ⟨rfl, hb2⟩
                  have HB2 := Lib.hid (bthen HB1.out hb2)
                  clear hb2
                  go_wp2_with fail
                  go_ret
                  exact ⟨by rw [HE.out]; rfl, HB2.out⟩
                · have HE := Lib.hid (T2.out.trans (show (bif false then 9 else if 64 < (nv : Int) + n then (4 : Int) else 0) = 0 by simp [h6]))
                  have t6 : decide (64 < (nv : Int) + n) = false := by simp; omega
                  clear hr h1 hp hb hma hq h6
                  go_enter Try.func36, Try.ntmps36
                  go_wp2_with fail
                  refine HR.out.mono ?_
                  rintro e w1 ⟨rfl, hb1⟩
                  have HB1 := Lib.hid hb1
                  clear hb1
                  go_wp2_with fail
                  refine (HPM.out _).mono ?_
                  rintro e w2 ⟨rfl, rfl⟩
                  go_wp2_with fail
                  refine (HBY.out _).mono ?_
                  rintro e w2 ⟨rfl, rfl⟩
                  go_wp2_with fail
                  refine (HA.out _ HB1.out).mono ?_
                  rintro e w2 ⟨rfl, hb2⟩
                  have HB2 := Lib.hid (bthen HB1.out hb2)
                  clear hb2
                  go_wp2_with fail
                  go_ret
                  exact ⟨by rw [HE.out]; rfl, HB2.out⟩
              · rw [hq] at HA T2
                clear hr h1 hp hb hma hq
                go_enter Try.func36, Try.ntmps36
                go_wp2_with fail
                refine HR.out.mono ?_
                rintro e w1 ⟨rfl, hb1⟩
                have HB1 := Lib.hid hb1
                clear hb1
                go_wp2_with fail
                refine (HPM.out _).mono ?_
                rintro e w2 ⟨rfl, rfl⟩
                go_wp2_with fail
                refine (HBY.out _).mono ?_
                rintro e w2 ⟨rfl, rfl⟩
                go_wp2_with fail
                refine (HA.out _ HB1.out).mono ?_
                rintro e w2 ⟨rfl, hb2⟩
                have HB2 := Lib.hid (bthen HB1.out hb2)
                clear hb2
                go_wp2_with fail
                go_ret
                exact ⟨by rw [T2.out]; rfl, HB2.out⟩
            · have HE := Lib.hid (T1.out (by simp [mapArg, hb]))
              rw [hb] at HBY
              clear hr h1 hp hb
              go_enter Try.func36, Try.ntmps36
              go_wp2_with fail
              refine HR.out.mono ?_
              rintro e w1 ⟨rfl, hb1⟩
              have HB1 := Lib.hid hb1
              clear hb1
              go_wp2_with fail
              refine (HPM.out _).mono ?_
              rintro e w2 ⟨rfl, rfl⟩
              go_wp2_with fail
              refine (HBY.out _).mono ?_
              rintro e w2 ⟨rfl, rfl⟩
              go_wp2_with fail
              go_ret
              exact ⟨by rw [HE.out]; rfl, HB1.out⟩
        · have HE := Lib.hid (T1.out (by simp [mapArg, h3]))
          have t3 : decide (64 < n) = true := by simp; omega
          clear hr h1 h3
          go_enter Try.func36, Try.ntmps36
          go_wp2_with fail
          refine HR.out.mono ?_
          rintro e w1 ⟨rfl, hb1⟩
          have HB1 := Lib.hid hb1
          clear hb1
          go_wp2_with fail
          go_ret
          exact ⟨by rw [HE.out]; rfl, HB1.out⟩
      · have HE := Lib.hid (T1.out (by simp [mapArg, h2]))
        have t2 : decide (n < 1) = true := by simp; omega
        clear hr h1 h2
        go_enter Try.func36, Try.ntmps36
        go_wp2_with fail
        refine HR.out.mono ?_
        rintro e w1 ⟨rfl, hb1⟩
        have HB1 := Lib.hid hb1
        clear hb1
        go_wp2_with fail
        go_ret
        exact ⟨by rw [HE.out]; rfl, HB1.out⟩
    · have HE := Lib.hid (T1.out (by simp [mapArg, h1]))
      have t1 : (a % 256 != 0) = true := by simp [h1]
      clear hr h1
      go_enter Try.func36, Try.ntmps36
      go_wp2_with fail
      refine HR.out.mono ?_
      rintro e w1 ⟨rfl, hb1⟩
      have HB1 := Lib.hid hb1
      clear hb1
      go_wp2_with fail
      go_ret
      exact ⟨by rw [HE.out]; rfl, HB1.out⟩
end Go.Proofs.Ytpifndpbmjmglaa
namespace Go.Proofs.Ytpifndpbmjmglaa
open Go.RowKit Go.Shelf
attribute [local go_sem] Oper.semAt_some
theorem three_new (W : World) (a p : Int) (d : ByteArray) (t : TypeId) : ∀ (j : Nat) (u : Value), [Value.int .u64 a, .int .i64 p, .string d][j]? = some u → (W.alloc (.cells #[.int .u64 a, .int .i64 p, .string d] t)).cell? ((⟨W.heap.size, 0, none⟩ : Addr).add j) = some u := by
  intro j u hu
  obtain ⟨h0, h1, h2⟩ := page_new W a p d t
  rw [pg_add, Nat.zero_add]
  match j, hu with
  | 0, hu => cases hu; exact h0
  | 1, hu => cases hu; exact h1
  | 2, hu => cases hu; exact h2
  | j + 3, hu => simp at hu
set_option maxRecDepth 100000 in
set_option maxHeartbeats 4000000 in
theorem blank_in (a : Int) (kn : Nat) (perm : Int) (w : World) (a0 : 0 ≤ a) (a1 : a ≤ 18446744073709551615) (k0 : 1 ≤ kn) (k1 : kn ≤ 64) (hk : a + (kn : Int) * 256 ≤ 18446744073709551616) :
    Calls Try.prog 40 #[.int .u64 a, .int .i64 kn, .int .i64 perm] w (NewPages ((M.strs a ((kn : Int) * 256)).map (mkPg perm noughts)) w) := by
  obtain ⟨i0, hi, hz0, hz1, hz2⟩ := info_parts pg_info
  have HRP := Lib.hid (fun W => repeat_z W)
  obtain ⟨Z, hZ⟩ : ∃ Z, noughts = Z := ⟨_, rfl⟩
  rw [hZ] at HRP ⊢
  clear hZ
  refine (callsIn_wide (n := 3)).1 ?_
  refine callsIn_of_wp_marks Try.func40 rfl trivial ?_ rfl
  simp only [Try.ntmps40, List.size_toArray, List.length_cons, List.length_nil, Nat.reduceAdd, Nat.reduceSub, Array.replicate_succ, Array.replicate_zero, List.push_toArray, List.append_toArray, List.nil_append, List.cons_append]
  gi_wp2_with (fail)
  refine ⟨trivial, ?_⟩
  refine (callsIn_wide.2 (HRP.out _)).mono ?_
  rintro e w1 ⟨rfl, hb1⟩
  have bP := boxed_below (Boxed.new w 3 (.int .i64 perm)) hb1
  have B1 := Lib.hid (bthen (balloc (Below.refl _ w) (.cells #[.int .i64 perm] 3)) hb1)
  have HP1 := Lib.hid bP
  clear hb1 bP
  gi_wp2_with (gi_at_make; refine wpListIn_make_own _ rfl _ _ 28 rfl w.heap.size 70 i0 (.agg #[.int .u64 0, .int .i64 0, .string ⟨#[]⟩]) 3 Try.underlying28 hi hz0 hz1 .i64 .i64 _ kn rfl rfl rfl (by rw [hz2]; omega) (by unfold maxLen; omega) (by have := B1.out.size; simp; omega) ?_; intro w2 hown2 hgrow2)
  have hg2 : Below w.heap.size w w2 := (balloc B1.out (.cells #[.string Z] 9)).grown hgrow2 (by have := B1.out.size; simp; omega) (fun k e => by cases e)
  have bP := ((((HP1.out.alloc (.cells #[.string Z] 9)).kept hgrow2 (by simp)).alloc (.cells #[.slice (some ⟨w1.heap.size + 1, 0, none⟩) 0 kn] 28)).alloc (.cells #[.int .u64 a] 22)).alloc (.cells #[.int .i64 ((kn : Int) * 256)] 3)
  have bN := ((((Boxed.new w1 9 (.string Z)).kept hgrow2 (by simp)).alloc (.cells #[.slice (some ⟨w1.heap.size + 1, 0, none⟩) 0 kn] 28)).alloc (.cells #[.int .u64 a] 22)).alloc (.cells #[.int .i64 ((kn : Int) * 256)] 3)
  have bO := ((Boxed.new w2 28 (.slice (some ⟨w1.heap.size + 1, 0, none⟩) 0 kn)).alloc (.cells #[.int .u64 a] 22)).alloc (.cells #[.int .i64 ((kn : Int) * 256)] 3)
  have bA := (Boxed.new (w2.alloc (.cells #[.slice (some ⟨w1.heap.size + 1, 0, none⟩) 0 kn] 28)) 22 (.int .u64 a)).alloc (.cells #[.int .i64 ((kn : Int) * 256)] 3)
  have bK := Boxed.new ((w2.alloc (.cells #[.slice (some ⟨w1.heap.size + 1, 0, none⟩) 0 kn] 28)).alloc (.cells #[.int .u64 a] 22)) 3 (.int .i64 ((kn : Int) * 256))
  have h2 : OwnsP w2 w.heap.size (.slice (some ⟨w1.heap.size + 1, 0, none⟩) 0 kn) [] := by
    have h := hown2
    rw [World.size_alloc] at h
    exact h
  have own : OwnsP (((w2.alloc (.cells #[.slice (some ⟨w1.heap.size + 1, 0, none⟩) 0 kn] 28)).alloc (.cells #[.int .u64 a] 22)).alloc (.cells #[.int .i64 ((kn : Int) * 256)] 3)) w.heap.size (.slice (some ⟨w1.heap.size + 1, 0, none⟩) 0 kn) [] := ownsP_kept (ownsP_kept (ownsP_kept h2 (World.grownBy_alloc _ _ none) (by simp [Value.ownBlock])) (World.grownBy_alloc _ _ none) (by simp [Value.ownBlock])) (World.grownBy_alloc _ _ none) (by simp [Value.ownBlock])
  have hB0 := balloc (balloc (balloc hg2 (.cells #[.slice (some ⟨w1.heap.size + 1, 0, none⟩) 0 kn] 28)) (.cells #[.int .u64 a] 22)) (.cells #[.int .i64 ((kn : Int) * 256)] 3)
  have hs1 : w.heap.size < w1.heap.size := HP1.out.lt
  have hs2 : w1.heap.size + 1 ≤ w2.heap.size := by have := hgrow2.size; simp at this; omega
  have hsz : (((w2.alloc (.cells #[.slice (some ⟨w1.heap.size + 1, 0, none⟩) 0 kn] 28)).alloc (.cells #[.int .u64 a] 22)).alloc (.cells #[.int .i64 ((kn : Int) * 256)] 3)).heap.size = w2.heap.size + 3 := by simp
  clear hown2 hgrow2 h2 hg2
  refine ⟨trivial, ?_⟩
  refine (stretches_in 2 _ _ _).mono ?_
  rintro e w3 ⟨rfl, rfl⟩
  gi_wp2_with (fail)
  simp only [World.size_alloc] at bA bK
  generalize (((w2.alloc (.cells #[.slice (some ⟨w1.heap.size + 1, 0, none⟩) 0 kn] 28)).alloc (.cells #[.int .u64 a] 22)).alloc (.cells #[.int .i64 ((kn : Int) * 256)] 3)) = W0 at *
  refine wpIn_rangeFunc_ownH (α := {s : M.Str // True}) rfl (by omega) (gf := 63) (lb := #[.pointer (some ⟨w2.heap.size + 1, 0, none⟩), .pointer (some ⟨w2.heap.size + 1 + 1, 0, none⟩)]) rfl trivial (enters_of Try.func63 (by kernel_rfl) rfl)
    (strs_stops 2 (by omega) (w2.heap.size + 1) (w2.heap.size + 1 + 1) a ((kn : Int) * 256) (fun _ => True) (fun _ _ => trivial) a0 a1 (by omega) hk W0 (by omega) (by omega) bA.cell bK.cell) KeepS.trans keepS_b (Below.refl _ _) (fun _ => rfl)
    (fun pre W => (Boxed W w.heap.size 3 (.int .i64 perm) ∧ Boxed W w1.heap.size 9 (.string Z)) ∧ (∃ g cp, Boxed W w2.heap.size 28 (.slice (some ⟨g, 0, none⟩) pre.length cp) ∧ OwnsP W w.heap.size (.slice (some ⟨g, 0, none⟩) pre.length cp) (pre.map (fun x => mkPg perm Z x.1))) ∧ Below w.heap.size w W)
    (fun _ _ _ => False)
    (OwnFrom.and (OwnFrom.and (Own.from (boxed_own _ _ _) _) (Own.from (boxed_own _ _ _) _)) (OwnFrom.and ?ownex (ownFrom_below (Nat.le_refl _) (by omega))))
    (fun _ _ _ _ _ hs _ _ => hs)
    ⟨⟨bP, bN⟩, ⟨w1.heap.size + 1, kn, bO, own⟩, hB0⟩
    (fun x a' W => ∃ Bx, BoxedS W Bx x.1 ∧ a' = { tmps := #[.int .u64 a, .int .i64 kn, .int .i64 perm, undef, undef, .pointer (some ⟨w.heap.size, 0, none⟩), .slice none 0 0, .pointer (some ⟨w1.heap.size, 0, none⟩), .pointer (some ⟨w2.heap.size, 0, none⟩), .pointer (some ⟨Bx, 0, none⟩), .string Z, .int .i64 kn, .slice (some ⟨w1.heap.size + 1, 0, none⟩) 0 kn, .int .u64 a, .int .i64 kn, .int .i64 ((kn : Int) * 256), .func (.func 63) #[] #[.pointer (some ⟨w2.heap.size + 1, 0, none⟩), .pointer (some ⟨w2.heap.size + 1 + 1, 0, none⟩)], encS x.1, undef, undef, undef, undef, undef, undef, undef, undef, undef], defers := [] })
    (fun x a' s X Y row hs hg hr => by obtain ⟨Bx, h1, h2⟩ := hs; exact ⟨Bx, boxedS_own Bx x.1 () X Y row h1 hg hr, h2⟩)
    ?assign ?body ?done ?stop
  case ownex =>
    rintro pre X Y row ⟨g, cp, h1, h2⟩ hg hr
    exact ⟨g, cp, boxed_own w2.heap.size _ (fun _ : Unit => .slice (some ⟨g, 0, none⟩) pre.length cp) () X Y row h1 hg (fun r e => (hr r e).2), ownsP_own (fun _ : Unit => pre.map (fun x => mkPg perm Z x.1)) () X Y row h2 hg hr⟩
  case assign =>
    rintro l pre x W K ⟨⟨b1, b2⟩, ⟨g, cp, b3, ow⟩, hb⟩ hK
    have HK := Lib.hid hK
    clear hK
    obtain ⟨⟨pg, f, n⟩, hx⟩ := x
    simp only [encS]
    gi_wp2
    exact HK.out _ _ ((KeepsOthers.alloc _ _).from _) (KeepS.below (balloc (Below.refl _ _) _)) ⟨⟨b1.alloc _, b2.alloc _⟩, ⟨g, cp, b3.alloc _, ownsP_kept ow (World.grownBy_alloc _ _ none) (by simp [Value.ownBlock])⟩, balloc hb _⟩ ⟨W.heap.size, BoxedS.new W ⟨pg, f, n⟩, rfl⟩
  case body =>
    rintro lo pre x a' W hl0 hr' ⟨⟨b1, b2⟩, ⟨g, cp, b3, ow⟩, hb⟩ ⟨Bx, bx, rfl⟩ hlen
    have HI := Lib.hid (show (Boxed W w.heap.size 3 (.int .i64 perm) ∧ Boxed W w1.heap.size 9 (.string Z)) ∧ Below w.heap.size w W from ⟨⟨b1, b2⟩, hb⟩)
    have HO3 := Lib.hid b3
    have HOW := Lib.hid ow
    have HX := Lib.hid bx
    have c1 := b1.cell
    have c2 := b2.cell
    have c3 := b3.cell
    obtain ⟨c4, -, -⟩ := bx.cells
    have hlen' : pre.length < 16384 := Nat.lt_of_lt_of_le hlen (Nat.le_trans M.strs_len (by omega))
    have HEN := Lib.hid (show encS x.1 = .agg #[.int .u64 x.1.pg, .int .i64 x.1.f, .int .i64 x.1.n] from rfl)
    rw [HEN.out]
    obtain ⟨pg, hpg⟩ : ∃ pg, x.1.pg = pg := ⟨_, rfl⟩
    rw [hpg] at c4 ⊢
    have HXP := Lib.hid hpg
    have hrow : W.ownsRow w.heap.size 70 3 (.slice (some ⟨g, 0, none⟩) pre.length cp) pre.length (cellsOf (pre.map (fun x => mkPg perm Z x.1))) := by
      have h : W.ownsRow w.heap.size 70 3 (.slice (some ⟨g, 0, none⟩) pre.length cp) (pre.map (fun x => mkPg perm Z x.1)).length (cellsOf (pre.map (fun x => mkPg perm Z x.1))) := ow
      rw [List.length_map] at h
      exact h
    have hzs := hb.size
    have HRO := Lib.hid hrow
    have f3 := b3.frozen
    have f3' : (W.alloc (.cells #[.int .u64 pg, .int .i64 perm, .string Z] 70)).frozen? ⟨w2.heap.size, 0, none⟩ = false := (b3.alloc _).frozen
    clear b1 b2 b3 bx hb hr' hlen hpg ow hrow
    gi_wp2_with (gi_at_builtin; refine wpListIn_append_own _ rfl _ _ 28 rfl w.heap.size 70 i0 (.agg #[.int .u64 0, .int .i64 0, .string ⟨#[]⟩]) 3 32 Try.underlying28 hi hz0 hz1 hz2 rfl (by decide) _ _ _ rfl (HRO.out.alloc _) ⟨W.heap.size, 0, none⟩ 1 1 [.int .u64 pg, .int .i64 perm, .string Z] rfl rfl (three_new _ _ _ _ _) (fun x hx => by simp at hx; rcases hx with rfl | rfl | rfl <;> rfl) (by unfold maxLen; omega) (by omega) (by simp; omega) ?_; intro v' w5 hown' hgrow _; obtain ⟨g', cp', rfl⟩ := ownsRow_succ hown'; obtain ⟨hv1, hv2, hr2, hk2, hb2⟩ := HO3.out.appended (by decide) HRO.out hzs (by omega) hown' hgrow; have hc1 := hv1.cell; have hf1 := hv1.frozen; have hx1 := HI.out)
    obtain ⟨⟨p1, p2⟩, p3⟩ := hx1
    have d1 : w.heap.size ≠ w2.heap.size := by omega
    have d2 : w1.heap.size ≠ w2.heap.size := by omega
    have u1 := ((p1.alloc (.cells #[.int .u64 pg, .int .i64 perm, .string Z] 70)).kept hgrow (p1.not_row (by decide) HRO.out)).other d1 (.slice (some ⟨g', 0, none⟩) (pre.length + 1) cp')
    have u2 := ((p2.alloc (.cells #[.int .u64 pg, .int .i64 perm, .string Z] 70)).kept hgrow (p2.not_row (by decide) HRO.out)).other d2 (.slice (some ⟨g', 0, none⟩) (pre.length + 1) cp')
    have hkA : KeepS W (W.alloc (.cells #[.int .u64 pg, .int .i64 perm, .string Z] 70)) := KeepS.below (balloc (Below.refl _ _) _)
    have hkB := KeepS.grown hgrow (fun r e cs f hh => by
      have e' : g = r := by simpa [Value.ownBlock] using (show (Value.slice (some ⟨g, 0, none⟩) pre.length cp).ownBlock = some r from e)
      rcases (HRO.out.alloc (.cells #[.int .u64 pg, .int .i64 perm, .string Z] 70)).2 with ⟨e0, _⟩ | ⟨g1, cap1, cur, e1, _, hg, _⟩
      · cases e0
      · cases e1
        rw [← e', hg] at hh
        cases hh)
    have hkC := KeepS.grown (grownBy_setCell' w5 w2.heap.size (.slice (some ⟨g', 0, none⟩) (pre.length + 1) cp')) (fun r e cs f hh => by
      cases e
      rw [show w5.heap[w2.heap.size]? = _ from hv1] at hh
      cases hh)
    refine ⟨hk2.from _, hkA.trans (hkB.trans hkC), ⟨u1, u2⟩, ⟨g', cp', ?_, ?_⟩, p3.trans hb2⟩
    · rw [List.length_append]; exact hv2
    · rw [List.length_append, List.map_append, List.map_cons, List.map_nil]
      show World.ownsRow _ _ _ _ _ _ _
      rw [List.length_append, cellsOf_append]
      show World.ownsRow _ _ _ _ _ _ (_ ++ ([.int .u64 x.1.pg, .int .i64 perm, .string Z] ++ []))
      rw [HXP.out, List.append_nil, List.length_map]
      exact hr2
  case done =>
    rintro D ys W hD hys ⟨⟨b1, b2⟩, ⟨g, cp, b3, ow⟩, hb⟩ hK
    have c3 := b3.cell
    have HK := Lib.hid hK
    have HB := Lib.hid hb
    have hls : ys.length = (M.strs a ((kn : Int) * 256)).length := by rw [← hys]; simp
    have hmp : ys.map (fun x => mkPg perm Z x.1) = (M.strs a ((kn : Int) * 256)).map (mkPg perm Z) := by rw [← hys, List.map_map]; rfl
    rw [hmp] at ow
    have HM := Lib.hid ow
    have HDO := Lib.hid (show (Value.slice (some ⟨g, 0, none⟩) ys.length cp).ownBlock = none ∨ (Value.slice (some ⟨g, 0, none⟩) ys.length cp).ownBlock ≠ some D from by
      rcases (show W.ownsRow w.heap.size 70 3 _ _ _ from ow).2 with ⟨e, _⟩ | ⟨g', cap', cur, e, _, hg, _⟩
      · rw [e]; exact .inl rfl
      · rw [e]
        refine .inr (fun e' => ?_)
        have e2 : g' = D := by simpa [Value.ownBlock] using e'
        rw [e2, hK] at hg
        cases hg)
    clear b1 b2 b3 hb hK ow hls hmp hys
    gi_wp2_with (fail)
    refine ⟨by simp, .inl ⟨_, _, rfl, run_takeDeferred HK.out, ?_⟩⟩
    refine ⟨_, results_tmp rfl _ _ _, ⟨_, rfl, ?_, HB.out.trans (belowK_b (w := w) (Nat.le_refl _) W D _ _ (by omega) HK.out rfl rfl)⟩⟩
    exact ownsP_kept HM.out (grownBy_putObj' W D (.deferred none)) HDO.out
  case stop =>
    rintro D c pre W _ _ h _
    exact h.elim
end Go.Proofs.Ytpifndpbmjmglaa
namespace Go.Proofs.Ytpifndpbmjmglaa
open Go.RowKit
open Go.Lib hiding intOf
set_option maxHeartbeats 4000000 in
set_option maxRecDepth 100000 in
theorem grow_nil (n : Nat) (w : World) (n0 : 1 ≤ n) (hn : n * 32 ≤ 140737488355328) :
    Calls Try.prog 53 #[.slice none 0 0, .int .i64 n] w (NewPages [] w) := by
  obtain ⟨i0, hi, hz0, hz1, hz2⟩ := info_parts pg_info
  have u22 := run_underlying Try.underlying28
  have h1 : ¬ ((n : Int) < 0) := by omega
  have h3 : wrap64 (n : Int) = (n : Int) := by unfold wrap64; omega
  have h4 : (n : Int) > 0 := by omega
  have hrz : ∀ ty, (Builtin.append_ #[28, 3] ty #[.slice none 0 0, .int .i64 (n : Int)]).run Try.prog w =
      .ok (.slice (some ⟨w.heap.size, 0, none⟩) n (grownCap w n 0 70)) (w.drew.alloc (.cells (#[] ++ Builtin.zeroCells (Value.agg #[.int .u64 0, .int .i64 0, .string ⟨#[]⟩]).cells n ++ Builtin.zeroCells (Value.agg #[.int .u64 0, .int .i64 0, .string ⟨#[]⟩]).cells (grownCap w n 0 70 - n)) 70)) := fun ty => by
    have h := Lib.run_append_grow_zeros w 28 3 ty 70 i0 (.agg #[.int .u64 0, .int .i64 0, .string ⟨#[]⟩]) .i64 .i64 Try.underlying28 Try.underlying3 hi hz0 none 0 0 [] (run_firstCells_none w.drew i0.size 0 0 0) n (by omega) (by rw [hz1]; omega) (by omega) (by omega)
      (by rw [hz2]; omega) (growslice_fits (by omega) (by rw [hz2]; omega))
    simp only [Nat.zero_add] at h
    exact h
  have hGn : n ≤ grownCap w n 0 70 := grownCap_ge w _ _ _
  have hGm : grownCap w n 0 70 ≤ maxLen := grownCap_le_maxLen w _ _ _ (by unfold maxLen; omega)
  obtain ⟨G, hG⟩ : ∃ G, G = grownCap w n 0 70 := ⟨_, rfl⟩
  rw [← hG] at hrz hGn hGm
  clear hG
  have hG63 : G ≤ 9223372036854775807 := by unfold maxLen at hGm; omega
  have HGM := Lib.hid hGm
  have HGN := Lib.hid hGn
  obtain ⟨cs, hcs⟩ : ∃ cs, (#[] ++ Builtin.zeroCells (Value.agg #[.int .u64 0, .int .i64 0, .string ⟨#[]⟩]).cells n ++ Builtin.zeroCells (Value.agg #[.int .u64 0, .int .i64 0, .string ⟨#[]⟩]).cells (G - n)) = cs := ⟨_, rfl⟩
  rw [hcs] at hrz
  have HCS := Lib.hid (show cs.size = G * 3 by
    rw [← hcs, Array.size_append, Array.size_append, size_zeroCells, size_zeroCells]
    show 0 + n * 3 + (G - n) * 3 = G * 3
    omega)
  clear hcs hGm
  go_enter Try.func53, Try.ntmps53
  go_wp2_with (at_builtin; refine Lib.wpList_append_run _ rfl _ _ _ _ rfl _ _ rfl rfl _ _ (hrz _) ?_)
  all_goals go_ret
  all_goals exact ⟨_, rfl, ⟨rfl, .inr ⟨w.heap.size, G, cs, rfl, Nat.le_refl _, heap_alloc_new w.drew _, Nat.zero_le _, HGM.out, HCS.out, rfl⟩⟩, (Below.refl _ w).drew.alloc (Nat.le_refl _) _⟩
def cat (K : Nat → List M.Pg) (i : Nat) : List M.Pg := (List.range i).flatMap K
theorem cat_succ (K : Nat → List M.Pg) (i : Nat) : cat K (i + 1) = cat K i ++ K i := by simp [cat, List.range_succ]
theorem cat_three (K : Nat → List M.Pg) : cat K 3 = K 0 ++ (K 1 ++ K 2) := by simp [cat, List.range_succ]
theorem cat_le (K : Nat → List M.Pg) {i : Nat} (h : i ≤ 3) : (cat K i).length ≤ (cat K 3).length := by
  match i, h with
  | 0, _ => simp [cat]
  | 1, _ => simp [cat, List.range_succ]
  | 2, _ => simp [cat, List.range_succ]
  | 3, _ => exact Nat.le_refl _
set_option maxHeartbeats 4000000 in
set_option maxRecDepth 100000 in
theorem concat_three (B : Nat) (A : Nat → Option Addr) (C : Nat → Nat) (K : Nat → List M.Pg) (w : World) (hB : B < w.heap.size)
    (hc : ∀ i < 3, w.cell? ⟨B, i, none⟩ = some (.slice (A i) (K i).length (C i))) (hP : ∀ i < 3, Pages w (.slice (A i) (K i).length (C i)) (K i))
    (h1 : 1 ≤ (K 1).length) (hn : (cat K 3).length * 32 ≤ 140737488355328) :
    Calls Try.prog 39 #[.slice (some ⟨B, 0, none⟩) 3 3] w (NewPages (cat K 3) w) := by
  have HC := Lib.hid hc
  have HP := Lib.hid hP
  have HT : 1 ≤ (cat K 3).length := by rw [cat_three]; simp; omega
  obtain ⟨n, hcn⟩ : ∃ n, (cat K 3).length = n := ⟨_, rfl⟩
  rw [hcn] at hn HT
  have HG := Lib.hid (fun W => grow_nil n W HT hn)
  have HN := Lib.hid hn
  have HCN := Lib.hid hcn
  have HB := Lib.hid hB
  clear hc hP hn h1 hcn HT hB
  go_enter Try.func39, Try.ntmps39
  go_wp2_with fail
  go_loop [3, 11] (fun v i => ∃ k : Nat, k ≤ 3 ∧ i = .int .i64 k ∧ v = .int .i64 (cat K k).length) (fun _ i => 3 - (intOf i).toNat)
  case atStart => exact ⟨0, by omega, rfl, rfl⟩
  case round =>
    obtain ⟨k, hk, rfl, rfl⟩ := hrel
    have HL := Lib.hid (cat_le K hk)
    by_cases hlt : k < 3
    · have c0 := HC.out k hlt
      have e1 := Lib.hid (show (cat K (k + 1)).length = (cat K k).length + (K k).length by rw [cat_succ, List.length_append])
      have e2 := Lib.hid (cat_le K (show k + 1 ≤ 3 by omega))
      obtain ⟨p, hp⟩ : ∃ p, (cat K k).length = p := ⟨_, rfl⟩
      obtain ⟨q, hq⟩ : ∃ q, (K k).length = q := ⟨_, rfl⟩
      rw [hq] at c0
      rw [hp] at ⊢
      have b1 : IntKind.i64.wrap ((p : Int) + (q : Int)) = (p : Int) + (q : Int) := by
        have := e1.out; have := e2.out; have := HCN.out; have := HN.out
        rw [IntKind.wrap_i64]; omega
      have b2 : ¬ ((p : Int) + (q : Int) < 0) := by omega
      have b3 : decide ((p : Int) + (q : Int) < 0) = false := by simp; omega
      have E := Lib.hid (show (p : Int) + (q : Int) = ((cat K (k + 1)).length : Int) by rw [e1.out, hp, hq]; simp)
      clear hp hq
      go_wp2_with fail
      go_round
      case rel => exact ⟨k + 1, by omega, by go_num, by rw [E.out]⟩
      case measure => simp [intOf]; omega
    · obtain rfl : k = 3 := by omega
      rw [HCN.out]
      go_wp2_with (go_at_call 53; refine (HG.out _).mono ?_; rintro e w1 ⟨v1, rfl, hown, hb⟩)
      have BW := Lib.hid hb
      have OW := Lib.hid hown
      clear hb hown
      go_loopw [6, 27] (fun v i wr => ∃ k : Nat, k ≤ 3 ∧ i = .int .i64 k ∧ OwnsP wr w.heap.size v (cat K k) ∧ Below w.heap.size w wr) (fun _ i _ => 3 - (intOf i).toNat)
      case atStart => exact ⟨0, by omega, rfl, OW.out, BW.out⟩
      case round =>
        obtain ⟨k, hk, rfl, hown, hb⟩ := hrel
        have OK := Lib.hid hown
        have BK := Lib.hid hb
        by_cases hlt : k < 3
        · have c0 := (BK.out.cell (p := ⟨B, k, none⟩) HB.out).trans (HC.out k hlt)
          have PK := Lib.hid ((HP.out k hlt).next (BK.out.mono (Nat.le_refl _)))
          have e1 := Lib.hid (show (cat K (k + 1)).length = (cat K k).length + (K k).length by rw [cat_succ, List.length_append])
          have HL := Lib.hid (cat_le K (show k + 1 ≤ 3 by omega))
          clear hown hb
          go_wp2_with (at_builtin; refine wpList_append_pages rfl _ _ rfl w.heap.size _ (cat K k) (K k) rfl OK.out _ rfl PK.out (by have := e1.out; have := HL.out; have := HCN.out; have := HN.out; omega) BK.out.size ?_; intro v' w5 hown' hgrow)
          have OV := Lib.hid hown'
          have BV := Lib.hid (BK.out.grown hgrow BK.out.size (fun j e => by
            rcases OK.out.2 with ⟨e0, _⟩ | ⟨g, cap, cur, e0, hg, _⟩
            · rw [e0] at e; cases e
            · rw [e0] at e; have e2 : g = j := by simpa [Value.ownBlock] using (show (Value.slice (some ⟨g, 0, none⟩) (cat K k).length cap).ownBlock = some j from e)
              omega))
          clear hown' hgrow
          go_wp2_with fail
          go_roundw
          case rel => exact ⟨k + 1, by omega, by go_num, by rw [cat_succ]; exact OV.out, BV.out⟩
          case measure => simp [intOf]; omega
        · obtain rfl : k = 3 := by omega
          clear hown hb
          go_wp2_with fail
          go_ret
          exact ⟨_, rfl, OK.out, BK.out⟩
end Go.Proofs.Ytpifndpbmjmglaa
