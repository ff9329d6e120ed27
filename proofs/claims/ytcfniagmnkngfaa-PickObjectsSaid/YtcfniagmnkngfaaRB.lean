/- The reference of package pick: is a name defined by some modules? does a module define one that some want and none defines? Package pick: which modules are taken, step by step: pure. Package pick: places as keys of a map; what is taken, in memory. Package pick: one module is taken. -/
import Derived.Test.YtcfniagmnkngfaaQ3
import Derived.Test.YtcfniagmnkngfaaQ5
import Derived.Test.YtcfniagmnkngfaaRA
import Derived.Maps.OwnSet
import Derived.Maps.Own
import Derived.DeepKeys4
import Derived.Deep.AppendLies
namespace Go.Proofs.Ytcfniagmnkngfaa
open Go.RowKit

/-- a module whose names all fit into one piece of memory -/
def MdS (m : Md) : Prop := (m.f.length + m.g.length) * 16 ≤ 140737488355000
def inB (l : List ByteArray) (s : ByteArray) : Bool := l.any fun x => x == s
def defB (l : List Md) (s : ByteArray) : Bool := l.any fun m => inB (selM defP m) s
def wantB (l : List Md) (s : ByteArray) : Bool := l.any fun m => inB (selM wantP m) s
def openB (l : List Md) (m : Md) : Bool := (selM defP m).any fun s => !defB l s && wantB l s
theorem selM_len (p : Bool → Int → Bool) (m : Md) : (selM p m).length ≤ m.f.length + m.g.length := by
  unfold selM
  rw [List.length_append]
  have := selF_len p m.f
  have := selG_len p m.g
  omega
set_option maxRecDepth 100000 in
set_option maxHeartbeats 4000000 in
theorem refDefined_any (l : List Md) (s : ByteArray) (A : Option Addr) (n c : Nat) (w : World) (hn : l.length = n) (h9 : n ≤ 9223372036854775807) (hok : ∀ m ∈ l, MdS m) (hS : Mods w (.slice A n c) l) :
    Calls Try.prog 67 #[.slice A n c, .string s] w fun e w' => e = .returned (.bool (defB l s)) ∧ Below w.heap.size w w' := by
  have HN := Lib.hid (show l.length ≤ n ∧ n ≤ l.length by omega)
  have HS := Lib.hid hS
  have HOK := Lib.hid hok
  have n1 : (n : Int) ≤ 9223372036854775807 := by omega
  obtain ⟨V, hV⟩ : ∃ V, defB l s = V := ⟨_, rfl⟩
  have HE := Lib.hid hV
  rw [hV]
  clear hV hS hn h9 hok
  go_enter Try.func67, Try.ntmps67
  go_wp2_with fail
  go_loopw [5] (fun iv wr => ∃ i : Nat, i ≤ n ∧ iv = .int .i64 i ∧ defB (l.take i) s = false ∧ Below w.heap.size w wr) (fun iv _ => n - (intOf iv).toNat)
  case atStart => exact ⟨0, Nat.zero_le _, rfl, rfl, Below.refl _ _⟩
  case round =>
    obtain ⟨i, hi, rfl, hs, hb⟩ := hrel
    have HT := Lib.hid hs
    have HB := Lib.hid hb
    clear hs
    by_cases hlt : i < n
    · have hm : i < l.length := by have := HN.out; omega
      obtain ⟨b1, off, hA, hbl, F, cf, G, cg, p0, p1, hmd⟩ := RowOf.at_ (HS.out.next hb) hm
      subst hA
      have hs16 : (l[i].f.length + l[i].g.length) * 16 ≤ 140737488355000 := by have h := HOK.out _ (List.getElem_mem hm); unfold MdS at h; exact h
      have HY := Lib.hid (show inB (selM defP l[i]) s = true → V = true from fun h => by rw [← HE.out]; exact List.any_eq_true.2 ⟨_, List.getElem_mem hm, h⟩)
      have HNX := Lib.hid (show inB (selM defP l[i]) s = false → defB (l.take (i + 1)) s = false from fun h => by
        have := HT.out
        unfold defB at this ⊢
        rw [List.take_succ_eq_append_getElem hm, List.any_append, this]
        simp [h])
      have HC := Lib.hid (refDefines_any l[i] F G l[i].f.length cf l[i].g.length cg _ rfl rfl hs16 hmd)
      have HLN := Lib.hid (show (selM defP l[i]).length ≤ 9223372036854775807 from by
        have h1 := selM_len defP l[i]
        omega)
      generalize selM defP l[i] = xs at *
      obtain ⟨nf, hnf⟩ : ∃ q, l[i].f.length = q := ⟨_, rfl⟩
      obtain ⟨ng, hng⟩ : ∃ q, l[i].g.length = q := ⟨_, rfl⟩
      rw [hnf, hng] at HC
      rw [hnf] at p0
      rw [hng] at p1
      have hk0 : (0 : Int) ≤ (i : Int) := Int.natCast_nonneg _
      have hk1 : (i : Int) < (n : Int) := by omega
      have HLT := Lib.hid hlt
      clear hnf hng hmd hm hlt hb hbl hs16
      go_wp2_with fail
      refine HC.out.mono ?_
      rintro r w2 ⟨v2, rfl, hst, hb2⟩
      obtain ⟨A2, c2, rfl⟩ := RowOf.slice hst
      have HB2 := Lib.hid (bthen HB.out hb2)
      have HC2 := Lib.hid (refHas_any xs s A2 xs.length c2 w2 rfl HLN.out hst)
      clear hst hb2 p0 p1
      obtain ⟨nx, hnx⟩ : ∃ q, xs.length = q := ⟨_, rfl⟩
      rw [hnx] at HC2 ⊢
      clear hnx
      go_wp2_with fail
      refine HC2.out.mono ?_
      rintro r w3 ⟨rfl, rfl⟩
      cases hq : xs.any fun x => x == s with
      | true =>
        have HV := Lib.hid (HY.out hq)
        clear hq
        go_wp2_with fail
        go_ret
        exact ⟨by rw [HV.out]; rfl, HB2.out⟩
      | false =>
        have HV := Lib.hid (HNX.out hq)
        clear hq
        go_wp2_with fail
        go_roundw
        case rel => exact ⟨i + 1, HLT.out, by go_num, HV.out, HB2.out⟩
        case measure => have := HLT.out; simp [intOf]; omega
    · have hd : decide ((i : Int) < (n : Int)) = false := by simp; omega
      have HV := Lib.hid (show V = false by
        have h := HT.out
        rw [List.take_of_length_le (by have := HN.out; omega)] at h
        rw [← HE.out, h])
      go_wp2_with fail
      go_ret
      exact ⟨by rw [HV.out]; rfl, HB.out⟩
end Go.Proofs.Ytcfniagmnkngfaa

namespace Go.Proofs.Ytcfniagmnkngfaa
open Go.RowKit

/-- the modules of files, each with whether it stands in an archive -/
def flat (l : List Fl) : List (Bool × Md) := (l.map fun f => f.m.map fun m => (f.a, m)).flatten
/-- which ones are taken, and their row -/
structure Tk where
  t : Nat → Bool
  r : List Md
def OneStep (L : List (Bool × Md)) (s s' : Tk) : Prop :=
  ∃ j, ∃ h : j < L.length, s.t j = false ∧ openB s.r L[j].2 = true ∧ (∀ k (hk : k < L.length), k < j → s.t k = true ∨ openB s.r L[k].2 = false) ∧ s' = ⟨fun k => k == j || s.t k, s.r ++ [L[j].2]⟩
def AllDone (L : List (Bool × Md)) (s : Tk) : Prop := ∀ k (hk : k < L.length), s.t k = true ∨ openB s.r L[k].2 = false
inductive Steps (L : List (Bool × Md)) (s0 : Tk) : Tk → Prop
  | refl : Steps L s0 s0
  | step {s s' : Tk} : Steps L s0 s → OneStep L s s' → Steps L s0 s'
theorem oneStep_fun {L : List (Bool × Md)} {s a b : Tk} (ha : OneStep L s a) (hb : OneStep L s b) : a = b := by
  obtain ⟨j, hj, t1, o1, f1, rfl⟩ := ha
  obtain ⟨k, hk, t2, o2, f2, rfl⟩ := hb
  have e : j = k := by
    rcases Nat.lt_trichotomy j k with h | h | h
    · rcases f2 j hj h with h | h
      · rw [t1] at h; cases h
      · rw [o1] at h; cases h
    · exact h
    · rcases f1 k hk h with h | h
      · rw [t2] at h; cases h
      · rw [o2] at h; cases h
  subst e
  rfl
theorem done_oneStep {L : List (Bool × Md)} {s a : Tk} (hd : AllDone L s) (ha : OneStep L s a) : False := by
  obtain ⟨j, hj, t1, o1, -⟩ := ha
  rcases hd j hj with h | h
  · rw [t1] at h; cases h
  · rw [o1] at h; cases h
theorem steps_head {L : List (Bool × Md)} {s a : Tk} (h : Steps L s a) : s = a ∨ ∃ c, OneStep L s c ∧ Steps L c a := by
  induction h with
  | refl => exact .inl rfl
  | step h1 h2 ih =>
    rcases ih with rfl | ⟨c, k1, k2⟩
    · exact .inr ⟨_, h2, .refl⟩
    · exact .inr ⟨c, k1, .step k2 h2⟩
theorem steps_line {L : List (Bool × Md)} {s0 a b : Tk} (ha : Steps L s0 a) (hb : Steps L s0 b) : Steps L a b ∨ Steps L b a := by
  induction hb with
  | refl => exact .inr ha
  | step h1 h2 ih =>
    rcases ih with h | h
    · exact .inl (.step h h2)
    · rcases steps_head h with rfl | ⟨c, k1, k2⟩
      · exact .inl (.step .refl h2)
      · rw [oneStep_fun h2 k1]; exact .inr k2
theorem steps_done {L : List (Bool × Md)} {s0 a b : Tk} (ha : Steps L s0 a) (da : AllDone L a) (hb : Steps L s0 b) (db : AllDone L b) : a = b := by
  rcases steps_line ha hb with h | h
  · rcases steps_head h with h | ⟨c, k1, -⟩
    · exact h
    · exact (done_oneStep da k1).elim
  · rcases steps_head h with h | ⟨c, k1, -⟩
    · exact h.symm
    · exact (done_oneStep db k1).elim
/-- to begin with: all objects -/
def objs (L : List (Bool × Md)) : List Md := (L.filter fun x => !x.1).map (·.2)
def begT (L : List (Bool × Md)) : Tk := ⟨fun j => match L[j]? with | some x => !x.1 | none => false, objs L⟩
/-- what is taken -/
def Taken (L : List (Bool × Md)) (r : List Md) : Prop := ∃ s, Steps L (begT L) s ∧ AllDone L s ∧ s.r = r
theorem taken_fun {L : List (Bool × Md)} {a b : List Md} (ha : Taken L a) (hb : Taken L b) : a = b := by
  obtain ⟨s, h1, h2, rfl⟩ := ha
  obtain ⟨s', k1, k2, rfl⟩ := hb
  rw [steps_done h1 h2 k1 k2]
/-- how many are left -/
def leftN (L : List (Bool × Md)) (s : Tk) : Nat := (List.range L.length).countP fun j => !s.t j
theorem countP_one (t : Nat → Bool) (j : Nat) (ht : t j = false) : ∀ n, j < n → (List.range n).countP (fun k => !(k == j || t k)) + 1 = (List.range n).countP (fun k => !t k) := by
  have same : ∀ n, n ≤ j → (List.range n).countP (fun k => !(k == j || t k)) = (List.range n).countP (fun k => !t k) := fun n hn => by
    refine List.countP_congr fun k hk => ?_
    have : k < n := List.mem_range.1 hk
    have h : (k == j) = false := by simp; omega
    rw [h, Bool.false_or]
  intro n
  induction n with
  | zero => intro h; omega
  | succ n ih =>
    intro h
    rw [List.range_succ, List.countP_append, List.countP_append]
    by_cases e : n = j
    · subst e
      rw [same n (Nat.le_refl _)]
      simp [ht]
    · have h2 := ih (by omega)
      have h3 : (n == j) = false := by simpa using e
      simp only [List.countP_cons, List.countP_nil, h3, Bool.false_or]
      omega
theorem step_left {L : List (Bool × Md)} {s s' : Tk} (h : OneStep L s s') : leftN L s' + 1 = leftN L s ∧ s'.r.length = s.r.length + 1 := by
  obtain ⟨j, hj, t1, -, -, rfl⟩ := h
  exact ⟨countP_one s.t j t1 _ hj, by simp⟩
theorem beg_left (L : List (Bool × Md)) : leftN L (begT L) + (begT L).r.length = L.length := by
  unfold leftN begT objs
  simp only [List.length_map]
  induction L with
  | nil => rfl
  | cons x L ih =>
    rw [List.length_cons, List.range_succ_eq_map, List.countP_cons, List.countP_map, List.filter_cons]
    have e : ((fun j => !(match (x :: L)[j]? with | some x => !x.1 | none => false)) ∘ Nat.succ) = (fun j => !(match L[j]? with | some x => !x.1 | none => false)) := by
      funext j
      simp
    rw [e]
    cases hx : x.1 with
    | true => simp [hx]; omega
    | false => simp [hx]; omega
theorem steps_left {L : List (Bool × Md)} {s : Tk} (h : Steps L (begT L) s) : leftN L s + s.r.length = L.length := by
  induction h with
  | refl => exact beg_left L
  | step _ h2 ih => have := step_left h2; omega
/-- all that is taken stands in the files -/
theorem steps_from {L : List (Bool × Md)} {s : Tk} (h : Steps L (begT L) s) : ∀ m ∈ s.r, ∃ x ∈ L, x.2 = m := by
  induction h with
  | refl =>
    intro m hm
    obtain ⟨x, hx, rfl⟩ := List.mem_map.1 hm
    exact ⟨x, (List.mem_filter.1 hx).1, rfl⟩
  | step _ h2 ih =>
    intro m hm
    obtain ⟨j, hj, -, -, -, rfl⟩ := h2
    rcases List.mem_append.1 hm with hm | hm
    · exact ih m hm
    · obtain rfl : m = L[j].2 := by simpa using hm
      exact ⟨_, List.getElem_mem hj, rfl⟩
/-- the row begins with the objects, and each one behind was open -/
theorem steps_pre {L : List (Bool × Md)} {s : Tk} (h : Steps L (begT L) s) : objs L <+: s.r := by
  induction h with
  | refl => exact List.prefix_refl _
  | step _ h2 ih =>
    obtain ⟨j, hj, -, -, -, rfl⟩ := h2
    exact ih.trans (List.prefix_append _ _)
theorem steps_open {L : List (Bool × Md)} {s : Tk} (h : Steps L (begT L) s) : ∀ i (hi : i < s.r.length), (objs L).length ≤ i → openB (s.r.take i) s.r[i] = true := by
  induction h with
  | refl => intro i hi h; exact absurd hi (by simpa [begT] using h)
  | @step s s' _ h2 ih =>
    obtain ⟨j, hj, -, ho, -, rfl⟩ := h2
    intro i hi h
    simp only [List.length_append, List.length_cons, List.length_nil] at hi
    by_cases hl : i < s.r.length
    · simp only
      rw [List.getElem_append_left hl, List.take_append_of_le_length (by omega)]
      exact ih i hl h
    · obtain rfl : i = s.r.length := by omega
      simp only [List.getElem_concat_length]
      rw [List.take_left' rfl]
      exact ho
/-- what a state has taken of objects -/
theorem steps_objT {L : List (Bool × Md)} {s : Tk} (h : Steps L (begT L) s) : ∀ k (hk : k < L.length), L[k].1 = false → s.t k = true := by
  induction h with
  | refl => intro k hk hf; simp [begT, hk, hf]
  | step _ h2 ih =>
    obtain ⟨j, hj, -, -, -, rfl⟩ := h2
    intro k hk hf
    simp [ih k hk hf]
/-- places and numbers -/
def offL (l : List Fl) (i : Nat) : Nat := sumM (l.take i)
theorem flat_length (l : List Fl) : (flat l).length = sumM l := by
  unfold flat sumM
  rw [List.length_flatten, List.map_map]
  congr 1
  apply List.map_congr_left
  intro f _
  simp
theorem offL_succ {l : List Fl} {i : Nat} (hi : i < l.length) : offL l (i + 1) = offL l i + l[i].m.length := sumM_take hi
theorem offL_all {l : List Fl} {i : Nat} (hi : l.length ≤ i) : offL l i = sumM l := by unfold offL; rw [List.take_of_length_le hi]
theorem offL_mono {l : List Fl} {i k : Nat} (h : i ≤ k) : offL l i ≤ offL l k := by
  induction k with
  | zero => simp [show i = 0 by omega]
  | succ k ih =>
    by_cases e : i = k + 1
    · rw [e]; exact Nat.le_refl _
    · by_cases hk : k < l.length
      · rw [offL_succ hk]; have := ih (by omega); omega
      · rw [offL_all (i := k + 1) (by omega)]; have := ih (by omega); rw [offL_all (i := k) (by omega)] at this; exact this
theorem off_lt {l : List Fl} {i k : Nat} (hi : i < l.length) (hk : k < l[i].m.length) : offL l i + k < (flat l).length := by
  rw [flat_length, ← offL_all (l := l) (Nat.le_refl _)]
  have := offL_mono (l := l) (show i + 1 ≤ l.length from hi)
  rw [offL_succ hi] at this
  omega
theorem off_inj {l : List Fl} {i k i' k' : Nat} (hi : i < l.length) (hk : k < l[i].m.length) (hi' : i' < l.length) (hk' : k' < l[i'].m.length) (h : offL l i + k = offL l i' + k') : i = i' ∧ k = k' := by
  have e : i = i' := by
    rcases Nat.lt_trichotomy i i' with g | g | g
    · have := offL_mono (l := l) (show i + 1 ≤ i' from g)
      rw [offL_succ hi] at this
      omega
    · exact g
    · have := offL_mono (l := l) (show i' + 1 ≤ i from g)
      rw [offL_succ hi'] at this
      omega
  subst e
  exact ⟨rfl, by omega⟩
theorem flat_get {l : List Fl} {i k : Nat} (hi : i < l.length) (hk : k < l[i].m.length) : (flat l)[offL l i + k]'(off_lt hi hk) = (l[i].a, l[i].m[k]) := by
  induction l generalizing i with
  | nil => simp at hi
  | cons f l ih =>
    have e : flat (f :: l) = f.m.map (fun m => (f.a, m)) ++ flat l := rfl
    cases i with
    | zero =>
      have z : offL (f :: l) 0 = 0 := rfl
      simp only [e, z, Nat.zero_add, List.getElem_cons_zero] at hk ⊢
      rw [List.getElem_append_left (by simpa using hk)]
      simp
    | succ i =>
      have z : offL (f :: l) (i + 1) = f.m.length + offL l i := by simp [offL, sumM]
      have hi' : i < l.length := by simpa using hi
      have hk' : k < l[i].m.length := by simpa using hk
      have h1 := ih hi' hk'
      simp only [e, z, List.getElem_cons_succ]
      rw [List.getElem_append_right (by simp; omega)]
      simp only [List.length_map]
      rw [← h1]
      congr 1
      omega
theorem off_of {l : List Fl} {j : Nat} (h : j < (flat l).length) : ∃ i k, ∃ hi : i < l.length, k < l[i].m.length ∧ j = offL l i + k := by
  induction l generalizing j with
  | nil => simp [flat] at h
  | cons f l ih =>
    have e : flat (f :: l) = f.m.map (fun m => (f.a, m)) ++ flat l := rfl
    by_cases hj : j < f.m.length
    · exact ⟨0, j, by simp, by simpa using hj, by simp [offL, sumM]⟩
    · rw [e, List.length_append, List.length_map] at h
      obtain ⟨i, k, hi, hk, e2⟩ := ih (j := j - f.m.length) (by omega)
      refine ⟨i + 1, k, by simpa using hi, by simpa using hk, ?_⟩
      have z : offL (f :: l) (i + 1) = f.m.length + offL l i := by simp [offL, sumM]
      rw [z]
      omega
/-- a right module is small -/
theorem check_small {m : Md} (h : checkE m = 0) : MdSm m := by
  obtain ⟨h1, h2, h3, -⟩ := check_parts h
  unfold aloneB at h3
  rw [Bool.and_eq_true, List.all_eq_true] at h3
  refine ⟨by omega, by omega, fun f hf => ?_⟩
  obtain ⟨g1, g2, -⟩ := func_parts (h3.1 f hf)
  have hp : ∀ (i : Nat) (hi : i < f.l.length), f.l[i].p ≤ 6 := fun i hi => (block_parts (g2 _ (List.getElem_mem hi))).2.1
  refine ⟨by omega, fun b hb => ?_⟩
  obtain ⟨-, -, k1, k2, k3⟩ := block_parts (g2 b hb)
  have hg : ∀ (n dest : Int) (l : List Int), goesB f.l n dest l = true → l.length ≤ 1000000 := fun n dest l hh => by
    obtain ⟨i, -, hi, e, -⟩ := goes_parts hh
    have := hp i hi
    omega
  refine ⟨by omega, ?_, ?_, fun i hi => ?_⟩
  · rcases end_cases k2 with ⟨-, g⟩ | ⟨-, -, g, -⟩ | ⟨e3, -⟩
    · exact hg _ _ _ g
    · exact hg _ _ _ g
    · unfold endB at k2
      rw [if_neg (by omega), if_neg (by omega), if_pos e3] at k2
      simp only [Bool.and_eq_true, decide_eq_true_eq] at k2
      rw [k2.1.1.2]
      simp
  · rcases end_cases k2 with ⟨e1, -⟩ | ⟨-, -, -, g⟩ | ⟨e3, -⟩
    · unfold endB at k2
      rw [if_pos e1] at k2
      simp only [Bool.and_eq_true, decide_eq_true_eq] at k2
      rw [k2.2]
      simp
    · exact hg _ _ _ g
    · unfold endB at k2
      rw [if_neg (by omega), if_neg (by omega), if_pos e3] at k2
      simp only [Bool.and_eq_true, decide_eq_true_eq] at k2
      rw [k2.2]
      simp
  · obtain ⟨j, hj, rfl⟩ := List.getElem_of_mem hi
    have := (inst_parts (instsB_at _ _ k3 j hj)).1
    show _ ≤ _
    omega
theorem mdSm_names {m : Md} (h : MdSm m) : MdS m := by
  have h1 := h.1
  have h2 := h.2.1
  unfold MdS
  omega
end Go.Proofs.Ytcfniagmnkngfaa

namespace Go.Proofs.Ytcfniagmnkngfaa
open Go.RowKit

theorem place_row : (158 : TypeId) < Try.prog.types.size := of_decide_eq_true (by kernel_rfl)
theorem place_wide : (match Try.prog.underlying 158 with | some (.array _ _) | some (.struct _) => true | _ => false) = true := by rw [Try.underlying158]
theorem laid_out : laidOutB Try.prog = true := by kernel_rfl
theorem place_kt : Try.prog.keyTypeAt 2 158 = true := by kernel_rfl
set_option maxRecDepth 100000 in
theorem place_keyed : Maps.Keyed Try.prog 158 := Maps.Keyed.of_law (deep_law_laid laid_out (m := 2) (by omega) place_row place_kt place_wide)
def placeV (i k : Nat) : Value := .agg #[.int .i64 i, .int .i64 k]
theorem place_formed (i k : Nat) : (placeV i k).formed Try.prog 158 = true := by
  have h2 : Try.prog.cellsOf 158 = 2 := by kernel_rfl
  simp [placeV, Value.formed, Try.underlying158, h2]
theorem place_key (i k : Nat) (hi : i < 9223372036854775808) (hk : k < 9223372036854775808) : ∃ l, keyOf Try.prog 158 (placeV i k) = some l := by
  have h1 : Try.prog.keyType 158 = true := by kernel_rfl
  have h2 : Try.prog.cellsOf 158 = 2 := by kernel_rfl
  have h3 : Try.prog.cellsOf 3 = 1 := by kernel_rfl
  have w1 : (Lit.int .i64 (i : Int)).wf = true := by simp [Lit.wf, IntKind.min, IntKind.max, IntKind.signed, IntKind.bits]; omega
  have w2 : (Lit.int .i64 (k : Int)).wf = true := by simp [Lit.wf, IntKind.min, IntKind.max, IntKind.signed, IntKind.bits]; omega
  obtain ⟨n, hn⟩ : ∃ n, Try.prog.types.size = n + 1 := ⟨Try.prog.types.size - 1, by have h : (158 : Nat) < Try.prog.types.size := place_row; omega⟩
  have hf := place_formed i k
  unfold keyOf
  rw [Try.underlying158]
  simp only [h1, hf, Bool.and_self, if_true]
  rw [hn]
  simp [Program.keyLits, Try.underlying158, Try.underlying3, placeV, Value.cells, h2, h3, w1, w2]
noncomputable def plit (i k : Nat) : Lit := (keyOf Try.prog 158 (placeV i k)).getD (.bool false)
theorem plit_key {i k : Nat} (hi : i < 9223372036854775808) (hk : k < 9223372036854775808) : keyOf Try.prog 158 (placeV i k) = some (plit i k) := by
  obtain ⟨l, h⟩ := place_key i k hi hk
  unfold plit
  rw [h]
  rfl
theorem plit_inj {i k i' k' : Nat} (hi : i < 9223372036854775808) (hk : k < 9223372036854775808) (hi' : i' < 9223372036854775808) (hk' : k' < 9223372036854775808) (h : plit i k = plit i' k') : i = i' ∧ k = k' := by
  have h1 := plit_key hi hk
  have h2 := plit_key hi' hk'
  rw [← h] at h2
  have e := place_keyed.inj h1 h2
  simp only [placeV, Value.agg.injEq, Array.mk.injEq, List.cons.injEq, Value.int.injEq, true_and, and_true] at e
  omega
set_option maxRecDepth 100000 in
theorem plit_is {i k : Nat} (h : keyOf Try.prog 158 (placeV i k) = some (plit i k)) : WideAt.IsKeyLit (plit i k) := place_keyed.key h
/-- what a map of places says -/
def HasAll (l : List Fl) (D : DataW Unit) (t : Nat → Bool) : Prop := ∀ (i k : Nat) (hi : i < l.length), k < l[i].m.length → Maps.has D (plit i k) = t (offL l i + k)
set_option maxRecDepth 100000 in
theorem hasAll_put {l : List Fl} {D : DataW Unit} {t : Nat → Bool} (h : HasAll l D t) (hD : Maps.IsMap D) (hl : l.length ≤ 1000) (hm : ∀ f ∈ l, f.m.length ≤ 1000) {i k : Nat} (hi : i < l.length) (hk : k < l[i].m.length) (d : DataW Unit) :
    HasAll l (D.put (plit i k) d) (fun q => q == offL l i + k || t q) := by
  intro i' k' hi' hk'
  have hm1 := hm _ (List.getElem_mem hi)
  have hm2 := hm _ (List.getElem_mem hi')
  by_cases e : i' = i ∧ k' = k
  · obtain ⟨rfl, rfl⟩ := e
    have q1 := plit_key (i := i') (k := k') (by omega) (by omega)
    rw [Maps.has_put_same hD (plit_is q1)]
    simp
  · rw [Maps.has_put_other (fun h2 => e (plit_inj (by omega) (by omega) (by omega) (by omega) h2)), h i' k' hi' hk']
    have : (offL l i' + k' == offL l i + k) = false := by
      simp only [beq_eq_false_iff_ne, ne_eq]
      exact fun h2 => e (off_inj hi' hk' hi hk h2)
    show t _ = (_ || t _)
    rw [this, Bool.false_or]
/-- a world in which all lies as in W but for three blocks -/
def SameBut (n B mb : Nat) (r : Option Nat) (W W' : World) : Prop := W.heap.size ≤ W'.heap.size ∧ ∀ b, n ≤ b → b < W.heap.size → b ≠ B → b ≠ mb → some b ≠ r → W'.heap[b]? = W.heap[b]?
def MdYs (S : World → Prop) (ys : List Value) (j : Nat) (x : Md) : Prop :=
  ∃ F cf G cg, ys[j * 2]? = some (.slice F x.f.length cf) ∧ ys[j * 2 + 1]? = some (.slice G x.g.length cg) ∧ ∀ W, S W → MdAt W (.slice F x.f.length cf) (.slice G x.g.length cg) x
theorem MdYs.mono {S S' : World → Prop} {ys : List Value} {j : Nat} {x : Md} (h : MdYs S ys j x) (hs : ∀ W, S' W → S W) : MdYs S' ys j x := by
  obtain ⟨F, cf, G, cg, h0, h1, h2⟩ := h
  exact ⟨F, cf, G, cg, h0, h1, fun W hW => h2 W (hs W hW)⟩
/-- the row of what is taken -/
def RowIn (base B mb : Nat) (row : List Md) (v : Value) (W : World) : Prop :=
  ∃ ys, W.ownsRow base 25 2 v row.length ys ∧ ∀ (j : Nat) (hj : j < row.length), MdYs (SameBut base B mb v.ownBlock W) ys j row[j]
theorem RowIn.mods {base B mb : Nat} {row : List Md} {v : Value} {W : World} (h : RowIn base B mb row v W) : Mods W v row := by
  obtain ⟨ys, ho, h⟩ := h
  by_cases hl : 0 < row.length
  · obtain ⟨g, cap, e, -, hlt⟩ := ho.form hl
    subst e
    refine .inr ⟨hl, g, 0, cap, rfl, hlt, fun i hi => ?_⟩
    obtain ⟨F, cf, G, cg, h0, h1, h2⟩ := h i hi
    have q : ∀ c, c < 2 → W.cell? ⟨g, 0 + i * 2 + c, none⟩ = ys[i * 2 + c]? := fun c hc => by rw [Nat.zero_add]; exact ho.cellAt _ (by omega)
    exact ⟨F, cf, G, cg, (q 0 (by omega)).trans h0, (q 1 (by omega)).trans h1, h2 W ⟨Nat.le_refl _, fun _ _ _ _ _ _ => rfl⟩⟩
  · have hl0 : row = [] := by cases row <;> simp_all
    subst hl0
    obtain ⟨A, c, rfl⟩ := ownsRow_slice ho
    rcases ho.2 with ⟨e, _⟩ | ⟨g, cap, cur, e, _⟩
    · exact .inl ⟨rfl, .inl e⟩
    · exact .inl ⟨rfl, .inr ⟨_, _, e⟩⟩
/-- other blocks are written, or new ones made -/
theorem RowIn.keep {base B B' mb mb' : Nat} {row : List Md} {v : Value} {W W' : World} (h : RowIn base B mb row v W) (hz : W.heap.size ≤ W'.heap.size) (hs : ∀ b, base ≤ b → b < W.heap.size → b ≠ B → b ≠ mb → W'.heap[b]? = W.heap[b]?)
    (hB : B' = B ∨ W.heap.size ≤ B') (hmb : mb' = mb ∨ W.heap.size ≤ mb') (hv : v.ownBlock ≠ some B ∧ v.ownBlock ≠ some mb) : RowIn base B' mb' row v W' := by
  obtain ⟨ys, ho, h⟩ := h
  refine ⟨ys, ownsRow_atv ho (fun g hg => hs g (ho.lt g hg).1 (ho.lt g hg).2 (fun e => hv.1 (by rw [hg, e])) (fun e => hv.2 (by rw [hg, e]))), fun j hj => (h j hj).mono (fun U hU => ⟨Nat.le_trans hz hU.1, fun b h0 h1 h2 h3 h4 => ?_⟩)⟩
  rw [hU.2 b h0 (by omega) (by rcases hB with e | e <;> omega) (by rcases hmb with e | e <;> omega) h4]
  exact hs b h0 h1 h2 h3
/-- one more is put behind -/
theorem rowIn_step {base B mb : Nat} {row : List Md} {m : Md} {v : Value} {W u u2 : World} {F G : Option Addr} {cf cg g cap : Nat} {ys : List Value} (h : ∀ (j : Nat) (hj : j < row.length), MdYs (SameBut base B mb v.ownBlock W) ys j row[j]) (hl : ys.length = row.length * 2) (hv : ∀ q, v.ownBlock = some q → q < W.heap.size) (hbw : base ≤ W.heap.size) (hB : B < W.heap.size) (hmb : mb < W.heap.size) (hvB : v.ownBlock ≠ some B)
    (hb : Below W.heap.size W u) (hm : ∀ U, SameIn W.heap.size u.heap.size u U → MdAt U (.slice F m.f.length cf) (.slice G m.g.length cg) m) {o : Obj}
    (ho : u2.ownsRow base 25 2 (.slice (some ⟨g, 0, none⟩) (row.length + 1) cap) (row.length + 1) (ys ++ [.slice F m.f.length cf, .slice G m.g.length cg])) (hg : (u.alloc o).grownBy u2 v.ownBlock) (hgg : v.ownBlock = some g ∨ g = u.heap.size + 1) (x : Value) :
    RowIn base B mb (row ++ [m]) (.slice (some ⟨g, 0, none⟩) (row.length + 1) cap) (u2.setCell ⟨B, 2, none⟩ x) := by
  have hz0 := hb.size
  have hgB : g ≠ B := by
    rcases hgg with e | e
    · exact fun e2 => hvB (by rw [e, e2])
    · omega
  have hz1 := hb.size
  have hz2 := hg.size
  simp at hz2
  refine ⟨ys ++ [.slice F m.f.length cf, .slice G m.g.length cg], ?_, fun j hj => ?_⟩
  · rw [List.length_append]
    exact ownsRow_atv ho (fun q hq => Below.heap_setCell _ _ _ _ (by simp only [Value.ownBlock, Option.some.injEq] at hq; show q ≠ B; omega))
  · have keepW : ∀ U, SameBut base B mb (some g) (u2.setCell ⟨B, 2, none⟩ x) U → ∀ q, base ≤ q → q < u.heap.size → q ≠ B → q ≠ mb → some q ≠ v.ownBlock → U.heap[q]? = u.heap[q]? := fun U hU q q0 q1 q2 q3 q4 => by
      rw [hU.2 q q0 (by simp; omega) q2 q3 (by
        simp only [ne_eq, Option.some.injEq]
        rcases hgg with e | e
        · intro e2; exact q4 (by rw [e, e2])
        · omega), Below.heap_setCell _ _ _ _ (by simpa using q2), hg.block q (by simp; omega) q4, Lib.alloc_old _ _ _ q1]
    by_cases hjl : j < row.length
    · have hk := h j hjl
      rw [List.getElem_append_left hjl]
      obtain ⟨F', cf', G', cg', h0, h1, h2⟩ := hk
      refine ⟨F', cf', G', cg', by rw [List.getElem?_append_left (by omega)]; exact h0, by rw [List.getElem?_append_left (by omega)]; exact h1, fun U hU => h2 U ⟨?_, fun q q0 q1 q2 q3 q4 => ?_⟩⟩
      · have := hU.1; simp at this; omega
      · rw [keepW U hU q q0 (by omega) q2 q3 q4, hb.block q q1]
    · have hj1 : j = row.length := by simp at hj; omega
      subst hj1
      rw [List.getElem_concat_length]
      refine ⟨F, cf, G, cg, by rw [List.getElem?_append_right (by omega), hl, Nat.sub_self]; rfl, by rw [List.getElem?_append_right (by omega), hl, Nat.add_sub_cancel_left]; rfl, fun U hU => hm U ⟨?_, fun q q1 q2 => ?_⟩⟩
      · have := hU.1; simp at this; omega
      · exact keepW U hU q (by omega) q2 (by omega) (by omega) (fun e => by have := hv q e.symm; omega)
      · rfl
theorem ownsRow_down {W : World} {base base' : Nat} {T : TypeId} {sz n : Nat} {v : Value} {ys : List Value} (h : W.ownsRow base T sz v n ys) (hb : base' ≤ base) : W.ownsRow base' T sz v n ys := by
  rcases h with ⟨h1, h2 | ⟨g', cap', cur, rfl, hge, r⟩⟩
  · exact ⟨h1, .inl h2⟩
  · exact ⟨h1, .inr ⟨g', cap', cur, rfl, by omega, r⟩⟩
theorem RowIn.down {base base' B mb : Nat} {row : List Md} {v : Value} {W : World} (h : RowIn base B mb row v W) (hb : base' ≤ base) : RowIn base' B mb row v W := by
  obtain ⟨ys, ho, h⟩ := h
  exact ⟨ys, ownsRow_down ho hb, fun j hj => (h j hj).mono (fun U hU => ⟨hU.1, fun b b0 b1 b2 b3 b4 => hU.2 b (by omega) b1 b2 b3 b4⟩)⟩
/-- what is taken, as it lies behind a pointer -/
def PkAt (w0 : World) (fv : Value) (l : List Fl) (B mb : Nat) (s : Tk) (k : Nat) (W : World) : Prop :=
  ∃ v D, W.heap[B]? = some (.cells #[fv, .map (some mb), v] 108 (0, 0)) ∧ RowIn w0.heap.size B mb s.r v W ∧ W.ownsMap Try.prog 158 unitElem mb k D ∧ HasAll l D s.t ∧ Below w0.heap.size w0 W ∧
    w0.heap.size ≤ B ∧ w0.heap.size ≤ mb ∧ B ≠ mb ∧ v.ownBlock ≠ some B ∧ v.ownBlock ≠ some mb
end Go.Proofs.Ytcfniagmnkngfaa

namespace Go.Proofs.Ytcfniagmnkngfaa
open Go.RowKit

section
variable {H : Type}
theorem step_mapUpdate {P : Program} {w : World} {ops : Array Oper} {o : Oper} {a : Act} {K : Act → World → Prop} {Q : Exit → Act → World → Prop} {E : Prop} (hgd : o.guard = none) (m x v : Operand) (t : TypeId) (hop : o.op = Op.mapUpdate t m x v)
    (k e : TypeId) (KK : Maps.Keyed P k) (ht : P.underlying t = some (.map k e)) (R : Value → Option (DataW H × List MemPlace)) (b n : Nat) (D : DataW H)
    (hm : a.eval m = .map (some b)) (hown : w.ownsMap P k R b n D) (hn : n < maxLen) (key val : Value) (kl : Lit) (hx : a.eval x = key) (hv : a.eval v = val) (hkey : keyOf P k key = some kl)
    (d : DataW H) (ps : List MemPlace) (hval : R val = some (d, ps))
    (hK : ∀ w', w'.ownsMap P k R b (n + 1) (D.put kl d) → w.mapTurned w' b → K (a.put o.dst undef) w') :
    if Region.wanted o (yielded ops a.tmps) = true then Oper.wp P o a w K Q else E := by
  have hw : Region.wanted o (yielded ops a.tmps) = true := by simp [Region.wanted, hgd]
  rw [if_pos hw]
  obtain ⟨w', hrun, r1, r2⟩ := hown.store KK ht hn hkey hval
  unfold Oper.wp
  simp [execOp, hop, hm, hx, hv, hrun, Result.andThen]
  exact hK w' r1 r2
end
theorem mdl_info : (Try.prog.info? 25).map (fun i => (i.zero, i.size, i.bytes)) = some (some (.agg #[.slice none 0 0, .slice none 0 0]), 2, 48) := by kernel_rfl
/-- a module is put behind the others -/
theorem pk_put {w0 W u u2 : World} {fv : Value} {l : List Fl} {B mb : Nat} {r : List Md} {t : Nat → Bool} {k : Nat} {v : Value} {D : DataW Unit} {m : Md} {F G : Option Addr} {cf cg g cap : Nat} {ys : List Value} {o : Obj}
    (h1 : W.heap[B]? = some (.cells #[fv, .map (some mb), v] 108 (0, 0))) (h2 : W.ownsRow w0.heap.size 25 2 v r.length ys) (h2' : ∀ (j : Nat) (hj : j < r.length), MdYs (SameBut w0.heap.size B mb v.ownBlock W) ys j r[j])
    (h3 : W.ownsMap Try.prog 158 unitElem mb k D) (h4 : HasAll l D t) (h5 : Below w0.heap.size w0 W) (h6 : w0.heap.size ≤ B) (h7 : w0.heap.size ≤ mb) (h8 : B ≠ mb) (h9 : v.ownBlock ≠ some B) (h10 : v.ownBlock ≠ some mb)
    (hb : Below W.heap.size W u) (hm : ∀ U, SameIn W.heap.size u.heap.size u U → MdAt U (.slice F m.f.length cf) (.slice G m.g.length cg) m)
    (ho : u2.ownsRow w0.heap.size 25 2 (.slice (some ⟨g, 0, none⟩) (r.length + 1) cap) (r.length + 1) (ys ++ [.slice F m.f.length cf, .slice G m.g.length cg])) (hg : (u.alloc o).grownBy u2 v.ownBlock) (hgg : v.ownBlock = some g ∨ g = u.heap.size + 1) :
    (∃ z, u2.cell? ⟨B, 2, none⟩ = some z) ∧ u2.frozen? ⟨B, 2, none⟩ = false ∧ u2.cell? ⟨B, 0, none⟩ = some fv ∧ (u2.setCell ⟨B, 2, none⟩ (.slice (some ⟨g, 0, none⟩) (r.length + 1) cap)).cell? ⟨B, 0, none⟩ = some fv ∧
      (∀ q, q < W.heap.size → q ≠ B → v.ownBlock ≠ some q → (u2.setCell ⟨B, 2, none⟩ (.slice (some ⟨g, 0, none⟩) (r.length + 1) cap)).heap[q]? = W.heap[q]?) ∧ (∀ q, q < W.heap.size → v.ownBlock ≠ some q → u2.heap[q]? = W.heap[q]?) ∧
      PkAt w0 fv l B mb ⟨t, r ++ [m]⟩ k (u2.setCell ⟨B, 2, none⟩ (.slice (some ⟨g, 0, none⟩) (r.length + 1) cap)) := by
  have hB : B < W.heap.size := (Array.getElem?_eq_some_iff.1 h1).1
  have hmb : mb < W.heap.size := h3.lt
  have hz1 := hb.size
  have hz2 := hg.size
  simp at hz2
  have hvl : ∀ q, v.ownBlock = some q → q < W.heap.size := fun q hq => (h2.lt q hq).2
  have hgB : g ≠ B := by
    rcases hgg with e | e
    · exact fun e2 => h9 (by rw [e, e2])
    · omega
  have hgm : g ≠ mb := by
    rcases hgg with e | e
    · exact fun e2 => h10 (by rw [e, e2])
    · omega
  have low2 : ∀ q, q < W.heap.size → v.ownBlock ≠ some q → u2.heap[q]? = W.heap[q]? := fun q q1 q2 => (hg.block q (by simp; omega) (fun e => q2 e.symm)).trans ((Lib.alloc_old _ _ _ (by omega)).trans (hb.block q q1))
  have low3 : ∀ q, q < W.heap.size → q ≠ B → v.ownBlock ≠ some q → (u2.setCell ⟨B, 2, none⟩ (.slice (some ⟨g, 0, none⟩) (r.length + 1) cap)).heap[q]? = W.heap[q]? := fun q q1 q2 q3 => (Below.heap_setCell _ _ _ _ (by show q ≠ B; exact q2)).trans (low2 q q1 q3)
  have hB2 := (low2 B hB h9).trans h1
  have hB3 := heap_setCell_same u2 B 2 _ _ (.slice (some ⟨g, 0, none⟩) (r.length + 1) cap) hB2
  refine ⟨⟨_, Lib.cell_of_heap hB2 2⟩, Lib.frozen_of_heap hB2 2, Lib.cell_of_heap hB2 0, Lib.cell_of_heap hB3 0, low3, low2, _, D, hB3, rowIn_step h2' h2.1 hvl h5.size hB hmb h9 hb hm ho hg hgg _, ?_, h4, ?_, h6, h7, h8, fun e => hgB (by simpa [Value.ownBlock] using e), fun e => hgm (by simpa [Value.ownBlock] using e)⟩
  · obtain ⟨es, cl, hb', rest⟩ := h3
    exact ⟨es, cl, (low3 mb hmb (fun e => h8 e.symm) h10).trans hb', rest⟩
  · refine h5.trans ⟨hg.os.trans (hb.os), hg.tape.trans hb.tape, hg.output.trans hb.output, by simp; omega, fun q hq => low3 q (by have := h5.size; omega) (by omega) (fun e => by have := (h2.lt q e).1; omega)⟩
set_option maxRecDepth 100000 in
set_option maxHeartbeats 8000000 in
theorem take_any (w0 W : World) (l : List Fl) (A : Option Addr) (n c B mb : Nat) (s : Tk) (k i kk : Nat) (hk : k < 1000) (hl : l.length = n) (hl8 : n ≤ 1000) (hm16 : ∀ f ∈ l, f.m.length ≤ 1000) (hF : Files w0 (.slice A n c) l) (hi : i < l.length) (hkk : kk < l[i].m.length) (hsm : MdSm l[i].m[kk]) (hr : s.r.length ≤ 1000)
    (hP : PkAt w0 (.slice A n c) l B mb s k W) :
    Calls Try.prog 94 #[.pointer (some ⟨B, 0, none⟩), placeV i kk] W fun e w' => (∃ v, e = .returned v) ∧ PkAt w0 (.slice A n c) l B mb ⟨fun q => q == offL l i + kk || s.t q, s.r ++ [l[i].m[kk]]⟩ (k + 1) w' := by
  obtain ⟨v, D, h1, ⟨ys, h2, h2'⟩, h3, h4, h5, h6, h7, h8, h9, h10⟩ := hP
  obtain ⟨bf, of, hA, hbf, p0, A3, z3, p1, hmods⟩ := RowOf.at_ hF hi
  subst hA
  obtain ⟨b2, of2, hA3, hb2, F, cf, G, cg, q0, q1, hmd⟩ := RowOf.at_ hmods hkk
  subst hA3
  obtain ⟨nm, hnm⟩ : ∃ q, l[i].m.length = q := ⟨_, rfl⟩
  rw [hnm] at p1
  have hmb := h3.lt
  have hB : B < W.heap.size := (Array.getElem?_eq_some_iff.1 h1).1
  have hxi : l[i].m.length ≤ 1000 := hm16 _ (List.getElem_mem hi)
  have HKM := Lib.hid (show k < maxLen by unfold maxLen; omega)
  have HKY := Lib.hid (plit_key (i := i) (k := kk) (by omega) (by omega))
  have HMP := Lib.hid ((h3.alloc (.cells #[.int .i64 i, .int .i64 kk] 158)).drew)
  have HX := Lib.hid (show (W.alloc (.cells #[.int .i64 i, .int .i64 kk] 158)).drew.heap[W.heap.size]? = some (.cells #[.int .i64 i, .int .i64 kk] 158 (0, 0)) from heap_alloc_new W _)
  have HB1 := Lib.hid (show Below W.heap.size W (W.alloc (.cells #[.int .i64 i, .int .i64 kk] 158)).drew from (balloc (Below.refl _ W) _).drew)
  have hB1 : (W.alloc (.cells #[.int .i64 i, .int .i64 kk] 158)).drew.heap[B]? = some (.cells #[.slice (some ⟨bf, of, none⟩) n c, .map (some mb), v] 108 (0, 0)) := (HB1.out.block B hB).trans h1
  have HZA := Lib.hid (show (W.alloc (.cells #[.int .i64 i, .int .i64 kk] 158)).drew.heap.size = W.heap.size + 1 from World.size_alloc _ _)
  have HS1 := Lib.hid (fun (U : World) (hg : (W.alloc (.cells #[.int .i64 i, .int .i64 kk] 158)).drew.grownBy U (some mb)) => (show U.cell? ⟨B, 1, none⟩ = some (.map (some mb)) ∧ U.cell? ⟨W.heap.size, 0, none⟩ = some (.int .i64 i) ∧ U.cell? ⟨W.heap.size, 1, none⟩ = some (.int .i64 kk) from by
    have a1 := (hg.block B (by rw [HZA.out]; omega) (fun e => h8 (Option.some.inj e))).trans hB1
    have a2 := (hg.block W.heap.size (by rw [HZA.out]; omega) (fun e => by have := Option.some.inj e; omega)).trans HX.out
    exact ⟨Lib.cell_of_heap a1 1, Lib.cell_of_heap a2 0, Lib.cell_of_heap a2 1⟩))
  have hd := HS1.out _ ⟨rfl, rfl, rfl, Nat.le_refl _, fun _ _ _ => rfl⟩
  obtain ⟨nf, hnf⟩ : ∃ q, l[i].m[kk].f.length = q := ⟨_, rfl⟩
  obtain ⟨ng, hng⟩ : ∃ q, l[i].m[kk].g.length = q := ⟨_, rfl⟩
  rw [hnf] at q0 hmd
  rw [hng] at q1 hmd
  obtain ⟨i0, hi0, hz0, hz1, hz2⟩ := info_parts mdl_info
  have HII := Lib.hid (And.intro hi0 (And.intro hz0 (And.intro hz1 hz2)))
  have HLN := Lib.hid (show s.r.length + 1 ≤ maxLen ∧ (s.r.length + 1) * 48 ≤ 140737488355328 by unfold maxLen; omega)
  have HALL := Lib.hid (hasAll_put h4 h3.isMap (by omega) hm16 hi hkk (.agg []))
  have n1 : (n : Int) ≤ 1000 := by omega
  have i1 : (i : Int) < (n : Int) := by omega
  have i2 : (0 : Int) ≤ (i : Int) := Int.natCast_nonneg _
  have k1 : (kk : Int) < (nm : Int) := by omega
  have k2 : (0 : Int) ≤ (kk : Int) := Int.natCast_nonneg _
  -- behind the map's writing
  have HP3 := Lib.hid (fun (w3 : World) (hg : (W.alloc (.cells #[.int .i64 i, .int .i64 kk] 158)).drew.grownBy w3 (some mb)) (hm3 : w3.ownsMap Try.prog 158 unitElem mb (k + 1) (D.put (plit i kk) (.agg []))) =>
    (show w3.drew.heap[B]? = some (.cells #[.slice (some ⟨bf, of, none⟩) n c, .map (some mb), v] 108 (0, 0)) ∧ w3.drew.ownsRow w0.heap.size 25 2 v s.r.length ys ∧ (∀ (j : Nat) (hj : j < s.r.length), MdYs (SameBut w0.heap.size B mb v.ownBlock w3.drew) ys j s.r[j]) ∧
        w3.drew.ownsMap Try.prog 158 unitElem mb (k + 1) (D.put (plit i kk) (.agg [])) ∧ Below w0.heap.size w0 w3.drew ∧ w3.drew.heap[W.heap.size]? = some (.cells #[.int .i64 i, .int .i64 kk] 158 (0, 0)) from by
      have low : ∀ q, q < W.heap.size → q ≠ mb → w3.heap[q]? = W.heap[q]? := fun q q1 q2 => (hg.block q (by rw [HZA.out]; omega) (fun e => q2 (Option.some.inj e))).trans (HB1.out.block q q1)
      have hsz : W.heap.size + 1 ≤ w3.heap.size := by have := hg.size; rw [HZA.out] at this; exact this
      refine ⟨(low B hB h8).trans h1, ownsRow_atv h2 (fun q hq => low q (h2.lt q hq).2 (fun e => h10 (by rw [hq, e]))), fun j hj => (h2' j hj).mono (fun U hU => ⟨by have h := hU.1; have : w3.heap.size ≤ U.heap.size := h; omega, fun q q0 q1 q2 q3 q4 => ?_⟩), hm3.drew, ?_, (hg.block W.heap.size (by rw [HZA.out]; omega) (fun e => by have := Option.some.inj e; omega)).trans HX.out⟩
      · rw [hU.2 q q0 (by show q < w3.heap.size; omega) q2 q3 q4]
        exact low q q1 q3
      · exact (h5.trans (HB1.out.mono h5.size)).trans ⟨hg.os, hg.tape, hg.output, hg.size, fun q q1 => hg.block q (by rw [HZA.out]; have := h5.size; omega) (fun e => by have := Option.some.inj e; omega)⟩))
  have HLOW := Lib.hid (And.intro h6 (And.intro h7 (And.intro h8 (And.intro h9 (And.intro h10 (And.intro hB hmb))))))
  have HVL := Lib.hid (fun q (hq : v.ownBlock = some q) => h2.lt q hq)
  have HCW := Lib.hid (fun (U : World) (hU : Below w0.heap.size w0 U) => (show U.cell? ⟨bf, of + i * 2 + 1, none⟩ = some (.slice (some ⟨b2, of2, none⟩) nm z3) ∧ U.cell? ⟨b2, of2 + kk * 2, none⟩ = some (.slice F nf cf) ∧ U.cell? ⟨b2, of2 + kk * 2 + 1, none⟩ = some (.slice G ng cg) from
    ⟨(cellNext hbf hU _).trans p1, (cellNext hb2 hU _).trans q0, (cellNext hb2 hU _).trans q1⟩))
  have HCP := Lib.hid (fun (U : World) (hU : Below w0.heap.size w0 U) => copied_any l[i].m[kk] F G nf cf ng cg U hsm hnf hng (hmd.next hU))
  obtain ⟨m, hmm⟩ : ∃ m, l[i].m[kk] = m := ⟨_, rfl⟩
  rw [hmm] at HCP hnf hng ⊢
  have HNN := Lib.hid (And.intro hnf hng)
  clear hnf hng h1 h2 h2' h3 h4 h5 h6 h7 h8 h9 h10 hF hi hkk hsm hr hmm p0 p1 q0 q1 hmd hmods hbf hb2 hmb hB hxi hB1 hnm hi0 hz0 hz1 hz2 hk hl hl8 hm16
  unfold placeV
  go_enter Try.func94, Try.ntmps94
  go_upto_region 1 with fail
  refine wp_region_held_drew (S := (fun U => U.cell? ⟨B, 1, none⟩ = some (.map (some mb)) ∧ U.cell? ⟨W.heap.size, 0, none⟩ = some (.int .i64 i) ∧ U.cell? ⟨W.heap.size, 1, none⟩ = some (.int .i64 kk))) (by kernel_rfl) hd (fun hHeld => ?_)
  refine wpAnyH_take (i := 0) (v := ?_) rfl (by kernel_rfl) (by kernel_rfl) (by kernel_rfl) (fun _ _ _ h => h) (Or.inl ⟨by rfl, ?_⟩) hHeld ?_
  rotate_left
  · intro W' hSw; (try dsimp only at hSw); go_simp; try (with_reducible rfl)
  (try simp only [Act.put, List.getElem_toArray, List.getElem_cons_zero, List.setIfInBounds_toArray, List.set_cons_zero, List.set_cons_succ])
  refine wpAnyH_take (i := 1) (v := ?_) rfl (by kernel_rfl) (by kernel_rfl) (by kernel_rfl) (fun _ _ _ h => h) (Or.inl ⟨by rfl, ?_⟩) hHeld ?_
  rotate_left
  · intro W' hSw; (try dsimp only at hSw); go_simp; try (with_reducible rfl)
  (try simp only [Act.put, List.getElem_toArray, List.getElem_cons_zero, List.getElem_cons_succ, List.setIfInBounds_toArray, List.set_cons_zero, List.set_cons_succ])
  refine wpAnyH_take (i := 2) (v := ?_) rfl (by kernel_rfl) (by kernel_rfl) (by kernel_rfl) (fun _ _ _ h => h) (Or.inl ⟨by rfl, ?_⟩) hHeld ?_
  rotate_left
  · intro W' hSw; (try dsimp only at hSw); go_simp; try (with_reducible rfl)
  (try simp only [Act.put, List.getElem_toArray, List.getElem_cons_zero, List.getElem_cons_succ, List.setIfInBounds_toArray, List.set_cons_zero, List.set_cons_succ])
  refine wpAnyH_take (i := 3) (v := ?_) rfl (by kernel_rfl) (by kernel_rfl) (by kernel_rfl) (fun _ _ _ h => h) (Or.inl ⟨by rfl, ?_⟩) hHeld ?_
  rotate_left
  · intro W' hSw; (try dsimp only at hSw); go_simp; try (with_reducible rfl)
  (try simp only [Act.put, List.getElem_toArray, List.getElem_cons_zero, List.getElem_cons_succ, List.setIfInBounds_toArray, List.set_cons_zero, List.set_cons_succ])
  refine wpAnyH_take (i := 4) (v := ?_) rfl (by kernel_rfl) (by kernel_rfl) (by kernel_rfl) (fun _ _ _ h => h) (Or.inl ⟨by rfl, ?_⟩) hHeld ?_
  rotate_left
  · intro W' hSw; (try dsimp only at hSw); go_simp; try (with_reducible rfl)
  (try simp only [Act.put, List.getElem_toArray, List.getElem_cons_zero, List.getElem_cons_succ, List.setIfInBounds_toArray, List.set_cons_zero, List.set_cons_succ])
  refine wpAnyH_take (i := 5) (v := ?_) rfl (by kernel_rfl) (by kernel_rfl) (by kernel_rfl) (fun _ _ _ h => h) (Or.inl ⟨by rfl, ?_⟩) hHeld ?_
  rotate_left
  · intro W' hSw; (try dsimp only at hSw); go_simp; try (with_reducible rfl)
  (try simp only [Act.put, List.getElem_toArray, List.getElem_cons_zero, List.getElem_cons_succ, List.setIfInBounds_toArray, List.set_cons_zero, List.set_cons_succ])
  refine wpAnyH_ready (rs := [6]) (by kernel_rfl) (by simp) ?_
  refine AllReadyH.cons rfl (fun K hK => ?_) AllReadyH.nil
  refine step_mapUpdate rfl _ _ _ 106 rfl 158 153 place_keyed Try.underlying106 unitElem mb k D rfl HMP.out HKM.out (placeV i kk) (.agg #[]) (plit i kk) rfl rfl HKY.out (.agg []) [] unitElem_mk ?_
  intro w3 hm3 hg3
  have HG3 := Lib.hid hg3.grown
  have HM3 := Lib.hid hm3
  refine hK.out _ _ (HS1.out w3 HG3.out) (fun _ => ?_)
  clear hK hd hHeld hm3 hg3
  (try simp only [Act.put, List.getElem_toArray, List.getElem_cons_zero, List.getElem_cons_succ])
  refine wpAnyH_done (by kernel_rfl) ?_ _
  obtain ⟨a1, a2, a2', a3, a5, aX⟩ := HP3.out w3 HG3.out HM3.out
  clear HP3 HS1 HMP HM3 HX HB1
  have HSX := Lib.hid (fun (U : World) (hU : Below w0.heap.size w0 U) (hx : U.heap[W.heap.size]? = some (.cells #[.int .i64 i, .int .i64 kk] 158 (0, 0))) (hb0 : U.cell? ⟨B, 0, none⟩ = some (.slice (some ⟨bf, of, none⟩) n c)) => (show U.cell? ⟨B, 0, none⟩ = some (.slice (some ⟨bf, of, none⟩) n c) ∧ U.cell? ⟨W.heap.size, 0, none⟩ = some (.int .i64 i) ∧ U.cell? ⟨W.heap.size, 1, none⟩ = some (.int .i64 kk) ∧ U.cell? ⟨bf, of + i * 2 + 1, none⟩ = some (.slice (some ⟨b2, of2, none⟩) nm z3) ∧ U.cell? ⟨b2, of2 + kk * 2, none⟩ = some (.slice F nf cf) ∧ U.cell? ⟨b2, of2 + kk * 2 + 1, none⟩ = some (.slice G ng cg) from
    ⟨hb0, Lib.cell_of_heap hx 0, Lib.cell_of_heap hx 1, HCW.out U hU⟩))
  have hd := HSX.out _ a5 aX (Lib.cell_of_heap a1 0)
  have e4 : w3.drew.cell? ⟨B, 2, none⟩ = some v := Lib.cell_of_heap a1 2
  have HCL := Lib.hid (HCP.out _ a5)
  have HXL := Lib.hid (show W.heap.size < w3.drew.heap.size from (Array.getElem?_eq_some_iff.1 aX).1)
  have HBL := Lib.hid (show B < w3.drew.heap.size from (Array.getElem?_eq_some_iff.1 a1).1)
  have HST := Lib.hid (fun (u1 : World) (hb1 : Below w3.drew.heap.size w3.drew u1) => (show u1.cell? ⟨B, 2, none⟩ = some v ∧ (u1.cell? ⟨B, 0, none⟩ = some (.slice (some ⟨bf, of, none⟩) n c) ∧ u1.cell? ⟨W.heap.size, 0, none⟩ = some (.int .i64 i) ∧ u1.cell? ⟨W.heap.size, 1, none⟩ = some (.int .i64 kk) ∧ u1.cell? ⟨bf, of + i * 2 + 1, none⟩ = some (.slice (some ⟨b2, of2, none⟩) nm z3) ∧ u1.cell? ⟨b2, of2 + kk * 2, none⟩ = some (.slice F nf cf) ∧ u1.cell? ⟨b2, of2 + kk * 2 + 1, none⟩ = some (.slice G ng cg)) ∧ (∀ o, (u1.alloc o).cell? ⟨B, 2, none⟩ = some v) ∧ (∀ o, (u1.alloc o).cell? ⟨B, 0, none⟩ = some (.slice (some ⟨bf, of, none⟩) n c) ∧ (u1.alloc o).cell? ⟨W.heap.size, 0, none⟩ = some (.int .i64 i) ∧ (u1.alloc o).cell? ⟨W.heap.size, 1, none⟩ = some (.int .i64 kk) ∧ (u1.alloc o).cell? ⟨bf, of + i * 2 + 1, none⟩ = some (.slice (some ⟨b2, of2, none⟩) nm z3) ∧ (u1.alloc o).cell? ⟨b2, of2 + kk * 2, none⟩ = some (.slice F nf cf) ∧ (u1.alloc o).cell? ⟨b2, of2 + kk * 2 + 1, none⟩ = some (.slice G ng cg)) ∧ (∀ o, (u1.alloc o).ownsRow w0.heap.size 25 2 v s.r.length ys) ∧ (∀ o, w0.heap.size ≤ (u1.alloc o).heap.size) from by
    have b1 := (hb1.block B HBL.out).trans a1
    have bX := (hb1.block _ HXL.out).trans aX
    have b5 := a5.trans (hb1.mono a5.size)
    have hz := hb1.size
    have ob : ∀ (o : Obj) q, q < w3.drew.heap.size → (u1.alloc o).heap[q]? = u1.heap[q]? := fun o q hq => Lib.alloc_old _ _ _ (by omega)
    refine ⟨Lib.cell_of_heap b1 2, HSX.out u1 b5 bX (Lib.cell_of_heap b1 0), fun o => Lib.cell_of_heap ((ob o B HBL.out).trans b1) 2, fun o => HSX.out _ (b5.trans ((balloc (Below.refl _ u1) o).mono b5.size)) ((ob o _ HXL.out).trans bX) (Lib.cell_of_heap ((ob o B HBL.out).trans b1) 0), fun o => (ownsRow_atv a2 (fun q hq => hb1.block q (a2.lt q hq).2)).alloc o, fun o => by have := b5.size; simp; omega⟩))
  have HFN := Lib.hid (fun (u1 u2 : World) (F9 : Option Addr) (cf9 : Nat) (G9 : Option Addr) (cg9 gg cap : Nat) (hb1 : Below w3.drew.heap.size w3.drew u1) (hmd1 : ∀ U, SameIn w3.drew.heap.size u1.heap.size u1 U → MdAt U (.slice F9 nf cf9) (.slice G9 ng cg9) m)
      (hown : u2.ownsRow w0.heap.size 25 2 (.slice (some ⟨gg, 0, none⟩) (s.r.length + 1) cap) (s.r.length + 1) (ys ++ [.slice F9 nf cf9, .slice G9 ng cg9])) (hgrow : (u1.alloc (.cells #[.slice F9 nf cf9, .slice G9 ng cg9] 25)).grownBy u2 v.ownBlock) (hat : v.ownBlock = some gg ∨ gg = u1.heap.size + 1) =>
    (show (u2.cell? ⟨B, 0, none⟩ = some (.slice (some ⟨bf, of, none⟩) n c) ∧ u2.cell? ⟨W.heap.size, 0, none⟩ = some (.int .i64 i) ∧ u2.cell? ⟨W.heap.size, 1, none⟩ = some (.int .i64 kk) ∧ u2.cell? ⟨bf, of + i * 2 + 1, none⟩ = some (.slice (some ⟨b2, of2, none⟩) nm z3) ∧ u2.cell? ⟨b2, of2 + kk * 2, none⟩ = some (.slice F nf cf) ∧ u2.cell? ⟨b2, of2 + kk * 2 + 1, none⟩ = some (.slice G ng cg)) ∧ (∃ z, u2.cell? ⟨B, 2, none⟩ = some z) ∧ u2.frozen? ⟨B, 2, none⟩ = false ∧ ((u2.setCell ⟨B, 2, none⟩ (.slice (some ⟨gg, 0, none⟩) (s.r.length + 1) cap)).cell? ⟨B, 0, none⟩ = some (.slice (some ⟨bf, of, none⟩) n c) ∧ (u2.setCell ⟨B, 2, none⟩ (.slice (some ⟨gg, 0, none⟩) (s.r.length + 1) cap)).cell? ⟨W.heap.size, 0, none⟩ = some (.int .i64 i) ∧ (u2.setCell ⟨B, 2, none⟩ (.slice (some ⟨gg, 0, none⟩) (s.r.length + 1) cap)).cell? ⟨W.heap.size, 1, none⟩ = some (.int .i64 kk) ∧ (u2.setCell ⟨B, 2, none⟩ (.slice (some ⟨gg, 0, none⟩) (s.r.length + 1) cap)).cell? ⟨bf, of + i * 2 + 1, none⟩ = some (.slice (some ⟨b2, of2, none⟩) nm z3) ∧ (u2.setCell ⟨B, 2, none⟩ (.slice (some ⟨gg, 0, none⟩) (s.r.length + 1) cap)).cell? ⟨b2, of2 + kk * 2, none⟩ = some (.slice F nf cf) ∧ (u2.setCell ⟨B, 2, none⟩ (.slice (some ⟨gg, 0, none⟩) (s.r.length + 1) cap)).cell? ⟨b2, of2 + kk * 2 + 1, none⟩ = some (.slice G ng cg)) ∧ PkAt w0 (.slice (some ⟨bf, of, none⟩) n c) l B mb ⟨fun q => q == offL l i + kk || s.t q, s.r ++ [m]⟩ (k + 1) (u2.setCell ⟨B, 2, none⟩ (.slice (some ⟨gg, 0, none⟩) (s.r.length + 1) cap)) from by
      obtain ⟨l6, l7, l8, l9, l10, lB, lmb⟩ := HLOW.out
      obtain ⟨rfl, rfl⟩ := HNN.out
      obtain ⟨z1, z2, z3, z4, z5, z6, z7⟩ := pk_put (t := fun q => q == offL l i + kk || s.t q) a1 a2 a2' a3 HALL.out a5 l6 l7 l8 l9 l10 hb1 hmd1 hown hgrow hat
      have hXv : v.ownBlock ≠ some W.heap.size := fun e => by have := HVL.out _ e; omega
      have x2 := (z6 _ HXL.out hXv).trans aX
      have x3 := (z5 _ HXL.out (by omega) hXv).trans aX
      have hbf : Below w0.heap.size w0 u2 := a5.trans ⟨hgrow.os.trans hb1.os, hgrow.tape.trans hb1.tape, hgrow.output.trans hb1.output, by have := hgrow.size; have := hb1.size; simp at *; omega, fun q hq => z6 q (by have := a5.size; omega) (fun e => by have := (a2.lt q e).1; omega)⟩
      have hbl : Below w0.heap.size w0 (u2.setCell ⟨B, 2, none⟩ (.slice (some ⟨gg, 0, none⟩) (s.r.length + 1) cap)) := below_setc hbf l6
      exact ⟨HSX.out u2 hbf x2 z3, z1, z2, HSX.out _ hbl x3 z4, z7⟩))
  clear a1 a2 a2' a3 a5 aX HG3 HALL HKY HKM HCP
  go_upto_region 2 with fail
  refine wp_region_held_drew (S := (fun U => U.cell? ⟨B, 0, none⟩ = some (.slice (some ⟨bf, of, none⟩) n c) ∧ U.cell? ⟨W.heap.size, 0, none⟩ = some (.int .i64 i) ∧ U.cell? ⟨W.heap.size, 1, none⟩ = some (.int .i64 kk) ∧ U.cell? ⟨bf, of + i * 2 + 1, none⟩ = some (.slice (some ⟨b2, of2, none⟩) nm z3) ∧ U.cell? ⟨b2, of2 + kk * 2, none⟩ = some (.slice F nf cf) ∧ U.cell? ⟨b2, of2 + kk * 2 + 1, none⟩ = some (.slice G ng cg))) (by kernel_rfl) hd (fun hHeld => ?_)
  refine wpAnyH_take (i := 0) (v := ?_) rfl (by kernel_rfl) (by kernel_rfl) (by kernel_rfl) (fun _ _ _ h => h) (Or.inl ⟨by rfl, ?_⟩) hHeld ?_
  rotate_left
  · intro W' hSw; (try dsimp only at hSw); go_simp; try (with_reducible rfl)
  (try simp only [Act.put, List.getElem_toArray, List.getElem_cons_zero, List.setIfInBounds_toArray, List.set_cons_zero, List.set_cons_succ])
  refine wpAnyH_take (i := 1) (v := ?_) rfl (by kernel_rfl) (by kernel_rfl) (by kernel_rfl) (fun _ _ _ h => h) (Or.inl ⟨by rfl, ?_⟩) hHeld ?_
  rotate_left
  · intro W' hSw; (try dsimp only at hSw); go_simp; try (with_reducible rfl)
  (try simp only [Act.put, List.getElem_toArray, List.getElem_cons_zero, List.getElem_cons_succ, List.setIfInBounds_toArray, List.set_cons_zero, List.set_cons_succ])
  refine wpAnyH_take (i := 2) (v := ?_) rfl (by kernel_rfl) (by kernel_rfl) (by kernel_rfl) (fun _ _ _ h => h) (Or.inl ⟨by rfl, ?_⟩) hHeld ?_
  rotate_left
  · intro W' hSw; (try dsimp only at hSw); go_simp; try (with_reducible rfl)
  (try simp only [Act.put, List.getElem_toArray, List.getElem_cons_zero, List.getElem_cons_succ, List.setIfInBounds_toArray, List.set_cons_zero, List.set_cons_succ])
  refine wpAnyH_take (i := 3) (v := ?_) rfl (by kernel_rfl) (by kernel_rfl) (by kernel_rfl) (fun _ _ _ h => h) (Or.inl ⟨by rfl, ?_⟩) hHeld ?_
  rotate_left
  · intro W' hSw; (try dsimp only at hSw); go_simp; try (with_reducible rfl)
  (try simp only [Act.put, List.getElem_toArray, List.getElem_cons_zero, List.getElem_cons_succ, List.setIfInBounds_toArray, List.set_cons_zero, List.set_cons_succ])
  refine wpAnyH_take (i := 5) (v := ?_) rfl (by kernel_rfl) (by kernel_rfl) (by kernel_rfl) (fun _ _ _ h => h) (Or.inl ⟨by rfl, ?_⟩) hHeld ?_
  rotate_left
  · intro W' hSw; (try dsimp only at hSw); go_simp; try (with_reducible rfl)
  (try simp only [Act.put, List.getElem_toArray, List.getElem_cons_zero, List.getElem_cons_succ, List.setIfInBounds_toArray, List.set_cons_zero, List.set_cons_succ])
  refine wpAnyH_take (i := 6) (v := ?_) rfl (by kernel_rfl) (by kernel_rfl) (by kernel_rfl) (fun _ _ _ h => h) (Or.inl ⟨by rfl, ?_⟩) hHeld ?_
  rotate_left
  · intro W' hSw; (try dsimp only at hSw); go_simp; try (with_reducible rfl)
  (try simp only [Act.put, List.getElem_toArray, List.getElem_cons_zero, List.getElem_cons_succ, List.setIfInBounds_toArray, List.set_cons_zero, List.set_cons_succ])
  refine wpAnyH_take (i := 7) (v := ?_) rfl (by kernel_rfl) (by kernel_rfl) (by kernel_rfl) (fun _ _ _ h => h) (Or.inl ⟨by rfl, ?_⟩) hHeld ?_
  rotate_left
  · intro W' hSw; (try dsimp only at hSw); go_simp; try (with_reducible rfl)
  (try simp only [Act.put, List.getElem_toArray, List.getElem_cons_zero, List.getElem_cons_succ, List.setIfInBounds_toArray, List.set_cons_zero, List.set_cons_succ])
  refine wpAnyH_take (i := 8) (v := ?_) rfl (by kernel_rfl) (by kernel_rfl) (by kernel_rfl) (fun _ _ _ h => h) (Or.inl ⟨by rfl, ?_⟩) hHeld ?_
  rotate_left
  · intro W' hSw; (try dsimp only at hSw); go_simp; try (with_reducible rfl)
  (try simp only [Act.put, List.getElem_toArray, List.getElem_cons_zero, List.getElem_cons_succ, List.setIfInBounds_toArray, List.set_cons_zero, List.set_cons_succ])
  refine wpAnyH_take (i := 9) (v := ?_) rfl (by kernel_rfl) (by kernel_rfl) (by kernel_rfl) (fun _ _ _ h => h) (Or.inl ⟨by rfl, ?_⟩) hHeld ?_
  rotate_left
  · intro W' hSw; (try dsimp only at hSw); go_simp; try (with_reducible rfl)
  (try simp only [Act.put, List.getElem_toArray, List.getElem_cons_zero, List.getElem_cons_succ, List.setIfInBounds_toArray, List.set_cons_zero, List.set_cons_succ])
  refine wpAnyH_take (i := 10) (v := ?_) rfl (by kernel_rfl) (by kernel_rfl) (by kernel_rfl) (fun _ _ _ h => h) (Or.inl ⟨by rfl, ?_⟩) hHeld ?_
  rotate_left
  · intro W' hSw; (try dsimp only at hSw); go_simp; try (with_reducible rfl)
  (try simp only [Act.put, List.getElem_toArray, List.getElem_cons_zero, List.getElem_cons_succ, List.setIfInBounds_toArray, List.set_cons_zero, List.set_cons_succ])
  refine wpAnyH_take (i := 11) (v := ?_) rfl (by kernel_rfl) (by kernel_rfl) (by kernel_rfl) (fun _ _ _ h => h) (Or.inl ⟨by rfl, ?_⟩) hHeld ?_
  rotate_left
  · intro W' hSw; (try dsimp only at hSw); go_simp; try (with_reducible rfl)
  (try simp only [Act.put, List.getElem_toArray, List.getElem_cons_zero, List.getElem_cons_succ, List.setIfInBounds_toArray, List.set_cons_zero, List.set_cons_succ])
  refine wpAnyH_take (i := 12) (v := ?_) rfl (by kernel_rfl) (by kernel_rfl) (by kernel_rfl) (fun _ _ _ h => h) (Or.inl ⟨by rfl, ?_⟩) hHeld ?_
  rotate_left
  · intro W' hSw; (try dsimp only at hSw); go_simp; try (with_reducible rfl)
  (try simp only [Act.put, List.getElem_toArray, List.getElem_cons_zero, List.getElem_cons_succ, List.setIfInBounds_toArray, List.set_cons_zero, List.set_cons_succ])
  refine wpAnyH_take (i := 13) (v := ?_) rfl (by kernel_rfl) (by kernel_rfl) (by kernel_rfl) (fun _ _ _ h => h) (Or.inl ⟨by rfl, ?_⟩) hHeld ?_
  rotate_left
  · intro W' hSw; (try dsimp only at hSw); go_simp; try (with_reducible rfl)
  (try simp only [Act.put, List.getElem_toArray, List.getElem_cons_zero, List.getElem_cons_succ, List.setIfInBounds_toArray, List.set_cons_zero, List.set_cons_succ])
  refine wpAnyH_take (i := 14) (v := ?_) rfl (by kernel_rfl) (by kernel_rfl) (by kernel_rfl) (fun _ _ _ h => h) (Or.inl ⟨by rfl, ?_⟩) hHeld ?_
  rotate_left
  · intro W' hSw; (try dsimp only at hSw); go_simp; try (with_reducible rfl)
  (try simp only [Act.put, List.getElem_toArray, List.getElem_cons_zero, List.getElem_cons_succ, List.setIfInBounds_toArray, List.set_cons_zero, List.set_cons_succ])
  refine wpAnyH_take (i := 15) (v := ?_) rfl (by kernel_rfl) (by kernel_rfl) (by kernel_rfl) (fun _ _ _ h => h) (Or.inl ⟨by rfl, ?_⟩) hHeld ?_
  rotate_left
  · intro W' hSw; (try dsimp only at hSw); go_simp; try (with_reducible rfl)
  (try simp only [Act.put, List.getElem_toArray, List.getElem_cons_zero, List.getElem_cons_succ, List.setIfInBounds_toArray, List.set_cons_zero, List.set_cons_succ])
  refine wpAnyH_take (i := 16) (v := ?_) rfl (by kernel_rfl) (by kernel_rfl) (by kernel_rfl) (fun _ _ _ h => h) (Or.inl ⟨by rfl, ?_⟩) hHeld ?_
  rotate_left
  · intro W' hSw; (try dsimp only at hSw); go_simp; try (with_reducible rfl)
  (try simp only [Act.put, List.getElem_toArray, List.getElem_cons_zero, List.getElem_cons_succ, List.setIfInBounds_toArray, List.set_cons_zero, List.set_cons_succ])
  refine wpAnyH_take (i := 17) (v := ?_) rfl (by kernel_rfl) (by kernel_rfl) (by kernel_rfl) (fun _ _ _ h => h) (Or.inl ⟨by rfl, ?_⟩) hHeld ?_
  rotate_left
  · intro W' hSw; (try dsimp only at hSw); go_simp; try (with_reducible rfl)
  (try simp only [Act.put, List.getElem_toArray, List.getElem_cons_zero, List.getElem_cons_succ, List.setIfInBounds_toArray, List.set_cons_zero, List.set_cons_succ])
  refine wpAnyH_ready (rs := [4, 18]) (by kernel_rfl) (by simp) ?_
  refine AllReadyH.cons rfl (fun K hK => ?_) (AllReadyH.cons rfl (fun K hK => ?_) AllReadyH.nil)
  · go_simp
    refine hK.out _ _ hd (fun hHeld => ?_)
    clear hK
    (try simp only [Act.put, List.getElem_toArray, List.getElem_cons_zero, List.getElem_cons_succ, List.setIfInBounds_toArray, List.set_cons_zero, List.set_cons_succ])
    refine wpAnyH_ready (rs := [18]) (by kernel_rfl) (by simp) ?_
    refine AllReadyH.cons rfl (fun K hK => ?_) AllReadyH.nil
    go_simp
    refine Calls.mono HCL.out ?_
    rintro r u1 ⟨F9, cf9, G9, cg9, rfl, hb1, hmd1⟩
    obtain ⟨e4b, hd1, e4c, hd1c, HAL⟩ := HST.out u1 hb1
    refine hK.out _ _ hd1 (fun hHeld => ?_)
    clear hK
    (try simp only [Act.put, List.getElem_toArray, List.getElem_cons_zero, List.getElem_cons_succ, List.setIfInBounds_toArray, List.set_cons_zero, List.set_cons_succ])
    refine wpAnyH_ready (rs := [19]) (by kernel_rfl) (by simp) ?_
    refine AllReadyH.cons rfl (fun K hK => ?_) AllReadyH.nil
    go_simp
    have hd1d := hd1c (.cells #[.slice F9 nf cf9, .slice G9 ng cg9] 25)
    have e4d := e4c (.cells #[.slice F9 nf cf9, .slice G9 ng cg9] 25)
    refine hK.out _ _ hd1d (fun hHeld => ?_)
    clear hK
    (try simp only [Act.put, List.getElem_toArray, List.getElem_cons_zero, List.getElem_cons_succ, List.setIfInBounds_toArray, List.set_cons_zero, List.set_cons_succ])
    refine wpAnyH_ready (rs := [20]) (by kernel_rfl) (by simp) ?_
    refine AllReadyH.cons rfl (fun K hK => ?_) AllReadyH.nil
    refine step_append_lies _ rfl _ _ 42 rfl w0.heap.size 25 i0 _ 2 48 Try.underlying42 HII.out.1 HII.out.2.1 HII.out.2.2.1 HII.out.2.2.2 rfl (by decide) v s.r.length ys (by rfl) (HAL.1 _) ⟨u1.heap.size, 0, none⟩ 1 1 [.slice F9 nf cf9, .slice G9 ng cg9] (by rfl) (by rfl) (World.news_of_block (cs := #[.slice F9 nf cf9, .slice G9 ng cg9]) (heap_alloc_new u1 _)) (by simp [Value.oneCell']) (by decide) HLN.out.1 HLN.out.2 (HAL.2 _) (u1.heap.size + 1) (by simp) ?_
    intro gg cap u2 hown hgrow hat hlt
    obtain ⟨hd2, ⟨z2, e2⟩, f2, hd3, HPK⟩ := HFN.out u1 u2 F9 cf9 G9 cg9 gg cap hb1 hmd1 hown hgrow hat
    refine hK.out _ _ hd2 (fun hHeld => ?_)
    clear hK
    (try simp only [Act.put, List.getElem_toArray, List.getElem_cons_zero, List.getElem_cons_succ, List.setIfInBounds_toArray, List.set_cons_zero, List.set_cons_succ])
    refine wpAnyH_take (i := 21) (v := ?_) rfl (by kernel_rfl) (by kernel_rfl) (by kernel_rfl) (fun _ _ _ h => h) (Or.inl ⟨by rfl, ?_⟩) hHeld ?_
    rotate_left
    · intro W' hSw; (try dsimp only at hSw); go_simp; try (with_reducible rfl)
    (try simp only [Act.put, List.getElem_toArray, List.getElem_cons_zero, List.getElem_cons_succ, List.setIfInBounds_toArray, List.set_cons_zero, List.set_cons_succ])
    refine wpAnyH_take (i := 22) (v := ?_) rfl (by kernel_rfl) (by kernel_rfl) (by kernel_rfl) (fun _ _ _ h => h) (Or.inl ⟨by rfl, ?_⟩) hHeld ?_
    rotate_left
    · intro W' hSw; (try dsimp only at hSw); go_simp; try (with_reducible rfl)
    (try simp only [Act.put, List.getElem_toArray, List.getElem_cons_zero, List.getElem_cons_succ, List.setIfInBounds_toArray, List.set_cons_zero, List.set_cons_succ])
    refine wpAnyH_ready (rs := [23]) (by kernel_rfl) (by simp) ?_
    refine AllReadyH.cons rfl (fun K hK => ?_) AllReadyH.nil
    go_simp
    refine hK.out _ _ hd3 (fun hHeld => ?_)
    clear hK
    (try simp only [Act.put, List.getElem_toArray, List.getElem_cons_zero, List.getElem_cons_succ, List.setIfInBounds_toArray, List.set_cons_zero, List.set_cons_succ])
    refine wpAnyH_done (by kernel_rfl) ?_ _
    have HPX := Lib.hid HPK
    clear HPK e2 f2 hd2 hd3 hHeld hd hd1 e4 hb1 hown hgrow hat hlt
    go_wp2_with fail
    exact bodyPost_end (results_none Try.results94 _ _ _) rfl ⟨⟨_, rfl⟩, HPX.out⟩
  · go_simp
    refine Calls.mono HCL.out ?_
    rintro r u1 ⟨F9, cf9, G9, cg9, rfl, hb1, hmd1⟩
    obtain ⟨e4b, hd1, e4c, hd1c, HAL⟩ := HST.out u1 hb1
    refine hK.out _ _ hd1 (fun hHeld => ?_)
    clear hK
    (try simp only [Act.put, List.getElem_toArray, List.getElem_cons_zero, List.getElem_cons_succ, List.setIfInBounds_toArray, List.set_cons_zero, List.set_cons_succ])
    refine wpAnyH_ready (rs := [4, 19]) (by kernel_rfl) (by simp) ?_
    refine AllReadyH.cons rfl (fun K hK => ?_) (AllReadyH.cons rfl (fun K hK => ?_) AllReadyH.nil)
    · go_simp
      refine hK.out _ _ hd1 (fun hHeld => ?_)
      clear hK
      (try simp only [Act.put, List.getElem_toArray, List.getElem_cons_zero, List.getElem_cons_succ, List.setIfInBounds_toArray, List.set_cons_zero, List.set_cons_succ])
      refine wpAnyH_ready (rs := [19]) (by kernel_rfl) (by simp) ?_
      refine AllReadyH.cons rfl (fun K hK => ?_) AllReadyH.nil
      go_simp
      have hd1d := hd1c (.cells #[.slice F9 nf cf9, .slice G9 ng cg9] 25)
      have e4d := e4c (.cells #[.slice F9 nf cf9, .slice G9 ng cg9] 25)
      refine hK.out _ _ hd1d (fun hHeld => ?_)
      clear hK
      (try simp only [Act.put, List.getElem_toArray, List.getElem_cons_zero, List.getElem_cons_succ, List.setIfInBounds_toArray, List.set_cons_zero, List.set_cons_succ])
      refine wpAnyH_ready (rs := [20]) (by kernel_rfl) (by simp) ?_
      refine AllReadyH.cons rfl (fun K hK => ?_) AllReadyH.nil
      refine step_append_lies _ rfl _ _ 42 rfl w0.heap.size 25 i0 _ 2 48 Try.underlying42 HII.out.1 HII.out.2.1 HII.out.2.2.1 HII.out.2.2.2 rfl (by decide) v s.r.length ys (by rfl) (HAL.1 _) ⟨u1.heap.size, 0, none⟩ 1 1 [.slice F9 nf cf9, .slice G9 ng cg9] (by rfl) (by rfl) (World.news_of_block (cs := #[.slice F9 nf cf9, .slice G9 ng cg9]) (heap_alloc_new u1 _)) (by simp [Value.oneCell']) (by decide) HLN.out.1 HLN.out.2 (HAL.2 _) (u1.heap.size + 1) (by simp) ?_
      intro gg cap u2 hown hgrow hat hlt
      obtain ⟨hd2, ⟨z2, e2⟩, f2, hd3, HPK⟩ := HFN.out u1 u2 F9 cf9 G9 cg9 gg cap hb1 hmd1 hown hgrow hat
      refine hK.out _ _ hd2 (fun hHeld => ?_)
      clear hK
      (try simp only [Act.put, List.getElem_toArray, List.getElem_cons_zero, List.getElem_cons_succ, List.setIfInBounds_toArray, List.set_cons_zero, List.set_cons_succ])
      refine wpAnyH_take (i := 21) (v := ?_) rfl (by kernel_rfl) (by kernel_rfl) (by kernel_rfl) (fun _ _ _ h => h) (Or.inl ⟨by rfl, ?_⟩) hHeld ?_
      rotate_left
      · intro W' hSw; (try dsimp only at hSw); go_simp; try (with_reducible rfl)
      (try simp only [Act.put, List.getElem_toArray, List.getElem_cons_zero, List.getElem_cons_succ, List.setIfInBounds_toArray, List.set_cons_zero, List.set_cons_succ])
      refine wpAnyH_take (i := 22) (v := ?_) rfl (by kernel_rfl) (by kernel_rfl) (by kernel_rfl) (fun _ _ _ h => h) (Or.inl ⟨by rfl, ?_⟩) hHeld ?_
      rotate_left
      · intro W' hSw; (try dsimp only at hSw); go_simp; try (with_reducible rfl)
      (try simp only [Act.put, List.getElem_toArray, List.getElem_cons_zero, List.getElem_cons_succ, List.setIfInBounds_toArray, List.set_cons_zero, List.set_cons_succ])
      refine wpAnyH_ready (rs := [23]) (by kernel_rfl) (by simp) ?_
      refine AllReadyH.cons rfl (fun K hK => ?_) AllReadyH.nil
      go_simp
      refine hK.out _ _ hd3 (fun hHeld => ?_)
      clear hK
      (try simp only [Act.put, List.getElem_toArray, List.getElem_cons_zero, List.getElem_cons_succ, List.setIfInBounds_toArray, List.set_cons_zero, List.set_cons_succ])
      refine wpAnyH_done (by kernel_rfl) ?_ _
      have HPX := Lib.hid HPK
      clear HPK e2 f2 hd2 hd3 hHeld hd hd1 e4 hb1 hown hgrow hat hlt
      go_wp2_with fail
      exact bodyPost_end (results_none Try.results94 _ _ _) rfl ⟨⟨_, rfl⟩, HPX.out⟩
    · go_simp
      have hd1d := hd1c (.cells #[.slice F9 nf cf9, .slice G9 ng cg9] 25)
      have e4d := e4c (.cells #[.slice F9 nf cf9, .slice G9 ng cg9] 25)
      refine hK.out _ _ hd1d (fun hHeld => ?_)
      clear hK
      (try simp only [Act.put, List.getElem_toArray, List.getElem_cons_zero, List.getElem_cons_succ, List.setIfInBounds_toArray, List.set_cons_zero, List.set_cons_succ])
      refine wpAnyH_ready (rs := [4]) (by kernel_rfl) (by simp) ?_
      refine AllReadyH.cons rfl (fun K hK => ?_) AllReadyH.nil
      go_simp
      refine hK.out _ _ hd1d (fun hHeld => ?_)
      clear hK
      (try simp only [Act.put, List.getElem_toArray, List.getElem_cons_zero, List.getElem_cons_succ, List.setIfInBounds_toArray, List.set_cons_zero, List.set_cons_succ])
      refine wpAnyH_ready (rs := [20]) (by kernel_rfl) (by simp) ?_
      refine AllReadyH.cons rfl (fun K hK => ?_) AllReadyH.nil
      refine step_append_lies _ rfl _ _ 42 rfl w0.heap.size 25 i0 _ 2 48 Try.underlying42 HII.out.1 HII.out.2.1 HII.out.2.2.1 HII.out.2.2.2 rfl (by decide) v s.r.length ys (by rfl) (HAL.1 _) ⟨u1.heap.size, 0, none⟩ 1 1 [.slice F9 nf cf9, .slice G9 ng cg9] (by rfl) (by rfl) (World.news_of_block (cs := #[.slice F9 nf cf9, .slice G9 ng cg9]) (heap_alloc_new u1 _)) (by simp [Value.oneCell']) (by decide) HLN.out.1 HLN.out.2 (HAL.2 _) (u1.heap.size + 1) (by simp) ?_
      intro gg cap u2 hown hgrow hat hlt
      obtain ⟨hd2, ⟨z2, e2⟩, f2, hd3, HPK⟩ := HFN.out u1 u2 F9 cf9 G9 cg9 gg cap hb1 hmd1 hown hgrow hat
      refine hK.out _ _ hd2 (fun hHeld => ?_)
      clear hK
      (try simp only [Act.put, List.getElem_toArray, List.getElem_cons_zero, List.getElem_cons_succ, List.setIfInBounds_toArray, List.set_cons_zero, List.set_cons_succ])
      refine wpAnyH_take (i := 21) (v := ?_) rfl (by kernel_rfl) (by kernel_rfl) (by kernel_rfl) (fun _ _ _ h => h) (Or.inl ⟨by rfl, ?_⟩) hHeld ?_
      rotate_left
      · intro W' hSw; (try dsimp only at hSw); go_simp; try (with_reducible rfl)
      (try simp only [Act.put, List.getElem_toArray, List.getElem_cons_zero, List.getElem_cons_succ, List.setIfInBounds_toArray, List.set_cons_zero, List.set_cons_succ])
      refine wpAnyH_take (i := 22) (v := ?_) rfl (by kernel_rfl) (by kernel_rfl) (by kernel_rfl) (fun _ _ _ h => h) (Or.inl ⟨by rfl, ?_⟩) hHeld ?_
      rotate_left
      · intro W' hSw; (try dsimp only at hSw); go_simp; try (with_reducible rfl)
      (try simp only [Act.put, List.getElem_toArray, List.getElem_cons_zero, List.getElem_cons_succ, List.setIfInBounds_toArray, List.set_cons_zero, List.set_cons_succ])
      refine wpAnyH_ready (rs := [23]) (by kernel_rfl) (by simp) ?_
      refine AllReadyH.cons rfl (fun K hK => ?_) AllReadyH.nil
      go_simp
      refine hK.out _ _ hd3 (fun hHeld => ?_)
      clear hK
      (try simp only [Act.put, List.getElem_toArray, List.getElem_cons_zero, List.getElem_cons_succ, List.setIfInBounds_toArray, List.set_cons_zero, List.set_cons_succ])
      refine wpAnyH_done (by kernel_rfl) ?_ _
      have HPX := Lib.hid HPK
      clear HPK e2 f2 hd2 hd3 hHeld hd hd1 e4 hb1 hown hgrow hat hlt
      go_wp2_with fail
      exact bodyPost_end (results_none Try.results94 _ _ _) rfl ⟨⟨_, rfl⟩, HPX.out⟩
end Go.Proofs.Ytcfniagmnkngfaa
