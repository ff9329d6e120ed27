/- Package reach: names that are led to, deepest first: pure. -/
import Derived.Test.YtoglmdadpchhoaaHY3
namespace Go.Proofs.Ytoglmdadpchhoaa
open Go.RowKit

instance : LawfulBEq ByteArray where
  eq_of_beq h := (jba_beq _ _).1 h
  rfl := (jba_beq _ _).2 rfl
theorem snoc_ind {α : Type} {P : List α → Prop} (h0 : P []) (h1 : ∀ l x, P l → P (l ++ [x])) (l : List α) : P l := by
  rw [← List.reverse_reverse l]
  induction l.reverse with
  | nil => exact h0
  | cons x r ih =>
    rw [List.reverse_cons]
    exact h1 _ _ ih
/-- a name is met, and all that it leads to; s: which are met, which are told -/
def visitE (L : ByteArray → List ByteArray) : Nat → ByteArray → List ByteArray × List ByteArray → List ByteArray × List ByteArray
  | 0, _, s => s
  | k + 1, n, s =>
    if n ∈ s.1 then s
    else (((L n).foldl (fun t x => visitE L k x t) (s.1 ++ [n], s.2)).1, ((L n).foldl (fun t x => visitE L k x t) (s.1 ++ [n], s.2)).2 ++ [n])
/-- these names, and all that they lead to -/
def deepE (L : ByteArray → List ByteArray) (k : Nat) (l : List ByteArray) (s : List ByteArray × List ByteArray) : List ByteArray × List ByteArray := l.foldl (fun t x => visitE L k x t) s
theorem visitE_met (L : ByteArray → List ByteArray) (k : Nat) (n : ByteArray) (s : List ByteArray × List ByteArray) (h : n ∈ s.1) : visitE L k n s = s := by
  cases k with
  | zero => rfl
  | succ k => rw [visitE, if_pos h]
theorem visitE_new (L : ByteArray → List ByteArray) (k : Nat) (n : ByteArray) (s : List ByteArray × List ByteArray) (h : n ∉ s.1) :
    visitE L (k + 1) n s = ((deepE L k (L n) (s.1 ++ [n], s.2)).1, (deepE L k (L n) (s.1 ++ [n], s.2)).2 ++ [n]) := by
  rw [visitE, if_neg h]
  rfl
theorem deepE_take (L : ByteArray → List ByteArray) (k : Nat) {l : List ByteArray} {i : Nat} (hi : i < l.length) (s : List ByteArray × List ByteArray) : deepE L k (l.take (i + 1)) s = visitE L k l[i] (deepE L k (l.take i) s) := by
  unfold deepE
  rw [List.take_succ_eq_append_getElem hi, List.foldl_append]
  rfl
/-- how many names are not met -/
def leftE (U met : List ByteArray) : Nat := U.countP (fun x => decide (x ∉ met))
theorem leftE_mono {U a b : List ByteArray} (h : ∀ x ∈ a, x ∈ b) : leftE U b ≤ leftE U a := by
  unfold leftE
  refine List.countP_mono_left fun x _ hx => ?_
  simp only [decide_eq_true_eq] at hx ⊢
  exact fun ha => hx (h x ha)
theorem leftE_less {U met : List ByteArray} {n : ByteArray} (hu : n ∈ U) (hn : n ∉ met) : leftE U (met ++ [n]) + 1 ≤ leftE U met := by
  unfold leftE
  induction U with
  | nil => cases hu
  | cons x U ih =>
    rw [List.countP_cons, List.countP_cons]
    have mono : U.countP (fun x => decide (x ∉ met ++ [n])) ≤ U.countP (fun x => decide (x ∉ met)) := leftE_mono (U := U) (a := met) (b := met ++ [n]) (fun x hx => by simp [hx])
    by_cases hx : x = n
    · subst hx
      have e1 : decide (x ∉ met ++ [x]) = false := by simp
      have e2 : decide (x ∉ met) = true := by simpa using hn
      rw [e1, e2]
      simp only [Bool.false_eq_true, if_false, if_true]
      omega
    · have hu2 : n ∈ U := by
        rcases List.mem_cons.1 hu with e | e
        · exact absurd e.symm hx
        · exact e
      have := ih hu2
      have e1 : decide (x ∉ met ++ [n]) = decide (x ∉ met) := by simp [hx]
      rw [e1]
      omega
/-- one name leads to another, in some steps -/
inductive Leads (L : ByteArray → List ByteArray) : ByteArray → ByteArray → Prop
  | refl (x : ByteArray) : Leads L x x
  | step {x y z : ByteArray} : Leads L x y → z ∈ L y → Leads L x z
theorem Leads.trans {L : ByteArray → List ByteArray} {x y z : ByteArray} (h : Leads L x y) (k : Leads L y z) : Leads L x z := by
  induction k with
  | refl => exact h
  | step _ hz ih => exact ih.step hz
theorem Leads.head {L : ByteArray → List ByteArray} {x y z : ByteArray} (h : y ∈ L x) (k : Leads L y z) : Leads L x z := ((Leads.refl x).step h).trans k
/-- what is behind names that were gone through -/
structure Gone (L : ByteArray → List ByteArray) (from_ : ByteArray → Prop) (s t : List ByteArray × List ByteArray) : Prop where
  add : ∃ added : List ByteArray, t.2 = s.2 ++ added ∧ (∀ x, x ∈ t.1 ↔ x ∈ s.1 ∨ x ∈ added) ∧ (∀ x ∈ added, x ∉ s.1) ∧ added.Nodup ∧
    (∀ x ∈ added, ∀ g ∈ L x, g ∈ t.1) ∧ (∀ x ∈ added, ∃ r, from_ r ∧ Leads L r x)
  met : ∀ r, from_ r → r ∈ t.1
theorem Gone.sub {L : ByteArray → List ByteArray} {p : ByteArray → Prop} {s t : List ByteArray × List ByteArray} (h : Gone L p s t) : ∀ x ∈ s.1, x ∈ t.1 := by
  obtain ⟨a, -, h2, -⟩ := h.add
  exact fun x hx => (h2 x).2 (.inl hx)
theorem Gone.nil (L : ByteArray → List ByteArray) (s : List ByteArray × List ByteArray) : Gone L (fun _ => False) s s :=
  ⟨⟨[], by simp, by simp, by simp, List.nodup_nil, by simp, by simp⟩, fun _ h => h.elim⟩
theorem Gone.then_ {L : ByteArray → List ByteArray} {p q : ByteArray → Prop} {s t u : List ByteArray × List ByteArray} (h : Gone L p s t) (k : Gone L q t u) : Gone L (fun r => p r ∨ q r) s u := by
  obtain ⟨a, a1, a2, a3, a4, a5, a6⟩ := h.add
  obtain ⟨b, b1, b2, b3, b4, b5, b6⟩ := k.add
  refine ⟨⟨a ++ b, by rw [b1, a1, List.append_assoc], fun x => ?_, fun x hx => ?_, ?_, fun x hx g hg => ?_, fun x hx => ?_⟩, fun r hr => ?_⟩
  · rw [b2, a2, List.mem_append, or_assoc]
  · rcases List.mem_append.1 hx with hx | hx
    · exact a3 x hx
    · exact fun hs => b3 x hx ((a2 x).2 (.inl hs))
  · refine List.nodup_append.2 ⟨a4, b4, fun x hx y hy e => ?_⟩
    subst e
    exact b3 x hy ((a2 x).2 (.inr hx))
  · rcases List.mem_append.1 hx with hx | hx
    · exact (b2 g).2 (.inl (a5 x hx g hg))
    · exact b5 x hx g hg
  · rcases List.mem_append.1 hx with hx | hx
    · obtain ⟨r, h1, h2⟩ := a6 x hx
      exact ⟨r, .inl h1, h2⟩
    · obtain ⟨r, h1, h2⟩ := b6 x hx
      exact ⟨r, .inr h1, h2⟩
  · rcases hr with hr | hr
    · exact (b2 r).2 (.inl (h.met r hr))
    · exact k.met r hr
theorem gone_visit {L : ByteArray → List ByteArray} {U : List ByteArray} (hU : ∀ x ∈ U, ∀ g ∈ L x, g ∈ U) : ∀ (k : Nat) (n : ByteArray) (s : List ByteArray × List ByteArray), n ∈ U → leftE U s.1 ≤ k → Gone L (fun r => r = n) s (visitE L k n s)
  | k, n, s, hn, hk => by
    by_cases h : n ∈ s.1
    · rw [visitE_met L k n s h]
      exact ⟨⟨[], by simp, by simp, by simp, List.nodup_nil, by simp, by simp⟩, fun r hr => by subst hr; exact h⟩
    · have hl := leftE_less hn h
      cases k with
      | zero => omega
      | succ k =>
        rw [visitE_new L k n s h]
        have fold : ∀ (l : List ByteArray) (t : List ByteArray × List ByteArray), (∀ x ∈ l, x ∈ U) → leftE U t.1 ≤ k → Gone L (fun r => r ∈ l) t (deepE L k l t) := by
          intro l
          induction l with
          | nil =>
            intro t _ _
            exact ⟨⟨[], by simp [deepE], by simp [deepE], by simp, List.nodup_nil, by simp, by simp⟩, fun r hr => by cases hr⟩
          | cons x l ih =>
            intro t hl ht
            have h1 := gone_visit hU k x t (hl x (by simp)) ht
            have h2 := ih (visitE L k x t) (fun y hy => hl y (by simp [hy])) (Nat.le_trans (leftE_mono h1.sub) ht)
            have h3 := h1.then_ h2
            have e : deepE L k (x :: l) t = deepE L k l (visitE L k x t) := rfl
            rw [e]
            refine ⟨?_, fun r hr => h3.met r (by rcases List.mem_cons.1 hr with e | e; exact .inl e; exact .inr e)⟩
            obtain ⟨a, a1, a2, a3, a4, a5, a6⟩ := h3.add
            exact ⟨a, a1, a2, a3, a4, a5, fun y hy => by
              obtain ⟨r, hr, hl⟩ := a6 y hy
              exact ⟨r, by rcases hr with e | e; subst e; simp; simp [e], hl⟩⟩
        have g := fold (L n) (s.1 ++ [n], s.2) (fun x hx => hU n hn x hx) (by simpa using (by omega : leftE U (s.1 ++ [n]) ≤ k))
        obtain ⟨a, a1, a2, a3, a4, a5, a6⟩ := g.add
        simp only at a1 a2 a3
        have hna : n ∉ a := fun hx => a3 n hx (by simp)
        refine ⟨⟨a ++ [n], by simp only; rw [a1, List.append_assoc], fun x => ?_, fun x hx => ?_, ?_, fun x hx w hw => ?_, fun x hx => ?_⟩, fun r hr => ?_⟩
        · simp only
          rw [a2 x]
          simp only [List.mem_append, List.mem_singleton]
          constructor
          · rintro ((h | h) | h)
            · exact .inl h
            · exact .inr (.inr h)
            · exact .inr (.inl h)
          · rintro (h | h | h)
            · exact .inl (.inl h)
            · exact .inr h
            · exact .inl (.inr h)
        · rcases List.mem_append.1 hx with hx | hx
          · exact fun hs => a3 x hx (by simp [hs])
          · rw [List.mem_singleton.1 hx]; exact h
        · refine List.nodup_append.2 ⟨a4, by simp, fun x hx y hy e => ?_⟩
          rw [List.mem_singleton.1 hy] at e
          subst e
          exact hna hx
        · rcases List.mem_append.1 hx with hx | hx
          · exact a5 x hx w hw
          · rw [List.mem_singleton.1 hx] at hw
            exact g.met w hw
        · rcases List.mem_append.1 hx with hx | hx
          · obtain ⟨r, h1, h2⟩ := a6 x hx
            exact ⟨n, rfl, Leads.head h1 h2⟩
          · rw [List.mem_singleton.1 hx]
            exact ⟨n, rfl, .refl n⟩
        · subst hr
          exact (a2 r).2 (.inl (by simp))
theorem gone_deep {L : ByteArray → List ByteArray} {U : List ByteArray} (hU : ∀ x ∈ U, ∀ g ∈ L x, g ∈ U) (k : Nat) : ∀ (l : List ByteArray) (s : List ByteArray × List ByteArray), (∀ x ∈ l, x ∈ U) → leftE U s.1 ≤ k → Gone L (fun r => r ∈ l) s (deepE L k l s)
  | [], s, _, _ => ⟨⟨[], by simp [deepE], by simp [deepE], by simp, List.nodup_nil, by simp, by simp⟩, fun r hr => by cases hr⟩
  | x :: l, s, hl, hs => by
    have h1 := gone_visit hU k x s (hl x (by simp)) hs
    have h2 := gone_deep hU k l (visitE L k x s) (fun y hy => hl y (by simp [hy])) (Nat.le_trans (leftE_mono h1.sub) hs)
    have h3 := h1.then_ h2
    refine ⟨?_, fun r hr => h3.met r (by rcases List.mem_cons.1 hr with e | e; exact .inl e; exact .inr e)⟩
    obtain ⟨a, a1, a2, a3, a4, a5, a6⟩ := h3.add
    exact ⟨a, a1, a2, a3, a4, a5, fun y hy => by
      obtain ⟨r, hr, hl⟩ := a6 y hy
      exact ⟨r, by rcases hr with e | e; subst e; simp; simp [e], hl⟩⟩
/-- what is told of names is all that they lead to -/
theorem deep_mem {L : ByteArray → List ByteArray} {U : List ByteArray} (hU : ∀ x ∈ U, ∀ g ∈ L x, g ∈ U) {k : Nat} {l : List ByteArray} (hl : ∀ x ∈ l, x ∈ U) (hk : U.length ≤ k) (x : ByteArray) :
    x ∈ (deepE L k l ([], [])).2 ↔ ∃ r ∈ l, Leads L r x := by
  have g := gone_deep hU k l ([], []) hl (Nat.le_trans (List.countP_le_length) hk)
  obtain ⟨a, a1, a2, -, -, a5, a6⟩ := g.add
  simp only [List.nil_append] at a1
  have a2' : ∀ y, y ∈ (deepE L k l ([], [])).1 ↔ y ∈ a := fun y => by rw [a2]; simp
  rw [a1]
  constructor
  · intro hx
    obtain ⟨r, hr, h⟩ := a6 x hx
    exact ⟨r, hr, h⟩
  · rintro ⟨r, hr, h⟩
    induction h with
    | refl => exact (a2' _).1 (g.met r hr)
    | step _ hz ih => exact (a2' _).1 (a5 _ ih _ hz)
theorem deep_nodup {L : ByteArray → List ByteArray} {U : List ByteArray} (hU : ∀ x ∈ U, ∀ g ∈ L x, g ∈ U) {k : Nat} {l : List ByteArray} (hl : ∀ x ∈ l, x ∈ U) (hk : U.length ≤ k) : (deepE L k l ([], [])).2.Nodup := by
  have g := gone_deep hU k l ([], []) hl (Nat.le_trans (List.countP_le_length) hk)
  obtain ⟨a, a1, -, -, a4, -⟩ := g.add
  simp only [List.nil_append] at a1
  rw [a1]
  exact a4
/-- each where it stands first -/
def onceE (l : List ByteArray) : List ByteArray := l.foldl (fun a x => if x ∈ a then a else a ++ [x]) []
theorem onceE_snoc (l : List ByteArray) (x : ByteArray) : onceE (l ++ [x]) = if x ∈ onceE l then onceE l else onceE l ++ [x] := by
  unfold onceE
  rw [List.foldl_append]
  rfl
theorem onceE_take {l : List ByteArray} {i : Nat} (hi : i < l.length) : onceE (l.take (i + 1)) = if l[i] ∈ onceE (l.take i) then onceE (l.take i) else onceE (l.take i) ++ [l[i]] := by
  rw [List.take_succ_eq_append_getElem hi, onceE_snoc]
theorem mem_onceE (l : List ByteArray) (x : ByteArray) : x ∈ onceE l ↔ x ∈ l := by
  refine snoc_ind (P := fun l => x ∈ onceE l ↔ x ∈ l) Iff.rfl (fun l y ih => ?_) l
  rw [onceE_snoc]
  by_cases h : y ∈ onceE l
  · rw [if_pos h, ih, List.mem_append, List.mem_singleton]
    constructor
    · exact .inl
    · rintro (h2 | h2)
      · exact h2
      · subst h2
        exact ih.1 h
  · rw [if_neg h, List.mem_append, List.mem_append, ih]
theorem onceE_length (l : List ByteArray) : (onceE l).length ≤ l.length := by
  refine snoc_ind (P := fun l => (onceE l).length ≤ l.length) (Nat.le_refl _) (fun l y ih => ?_) l
  rw [onceE_snoc]
  split
  · simp; omega
  · simp; omega
/-- what names lead to in a module: the names of the instructions of a name's first function -/
def leadsM (m : Md) (n : ByteArray) : List ByteArray := match fnOf m n with
  | some f => refsL f
  | none => []
/-- the names that stay -/
def rootsE (m : Md) : List ByteArray := (m.f.filter fun f => f.b == 2 || f.s == mainN).map (·.s) ++ (m.g.filter fun g => g.b == 2).map (·.s)
/-- all names that are there -/
def allN (m : Md) (roots : List ByteArray) : List ByteArray := roots ++ (m.f.map refsL).flatten
theorem leadsM_all {m : Md} {roots : List ByteArray} : ∀ x ∈ allN m roots, ∀ g ∈ leadsM m x, g ∈ allN m roots := by
  intro x _ g hg
  unfold leadsM at hg
  split at hg
  · rename_i f hf
    refine List.mem_append_right _ (List.mem_flatten.2 ⟨_, List.mem_map_of_mem (fnOf_mem hf).1, hg⟩)
  · cases hg
/-- all that is told, deepest first -/
def toldE (m : Md) (roots : List ByteArray) : List ByteArray := (deepE (leadsM m) (allN m roots).length roots ([], [])).2
theorem told_mem (m : Md) (roots : List ByteArray) (x : ByteArray) : x ∈ toldE m roots ↔ ∃ r ∈ roots, Leads (leadsM m) r x :=
  deep_mem leadsM_all (fun _ hx => List.mem_append_left _ hx) (Nat.le_refl _) x
/-- what is reached -/
def fromE (m : Md) (roots : List ByteArray) : List ByteArray := onceE ((namesM m).filter fun x => decide (x ∈ toldE m roots))
theorem from_mem (m : Md) (roots : List ByteArray) (x : ByteArray) : x ∈ fromE m roots ↔ x ∈ namesM m ∧ ∃ r ∈ roots, Leads (leadsM m) r x := by
  unfold fromE
  rw [mem_onceE, List.mem_filter, decide_eq_true_eq, told_mem]
/-- a module without what isn't reached -/
def dropE (m : Md) : Md := ⟨m.f.filter fun f => decide (f.s ∈ fromE m (rootsE m)), m.g.filter fun g => decide (g.s ∈ fromE m (rootsE m))⟩
theorem from_grows (m : Md) (l : List ByteArray) (x : ByteArray) : ∀ y ∈ fromE m l, y ∈ fromE m (l ++ [x]) := by
  intro y hy
  rw [from_mem] at hy ⊢
  obtain ⟨h1, r, hr, h2⟩ := hy
  exact ⟨h1, r, List.mem_append_left _ hr, h2⟩
theorem from_own (m : Md) (l : List ByteArray) : ∀ y ∈ fromE m l, y ∈ fromE m [y] := by
  intro y hy
  rw [from_mem] at hy ⊢
  exact ⟨hy.1, y, by simp, .refl y⟩
theorem from_few (m : Md) (l : List ByteArray) : (fromE m l).length ≤ m.f.length + m.g.length := by
  unfold fromE
  refine Nat.le_trans (onceE_length _) (Nat.le_trans (List.length_filter_le _ _) ?_)
  unfold namesM
  simp
theorem from_chain (m : Md) (r : ByteArray) {x : ByteArray} (hx : x ∈ fromE m [r]) : ∀ y ∈ fromE m [x], y ∈ fromE m [r] := by
  intro y hy
  rw [from_mem] at hx hy ⊢
  obtain ⟨-, r1, h1, h2⟩ := hx
  obtain ⟨h3, r2, h4, h5⟩ := hy
  rw [List.mem_singleton.1 h1] at h2
  rw [List.mem_singleton.1 h4] at h5
  exact ⟨h3, r, by simp, h2.trans h5⟩
/-- what stays of a module: the first function of a reached name is the same -/
theorem drop_fnOf (m : Md) {n : ByteArray} (hn : n ∈ fromE m (rootsE m)) : fnOf (dropE m) n = fnOf m n := by
  unfold fnOf dropE
  simp only
  rw [List.find?_filter]
  congr 1
  funext f
  by_cases h : f.s = n
  · subst h
    simp [hn]
  · have : (f.s == n) = false := by
      cases hh : (f.s == n)
      · rfl
      · exact absurd ((jba_beq _ _).1 hh) h
    simp [this]
theorem roots_names {m : Md} {x : ByteArray} (hx : x ∈ rootsE m) : x ∈ namesM m := by
  unfold rootsE at hx
  unfold namesM
  rcases List.mem_append.1 hx with h | h
  · obtain ⟨f, hf, rfl⟩ := List.mem_map.1 h
    exact List.mem_append_left _ (List.mem_map_of_mem (List.mem_filter.1 hf).1)
  · obtain ⟨f, hf, rfl⟩ := List.mem_map.1 h
    exact List.mem_append_right _ (List.mem_map_of_mem (List.mem_filter.1 hf).1)
theorem roots_from {m : Md} {x : ByteArray} (hx : x ∈ rootsE m) : x ∈ fromE m (rootsE m) := (from_mem _ _ _).2 ⟨roots_names hx, x, hx, .refl x⟩
theorem filter_same {α : Type} {p q : α → Bool} (l : List α) (h : ∀ x ∈ l, p x = true → q x = true) : (l.filter q).filter p = l.filter p := by
  rw [List.filter_filter]
  refine List.filter_congr fun x hx => ?_
  cases hp : p x
  · rfl
  · rw [h x hx hp]; rfl
theorem drop_roots (m : Md) : rootsE (dropE m) = rootsE m := by
  have hf : ∀ f ∈ m.f, (f.b == 2 || f.s == mainN) = true → decide (f.s ∈ fromE m (rootsE m)) = true := fun f hf h => by
    refine decide_eq_true (roots_from (List.mem_append_left _ (List.mem_map_of_mem (List.mem_filter.2 ⟨hf, h⟩))))
  have hg : ∀ g ∈ m.g, (g.b == 2) = true → decide (g.s ∈ fromE m (rootsE m)) = true := fun g hg h => by
    refine decide_eq_true (roots_from (List.mem_append_right _ (List.mem_map_of_mem (List.mem_filter.2 ⟨hg, h⟩))))
  show ((m.f.filter _).filter _).map _ ++ ((m.g.filter _).filter _).map _ = _
  rw [filter_same m.f hf, filter_same m.g hg]
  rfl
/-- what is reached leads to what has no function, or is reached -/
theorem drop_leads {m : Md} {r x : ByteArray} (hr : r ∈ rootsE m) (h : Leads (leadsM m) r x) : Leads (leadsM (dropE m)) r x := by
  induction h with
  | refl => exact .refl _
  | step h1 hz ih =>
    rename_i y z
    refine ih.step ?_
    unfold leadsM at hz ⊢
    by_cases hy : y ∈ namesM m
    · rw [drop_fnOf m ((from_mem _ _ _).2 ⟨hy, r, hr, h1⟩)]
      exact hz
    · split at hz
      · rename_i f hf
        obtain ⟨h2, h3⟩ := fnOf_mem hf
        subst h3
        exact absurd (List.mem_append_left _ (List.mem_map_of_mem h2)) hy
      · cases hz
theorem drop_names {m : Md} {x : ByteArray} : x ∈ namesM (dropE m) ↔ x ∈ fromE m (rootsE m) := by
  unfold dropE namesM
  simp only [List.mem_append, List.mem_map, List.mem_filter, decide_eq_true_eq]
  constructor
  · rintro (⟨f, ⟨-, h⟩, rfl⟩ | ⟨g, ⟨-, h⟩, rfl⟩)
    · exact h
    · exact h
  · intro h
    have h2 := ((from_mem _ _ _).1 h).1
    unfold namesM at h2
    rcases List.mem_append.1 h2 with h2 | h2
    · obtain ⟨f, hf, rfl⟩ := List.mem_map.1 h2
      exact .inl ⟨f, ⟨hf, h⟩, rfl⟩
    · obtain ⟨g, hg, rfl⟩ := List.mem_map.1 h2
      exact .inr ⟨g, ⟨hg, h⟩, rfl⟩
/-- all that stays is reached there -/
theorem drop_from {m : Md} {x : ByteArray} (hx : x ∈ fromE m (rootsE m)) : x ∈ fromE (dropE m) (rootsE (dropE m)) := by
  rw [from_mem, drop_names, drop_roots]
  refine ⟨hx, ?_⟩
  obtain ⟨-, r, hr, h⟩ := (from_mem _ _ _).1 hx
  exact ⟨r, hr, drop_leads hr h⟩
theorem drop_twice (m : Md) : dropE (dropE m) = dropE m := by
  have hf : ∀ f ∈ (dropE m).f, f.s ∈ fromE m (rootsE m) := fun f hf => by
    have := (List.mem_filter.1 hf).2
    simpa using this
  have hg : ∀ g ∈ (dropE m).g, g.s ∈ fromE m (rootsE m) := fun g hg => by
    have := (List.mem_filter.1 hg).2
    simpa using this
  show Md.mk ((dropE m).f.filter _) ((dropE m).g.filter _) = dropE m
  rw [List.filter_eq_self.2 fun f h => decide_eq_true (drop_from (hf f h)), List.filter_eq_self.2 fun g h => decide_eq_true (drop_from (hg g h))]
end Go.Proofs.Ytoglmdadpchhoaa
