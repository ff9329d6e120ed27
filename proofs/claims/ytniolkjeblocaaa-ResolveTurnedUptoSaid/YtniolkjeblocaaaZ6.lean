/- Package resolve: ResolveTurned. -/
import Derived.Test.YtniolkjeblocaaaZ5
import Derived.Test.YtniolkjeblocaaaZ3
namespace Go.Proofs.Ytniolkjeblocaaa
open Go.RowKit

/-- the place of a module where two stand the other way round -/
def sw (i k : Nat) (j : Int) : Int := if j = (i : Int) then (k : Int) else if j = (k : Int) then (i : Int) else j
theorem sw_sw (i k : Nat) (j : Int) : sw i k (sw i k j) = j := by
  unfold sw
  (repeat' split) <;> omega
def tau (i k : Nat) (x : Ri) : Ri := { x with o := sw i k x.o }
theorem items_tau (i k j j2 : Nat) (h : sw i k (j : Int) = (j2 : Int)) (m : Md) : itemsOf (j2 : Int) m = (itemsOf (j : Int) m).map (tau i k) := by
  unfold itemsOf
  rw [List.map_append, List.map_map, List.map_map]
  congr 1
  · apply List.map_congr_left
    intro f hf
    simp only [Function.comp, tau, ofF, h]
  · apply List.map_congr_left
    intro f hf
    simp only [Function.comp, tau, ofG, h]
/-- the modules, the two the other way round -/
def turn (ms : List Md) (i k : Nat) (hi : i < ms.length) (hk : k < ms.length) : List Md := (ms.set i ms[k]).set k ms[i]
theorem allI_flat (ms : List Md) : allI ms ms.length = (ms.zipIdx.map fun p => itemsOf (p.2 : Int) p.1).flatten := by
  unfold allI
  rw [List.take_of_length_le (by simp)]
theorem turn_perm (ms : List Md) (i k : Nat) (hi : i < ms.length) (hk : k < ms.length) : (allI (turn ms i k hi hk) (turn ms i k hi hk).length).Perm ((allI ms ms.length).map (tau i k)) := by
  rw [allI_flat, allI_flat, List.map_flatten]
  have hl : ((ms.zipIdx.map fun p => itemsOf (p.2 : Int) p.1).map (List.map (tau i k))).length = ms.length := by simp
  have hi' : i < ((ms.zipIdx.map fun p => itemsOf (p.2 : Int) p.1).map (List.map (tau i k))).length := by omega
  have hk' : k < ((ms.zipIdx.map fun p => itemsOf (p.2 : Int) p.1).map (List.map (tau i k))).length := by omega
  refine List.Perm.flatten ?_
  refine List.Perm.trans (List.Perm.of_eq ?_) (List.set_set_perm hi' hk')
  apply List.ext_getElem
  · simp [turn]
  · intro j h1 h2
    have hj : j < ms.length := by simpa [turn] using h1
    rw [List.getElem_set, List.getElem_set]
    simp only [List.getElem_map, List.getElem_zipIdx, turn, List.getElem_set]
    by_cases e1 : k = j
    · subst e1
      rw [if_pos rfl, if_pos rfl]
      refine (items_tau i k _ _ ?_ _)
      unfold sw
      split <;> (try split) <;> omega
    · rw [if_neg e1, if_neg e1]
      by_cases e2 : i = j
      · subst e2
        rw [if_pos rfl, if_pos rfl]
        refine (items_tau i k _ _ ?_ _)
        unfold sw
        split <;> (try split) <;> omega
      · rw [if_neg e2, if_neg e2]
        refine (items_tau i k _ _ ?_ _)
        unfold sw
        split <;> (try split) <;> omega
/-- the items of one name -/
def itm (X : List Ri) (s : ByteArray) : List Ri := X.filter fun x => x.s == s
theorem itm_perm {X Y : List Ri} {i k : Nat} (h : Y.Perm (X.map (tau i k))) (s : ByteArray) : (itm Y s).Perm ((itm X s).map (tau i k)) := by
  unfold itm
  have h1 := List.Perm.filter (fun x : Ri => x.s == s) h
  rw [List.filter_map] at h1
  exact h1
section
variable {xs ys : List Ri} {i k : Nat} (h : ys.Perm (xs.map (tau i k)))
include h
theorem perm_count (p : Ri → Bool) (hp : ∀ x, p (tau i k x) = p x) : ys.countP p = xs.countP p := by
  rw [List.Perm.countP_eq p h, List.countP_map]
  congr 1
  funext x
  exact hp x
theorem perm_any (p : Ri → Bool) (hp : ∀ x, p (tau i k x) = p x) : ys.any p = xs.any p := by
  rw [any_countP, any_countP, perm_count h p hp]
theorem perm_mem {y : Ri} (hy : y ∈ ys) : ∃ x ∈ xs, y = tau i k x := by
  obtain ⟨x, hx, e⟩ := List.mem_map.1 (h.mem_iff.1 hy)
  exact ⟨x, hx, e.symm⟩
theorem perm_mem' {x : Ri} (hx : x ∈ xs) : tau i k x ∈ ys := h.mem_iff.2 (List.mem_map_of_mem hx)
end
theorem mixB_iff {xs : List Ri} : mixB xs = false ↔ ∀ x ∈ xs, ∀ y ∈ xs, x.f = y.f ∧ x.p = y.p := by
  constructor
  · intro h x hx y hy
    have h0 : 0 < xs.length := List.length_pos_of_mem hx
    have hs := mixB_same (List.getElem?_eq_getElem h0) h
    exact ⟨(hs x hx).1.trans (hs y hy).1.symm, (hs x hx).2.trans (hs y hy).2.symm⟩
  · intro h
    refine mixB_no fun h0 => ?_
    rw [List.any_eq_false]
    intro x hx
    obtain ⟨e1, e2⟩ := h x hx _ (List.getElem_mem h0)
    unfold difB
    simp [e1, e2]
theorem perm_mix {xs ys : List Ri} {i k : Nat} (h : ys.Perm (xs.map (tau i k))) : mixB ys = mixB xs := by
  have key : mixB ys = false ↔ mixB xs = false := by
    rw [mixB_iff, mixB_iff]
    constructor
    · intro H x hx y hy
      have := H (tau i k x) (perm_mem' h hx) (tau i k y) (perm_mem' h hy)
      exact this
    · intro H x hx y hy
      obtain ⟨x', hx', rfl⟩ := perm_mem h hx
      obtain ⟨y', hy', rfl⟩ := perm_mem h hy
      exact H x' hx' y' hy'
  cases h1 : mixB ys <;> cases h2 : mixB xs <;> simp [h1, h2] at key ⊢
theorem perm_mis {xs ys : List Ri} {i k : Nat} (h : ys.Perm (xs.map (tau i k))) : misB ys = misB xs := by
  rw [mis_count, mis_count, perm_count h dfB (fun _ => rfl), perm_count h stB (fun _ => rfl)]
theorem perm_two {xs ys : List Ri} {i k : Nat} (h : ys.Perm (xs.map (tau i k))) : twoB ys = twoB xs := by
  rw [two_count, two_count, perm_count h seB (fun _ => rfl)]
theorem names_perm {X Y : List Ri} {i k : Nat} (h : Y.Perm (X.map (tau i k))) (s : ByteArray) : s ∈ namesU Y ↔ s ∈ namesU X := by
  rw [namesU_mem, namesU_mem]
  constructor
  · rintro ⟨y, hy, e⟩
    obtain ⟨x, hx, rfl⟩ := perm_mem h hy
    exact ⟨x, hx, e⟩
  · rintro ⟨x, hx, e⟩
    exact ⟨_, perm_mem' h hx, e⟩
theorem any_grp (X : List Ri) (P : Gp → Bool) : (grp X).any P = true ↔ ∃ s ∈ namesU X, P ⟨s, itm X s⟩ = true := by
  rw [grp_eq, List.any_map, List.any_eq_true]
  rfl
theorem any_turn {X Y : List Ri} {i k : Nat} (h : Y.Perm (X.map (tau i k))) (P : Gp → Bool) (hP : ∀ s ∈ namesU X, P ⟨s, itm Y s⟩ = P ⟨s, itm X s⟩) : (grp Y).any P = (grp X).any P := by
  have key : (grp Y).any P = true ↔ (grp X).any P = true := by
    rw [any_grp, any_grp]
    constructor
    · rintro ⟨s, hs, e⟩
      have hs' := (names_perm h s).1 hs
      exact ⟨s, hs', by rw [← hP s hs']; exact e⟩
    · rintro ⟨s, hs, e⟩
      exact ⟨s, (names_perm h s).2 hs, by rw [hP s hs]; exact e⟩
  cases h1 : (grp Y).any P <;> cases h2 : (grp X).any P <;> simp [h1, h2] at key ⊢
theorem k0_any {g : Gp} {y : Ri} (hy : g.l[0]? = some y) (h : mixB g.l = false) : k0 g = g.l.any fun x => x.f && x.p == 0 := by
  rw [k0_at hy]
  have hs := mixB_same hy h
  have hym : y ∈ g.l := List.mem_of_getElem? hy
  cases hv : (y.f && y.p == 0) with
  | true => exact (List.any_eq_true.2 ⟨y, hym, hv⟩).symm
  | false =>
    refine (List.any_eq_false.2 fun x hx => ?_).symm
    obtain ⟨e1, e2⟩ := hs x hx
    rw [e1, e2, hv]
    simp
theorem itm_first {X : List Ri} {s : ByteArray} (h : s ∈ namesU X) : ∃ y, (itm X s)[0]? = some y := by
  obtain ⟨x, hx, e⟩ := (namesU_mem X s).1 h
  have hm : x ∈ itm X s := List.mem_filter.2 ⟨hx, (jba_beq _ _).2 e⟩
  have h0 := List.length_pos_of_mem hm
  exact ⟨_, List.getElem?_eq_getElem h0⟩
theorem tblE_turn {X Y : List Ri} {i k : Nat} (h : Y.Perm (X.map (tau i k))) : tblE (grp Y) = tblE (grp X) := by
  have e1 := any_turn h (fun g => misB g.l) (fun s _ => perm_mis (itm_perm h s))
  have e2 := any_turn h (fun g => twoB g.l) (fun s _ => perm_two (itm_perm h s))
  have e3 := any_turn h (fun g => mixB g.l) (fun s _ => perm_mix (itm_perm h s))
  unfold tblE
  rw [fold_wr _ (entE_set _), fold_wr _ (entE_set _), e1, e2, e3]
  cases hm : (grp X).any fun g => mixB g.l with
  | true =>
    rcases entE_two (grp X) with a | a <;> rcases entE_two (grp Y) with b | b <;> rw [a, b] <;> rfl
  | false =>
    have hmx : ∀ s ∈ namesU X, mixB (itm X s) = false := fun s hs => by
      have := List.any_eq_false.1 hm ⟨s, itm X s⟩ (by rw [grp_eq]; exact List.mem_map.2 ⟨s, hs, rfl⟩)
      simpa using this
    have e4 : entB (grp Y) = entB (grp X) := by
      refine any_turn h (fun g => g.s == mainS && (k0 g && g.l.any dfB)) (fun s hs => ?_)
      obtain ⟨y, hy⟩ := itm_first hs
      obtain ⟨z, hz⟩ := itm_first ((names_perm h s).2 hs)
      have hp := itm_perm h s
      simp only
      rw [k0_any (g := ⟨s, itm X s⟩) hy (hmx s hs), k0_any (g := ⟨s, itm Y s⟩) hz (by show mixB (itm Y s) = false; rw [perm_mix hp]; exact hmx s hs)]
      simp only
      rw [perm_any hp (fun x => x.f && x.p == 0) (fun _ => rfl), perm_any hp dfB (fun _ => rfl)]
    unfold entE
    rw [e4]
theorem one_se {xs : List Ri} (h : twoB xs = false) {x y : Ri} (hx : x ∈ xs) (hy : y ∈ xs) (hx2 : seB x = true) (hy2 : seB y = true) : x = y := by
  rw [two_count] at h
  have hc : xs.countP seB ≤ 1 := by simpa using h
  rw [List.countP_eq_length_filter] at hc
  have h1 : x ∈ xs.filter seB := List.mem_filter.2 ⟨hx, hx2⟩
  have h2 : y ∈ xs.filter seB := List.mem_filter.2 ⟨hy, hy2⟩
  match hq : xs.filter seB with
  | [] => rw [hq] at h1; simp at h1
  | [z] =>
    rw [hq] at h1 h2
    simp at h1 h2
    rw [h1, h2]
  | z :: z2 :: zs => rw [hq] at hc; simp at hc
/-- what the definitions of a name come to where two modules stand the other way round -/
theorem defG_turn {X Y : List Ri} {i k : Nat} (h : Y.Perm (X.map (tau i k))) {s : ByteArray} (hs : s ∈ namesU X) (hm : mixB (itm X s) = false) (h2 : twoB (itm X s) = false) :
    (defG ⟨s, itm Y s⟩).w = (defG ⟨s, itm X s⟩).w ∧ (defG ⟨s, itm Y s⟩).h = (defG ⟨s, itm X s⟩).h ∧ (defG ⟨s, itm Y s⟩).f = (defG ⟨s, itm X s⟩).f ∧ ((defG ⟨s, itm X s⟩).w = false → sw i k (defG ⟨s, itm Y s⟩).o = (defG ⟨s, itm X s⟩).o) := by
  have hp := itm_perm h s
  obtain ⟨y, hy⟩ := itm_first hs
  obtain ⟨z, hz⟩ := itm_first ((names_perm h s).2 hs)
  have hse := perm_any hp seB (fun _ => rfl)
  have hdf := perm_any hp dfB (fun _ => rfl)
  refine ⟨?_, hdf, ?_, fun hw => ?_⟩
  · show (!(itm Y s).any seB) = !(itm X s).any seB
    rw [hse]
  · show ((itm Y s)[0]?.map (·.f)).getD false = ((itm X s)[0]?.map (·.f)).getD false
    rw [hy, hz]
    obtain ⟨z', hz', e⟩ := perm_mem hp (List.mem_of_getElem? hz)
    show z.f = y.f
    rw [e]
    exact (mixB_same hy hm z' hz').1
  · have ha : (itm X s).any seB = true := by
      have : (!(itm X s).any seB) = false := hw
      simpa using this
    have hb : (itm Y s).any seB = true := by rw [hse]; exact ha
    have e1 : (defG ⟨s, itm X s⟩).o = fstO seB 0 (itm X s) := by
      show ((itm X s)[pickI (itm X s)]?.map (·.o)).getD 0 = _
      rw [pick_fst hy, ha]
      rfl
    have e2 : (defG ⟨s, itm Y s⟩).o = fstO seB 0 (itm Y s) := by
      show ((itm Y s)[pickI (itm Y s)]?.map (·.o)).getD 0 = _
      rw [pick_fst hz, hb]
      rfl
    have fnd : ∀ {l : List Ri}, l.any seB = true → ∃ u ∈ l, seB u = true ∧ fstO seB 0 l = u.o := fun {l} hl => by
      cases hf : l.find? seB with
      | none =>
        obtain ⟨u, hu, e⟩ := List.any_eq_true.1 hl
        exact absurd e (List.find?_eq_none.1 hf u hu)
      | some u => exact ⟨u, List.mem_of_find?_eq_some hf, List.find?_some hf, fstO_some hf⟩
    obtain ⟨u, hu, hu2, hu3⟩ := fnd ha
    obtain ⟨v, hv, hv2, hv3⟩ := fnd hb
    obtain ⟨v', hv', rfl⟩ := perm_mem hp hv
    have : v' = u := one_se h2 hv' hu hv2 hu2
    subst this
    rw [e1, e2, hu3, hv3]
    exact sw_sw i k v'.o
theorem names_len {X Y : List Ri} {i k : Nat} (h : Y.Perm (X.map (tau i k))) : (grp Y).length = (grp X).length := by
  have e : ∀ Z : List Ri, (grp Z).length = (namesU Z).length := fun Z => by rw [grp_eq, List.length_map]
  rw [e, e]
  exact List.Perm.length_eq ((List.perm_ext_iff_of_nodup (namesU_nodup _) (namesU_nodup _)).2 fun s => names_perm h s)
theorem grp_flt9 {xs : List Ri} {g : Gp} (h : g ∈ grp xs) : g.l = xs.filter fun x => x.s == g.s := by
  rw [grp_eq] at h
  obtain ⟨s, hs, rfl⟩ := List.mem_map.1 h
  rfl
/-- where the definition of a name is -/
theorem findD_grp {Y : List Ri} {s : ByteArray} (hs : s ∈ namesU Y) : ∃ j, ∃ hj : j < ((grp Y).map defG).length, ((grp Y).map defG)[j] = defG ⟨s, itm Y s⟩ ∧ findD s ((grp Y).map defG) = (j : Int) := by
  have hmem : defG ⟨s, itm Y s⟩ ∈ (grp Y).map defG := List.mem_map_of_mem (by rw [grp_eq]; exact List.mem_map.2 ⟨s, hs, rfl⟩)
  have hsm : (defG ⟨s, itm Y s⟩).s = s := rfl
  cases hf : ((grp Y).map defG).find? (fun d => d.s == s) with
  | none => exact absurd ((jba_beq _ _).2 hsm) (List.find?_eq_none.1 hf _ hmem)
  | some d =>
    obtain ⟨j, hj, e, e2⟩ := findD_some hf
    refine ⟨j, hj, ?_, e2⟩
    rw [e]
    have hd := List.mem_of_find?_eq_some hf
    have hds := List.find?_some hf
    obtain ⟨g, hg, rfl⟩ := List.mem_map.1 hd
    have hgs : g.s = s := (jba_beq _ _).1 hds
    have hgl := grp_flt9 hg
    obtain ⟨gs, gl⟩ := g
    simp only at hgs hgl
    subst hgs
    rw [hgl]
    rfl
/-- what the definitions come to where two modules stand the other way round -/
theorem turn_defs {X Y : List Ri} {i k : Nat} (h : Y.Perm (X.map (tau i k))) : (allD (grp Y) (tblE (grp X))).length = (allD (grp X) (tblE (grp X))).length ∧ ∀ j (hj : j < (allD (grp X) (tblE (grp X))).length), ∃ j2, ∃ hj2 : j2 < (allD (grp Y) (tblE (grp X))).length, findD (allD (grp X) (tblE (grp X)))[j].s (allD (grp Y) (tblE (grp X))) = (j2 : Int) ∧ (allD (grp Y) (tblE (grp X)))[j2].w = (allD (grp X) (tblE (grp X)))[j].w ∧ (allD (grp Y) (tblE (grp X)))[j2].h = (allD (grp X) (tblE (grp X)))[j].h ∧ (allD (grp Y) (tblE (grp X)))[j2].f = (allD (grp X) (tblE (grp X)))[j].f ∧ ((allD (grp X) (tblE (grp X)))[j].w = false → sw i k (allD (grp Y) (tblE (grp X)))[j2].o = (allD (grp X) (tblE (grp X)))[j].o) := by
  by_cases hE : tblE (grp X) = 0
  · obtain ⟨-, h2, h3⟩ := tblE_zero hE
    rw [hE]
    simp only [allD_ok]
    refine ⟨by rw [List.length_map, List.length_map, names_len h], fun j hj => ?_⟩
    have hjg : j < (grp X).length := by simpa using hj
    have hm := List.getElem_mem hjg
    rw [List.getElem_map]
    generalize (grp X)[j] = g at hm
    have hs : g.s ∈ namesU X := by
      rw [grp_eq] at hm
      obtain ⟨s, hs, e⟩ := List.mem_map.1 hm
      rw [← e]
      exact hs
    have hg : g = ⟨g.s, itm X g.s⟩ := by
      have e := grp_flt9 hm
      obtain ⟨gs, gl⟩ := g
      simp only at e
      rw [e]
      rfl
    obtain ⟨j2, hj2, e2, e3⟩ := findD_grp ((names_perm h g.s).2 hs)
    have hmix := h3 _ hm
    have htwo := h2 _ hm
    rw [hg] at hmix htwo
    obtain ⟨a1, a2, a3, a4⟩ := defG_turn h hs hmix htwo
    refine ⟨j2, hj2, e3, ?_, ?_, ?_, ?_⟩
    · rw [e2, a1, ← hg]
    · rw [e2, a2, ← hg]
    · rw [e2, a3, ← hg]
    · rw [e2, hg]
      exact a4
  · simp only [allD_no hE]
    exact ⟨by first | trivial | rfl, fun j hj => by simp at hj⟩
theorem wpList_append_mods {w U : World} {ops : Array Oper} {rest : List Oper} {o : Oper} {a : Act} {Q : Exit → Act → World → Prop} (hgd : o.guard = none) {s x : Operand} {A : Option Addr} {n c g0 : Nat} {ms : List Md}
    (ho : o.op = .call { callee := .builtin .append, args := #[s, x], argTypes := #[28, 28] }) (hs : a.eval s = .slice (some ⟨g0, 0, none⟩) 0 0) (hx : a.eval x = .slice A n c)
    (hO : OutIn w (.slice (some ⟨g0, 0, none⟩) 0 0) [] U) (hM : Mods w (.slice A n c) ms) (hn : ms.length ≤ 1048576) (hb : Below w.heap.size w U)
    (h : ∀ v' U', OutIn w v' ms U' → Below w.heap.size w U' → wpList Try.prog ops Q rest (a.put o.dst v') U') : wpList Try.prog ops Q (o :: rest) a U := by
  refine wpList_plain hgd fun K hK => wp_append_mods ho hs hx hO hM hn hb fun v' U' h1 h2 _ => hK _ _ (h v' U' h1 h2)
/-- a module stored into a row of the call's own -/
theorem outIn_store {w U : World} {r : List Md} {m : Md} {F G : Option Addr} {cf cg g n cap : Nat} (i : Nat) (hO : OutIn w (.slice (some ⟨g, 0, none⟩) n cap) r U) (hi : i < r.length) (hm : ∀ W, Below w.heap.size w W → MdAt W (.slice F m.f.length cf) (.slice G m.g.length cg) m) (hb : Below w.heap.size w U) :
    OutIn w (.slice (some ⟨g, 0, none⟩) n cap) (r.set i m) ((U.setCell ⟨g, i * 2, none⟩ (.slice F m.f.length cf)).setCell ⟨g, i * 2 + 1, none⟩ (.slice G m.g.length cg)) ∧ Below w.heap.size w ((U.setCell ⟨g, i * 2, none⟩ (.slice F m.f.length cf)).setCell ⟨g, i * 2 + 1, none⟩ (.slice G m.g.length cg)) := by
  obtain ⟨ys, ho, hys⟩ := hO
  have hg := (ho.lt g rfl).1
  have hn : r.length = n := by
    obtain ⟨A', c', e⟩ := (show OutIn w (.slice (some ⟨g, 0, none⟩) n cap) r U from ⟨ys, ho, hys⟩).slice
    exact (Value.slice.inj e).2.1.symm
  subst hn
  have h1 := (ho.stored (i * 2) (.slice F m.f.length cf)).1
  have h2 := (h1.stored (i * 2 + 1) (.slice G m.g.length cg)).1
  refine ⟨⟨_, by rw [List.length_set]; exact h2, fun j hj => ?_⟩, (hb.setCell (p := ⟨g, i * 2, none⟩) hg _).setCell (p := ⟨g, i * 2 + 1, none⟩) hg _⟩
  have hl := ho.1
  by_cases e : i = j
  · subst e
    rw [List.getElem_set_self]
    refine ⟨F, cf, G, cg, ?_, ?_, hm⟩
    · rw [List.getElem?_set_ne (by omega), List.getElem?_set_self (by omega)]
    · rw [List.getElem?_set_self (by rw [List.length_set]; omega)]
  · rw [List.getElem_set_ne e]
    obtain ⟨F', cf', G', cg', e0, e1, e2⟩ := hys j (by simpa using hj)
    refine ⟨F', cf', G', cg', ?_, ?_, e2⟩
    · rw [List.getElem?_set_ne (by omega), List.getElem?_set_ne (by omega)]; exact e0
    · rw [List.getElem?_set_ne (by omega), List.getElem?_set_ne (by omega)]; exact e1
theorem outIn_cells {w U : World} {r : List Md} {g n cap : Nat} (i : Nat) (v : Value) (hO : OutIn w (.slice (some ⟨g, 0, none⟩) n cap) r U) (hi : i < r.length) :
    ∃ y0 y1, U.cell? ⟨g, i * 2, none⟩ = some y0 ∧ U.frozen? ⟨g, i * 2, none⟩ = false ∧ (U.setCell ⟨g, i * 2, none⟩ v).cell? ⟨g, i * 2 + 1, none⟩ = some y1 ∧ (U.setCell ⟨g, i * 2, none⟩ v).frozen? ⟨g, i * 2 + 1, none⟩ = false := by
  obtain ⟨ys, ho, hys⟩ := hO
  have hn : r.length = n := by
    obtain ⟨A', c', e⟩ := (show OutIn w (.slice (some ⟨g, 0, none⟩) n cap) r U from ⟨ys, ho, hys⟩).slice
    exact (Value.slice.inj e).2.1.symm
  subst hn
  obtain ⟨F, cf, G, cg, e0, e1, -⟩ := hys i hi
  have h1 := (ho.stored (i * 2) v).1
  exact ⟨_, _, (ho.cellAt _ (by omega)).trans e0, ho.frozenAt _, (h1.cellAt _ (by omega)).trans (by rw [List.getElem?_set_ne (by omega)]; exact e1), h1.frozenAt _⟩
set_option maxRecDepth 100000 in
set_option maxHeartbeats 16000000 in
theorem turned_all (ms : List Md) (A : Option Addr) (c : Nat) (x y : Int) (w : World) (hok : ∀ m ∈ ms, MdOk m) (hsum : (ms.map fun m => m.f.length + m.g.length).sum ≤ 1048576) (hlen : ms.length ≤ 1048576) (hS : Mods w (.slice A ms.length c) ms) :
    Calls Try.prog 7 #[.slice A ms.length c, .int .i64 x, .int .i64 y] w fun e w' => e = .returned (.bool true) ∧ Below w.heap.size w w' := by
  have hT := allI_fit hsum
  have HAL := Lib.hid (fun (U : World) (hU : Below w.heap.size w U) => all_any ms A ms.length c U rfl (by omega) hok hT (hS.next hU))
  have HLN := Lib.hid hlen
  obtain ⟨n, hn⟩ : ∃ n, ms.length = n := ⟨_, rfl⟩
  have HN := Lib.hid (show ms.length = n from hn)
  have HMS := Lib.hid hS
  have HPT := Lib.hid (fun (i k : Nat) (hi : i < ms.length) (hk : k < ms.length) => turn_perm ms i k hi hk)
  obtain ⟨X, hX⟩ : ∃ X, allI ms ms.length = X := ⟨_, rfl⟩
  rw [hX] at HAL HPT hT
  rw [hn] at HAL HMS ⊢
  have HOK := Lib.hid hok
  have HT := Lib.hid hT
  have n9 : (n : Int) ≤ 9223372036854775807 := by omega
  have n0 : (0 : Int) ≤ (n : Int) := Int.natCast_nonneg _
  clear hn hS hlen hsum hok hT hX
  go_enter Try.func7, Try.ntmps7
  go_wp2_with fail
  refine (rshown_any w).mono ?_
  rintro r w1 ⟨rfl, hb1⟩
  have HB1 := Lib.hid hb1
  clear hb1
  by_cases hx0 : x < 0
  · have d1 : decide (x < 0) = true := decide_eq_true hx0
    go_wp2_with fail
    go_ret
    exact ⟨rfl, HB1.out⟩
  have d1 : decide (x < 0) = false := decide_eq_false hx0
  by_cases hy0 : y < 0
  · have d2 : decide (y < 0) = true := decide_eq_true hy0
    go_wp2_with fail
    go_ret
    exact ⟨rfl, HB1.out⟩
  have d2 : decide (y < 0) = false := decide_eq_false hy0
  by_cases hx1 : (n : Int) ≤ x
  · have d3 : decide ((n : Int) ≤ x) = true := decide_eq_true hx1
    go_wp2_with fail
    go_ret
    exact ⟨rfl, HB1.out⟩
  have d3 : decide ((n : Int) ≤ x) = false := decide_eq_false hx1
  by_cases hy1 : (n : Int) ≤ y
  · have d4 : decide ((n : Int) ≤ y) = true := decide_eq_true hy1
    go_wp2_with fail
    go_ret
    exact ⟨rfl, HB1.out⟩
  have d4 : decide ((n : Int) ≤ y) = false := decide_eq_false hy1
  obtain ⟨i, rfl⟩ : ∃ i : Nat, x = (i : Int) := ⟨x.toNat, by omega⟩
  obtain ⟨k, rfl⟩ : ∃ k : Nat, y = (k : Int) := ⟨y.toNat, by omega⟩
  have i0 : (0 : Int) ≤ (i : Int) := Int.natCast_nonneg _
  have i1 : (i : Int) < (n : Int) := by omega
  have k0 : (0 : Int) ≤ (k : Int) := Int.natCast_nonneg _
  have k1 : (k : Int) < (n : Int) := by omega
  have hil : i < ms.length := by have := HN.out; omega
  have hkl : k < ms.length := by have := HN.out; omega
  have HI := Lib.hid hil
  have HK := Lib.hid hkl
  clear hx0 hy0 hx1 hy1
  have HMW := Lib.hid (show Mods w (.slice A n c) ms from HMS.out)
  go_upto_region 4 with fail
  go_upto_region 5 with (at_builtin; go_loud (refine wpList_append_mods rfl rfl rfl rfl (outIn_at w w1 HB1.out.size) HMW.out HLN.out (bthen HB1.out (balloc (Below.refl _ w1) _)) ?_; intro v2 w2 ho2 hb2; have HO2 := Lib.hid ho2; have HB2 := Lib.hid hb2; clear ho2 hb2))
  obtain ⟨g, cap, e2, hg0, hg1⟩ : ∃ g cap, v2 = .slice (some ⟨g, 0, none⟩) n cap ∧ w.heap.size ≤ g ∧ g < w2.heap.size := by
    obtain ⟨ys, ho, -⟩ := HO2.out
    obtain ⟨g, cap, e, -, hlt⟩ := ho.form (by omega)
    subst e
    obtain ⟨A', c', e⟩ := HO2.out.slice
    refine ⟨g, cap, ?_, (ho.lt g rfl).1, hlt⟩
    rw [HN.out] at e
    injection e with e1 e3 e4
    rw [HN.out]
  subst e2
  obtain ⟨b, off, hA, hbl, F1, cf1, G1, cg1, p0, p1, hmd1⟩ := RowOf.at_ HMW.out hil
  subst hA
  obtain ⟨b', off', hA, -, F2, cf2, G2, cg2, q0', q1', hmd2⟩ := RowOf.at_ HMW.out hkl
  obtain ⟨rfl, rfl⟩ : b = b' ∧ off = off' := by cases hA; exact ⟨rfl, rfl⟩
  have HA1 := Lib.hid (fun (W : World) (hW : Below w.heap.size w W) => hmd1.next hW)
  have HA2 := Lib.hid (fun (W : World) (hW : Below w.heap.size w W) => hmd2.next hW)
  have HBL := Lib.hid hbl
  have HP := Lib.hid (fun (U : World) (hU : Below w.heap.size w U) => (show (U.cell? ⟨b, off + i * 2, none⟩ = some (.slice F1 ms[i].f.length cf1) ∧ U.cell? ⟨b, off + i * 2 + 1, none⟩ = some (.slice G1 ms[i].g.length cg1)) ∧ U.cell? ⟨b, off + k * 2, none⟩ = some (.slice F2 ms[k].f.length cf2) ∧ U.cell? ⟨b, off + k * 2 + 1, none⟩ = some (.slice G2 ms[k].g.length cg2) from ⟨⟨(cellNext hbl hU _).trans p0, (cellNext hbl hU _).trans p1⟩, (cellNext hbl hU _).trans q0', (cellNext hbl hU _).trans q1'⟩))
  have HST1 := Lib.hid (outIn_store i HO2.out HI.out HA2.out HB2.out)
  have HST2 := Lib.hid (outIn_store k HST1.out.1 (by rw [List.length_set]; exact HK.out) HA1.out HST1.out.2)
  obtain ⟨y0, y1, c0, f0, c1, f1⟩ := outIn_cells i (.slice F2 ms[k].f.length cf2) HO2.out HI.out
  obtain ⟨-, q0, q1⟩ := HP.out w2 HB2.out
  clear p0 p1 q0' q1' hmd1 hmd2 hA hbl
  go_upto_region 6 with fail
  clear c0 f0 c1 f1 q0 q1
  generalize (w2.setCell ⟨g, i * 2, none⟩ (.slice F2 ms[k].f.length cf2)).setCell ⟨g, i * 2 + 1, none⟩ (.slice G2 ms[k].g.length cg2) = w3 at *
  obtain ⟨z0, z1, c0, f0, c1, f1⟩ := outIn_cells k (.slice F1 ms[i].f.length cf1) HST1.out.1 (by rw [List.length_set]; exact HK.out)
  obtain ⟨⟨q0, q1⟩, -⟩ := HP.out w3 HST1.out.2
  go_upto_region 7 with fail
  clear c0 f0 c1 f1 q0 q1
  generalize (w3.setCell ⟨g, k * 2, none⟩ (.slice F1 ms[i].f.length cf1)).setCell ⟨g, k * 2 + 1, none⟩ (.slice G1 ms[i].g.length cg1) = w4 at *
  have HO4 := Lib.hid (show OutIn w (.slice (some ⟨g, 0, none⟩) n cap) (turn ms i k hil hkl) w4 from HST2.out.1)
  have HB4 := Lib.hid HST2.out.2
  have HY := Lib.hid (HPT.out i k hil hkl)
  have HTL := Lib.hid (show (turn ms i k hil hkl).length = n by have := HN.out; simpa [turn] using this)
  have HTO := Lib.hid (show ∀ m ∈ turn ms i k hil hkl, MdOk m from fun m hm => by
    rcases List.mem_or_eq_of_mem_set hm with h | h
    · rcases List.mem_or_eq_of_mem_set h with h | h
      · exact HOK.out m h
      · subst h; exact HOK.out _ (List.getElem_mem hkl)
    · subst h; exact HOK.out _ (List.getElem_mem hil))
  obtain ⟨T, hTT⟩ : ∃ T, turn ms i k hil hkl = T := ⟨_, rfl⟩
  rw [hTT] at HO4 HY HTL HTO
  clear hTT HST1 HST2 HA1 HA2 HP HPT
  obtain ⟨Y, hYY⟩ : ∃ Y, allI T T.length = Y := ⟨_, rfl⟩
  have HAM := Lib.hid (fun (U : World) (hU : Below w4.heap.size w4 U) => all_any T (some ⟨g, 0, none⟩) n cap U HTL.out (by omega) HTO.out (by rw [List.Perm.length_eq HY.out, List.length_map]; exact HT.out) ((outIn_mods HO4.out HB4.out).next hU))
  rw [hYY] at HAM HY
  clear hYY
  go_wp2_with fail
  refine (HAL.out _ HB4.out).mono ?_
  rintro r w5 ⟨v1, rfl, hd1, hb5⟩
  have HD1 := Lib.hid hd1
  have HB5 := Lib.hid hb5
  clear hd1 hb5
  go_wp2_with fail
  refine (HAM.out _ HB5.out).mono ?_
  rintro r w6 ⟨v2, rfl, hd2, hb6⟩
  have HD2 := Lib.hid hd2
  have HD3 := Lib.hid (HD1.out.next hb6)
  have HB6 := Lib.hid (bthen HB4.out (bthen HB5.out hb6))
  clear hd2 hb6
  rw [tblE_turn HY.out] at HD2 ⊢
  have HF := Lib.hid (turn_defs HY.out).2
  have HLL := Lib.hid (turn_defs HY.out).1
  have HL9 := Lib.hid (show (allD (grp X) (tblE (grp X))).length ≤ 9223372036854775807 by
    have h1 : (allD (grp X) (tblE (grp X))).length ≤ (grp X).length := by
      unfold allD
      split
      · rw [List.length_map]; exact Nat.le_refl _
      · simp
    have h2 := grp_len X
    have := HT.out
    omega)
  obtain ⟨L1, hL1⟩ : ∃ L, allD (grp X) (tblE (grp X)) = L := ⟨_, rfl⟩
  obtain ⟨L2, hL2⟩ : ∃ L, allD (grp Y) (tblE (grp X)) = L := ⟨_, rfl⟩
  obtain ⟨E, hE⟩ : ∃ E, tblE (grp X) = E := ⟨_, rfl⟩
  rw [hL1] at HF HLL HD3 HL9
  rw [hL2] at HF HLL HD2
  rw [hE]
  clear hL1 hL2 hE HAL HAM HD1 HY HT HTO HTL HO4 HMS HMW HOK HLN
  obtain ⟨A1, z1, e1⟩ := HD3.out.slice
  obtain ⟨A2, z2, e2⟩ := HD2.out.slice
  obtain ⟨l, hl⟩ : ∃ l, L1.length = l := ⟨_, rfl⟩
  have hl2 : L2.length = l := HLL.out.trans hl
  rw [hl] at e1
  rw [hl2] at e2
  subst e1 e2
  have HLA := Lib.hid (show L1.length ≤ l ∧ l ≤ L1.length by omega)
  have HLB := Lib.hid (show L2.length = l from hl2)
  have l9 : (l : Int) ≤ 9223372036854775807 := by have := HL9.out; omega
  have HFD := Lib.hid (fun (s : ByteArray) (U : World) (hU : Below w6.heap.size w6 U) => refFind9_any s L2 A2 l z2 U hl2 (by omega) (HD2.out.next hU))
  have ll0 : (0 : Int) ≤ (l : Int) := Int.natCast_nonneg _
  clear hl hl2
  go_wp2_with fail
  go_loopw [13] (fun iv wr => ∃ j : Nat, j ≤ l ∧ iv = .int .i64 j ∧ Below w6.heap.size w6 wr) (fun iv _ => l - (intOf iv).toNat)
  case atStart => exact ⟨0, Nat.zero_le _, rfl, Below.refl _ _⟩
  case round =>
    obtain ⟨j, hj, rfl, hb⟩ := hrel
    have HB := Lib.hid hb
    by_cases hlt : j < l
    case neg =>
      have hd : decide ((j : Int) < (l : Int)) = false := by simp; omega
      clear hb
      go_wp2_with fail
      go_ret
      exact ⟨by simp, bthen HB6.out HB.out⟩
    have hj1 : j < L1.length := by have := HLA.out; omega
    obtain ⟨j2, hj2, g9, k1', k2', k3', k4'⟩ := HF.out j hj1
    obtain ⟨b1, off1, hA1, hbl1, g0, g1, g2, g3, g4⟩ := RowOf.at_ HD3.out hj1
    subst hA1
    obtain ⟨b2, off2, hA2, hbl2, r0, r1, r2, r3, r4⟩ := RowOf.at_ HD2.out hj2
    subst hA2
    have HGA := Lib.hid (DfIn.next _ _ _ _ _ hbl1 hb ⟨g0, g1, g2, g3, g4⟩)
    have HGD := Lib.hid (fun (U : World) (hU : Below w6.heap.size w6 U) => DfIn.next _ _ _ _ _ hbl1 hU ⟨g0, g1, g2, g3, g4⟩)
    have HRD := Lib.hid (fun (U : World) (hU : Below w6.heap.size w6 U) => DfIn.next _ _ _ _ _ hbl2 hU ⟨r0, r1, r2, r3, r4⟩)
    clear g0 g1 g2 g3 g4 r0 r1 r2 r3 r4 hbl1 hbl2
    obtain ⟨d1', hd1'⟩ : ∃ d, L1[j] = d := ⟨_, rfl⟩
    obtain ⟨d2', hd2'⟩ : ∃ d, L2[j2] = d := ⟨_, rfl⟩
    rw [hd1'] at HGA HGD g9 k1' k2' k3' k4'
    rw [hd2'] at HRD k1' k2' k3' k4'
    have HFC := Lib.hid (HFD.out d1'.s)
    rw [g9] at HFC
    obtain ⟨s1, o1, f1, u1, h1⟩ := d1'
    obtain ⟨s2, o2, f2, u2, h2⟩ := d2'
    dsimp only at k1' k2' k3' k4' HFC
    subst k1' k2' k3'
    have HK4 := Lib.hid k4'
    have j0 : (0 : Int) ≤ (j : Int) := Int.natCast_nonneg _
    have j1 : (j : Int) < (l : Int) := by omega
    have jj0 : (0 : Int) ≤ (j2 : Int) := Int.natCast_nonneg _
    have jj1 : (j2 : Int) < (l : Int) := by have := HLB.out; omega
    have jj2 : decide ((j2 : Int) < 0) = false := by simp
    obtain ⟨g0, -, -, -, -⟩ := HGA.out
    dsimp only at g0
    have HLT := Lib.hid hlt
    clear hb hlt hj2 hj1 hd1' hd2' g9 k4'
    go_wp2_with fail
    refine (HFC.out _ HB.out).mono ?_
    rintro r w8 ⟨rfl, hb8⟩
    have HB8 := Lib.hid (bthen HB.out hb8)
    obtain ⟨-, g1, g2, g3, g4⟩ := HGD.out _ HB8.out
    obtain ⟨-, r1, r2, r3, r4⟩ := HRD.out _ HB8.out
    dsimp only at g1 g2 g3 g4 r1 r2 r3 r4
    clear hb8 g0
    go_wp2_with fail
    have hu : (u2 != u2) = false := by simp
    have hf : (f2 != f2) = false := by simp
    have hh : (h2 != h2) = false := by simp
    go_quiet (fail)
    have HBQ := Lib.hid (bthen HB8.out (drewN_below' w8 nq))
    obtain ⟨-, g1, g2, g3, g4⟩ := HGD.out _ HBQ.out
    obtain ⟨-, r1, r2, r3, r4⟩ := HRD.out _ HBQ.out
    dsimp only at g1 g2 g3 g4 r1 r2 r3 r4
    clear hu hf hh g2 g4 r2 r3 r4
    cases u2 with
    | true =>
      go_wp2_with fail
      go_roundw
      case rel => exact ⟨j + 1, HLT.out, by go_num, HBQ.out⟩
      case measure => have := HLT.out; simp [intOf]; omega
    | false =>
      have hsw := HK4.out (by first | trivial | rfl)
      unfold sw at hsw
      by_cases e1 : o2 = (i : Int)
      · subst e1
        rw [if_pos rfl] at hsw
        subst hsw
        go_wp2_with fail
        go_roundw
        case rel => exact ⟨j + 1, HLT.out, by go_num, HBQ.out⟩
        case measure => have := HLT.out; simp [intOf]; omega
      · rw [if_neg e1] at hsw
        by_cases e2 : o2 = (k : Int)
        · subst e2
          rw [if_pos rfl] at hsw
          subst hsw
          go_wp2_with fail
          go_roundw
          case rel => exact ⟨j + 1, HLT.out, by go_num, HBQ.out⟩
          case measure => have := HLT.out; simp [intOf]; omega
        · rw [if_neg e2] at hsw
          subst hsw
          go_wp2_with fail
          go_roundw
          case rel => exact ⟨j + 1, HLT.out, by go_num, HBQ.out⟩
          case measure => have := HLT.out; simp [intOf]; omega
end Go.Proofs.Ytniolkjeblocaaa
